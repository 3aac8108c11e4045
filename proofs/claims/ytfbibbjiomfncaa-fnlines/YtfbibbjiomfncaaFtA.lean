import Derived.Test.YtfbibbjiomfncaaMrF
import Derived.Test.YtfbibbjiomfncaaClI
import Derived.Test.YtfbibbjiomfncaaClP
namespace Go.Proofs.Ytfbibbjiomfncaa
open Go.RowKit
set_option linter.unusedVariables false
set_option linter.unusedSimpArgs false

/-- Rows of truths. -/
def shB : Sh Bool := ⟨1, by decide, fun b => [.bool b], fun _ => True, fun _ => rfl, fun a u hu => by simp at hu; subst hu; rfl⟩
theorem Try.info4 : (Try.prog.info? 4).map (fun i => (i.zero, i.size, i.bytes)) = some (some (.bool false), 1, 1) := by kernel_rfl
def fitL (Ls : List (List Int)) : List Bool := Ls.map fun l => decide (0 < l.length)
noncomputable def fitsC (cs : List Cl) : List Bool := if dec (OkCs cs) = true then fitL (lnsC cs cs.length) else []
theorem fitL_take (Ls : List (List Int)) (k : Nat) (hk : k < Ls.length) : fitL (Ls.take (k + 1)) = fitL (Ls.take k) ++ [decide (0 < Ls[k].length)] := by
  unfold fitL; rw [List.take_succ_eq_append_getElem hk, List.map_append]; rfl
theorem bool_new (w : World) (g : Nat) (b : Bool) (T : TypeId) (hg : g = w.heap.size) : ∀ j, j < shB.n → (w.alloc (.cells #[.bool b] T)).cell? ⟨g, j, none⟩ = (shB.cs b)[j]? := by
  intro j hj
  have : j = 0 := by have : j < 1 := hj; omega
  subst this
  rw [World.cell?_alloc_at _ _ _ _ hg]; rfl

theorem own_unlike {α β : Type} {S : Sh α} {S' : Sh β} {T T' : TypeId} {w : World} {B B' g n c : Nat} {v : Value} {xs : List α} {ys : List β} (h : OwnG S T w B (.slice (some ⟨g, 0, none⟩) n c) xs) (h' : OwnG S' T' w B' v ys) (hT : T ≠ T') : v.ownBlock ≠ some g := by
  intro e
  obtain ⟨⟨_, h2⟩, _⟩ := h
  obtain ⟨⟨_, h3⟩, _⟩ := h'
  rcases h2 with ⟨e2, _⟩ | ⟨g2, cap2, cur2, e2, _, hh2, _⟩
  · cases e2
  rcases h3 with ⟨e3, _⟩ | ⟨g3, cap3, cur3, e3, _, hh3, _⟩
  · rw [e3] at e; cases e
  · rw [e3] at e
    simp only [Value.ownBlock, Option.some.injEq] at e
    simp only [Value.slice.injEq, Option.some.injEq, Addr.mk.injEq, and_true] at e2
    rw [← e2.1, ← e, hh3] at hh2
    simp only [Option.some.injEq, Obj.cells.injEq] at hh2
    exact hT hh2.2.1.symm
/-- The heads of a row of rows. -/
theorem LLn.heads {w : World} {B g n cap : Nat} {Ls : List (List Int)} (h : LLn w B g n cap Ls) : ∃ sls : List Sl, OwnG shL 51 w B (.slice (some ⟨g, 0, none⟩) n cap) sls ∧ sls.length = Ls.length ∧ ∀ k (h : k < sls.length) (h' : k < Ls.length), sls[k].n = Ls[k].length := by
  obtain ⟨sls, h1, h2, h3⟩ := h
  refine ⟨sls, h1, h2, fun k h h' => ?_⟩
  obtain ⟨a, c, e⟩ := (h3 k h h').1.form
  simp only [Sl.val, Value.slice.injEq] at e
  exact e.2.1

set_option maxRecDepth 100000 in
set_option maxHeartbeats 1000000 in
theorem fitsS_any (v : Value) (cs : List Cl) (w : World) (hr : RdC w v cs) :
    Calls Try.prog 21 #[v] w fun e w' => ∃ u, e = .returned u ∧ OwnG shB 4 w' w.heap.size u (fitsC cs) ∧ Below w.heap.size w w' := by
  have bE : Below w.heap.size w (w.alloc (.cells #[] 4)) := (Below.refl _ w).alloc (Nat.le_refl _) _
  have oE := OwnG.empty shB 4 w w.heap.size rfl w.heap.size (Nat.le_refl _)
  have hr0 := hr.keep bE
  generalize hF : fitsC cs = F
  have HF : Hid (fitsC cs = F) := hF
  clear hF
  go_enter Try.func21, Try.ntmps21
  go_wp2_with fail
  refine (okCS_any _ cs _ hr0).mono ?_
  rintro e w1 ⟨rfl, hB1⟩
  have hB01 := bE.trans (hB1.mono bE.size)
  have o1 := oE.keep hB1
  by_cases hok : OkCs cs
  · rw [dec_true hok]
    have HF2 : Hid (fitL (lnsC cs cs.length) = F) := by rw [Hid, ← HF.out]; unfold fitsC; rw [dec_true hok]; rfl
    go_wp2_with fail
    refine (linesS_any _ cs _ (hr0.keep hB1) hok).mono ?_
    rintro e w2 ⟨g, cap, rfl, hL, hB2⟩
    have hB02 := hB01.trans (hB2.mono hB01.size)
    have o2 := o1.keep hB2
    have hn2 : cs.length ≤ 200 := hok.1
    have hll := lns_len cs cs.length
    have HLL : Hid ((lnsC cs cs.length).length = cs.length) := hll
    generalize lnsC cs cs.length = Ls at *
    obtain ⟨NN, hNN⟩ : ∃ NN, cs.length = NN := ⟨_, rfl⟩
    rw [hNN] at hL hn2 ⊢
    have HNN : Hid (cs.length = NN) := hNN
    clear hll hNN bE oE hr0 hB1 o1 hB01 hok
    go_wp2_with fail
    obtain ⟨sls, hS, hsl, hsn⟩ := LLn.heads hL
    have HSL : Hid (sls.length = NN) := by rw [Hid, hsl, HLL.out]; exact HNN.out
    have HLS : Hid (Ls.length = NN) := by rw [Hid, HLL.out]; exact HNN.out
    have HSN : Hid _ := hsn
    clear hL hsl hsn
    go_loopw [3, 5] (fun o i wr => ∃ k : Nat, k ≤ NN ∧ i = .int .i64 k ∧ OwnG shB 4 wr w.heap.size o (fitL (Ls.take k)) ∧ OwnG shL 51 wr w1.heap.size (.slice (some ⟨g, 0, none⟩) NN cap) sls ∧ Below w.heap.size w wr) (fun _ i _ => NN - (intOf i).toNat)
    case atStart => exact ⟨0, Nat.zero_le _, rfl, by simpa [fitL] using o2, hS, hB02⟩
    case round =>
      obtain ⟨k, hk, rfl, hO, hS1, hB⟩ := hrel
      clear o2 hS
      generalize wr = W1 at *
      obtain ⟨oa, oc, eo⟩ := hO.form
      subst eo
      have hz := hB.size
      by_cases hlt : k < NN
      · have hlti : (k : Int) < (NN : Int) := by omega
        have hks : k < sls.length := by rw [HSL.out]; exact hlt
        have hkl : k < Ls.length := by rw [HLS.out]; exact hlt
        have d0 : W1.cell? ⟨g, k, none⟩ = some sls[k].val := by
          have := hS1.cell k hks 0 (by decide)
          simpa [shL] using this
        have HSk := HSN.out k hks hkl
        have Hft := fitL_take Ls k hkl
        have HFt : Hid _ := Hft
        have hfl : (fitL (Ls.take k)).length ≤ 200 := by simp [fitL]; omega
        generalize Ls[k].length = LK at *
        generalize sls[k] = SK at *
        obtain ⟨sa, sn, sc⟩ := SK
        simp only [Sl.val] at d0 HSk
        subst HSk
        have hun := own_unlike hS1 hO (by decide)
        have hS2 := hS1.alloc (.cells #[.bool (decide (0 < sn))] 4)
        have hO2 := hO.alloc (.cells #[.bool (decide (0 < sn))] 4)
        generalize hFL : fitL (Ls.take k) = FL at *
        clear hFL Hft
        go_wp2_with (at_builtin; refine wpList_append_one (S := shB) Try.info4 rfl (by omega) rfl _ _ 35 rfl Try.underlying35 w.heap.size _ FL (decide (0 < sn)) trivial W1.heap.size 1 rfl rfl hO2 (bool_new W1 _ _ _ rfl) (by omega) (by simp; omega) ?_; intro a' c' w' hO' hg')
        have hS3 := hS2.but hg' (.inr (fun e => hun e.symm))
        have hB3 : Below w.heap.size w w' := (hB.alloc hz _).trans (gb_to hg' (fun j hj => (hO2.lt j hj).1) (by simp; omega))
        simp only [List.length_append, List.length_singleton] at hO'
        rw [← HFt.out] at hO'
        go_roundw
        case rel => exact ⟨k + 1, by omega, by go_num, hO', hS3, hB3⟩
        case measure => simp [intOf]; omega
      · obtain rfl : NN = k := by omega
        have hlti : ¬ (NN : Int) < (NN : Int) := by omega
        have hFF : fitL (Ls.take NN) = F := by rw [← HF2.out, ← HLS.out, List.take_length]
        rw [hFF] at hO
        go_wp2_with fail
        go_ret
        exact ⟨_, rfl, hO, hB⟩
  · rw [dec_false hok]
    obtain rfl : F = [] := by rw [← HF.out]; unfold fitsC; rw [dec_false hok]; rfl
    go_wp2_with fail
    go_ret
    exact ⟨_, rfl, o1, hB01⟩
end Go.Proofs.Ytfbibbjiomfncaa
