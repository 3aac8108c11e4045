import Derived.Test.YtjnalkeopehlbaaGrI
import Derived.Deep.LoopGhost
import Derived.Deep.Cut
namespace Go.Proofs.Ytjnalkeopehlbaa
open Go.RowKit Go.Maps
set_option linter.unusedVariables false
set_option linter.unusedSimpArgs false

theorem OwnG.upto {α : Type} {S : Sh α} {T : TypeId} {w : World} {B g n cap : Nat} {xs : List α} (h : OwnG S T w B (.slice (some ⟨g, 0, none⟩) n cap) xs) (i : Nat) (hi : i ≤ xs.length) : OwnG S T w B (.slice (some ⟨g, 0, none⟩) i cap) (xs.take i) := by
  obtain ⟨⟨h1, h2⟩, hl, hz⟩ := h
  have hlen : (xs.take i).length = i := by simp; omega
  refine ⟨⟨by rw [flat_length], ?_⟩, by omega, fun x hx => hz x (List.mem_of_mem_take hx)⟩
  rcases h2 with ⟨e, _⟩ | ⟨g', cap', cur, e, hg, hh, hc, hm, hs, ht⟩
  · cases e
  · simp at e
    obtain ⟨rfl, rfl, rfl⟩ := e
    refine .inr ⟨g, cap, cur, by rw [hlen], hg, hh, by omega, hm, hs, ?_⟩
    have e1 : ((xs.take i).flatMap S.cs) = (xs.flatMap S.cs).take (i * S.n) := by
      have e2 : xs.flatMap S.cs = (xs.take i).flatMap S.cs ++ (xs.drop i).flatMap S.cs := by rw [← List.flatMap_append, List.take_append_drop]
      rw [e2, List.take_append_of_le_length (by rw [flat_length, hlen]; exact Nat.le_refl _)]
      exact (List.take_of_length_le (by rw [flat_length, hlen]; exact Nat.le_refl _)).symm
    rw [hlen, e1, ← ht, List.take_take, Nat.min_eq_left (Nat.mul_le_mul_right _ hi)]
/-- Rows of things. -/
def shT : Sh Nat := ⟨1, by decide, fun b => [pk b], fun _ => True, fun _ => rfl, fun a u hu => by simp [pk] at hu; subst hu; rfl⟩
theorem Try.info56 : (Try.prog.info? 56).map (fun i => (i.zero, i.size, i.bytes)) = some (some (.pointer none), 1, 8) := by kernel_rfl
/-- 'append(from, order...)', of rows of things. -/
theorem wpList_append_T {w : World} {ops : Array Oper} {rest : List Oper} {o : Oper} {a : Act} {Q : Exit → Act → World → Prop} (hgd : o.guard = none) (s x : Operand) (t : TypeId)
    (ho : o.op = .call { callee := .builtin .append, args := #[s, x], argTypes := #[t, t] }) (ht : Try.prog.underlying t = some (.slice 56))
    (B : Nat) (v : Value) (xs ys : List Nat) (hs : a.eval s = v) (hown : OwnG shT 56 w B v xs) (g c : Nat) (hx : a.eval x = .slice (some ⟨g, 0, none⟩) ys.length c) (hy : 0 < ys.length) (hc : ∀ k (h : k < ys.length), w.cell? ⟨g, k, none⟩ = some (pk ys[k])) (hlen : xs.length + ys.length ≤ 16777216) (hB : B ≤ w.heap.size)
    (h : ∀ b c' w', OwnG shT 56 w' B (.slice (some ⟨b, 0, none⟩) (xs.length + ys.length) c') (xs ++ ys) → w.grownBy w' v.ownBlock → (v.ownBlock = some b ∨ b = w.heap.size) → b < w'.heap.size → wpList Try.prog ops Q rest (a.put o.dst (.slice (some ⟨b, 0, none⟩) (xs.length + ys.length) c')) w') :
    wpList Try.prog ops Q (o :: rest) a w := by
  obtain ⟨i0, hi, hz0, hz1, hz2⟩ := info_parts Try.info56
  have hf : ∀ zs : List Nat, zs.flatMap shT.cs = zs.map pk := fun zs => by
    induction zs with
    | nil => rfl
    | cons z r ih => rw [List.flatMap_cons, ih]; rfl
  refine wpList_append_lies w hgd s x t ho B 56 i0 (.pointer none) 1 8 ht hi hz0 hz1 hz2 rfl (by decide) v _ _ hs hown.1 ⟨g, 0, none⟩ ys.length c (ys.map pk) hx (by simp) ?_ ?_ hy (by unfold maxLen; omega) (by omega) hB _ rfl ?_
  · intro j u hj
    have hj' : j < ys.length := by
      rcases Nat.lt_or_ge j ys.length with h | h
      · exact h
      · rw [List.getElem?_eq_none (by simpa using h)] at hj; cases hj
    have := hc j hj'
    simp [hj'] at hj
    subst hj
    have e : (⟨g, 0, none⟩ : Addr).add j = ⟨g, j, none⟩ := by unfold Addr.add; split <;> simp_all
    rw [e]
    exact this
  · intro z hz
    simp at hz
    obtain ⟨y, _, rfl⟩ := hz
    rfl
  · intro b c' w' h1 h2 h3 h4
    refine h b c' w' ⟨?_, by simpa using hlen, fun _ _ => trivial⟩ h2 h3 h4
    rw [hf] at h1
    rw [hf, List.map_append, List.length_append]
    exact h1
/-- What is reached through rows. -/
inductive RchI (ord : Nat → List Nat) (fr : List Nat) : Nat → Prop
  | root {i : Nat} (h : i ∈ fr) : RchI ord fr i
  | step {i j : Nat} (h : RchI ord fr i) (hj : j ∈ ord i) : RchI ord fr j
/-- The search that marks a thing when it comes to it. -/
structure JI (n1 : Nat) (ord : Nat → List Nat) (fr : List Nat) (sn : List Bool) (st : List Nat) : Prop where
  len : sn.length = n1
  snd : ∀ i, sn.getD i false = true → RchI ord fr i
  stk : ∀ i ∈ st, RchI ord fr i ∧ i < n1
  rt : ∀ i ∈ fr, i ∈ st ∨ sn.getD i false = true
  cl : ∀ i, sn.getD i false = true → ∀ j ∈ ord i, j ∈ st ∨ sn.getD j false = true
theorem JI.fin {n1 : Nat} {ord : Nat → List Nat} {fr : List Nat} {sn : List Bool} (h : JI n1 ord fr sn []) (i : Nat) : sn.getD i false = true ↔ RchI ord fr i := by
  refine ⟨h.snd i, fun hr => ?_⟩
  induction hr with
  | root hi => exact (h.rt _ hi).resolve_left (by simp)
  | step h1 hj ih => exact (h.cl _ ih _ hj).resolve_left (by simp)
theorem JI.drop {n1 : Nat} {ord : Nat → List Nat} {fr : List Nat} {sn : List Bool} {st : List Nat} {i : Nat} (h : JI n1 ord fr sn (st ++ [i])) (hi : sn.getD i false = true) : JI n1 ord fr sn st := by
  have hm : ∀ j, j ∈ st ++ [i] ∨ sn.getD j false = true → j ∈ st ∨ sn.getD j false = true := by
    intro j hj
    rcases hj with hj | hj
    · rw [List.mem_append, List.mem_singleton] at hj
      rcases hj with hj | hj
      · exact .inl hj
      · rw [hj]; exact .inr hi
    · exact .inr hj
  exact ⟨h.len, h.snd, fun j hj => h.stk j (List.mem_append_left _ hj), fun j hj => hm j (h.rt j hj), fun k hk j hj => hm j (h.cl k hk j hj)⟩
theorem JI.mark {n1 : Nat} {ord : Nat → List Nat} {fr : List Nat} {sn : List Bool} {st : List Nat} {i : Nat} (h : JI n1 ord fr sn (st ++ [i])) (hok : ∀ j ∈ ord i, j < n1) : JI n1 ord fr (sn.set i true) (st ++ ord i) := by
  obtain ⟨hri, hin⟩ := h.stk i (by simp)
  have hil : i < sn.length := by rw [h.len]; exact hin
  have hg : ∀ j, (sn.set i true).getD j false = if j = i then true else sn.getD j false := fun j => getD_set sn i j true hil
  have hm : ∀ j, j ∈ st ++ [i] ∨ sn.getD j false = true → j ∈ st ++ ord i ∨ (sn.set i true).getD j false = true := by
    intro j hj
    rw [hg]
    rcases hj with hj | hj
    · rw [List.mem_append, List.mem_singleton] at hj
      rcases hj with hj | hj
      · exact .inl (List.mem_append_left _ hj)
      · rw [if_pos hj]; exact .inr rfl
    · by_cases e : j = i
      · rw [if_pos e]; exact .inr rfl
      · rw [if_neg e]; exact .inr hj
  refine ⟨by rw [List.length_set]; exact h.len, fun j hj => ?_, fun j hj => ?_, fun j hj => hm j (h.rt j hj), fun k hk j hj => ?_⟩
  · rw [hg] at hj
    by_cases e : j = i
    · rw [e]; exact hri
    · rw [if_neg e] at hj; exact h.snd j hj
  · rw [List.mem_append] at hj
    rcases hj with hj | hj
    · exact h.stk j (List.mem_append_left _ hj)
    · exact ⟨.step hri hj, hok j hj⟩
  · rw [hg] at hk
    by_cases e : k = i
    · subst e; exact .inl (List.mem_append_right _ hj)
    · rw [if_neg e] at hk; exact hm j (h.cl k hk j hj)
/-- What may still be laid on the row. -/
def wtR (ord : Nat → List Nat) (sn : List Bool) (n1 : Nat) : Nat := ((List.range n1).map fun i => if sn.getD i false = true then 0 else (ord i).length + 1).sum
theorem wtR_mark (ord : Nat → List Nat) (sn : List Bool) (i : Nat) (hi : i < sn.length) (hf : sn.getD i false = false) : ∀ n1, wtR ord (sn.set i true) n1 + (if i < n1 then (ord i).length + 1 else 0) = wtR ord sn n1
  | 0 => by simp [wtR]
  | n + 1 => by
    have ih := wtR_mark ord sn i hi hf n
    have hs : ∀ s : List Bool, wtR ord s (n + 1) = wtR ord s n + (if s.getD n false = true then 0 else (ord n).length + 1) := fun s => by
      unfold wtR
      rw [List.range_succ, List.map_append, List.sum_append]
      simp
    rw [hs, hs, getD_set sn i n true hi]
    by_cases e : n = i
    · subst e
      rw [if_pos rfl, if_pos rfl, hf]
      simp at ih ⊢
      omega
    · rw [if_neg e]
      by_cases e2 : i < n
      · have e3 : (if i < n + 1 then (ord i).length + 1 else 0) = (ord i).length + 1 := if_pos (by omega)
        rw [if_pos e2] at ih; rw [e3]; omega
      · have e3 : (if i < n + 1 then (ord i).length + 1 else 0) = 0 := if_neg (by omega)
        rw [if_neg e2] at ih; rw [e3]; omega
/-- Things that are read: numbers and rows, at blocks that are some of these. -/
structure TR (P : Nat → Prop) (w : World) (n1 : Nat) (tb : Nat → Nat) (ord : Nat → List Nat) : Prop where
  at_ : ∀ i, i < n1 → P (tb i) ∧ tb i < w.heap.size
  num : ∀ i, i < n1 → w.cell? ⟨tb i, 0, none⟩ = some (.int .i64 i)
  row : ∀ i, i < n1 → (ord i = [] ∧ w.cell? ⟨tb i, 7, none⟩ = some (.slice none 0 0)) ∨ ∃ g c, 0 < (ord i).length ∧ P g ∧ g < w.heap.size ∧ w.cell? ⟨tb i, 7, none⟩ = some (.slice (some ⟨g, 0, none⟩) (ord i).length c) ∧ ∀ k (h : k < (ord i).length), w.cell? ⟨g, k, none⟩ = some (pk (tb (ord i)[k]))
  ok : ∀ i, i < n1 → ∀ j ∈ ord i, j < n1
theorem TR.same {P : Nat → Prop} {w w' : World} {n1 : Nat} {tb : Nat → Nat} {ord : Nat → List Nat} (h : TR P w n1 tb ord) (hs : ∀ b, b < w.heap.size → P b → w'.heap[b]? = w.heap[b]?) (hz : w.heap.size ≤ w'.heap.size) : TR P w' n1 tb ord := by
  have hc : ∀ b o, b < w.heap.size → P b → w'.cell? ⟨b, o, none⟩ = w.cell? ⟨b, o, none⟩ := fun b o h1 h2 => World.cell?_of_block (a := ⟨b, o, none⟩) (hs b h1 h2)
  refine ⟨fun i hi => ⟨(h.at_ i hi).1, Nat.lt_of_lt_of_le (h.at_ i hi).2 hz⟩, fun i hi => (hc _ _ (h.at_ i hi).2 (h.at_ i hi).1).trans (h.num i hi), fun i hi => ?_, h.ok⟩
  rcases h.row i hi with ⟨h1, h2⟩ | ⟨g, c, h1, h2, h3, h4, h5⟩
  · exact .inl ⟨h1, (hc _ _ (h.at_ i hi).2 (h.at_ i hi).1).trans h2⟩
  · exact .inr ⟨g, c, h1, h2, Nat.lt_of_lt_of_le h3 hz, (hc _ _ (h.at_ i hi).2 (h.at_ i hi).1).trans h4, fun k hk => (hc _ _ h3 h2).trans (h5 k hk)⟩
set_option maxRecDepth 100000 in
set_option maxHeartbeats 1500000 in
theorem reached_any (n B fb fc N1 sb : Nat) (tb : Nat → Nat) (ord : Nat → List Nat) (fr : List Nat) (w : World) (hn : n ≤ 2000) (hN1 : n + 1 = N1) (hsb : w.heap.size = sb) (hF : OwnG shT 56 w B (.slice (some ⟨fb, 0, none⟩) fr.length fc) (fr.map tb)) (hT : TR (fun b => b ≠ fb) w (n + 1) tb ord) (hfr : ∀ i ∈ fr, i < n + 1) (hsz : fr.length + wtR ord (List.replicate (n + 1) false) (n + 1) ≤ 8000000) (hB : B ≤ w.heap.size) :
    Calls Try.prog 31 #[.slice (some ⟨fb, 0, none⟩) fr.length fc, .int .i64 n] w fun e w' => ∃ sn, e = .returned (.slice (some ⟨sb, 0, none⟩) N1 N1) ∧ OwnG shB 4 w' sb (.slice (some ⟨sb, 0, none⟩) N1 N1) sn ∧ sn.length = N1 ∧ (∀ i, sn.getD i false = true ↔ RchI ord fr i) ∧ Below B w w' := by
  obtain ⟨i0, hi0, hz0, hz1, hz2⟩ := info_parts Try.info4
  have hfl := hF.lt fb rfl
  have hni : (n : Int) + 1 = (N1 : Int) := by omega
  go_enter Try.func31, Try.ntmps31
  go_wp2_with (at_make; refine wpList_make_full _ rfl _ _ 51 rfl w.heap.size 4 i0 _ 1 Try.underlying51 hi0 hz0 hz1 .i64 .i64 _ _ N1 rfl rfl rfl rfl (by rw [hz2]; omega) (by unfold maxLen; omega) (Nat.le_refl _) ?_; intro w2 hown hgrow)
  have oS : OwnG shB 4 w2 w.heap.size (.slice (some ⟨w.heap.size, 0, none⟩) N1 N1) (List.replicate N1 false) := OwnG.made1 false rfl rfl trivial rfl (by omega) hown
  have b2 : Below w.heap.size w w2 := (Below.refl _ _).grown hgrow (Nat.le_refl _) (by intro k h; cases h)
  rw [hN1] at hT hfr hsz
  rw [hsb] at oS b2 hfl hB
  try rw [hsb]
  have hT2 : TR (fun b => b ≠ fb ∧ b < sb) w N1 tb ord := by
    refine ⟨fun i hi => ⟨⟨(hT.at_ i hi).1, by rw [← hsb]; exact (hT.at_ i hi).2⟩, (hT.at_ i hi).2⟩, hT.num, fun i hi => ?_, hT.ok⟩
    rcases hT.row i hi with h1 | ⟨g, c, h1, h2, h3, h4, h5⟩
    · exact .inl h1
    · exact .inr ⟨g, c, h1, ⟨h2, by rw [← hsb]; exact h3⟩, h3, h4, h5⟩
  have hT3 : TR (fun b => b ≠ fb ∧ b < sb) w2 N1 tb ord := hT2.same (fun b h1 h2 => b2.block b (by omega)) (by rw [hsb]; have := b2.size; omega)
  have hJ : JI N1 ord fr (List.replicate N1 false) fr := by
    have hz : ∀ i, (List.replicate N1 false).getD i false = false := fun i => by
      simp only [List.getD]
      by_cases h : i < N1
      · rw [List.getElem?_replicate, if_pos h]; rfl
      · rw [List.getElem?_replicate, if_neg h]; rfl
    exact ⟨by simp, (fun i h => by rw [hz] at h; cases h), fun i hi => ⟨.root hi, hfr i hi⟩, fun i hi => .inl hi, (fun i h => by rw [hz] at h; cases h)⟩
  obtain ⟨G0, hG0⟩ : ∃ G, fr.length + wtR ord (List.replicate N1 false) N1 = G := ⟨_, rfl⟩
  rw [hG0] at hsz
  have HJ : Hid _ := hJ
  have HT3 : Hid _ := hT3
  have HS : Hid (OwnG shB 4 w2 sb (.slice (some ⟨sb, 0, none⟩) N1 N1) (List.replicate N1 false)) := oS
  have HF : Hid (OwnG shT 56 w2 B (.slice (some ⟨fb, 0, none⟩) fr.length fc) (fr.map tb)) := hF.keep (by rw [hsb]; exact b2)
  have HG : Hid _ := hG0
  have hB2 : Below B w w2 := b2.mono hB
  clear hown hgrow oS hT hT2 hT3 hJ hF hG0 b2 i0 hi0 hz0 hz1 hz2 hfr hN1
  go_loopg [0] G0 (fun gg q wq => ∃ (st : List Nat) (sn : List Bool) (fk ck : Nat), q = .slice (some ⟨fk, 0, none⟩) st.length ck ∧ OwnG shT 56 wq B (.slice (some ⟨fk, 0, none⟩) st.length ck) (st.map tb) ∧ OwnG shB 4 wq sb (.slice (some ⟨sb, 0, none⟩) N1 N1) sn ∧ JI N1 ord fr sn st ∧ st.length + wtR ord sn N1 ≤ gg ∧ gg ≤ G0 ∧ (fk = fb ∨ sb < fk) ∧ TR (fun b => b ≠ fb ∧ b < sb) wq N1 tb ord ∧ Below B w wq)
  case atStart => exact ⟨fr, _, fb, fc, rfl, HF.out, HS.out, HJ.out, by rw [HG.out]; exact Nat.le_refl _, Nat.le_refl _, .inl rfl, HT3.out, hB2⟩
  case round =>
    obtain ⟨st, sn, fk, ck, rfl, oF, oS, hJ, hgg, hgG, hfk, hT, bW⟩ := hrel
    clear HF HS HJ HG HT3 hB2
    generalize wr = Q1 at *
    have HJ : Hid _ := hJ
    have HT : Hid _ := hT
    clear hJ hT
    rcases List.eq_nil_or_concat st with e5 | ⟨st', i, e5⟩
    · subst e5
      have hfin := HJ.out.fin
      have hlen := HJ.out.len
      have HFin : Hid _ := hfin
      clear hfin HJ HT oF
      simp only [List.length_nil]
      go_wp2
      go_ret
      exact ⟨sn, rfl, oS, hlen, HFin.out, bW⟩
    · rw [List.concat_eq_append] at e5
      subst e5
      obtain ⟨SL, hSL⟩ : ∃ SL, st'.length = SL := ⟨_, rfl⟩
      have hl1 : (st' ++ [i]).length = SL + 1 := by simp [hSL]
      rw [hl1] at oF hgg
      rw [hl1]
      obtain ⟨hri, hiN⟩ := HJ.out.stk i (by simp)
      have hsl := HJ.out.len
      have cF : Q1.cell? ⟨fk, SL, none⟩ = some (pk (tb i)) := by
        have h1 := oF.cell SL (by simp; omega) 0 (by decide)
        have e : SL * shT.n + 0 = SL := by show SL * 1 + 0 = SL; omega
        rw [e] at h1
        simp only [List.map_append, List.map_cons, List.map_nil] at h1
        rw [List.getElem_append_right (by simp; omega)] at h1
        have h2 : Q1.cell? ⟨fk, SL, none⟩ = (shT.cs (tb i))[0]? := by simpa [hSL] using h1
        exact h2
      have oF2 : OwnG shT 56 Q1 B (.slice (some ⟨fk, 0, none⟩) SL ck) (st'.map tb) := by
        have h1 := oF.upto SL (by simp; omega)
        rw [List.map_append, List.take_append_of_le_length (by simp; omega), List.take_of_length_le (by simp; omega)] at h1
        exact h1
      have hcap : SL + 1 ≤ ck := by
        rcases oF.shape with ⟨h1, _⟩ | ⟨g, cp, h1, _, _, h2⟩
        · cases h1
        · simp only [Value.slice.injEq] at h1
          have h3 := h1.2.1
          have h4 := h1.2.2
          omega
      have cNum := HT.out.num i hiN
      have hrow := HT.out.row i hiN
      have HRow : Hid _ := hrow
      have hok := HT.out.ok i hiN
      have hil : i < sn.length := by omega
      have cS := oS.cell i hil 0 (by decide)
      have hput : i * shB.n + 0 = i := by show i * 1 + 0 = i; omega
      rw [hput] at cS
      have cS2 : Q1.cell? ⟨sb, i, none⟩ = some (.bool sn[i]) := cS
      have hgi : sn.getD i false = sn[i] := by simp [List.getD, hil]
      have fS := oS.frozen i
      have hii : (i : Int) < (N1 : Int) := by omega
      unfold pk at cF
      clear cS hput hrow
      generalize htb : tb i = ti at *
      cases hbv : sn[i]
      · rw [hbv] at cS2 hgi
        have hwt := wtR_mark ord sn i hil hgi N1
        rw [if_pos hiN] at hwt
        have hgs := gb_set Q1 sb i (.bool true)
        have oS2 := oS.put i hil 0 (by decide) (.bool true) true trivial (by rfl)
        have hput : i * shB.n + 0 = i := by show i * 1 + 0 = i; omega
        rw [hput] at oS2
        have hfsb : fk ≠ sb := by omega
        have oF3 := oF2.but hgs (.inr (by show some fk ≠ some sb; intro e; exact hfsb (Option.some.inj e)))
        have hT2 : TR (fun b => b ≠ fb ∧ b < sb) (Q1.setCell ⟨sb, i, none⟩ (.bool true)) N1 tb ord := HT.out.same (fun b h1 h2 => hgs.block b h1 (by intro e; have := Option.some.inj e; omega)) hgs.size
        have hm := HJ.out.mark hok
        have bW2 : Below B w (Q1.setCell ⟨sb, i, none⟩ (.bool true)) := bW.setCell hB _
        have HM : Hid _ := hm
        have HT2 : Hid _ := hT2
        have hrow2 := hT2.row i hiN
        have HRow2 : Hid _ := hrow2
        have hflt := (oF3.lt fk rfl)
        clear hm hT2 HJ HRow HT hput hok oF oF2 hl1 hri hrow2
        go_upto_region 8 with fail
        generalize Q1.setCell ⟨sb, i, none⟩ (.bool true) = Q2 at *
        clear hgs cS2 fS oS cF cNum
        rcases HRow2.out with ⟨ho, hcell⟩ | ⟨g, c, h1, h2, h3, hcell, h5⟩
        · rw [htb] at hcell
          obtain ⟨i0, hi0, hz0, hz1, hz2⟩ := info_parts Try.info56
          go_wp2_with (at_builtin; refine wpList_append_own_none rfl (.tmp 38) (.tmp 42) 55 rfl B 56 i0 1 Try.underlying55 hi0 _ _ _ rfl oF3.1 rfl ?_)
          go_roundg (SL + wtR ord (sn.set i true) N1)
          case measure => omega
          case rel =>
            have hM := HM.out
            rw [ho, List.append_nil] at hM
            exact ⟨st', sn.set i true, fk, ck, by rw [hSL], by rw [hSL]; exact oF3, oS2, hM, by rw [hSL]; exact Nat.le_refl _, by omega, hfk, HT2.out, bW2⟩
        · rw [htb] at hcell
          have hol : (ord i).length ≤ 8000000 := by omega
          have hcc : ∀ k (h : k < ((ord i).map tb).length), Q2.cell? ⟨g, k, none⟩ = some (pk ((ord i).map tb)[k]) := fun k h => by
            have := h5 k (by simpa using h)
            simpa using this
          obtain ⟨OL, hOL⟩ : ∃ OL, (ord i).length = OL := ⟨_, rfl⟩
          have hml : ((ord i).map tb).length = OL := by simp [hOL]
          have hsl2 : (st'.map tb).length = SL := by simp [hSL]
          rw [hOL] at hcell hol h1
          have HCC : Hid _ := hcc
          have hlen2 : (st'.map tb).length + ((ord i).map tb).length ≤ 16777216 := by rw [hml, hsl2]; omega
          have hBz : B ≤ Q2.heap.size := by omega
          clear hcc h5
          go_wp2_with (at_builtin; refine wpList_append_T rfl (.tmp 38) (.tmp 42) 55 rfl Try.underlying55 B (.slice (some ⟨fk, 0, none⟩) SL ck) (st'.map tb) ((ord i).map tb) rfl oF3 g c (by rw [hml]; rfl) (by rw [hml]; exact h1) HCC.out hlen2 hBz ?_; intro b' c' w' oF4 hg4 hl4 hz4)
          have hg5 : Q2.grownBy w' (some fk) := hg4
          have hsbl := (oS2.lt sb rfl).2
          have oS3 := oS2.but hg5 (.inr (by show some sb ≠ some fk; intro e; exact hfsb (Option.some.inj e).symm))
          have hT3 : TR (fun b => b ≠ fb ∧ b < sb) w' N1 tb ord := HT2.out.same (fun b h1 h2 => hg5.block b h1 (by intro e; have := Option.some.inj e; omega)) hg5.size
          have bW3 := bW2.trans (gb_to hg5 (fun q hq => by have e := Option.some.inj hq; omega) hBz)
          have hfk2 : b' = fb ∨ sb < b' := by
            rcases hl4 with e | e
            · have e2 : fk = b' := Option.some.inj e
              omega
            · right; omega
          rw [hml, hsl2, ← List.map_append] at oF4
          go_roundg (SL + OL + wtR ord (sn.set i true) N1)
          case measure => omega
          case rel => exact ⟨st' ++ ord i, sn.set i true, b', c', by simp [hSL, hOL], by simpa [hSL, hOL] using oF4, oS3, HM.out, by simp [hSL, hOL], by omega, hfk2, hT3, bW3⟩
      · rw [hbv] at cS2 hgi
        have hd := HJ.out.drop hgi
        have HD : Hid _ := hd
        clear hd HJ HRow hok
        go_wp2_with fail
        go_roundg (SL + wtR ord sn N1)
        case measure => omega
        case rel => exact ⟨st', sn, fk, ck, by rw [hSL], by rw [hSL]; exact oF2, oS, HD.out, by rw [hSL]; exact Nat.le_refl _, by omega, hfk, HT.out, bW⟩
end Go.Proofs.Ytjnalkeopehlbaa
