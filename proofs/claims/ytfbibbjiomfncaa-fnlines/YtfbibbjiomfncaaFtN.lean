import Derived.Test.YtfbibbjiomfncaaFtM
import Derived.Laws.IdiomStrings
namespace Go.Proofs.Ytfbibbjiomfncaa
open Go.RowKit Go.Lib
set_option linter.unusedVariables false
set_option linter.unusedSimpArgs false

set_option maxHeartbeats 1000000 in
set_option maxRecDepth 100000 in
theorem markText_w (k0 : Nat) (w : World) (h2 : k0 ≤ 1152921504606846976) :
    Calls Try.prog 70 #[.int .i64 k0] w fun e w' => ∃ s, e = .returned (.string s) ∧ Below w.heap.size w w' := by
  by_cases hk0 : k0 = 0
  · subst hk0
    go_enter Try.func70, Try.ntmps70
    go_wp2
    go_ret
    first | exact ⟨⟨_, rfl⟩, Below.refl _ _⟩ | exact ⟨_, rfl, Below.refl _ _⟩ | exact Below.refl _ _
  have hkz : ¬ (k0 : Int) ≤ 0 := by omega
  go_enter Try.func70, Try.ntmps70
  go_wp2
  go_loopw [0, 3] (fun q o wr => ∃ (k : Nat) (O : ByteArray), O.size + k ≤ 1152921504606846976 ∧ q = .int .i64 k ∧ o = .string O ∧ Below w.heap.size w wr) (fun q _ _ => (RowKit.intOf q).toNat)
  case atStart => exact ⟨k0, _, by first | (simp; omega) | (show 0 + k0 ≤ 1152921504606846976; omega), rfl, rfl, Below.refl _ _⟩
  case round =>
    obtain ⟨k, O, hOs, rfl, rfl, hBr⟩ := hrel
    have hcat : ¬ (9223372036854775807 < 1 + O.size) := by omega
    by_cases hz : k = 0
    · have hzi : ¬ (0 : Int) < (k : Int) := by omega
      clear hz
      go_wp2
      go_ret
      first | exact hBr | exact ⟨⟨_, rfl⟩, hBr⟩ | exact ⟨_, rfl, hBr⟩
    · have hzi : (0 : Int) < (k : Int) := by omega
      obtain ⟨m, hm⟩ : ∃ m, k % 10 = m := ⟨_, rfl⟩
      obtain ⟨k', hk'⟩ : ∃ k', k / 10 = k' := ⟨_, rfl⟩
      have hm9 : m < 10 := by omega
      have htm : Int.tmod (k : Int) 10 = (m : Int) := by rw [← hm]; rfl
      have htd : Int.tdiv (k : Int) 10 = (k' : Int) := by rw [← hk']; exact (Int.ofNat_tdiv k 10).symm
      have wm : IntKind.i64.wrap (m : Int) = (m : Int) := by rw [IntKind.wrap_i64]; omega
      have wk : IntKind.i64.wrap (k' : Int) = (k' : Int) := by rw [IntKind.wrap_i64]; omega
      obtain ⟨d, hd⟩ : ∃ d : Int, 48 + (m : Int) = d := ⟨_, rfl⟩
      have wd : IntKind.i64.wrap d = d := by rw [IntKind.wrap_i64]; omega
      have ud : IntKind.u8.wrap d = d := by simp [IntKind.wrap, IntKind.bits, IntKind.signed]; omega
      have hdn : (((48 + m).toUInt8.toNat : Nat) : Int) = d := by rw [Nat.toUInt8, UInt8.toNat_ofNat']; omega
      have hcv : (convert 48 9 (.slice (some ⟨wr.heap.size, 0, none⟩) 1 1)).run Try.prog (wr.alloc (.cells #[.int .u8 d] 5)) = .ok (.string ⟨[(48 + m).toUInt8].toArray⟩) (wr.alloc (.cells #[.int .u8 d] 5)) :=
        run_convert_bytes_back _ 48 9 5 ⟨wr.heap.size, 0, none⟩ 1 [(48 + m).toUInt8] Try.underlying48 Try.underlying5 Try.underlying9 (fun j hj => by
          have : j = 0 := by simp at hj; exact hj
          subst this
          rw [Addr.add_lit, World.cell?_alloc_at _ _ _ _ rfl]
          simp
          exact hdn.symm)
      have hkl : k' < k := by omega
      obtain ⟨b8, hb8⟩ : ∃ b8, (48 + m).toUInt8 = b8 := ⟨_, rfl⟩
      rw [hb8] at hcv
      clear hm hk' hz hdn hb8
      go_wp2
      go_roundw
      case rel => exact ⟨k', _, by first | (simp [ByteArray.size_append]; show 1 + O.size + k' ≤ 1152921504606846976; omega) | (rw [ByteArray.size_append]; show 1 + O.size + k' ≤ 1152921504606846976; omega), rfl, rfl, hBr.alloc hBr.size _⟩
      case measure => first | (simp [RowKit.intOf]; omega) | (simp [RowKit.intOf]; done)

/-- A block of cells that can be written. -/
def Wr (w : World) (g : Nat) (T : TypeId) (n : Nat) : Prop := ∃ cur, w.heap[g]? = some (.cells cur T (0, 0)) ∧ n ≤ cur.size
/-- Blocks stay what they are. -/
def Wk (w w' : World) : Prop := w.heap.size ≤ w'.heap.size ∧ ∀ g T n, Wr w g T n → Wr w' g T n
theorem Wk.refl (w : World) : Wk w w := ⟨Nat.le_refl _, fun _ _ _ h => h⟩
theorem Wk.trans {a b c : World} (h : Wk a b) (k : Wk b c) : Wk a c := ⟨Nat.le_trans h.1 k.1, fun g T n x => k.2 g T n (h.2 g T n x)⟩
theorem Wr.lt {w : World} {g : Nat} {T : TypeId} {n : Nat} (h : Wr w g T n) : g < w.heap.size := by
  obtain ⟨cur, hh, _⟩ := h
  rcases Nat.lt_or_ge g w.heap.size with h | h
  · exact h
  · rw [Array.getElem?_eq_none h] at hh; cases hh
theorem Wk.below {w w' : World} (h : Below w.heap.size w w') : Wk w w' := ⟨h.size, fun g T n x => by obtain ⟨cur, hh, hs⟩ := x; exact ⟨cur, (h.block g (Wr.lt ⟨cur, hh, hs⟩)).trans hh, hs⟩⟩
theorem Wk.set (w : World) (g k : Nat) (u : Value) : Wk w (w.setCell ⟨g, k, none⟩ u) := by
  refine ⟨(gb_set w g k u).size, fun g' T n x => ?_⟩
  obtain ⟨cur, hh, hs⟩ := x
  by_cases e : g' = g
  · subst e
    exact ⟨_, heap_setCell_same w g' k cur T u hh, by simpa using hs⟩
  · exact ⟨cur, ((gb_set w g k u).block g' (Wr.lt ⟨cur, hh, hs⟩) (by simp; exact e)).trans hh, hs⟩
theorem Wr.cell {w : World} {g : Nat} {T : TypeId} {n : Nat} (h : Wr w g T n) (j : Nat) (hj : j < n) : (∃ u, w.cell? ⟨g, j, none⟩ = some u) ∧ w.frozen? ⟨g, j, none⟩ = false := by
  obtain ⟨cur, hh, hs⟩ := h
  have hj' : j < cur.size := by omega
  exact ⟨⟨cur[j], by simp [World.cell?, hh, hj']⟩, by simp [World.frozen?, hh]⟩
/-- A row that can be written. -/
def WrV (w : World) (v : Value) (n sz : Nat) (T : TypeId) : Prop := (v = .slice none 0 0 ∧ n = 0) ∨ ∃ g cap, v = .slice (some ⟨g, 0, none⟩) n cap ∧ Wr w g T (n * sz)
theorem WrV.keep {w w' : World} {v : Value} {n sz : Nat} {T : TypeId} (h : WrV w v n sz T) (k : Wk w w') : WrV w' v n sz T := by
  rcases h with h | ⟨g, cap, e, h⟩
  · exact .inl h
  · exact .inr ⟨g, cap, e, k.2 g T _ h⟩
theorem Own.wrv {w : World} {B : Nat} {v : Value} {zs : List Int} (h : Own w B v zs) : WrV w v zs.length 1 2 := by
  rcases h.shape with ⟨rfl, rfl⟩ | ⟨g, cap, rfl, hg, hl, hc⟩
  · exact .inl ⟨rfl, rfl⟩
  · obtain ⟨cur, hh, hs, _⟩ := h.raw
    exact .inr ⟨g, cap, rfl, cur, hh, by omega⟩
theorem OwnG.wrv {α : Type} {S : Sh α} {T : TypeId} {w : World} {B : Nat} {v : Value} {xs : List α} (h : OwnG S T w B v xs) : WrV w v xs.length S.n T := by
  obtain ⟨⟨h1, h2⟩, _⟩ := h
  rcases h2 with ⟨e, h0⟩ | ⟨g', cap', cur, e, hg, hh, hc, hm, hs, ht⟩
  · exact .inl ⟨e, h0⟩
  · exact .inr ⟨g', cap', e, cur, hh, by rw [hs]; exact Nat.mul_le_mul_right _ hc⟩

set_option maxRecDepth 100000 in
theorem markI_w (v : Value) (n k0 : Nat) (w : World) (hv : WrV w v n 1 2) (hn : n ≤ 16777216) (h1 : k0 ≤ 1125899906842624) :
    Calls Try.prog 47 #[v, .int .i64 k0] w fun e w' => e = .returned (.int .i64 (k0 + n : Nat)) ∧ Wk w w' ∧ w.grownBy w' v.ownBlock := by
  rcases hv with ⟨rfl, rfl⟩ | ⟨g, cap, rfl, hW⟩
  · go_enter Try.func47, Try.ntmps47
    go_wp2
    refine wp_loop_rounds 1 ?_
    rw [rounds_succ]
    go_wp2
    go_ret
    exact ⟨rfl, Wk.refl _, World.grownBy.refl _ _⟩
  · go_enter Try.func47, Try.ntmps47
    go_wp2
    go_loopw [1, 5] (fun q i wr => ∃ k : Nat, k ≤ n ∧ q = .int .i64 ((k0 : Int) + k) ∧ i = .int .i64 k ∧ Wk w wr ∧ w.grownBy wr (some g))
      (fun _ i _ => n - (intOf i).toNat)
    case atStart => exact ⟨0, Nat.zero_le _, by simp, rfl, Wk.refl _, World.grownBy.refl _ _⟩
    case round =>
      obtain ⟨k, hk, rfl, rfl, hWr, hBr⟩ := hrel
      by_cases hlt : k < n
      · have hlti : (k : Int) < (n : Int) := by omega
        obtain ⟨⟨u, hu⟩, hfz⟩ := (hWr.2 g _ _ hW).cell k (by omega)
        go_wp2
        go_roundw
        case rel => exact ⟨k + 1, by omega, by go_num, by go_num, hWr.trans (Wk.set _ _ _ _), gb_trans hBr (gb_set _ _ _ _)⟩
        case measure => simp [intOf]; omega
      · go_wp2
        go_ret
        have hk' : k = n := by omega
        subst hk'
        exact ⟨by push_cast; rfl, hWr, hBr⟩

set_option maxRecDepth 100000 in
set_option maxHeartbeats 1000000 in
theorem markA_w (v : Value) (n k0 : Nat) (w : World) (hv : WrV w v n 3 58) (hn : n ≤ 16777216) (h1 : k0 ≤ 1125899906842624) :
    Calls Try.prog 48 #[v, .int .i64 k0] w fun e w' => e = .returned (.int .i64 (k0 + 3 * n : Nat)) ∧ Wk w w' ∧ w.grownBy w' v.ownBlock := by
  rcases hv with ⟨rfl, rfl⟩ | ⟨g, cap, rfl, hW⟩
  · go_enter Try.func48, Try.ntmps48
    go_wp2
    refine wp_loop_rounds 1 ?_
    rw [rounds_succ]
    go_wp2
    go_ret
    exact ⟨rfl, Wk.refl _, World.grownBy.refl _ _⟩
  · go_enter Try.func48, Try.ntmps48
    go_wp2
    go_loopw [1, 5] (fun q i wr => ∃ k m : Nat, k ≤ n ∧ q = .int .i64 m ∧ Hid (m = k0 + 3 * k) ∧ i = .int .i64 k ∧ Wk w wr ∧ w.grownBy wr (some g))
      (fun _ i _ => n - (intOf i).toNat)
    case atStart => exact ⟨0, k0, Nat.zero_le _, by simp, (show k0 = _ by omega), rfl, Wk.refl _, World.grownBy.refl _ _⟩
    case round =>
      obtain ⟨k, m, hk, rfl, HM, rfl, hWr, hBr⟩ := hrel
      generalize wr = W1 at *
      by_cases hlt : k < n
      · have hlti : (k : Int) < (n : Int) := by omega
        have hmb : m ≤ 1152921504606846970 := by have := HM.out; omega
        go_wp2_with fail
        refine (markText_w m _ (by omega)).mono ?_
        rintro e w2 ⟨s, rfl, hB2⟩
        have hW2 := hWr.trans (Wk.below hB2)
        obtain ⟨⟨u0, hu0⟩, hf0⟩ := (hW2.2 g _ _ hW).cell (k * 3) (by omega)
        obtain ⟨⟨u1, hu1⟩, hf1⟩ := (hW2.2 g _ _ hW).cell (k * 3 + 1) (by omega)
        obtain ⟨⟨u2, hu2⟩, hf2⟩ := (hW2.2 g _ _ hW).cell (k * 3 + 2) (by omega)
        have hg2 := gb_trans hBr (gb_below (some g) hB2)
        go_wp2_with fail
        go_roundw
        case rel => exact ⟨k + 1, m + 3, by omega, by go_num, (show m + 3 = _ by have := HM.out; omega), by go_num, ((hW2.trans (Wk.set _ _ _ _)).trans (Wk.set _ _ _ _)).trans (Wk.set _ _ _ _), gb_trans (gb_trans (gb_trans hg2 (gb_set _ _ _ _)) (gb_set _ _ _ _)) (gb_set _ _ _ _)⟩
        case measure => simp [intOf]; omega
      · go_wp2
        go_ret
        have hk' : k = n := by omega
        subst hk'
        exact ⟨by rw [HM.out]; rfl, hWr, hBr⟩

/-- Only blocks from B on and below N may have turned. -/
structure OnlyIn (B N : Nat) (w w' : World) : Prop where
  os : w'.os = w.os
  tape : w'.tape = w.tape
  output : w'.output = w.output
  size : w.heap.size ≤ w'.heap.size
  block : ∀ i, i < w.heap.size → (i < B ∨ N ≤ i) → w'.heap[i]? = w.heap[i]?
theorem OnlyIn.refl (B N : Nat) (w : World) : OnlyIn B N w w := ⟨rfl, rfl, rfl, Nat.le_refl _, fun _ _ _ => rfl⟩
theorem OnlyIn.step {B N : Nat} {a b c : World} {row : Option Nat} (h : OnlyIn B N a b) (k : b.grownBy c row) (hr : ∀ j, row = some j → B ≤ j ∧ j < N) : OnlyIn B N a c :=
  ⟨k.os.trans h.os, k.tape.trans h.tape, k.output.trans h.output, Nat.le_trans h.size k.size, fun i hi hb => (k.block i (Nat.lt_of_lt_of_le hi h.size) (fun e => by have := hr i e.symm; omega)).trans (h.block i hi hb)⟩
theorem OnlyIn.below {B N : Nat} {w w' : World} (h : OnlyIn B N w w') (hB : B ≤ w.heap.size) : Below B w w' := ⟨h.os, h.tape, h.output, h.size, fun i hi => h.block i (by omega) (.inl hi)⟩
theorem OnlyIn.own {α : Type} {S : Sh α} {T : TypeId} {B N B' : Nat} {w w' : World} {v : Value} {xs : List α} (h : OnlyIn B N w w') (hO : OwnG S T w B' v xs) (hN : N ≤ B') : OwnG S T w' B' v xs := by
  rcases hO.shape with ⟨rfl, rfl⟩ | ⟨g, cap, rfl, hg, hl, hc⟩
  · exact OwnG.nil _ _ _ _
  · exact hO.keepAt (h.block g hl (.inr (by omega)))

set_option maxRecDepth 100000 in
set_option maxHeartbeats 1000000 in
/-- All that a list of classes owns is overwritten; nothing else is. -/
theorem markC_w (B N : Nat) (v : Value) (cs : List Cl) (w3 w : World) (hO : OwnC w3 B v cs) (hN : N = w3.heap.size) (hB3 : Below N w3 w) (hm : cs.length ≤ 16777216) :
    Calls Try.prog 18 #[v, .int .i64 1] w fun e w' => ∃ x : Nat, e = .returned (.int .i64 x) ∧ OnlyIn B N w w' := by
  obtain ⟨ps, h1, h2, h3⟩ := hO
  subst hN
  have H : ∀ k (h : k < ps.length), ∃ n1 n2, n1 ≤ 16777216 ∧ n2 ≤ 16777216 ∧ WrV w ps[k].s1 n1 1 2 ∧ WrV w ps[k].s2 n2 3 58 ∧ (∀ j, ps[k].s1.ownBlock = some j → B ≤ j ∧ j < w3.heap.size) ∧ (∀ j, ps[k].s2.ownBlock = some j → B ≤ j ∧ j < w3.heap.size) := fun k h => by
    obtain ⟨q1, q2⟩ := h3 k h (by omega)
    exact ⟨_, _, q1.2.1, q2.2.1, q1.wrv.keep (Wk.below hB3), OwnG.wrv q2 |>.keep (Wk.below hB3), fun j hj => by have := q1.lt j hj; omega, fun j hj => by have := q2.lt j hj; omega⟩
  have h1' := h1.keep hB3
  obtain ⟨va, vc, ev⟩ := h1.form
  subst ev
  have HU : ∀ k (h : k < ps.length), (∀ g, va = some ⟨g, 0, none⟩ → ps[k].s1.ownBlock ≠ some g) ∧ (∀ g, va = some ⟨g, 0, none⟩ → ps[k].s2.ownBlock ≠ some g) := fun k h => by
    obtain ⟨q1, q2⟩ := h3 k h (by omega)
    refine ⟨fun g e ho => ?_, fun g e => ?_⟩
    · subst e
      rcases q1.shape with ⟨e1, _⟩ | ⟨g1, c1, e1, _⟩
      · rw [e1] at ho; cases ho
      · rw [e1] at ho q1
        simp only [Value.ownBlock, Option.some.injEq] at ho
        obtain ⟨cur, hh, _⟩ := q1.raw
        obtain ⟨cur2, hh2, _⟩ := (OwnG.wrv h1).resolve_left (by rintro ⟨e, _⟩; cases e) |> fun ⟨g', cap', e', hw'⟩ => (by simp only [Value.slice.injEq, Option.some.injEq, Addr.mk.injEq, and_true] at e'; rw [← e'.1] at hw'; exact hw' : Wr w3 g 54 _)
        rw [ho, hh2] at hh
        simp only [Option.some.injEq, Obj.cells.injEq] at hh
        exact absurd hh.2.1 (by decide)
    · subst e
      exact own_unlike h1 q2 (by decide)
  have hpm : ps.length ≤ 16777216 := by omega
  clear h3 h1
  obtain ⟨PN, hPN⟩ : ∃ PN, ps.length = PN := ⟨_, rfl⟩
  have HPN : Hid (ps.length = PN) := hPN
  rw [hPN] at h1' hpm ⊢
  clear hPN
  go_enter Try.func18, Try.ntmps18
  go_wp2
  go_loopw [1, 5] (fun q i wr => ∃ k m : Nat, k ≤ PN ∧ q = .int .i64 m ∧ Hid (m ≤ 1 + 67108864 * k) ∧ i = .int .i64 k ∧ Wk w wr ∧ OnlyIn B w3.heap.size w wr ∧ OwnG shP 54 wr B (.slice va PN vc) ps)
    (fun _ i _ => PN - (intOf i).toNat)
  case atStart => exact ⟨0, 1, Nat.zero_le _, by simp, (show 1 ≤ _ by omega), rfl, Wk.refl _, OnlyIn.refl _ _ _, h1'⟩
  case round =>
    obtain ⟨k, m, hk, rfl, HM, rfl, hWr, hOi, hOw⟩ := hrel
    generalize wr = W1 at *
    by_cases hlt : k < PN
    · have hlti : (k : Int) < (PN : Int) := by omega
      have hkp : k < ps.length := by rw [HPN.out]; exact hlt
      obtain ⟨n1, n2, l1, l2, r1, r2, b1, b2⟩ := H k hkp
      obtain ⟨u1, u2⟩ := HU k hkp
      have hmb : m ≤ 1125899906842624 := by have := HM.out; omega
      rcases hOw.shape with ⟨e, _⟩ | ⟨g, cap, e, hg, hgl, hgc⟩
      · simp at e; omega
      simp only [Value.slice.injEq] at e
      obtain ⟨rfl, -, rfl⟩ := e
      have c0 := hOw.cell k hkp 0 (by decide)
      have c1 := hOw.cell k hkp 1 (by decide)
      simp only [show shP.n = 2 from rfl, Nat.add_zero, shP, List.getElem?_cons_zero, List.getElem?_cons_succ] at c0 c1
      have U1 := u1 g rfl
      have U2 := u2 g rfl
      generalize ps[k].s1 = sv1 at *
      generalize ps[k].s2 = sv2 at *
      clear u1 u2 H HU h1'
      go_wp2_with fail
      refine (markI_w sv1 n1 m _ (r1.keep hWr) l1 hmb).mono ?_
      rintro e w2 ⟨rfl, hW2, hg2⟩
      have c1' : w2.cell? ⟨g, k * 2 + 1, none⟩ = some sv2 := (World.cell?_of_block (a := ⟨g, k * 2 + 1, none⟩) (hg2.block g hgl (fun e => U1 e.symm))).trans c1
      have hOw2 := hOw.keepAt (hg2.block g hgl (fun e => U1 e.symm))
      go_wp2_with fail
      refine (markA_w sv2 n2 (m + n1) _ (r2.keep (hWr.trans hW2)) l2 (by have := HM.out; omega)).mono ?_
      rintro e w4 ⟨rfl, hW4, hg4⟩
      have hgl2 : g < w2.heap.size := Nat.lt_of_lt_of_le hgl hg2.size
      have hOw4 := hOw2.keepAt (hg4.block g hgl2 (fun e => U2 e.symm))
      go_wp2_with fail
      go_roundw
      case rel => exact ⟨k + 1, m + n1 + 3 * n2, by omega, by go_num, (show m + n1 + 3 * n2 ≤ _ by have := HM.out; omega), by go_num, (hWr.trans hW2).trans hW4, (hOi.step hg2 b1).step hg4 b2, hOw4⟩
      case measure => simp [intOf]; omega
    · go_wp2
      go_ret
      exact ⟨m, rfl, hOi⟩
end Go.Proofs.Ytfbibbjiomfncaa
