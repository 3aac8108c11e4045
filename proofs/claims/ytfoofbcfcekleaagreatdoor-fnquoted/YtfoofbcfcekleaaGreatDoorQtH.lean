import Derived.Test.YtfoofbcfcekleaaGreatDoorQtE
namespace Go.Proofs.YtfoofbcfcekleaaGreatDoor
open Go.RowKit Go.Lib
set_option linter.unusedVariables false
set_option linter.unusedSimpArgs false

theorem Ts.other {W : World} {B sb at' n tc : Nat} {src : ByteArray} {ta : Option Addr} {ts : List Tk} (h : Ts W B sb src at' n ta tc ts) (p o : Nat) (v : Value) (hp : p < B) (hne : p ≠ sb) : Ts (W.setCell ⟨p, o, none⟩ v) B sb src at' n ta tc ts :=
  ⟨h.sc.same (Below.heap_setCell _ _ _ _ (fun e => hne e.symm)), h.row.but (gb_set W p o v) (.inr (fun e => by have := (h.row.lt p e).1; omega)), h.lo, h.len, h.few⟩
set_option maxHeartbeats 4000000 in
set_option maxRecDepth 100000 in
theorem scan_any (sb : Nat) (src T : ByteArray) (Q : Int) (LN : Nat) (w : World) (h0 : Sc w sb src 0 (.slice none 0 0)) (hQ : Qs src Q) (hsz : src.size = LN + 2) (hHP : HPc)
    (hTK : ∀ W, Ts W (w.heap.size + 1) sb src 0 0 none 0 [] → w.heap.size + 1 ≤ W.heap.size → Below w.heap.size w W → Calls Tryz.prog 33 #[.pointer (some ⟨sb, 0, none⟩)] W fun e w' => e = .returned (.int .i64 0) ∧ (∃ ta' tc', Ts w' (w.heap.size + 1) sb src (LN + 2) 1 ta' tc' [⟨5, T, 1⟩]) ∧ Below sb W w' ∧ Kb (w.heap.size + 1) sb W w') :
    Calls Tryz.prog 19 #[.pointer (some ⟨sb, 0, none⟩)] w fun e w' => e = .returned (.agg #[.int .i64 0, .int .i64 0]) ∧ (∃ ta' tc', Ts w' (w.heap.size + 1) sb src (LN + 2) 3 ta' tc' [⟨5, T, 1⟩, ⟨8, ⟨#[]⟩, 1⟩, ⟨11, ⟨#[]⟩, 1⟩]) ∧ Below sb w w' := by
  have hsl := h0.lt
  obtain ⟨B, hBe⟩ : ∃ B, B = w.heap.size + 1 := ⟨_, rfl⟩
  rw [← hBe] at hTK ⊢
  have h : Ts w B sb src 0 0 none 0 [] := ⟨h0, OwnG.nil _ _ _ _, by omega, rfl, by omega⟩
  clear h0
  obtain ⟨A0, hA0⟩ : ∃ A, A = w.alloc (.cells #[.int .i64 0, .int .i64 0] 29) := ⟨_, rfl⟩
  have al : Below w.heap.size w A0 := by rw [hA0]; exact (Below.refl _ _).alloc (Nat.le_refl _) _
  have hfx : A0.heap[w.heap.size]? = some (.cells #[.int .i64 0, .int .i64 0] 29 (0, 0)) := by rw [hA0]; exact (MapKept.heap_alloc w _).1
  have hfs : A0.heap.size = B := by rw [hA0, hBe]; simp
  have hT0 := h.keep al
  have hlo := h.lo
  have hq0 := hQ.h0
  have hsi : (0 : Int) < (src.size : Int) := by omega
  have hnn : ¬ ((((LN + 2 : Nat) : Int)) < (src.size : Int)) := by omega
  obtain ⟨c0, c1, c2, c3, c4, c5, c6, cf⟩ := hT0.sc.cells
  go_enter Tryz.func19, Tryz.ntmps19
  go_wp2_with fail
  rw [← hA0]
  clear hA0
  refine wp_loop_rounds 2 ?_
  rw [rounds_succ]
  go_wp2
  go_region
  go_wp2_with fail
  have b0 : Below w.heap.size w A0.drew := al.drew
  have z0 : B ≤ A0.drew.heap.size := by show B ≤ A0.heap.size; omega
  refine (gapAt_any sb src Q _ _ (h.keep b0).sc hQ hHP).mono ?_
  rintro e W1 ⟨rfl, k1⟩
  have b1 := b0.trans (k1.mono b0.size)
  have z1 := Nat.le_trans z0 k1.size
  go_wp2_with fail
  refine (atStart_any sb src Q _ _ (h.keep b1).sc hQ).mono ?_
  rintro e W2 ⟨rfl, k2⟩
  have b2 := b1.trans (k2.mono b1.size)
  have z2 := Nat.le_trans z1 k2.size
  go_wp2_with fail
  refine (indent_any sb src _ _ _ (h.keep b2).sc).mono ?_
  rintro e W3 ⟨rfl, k3⟩
  have b3 := b2.trans (k3.mono b2.size)
  have z3 := Nat.le_trans z2 k3.size
  go_wp2_with fail
  refine wp_loop_rounds 2 ?_
  rw [rounds_succ]
  go_wp2_with fail
  refine (atStart_any sb src Q _ _ (h.keep b3).sc hQ).mono ?_
  rintro e W4 ⟨rfl, k4⟩
  have b4 := b3.trans (k4.mono b3.size)
  have z4 := Nat.le_trans z3 k4.size
  go_wp2_with fail
  refine (hTK _ (h.keep b4) z4 b4).mono ?_
  rintro e W5 ⟨rfl, ⟨ta5, tc5, t5⟩, k5, y5⟩
  have u5 : Kb B sb A0 W5 := ((Kb.low (Below.refl _ _).drew (by omega)).trans ((Kb.low k1 z0).trans ((Kb.low k2 z1).trans ((Kb.low k3 z2).trans (Kb.low k4 z3))))).trans y5
  have z5 := Nat.le_trans z4 k5.size
  have b5 : Below sb w W5 := (b4.mono (by omega)).trans k5
  rw [← hsz] at t5
  clear c0 c1 c2 c3 c4 c5 c6 cf
  obtain ⟨c0, c1, c2, c3, c4, c5, c6, cf⟩ := t5.sc.cells
  go_wp2_with fail
  refine (gapEnd_any sb src _ _ t5.sc).mono ?_
  rintro e W6 ⟨rfl, k6⟩
  have t6 := t5.keep k6
  have u6 := u5.trans (Kb.low k6 z5)
  have z6 := Nat.le_trans z5 k6.size
  have b6 := b5.trans (k6.mono (by have := b5.size; omega))
  go_wp2_with fail
  try rw [rounds_succ]
  go_wp2_with fail
  refine (atEnd_any sb src _ _ t6.sc).mono ?_
  rintro e W7 ⟨rfl, k7⟩
  have t7 := t6.keep k7
  have u7 := u6.trans (Kb.low k7 z6)
  have z7 := Nat.le_trans z6 k7.size
  have b7 := b6.trans (k7.mono (by have := b6.size; omega))
  go_wp2_with fail
  refine (lastLine_any B sb src.size 0 tc5 src ta5 [] ⟨5, T, 1⟩ _ t7).mono ?_
  rintro e W8 ⟨rfl, k8⟩
  have t8 := t7.keep k8
  have u8 := u7.trans (Kb.low k8 z7)
  have z8 := Nat.le_trans z7 k8.size
  have b8 := b7.trans (k8.mono (by have := b7.size; omega))
  go_wp2_with fail
  refine (add_any B sb src.size 1 tc5 src ta5 [⟨5, T, 1⟩] 8 1 _ t8 z8 (by omega)).mono ?_
  rintro e W9 ⟨rfl, ⟨ta9, tc9, t9⟩, k9, y9⟩
  have u9 := u8.trans y9
  have z9 := Nat.le_trans z8 k9.size
  have b9 := b8.trans k9
  go_wp2_with fail
  refine (endLine_any sb src _ _ t9.sc).mono ?_
  rintro e W10 ⟨rfl, k10⟩
  have t10 := t9.keep k10
  have u10 := u9.trans (Kb.low k10 z9)
  have z10 := Nat.le_trans z9 k10.size
  have b10 := b9.trans (k10.mono (by have := b9.size; omega))
  clear c0 c1 c2 c3 c4 c5 c6 cf
  obtain ⟨c0, c1, c2, c3, c4, c5, c6, cf⟩ := t10.sc.cells
  have hni : ¬ ((src.size : Int) < (src.size : Int)) := by omega
  clear hnn
  go_wp2_with fail
  rw [rounds_succ]
  go_wp2_with fail
  go_region
  go_wp2_with fail
  have k11 : Below W10.heap.size W10 W10.drew := (Below.refl _ _).drew
  have t11 := t10.keep k11
  have u11 := u10.trans (Kb.low k11 z10)
  have z11 := Nat.le_trans z10 k11.size
  have b11 := b10.trans (k11.mono (by have := b10.size; omega))
  refine (lastLine_any B sb src.size 1 tc9 src ta9 [⟨5, T, 1⟩] ⟨8, ⟨#[]⟩, 1⟩ _ t11).mono ?_
  rintro e W12 ⟨rfl, k12⟩
  have t12 := t11.keep k12
  have u12 := u11.trans (Kb.low k12 z11)
  have z12 := Nat.le_trans z11 k12.size
  have b12 := b11.trans (k12.mono (by have := b11.size; omega))
  clear c0 c1 c2 c3 c4 c5 c6 cf
  obtain ⟨c0, c1, c2, c3, c4, c5, c6, cf⟩ := t12.sc.cells
  go_wp2_with fail
  refine wp_loop_rounds 1 ?_
  rw [rounds_succ]
  go_wp2_with fail
  have t13 := t12
  have b13 := b12
  refine (add_any B sb src.size 2 tc9 src ta9 [⟨5, T, 1⟩, ⟨8, ⟨#[]⟩, 1⟩] 11 1 _ t13 z12 (by omega)).mono ?_
  rintro e W14 ⟨rfl, ⟨ta14, tc14, t14⟩, k14, y14⟩
  have u14 := u12.trans y14
  have hf14 : W14.heap[w.heap.size]? = some (.cells #[.int .i64 0, .int .i64 0] 29 (0, 0)) := by rw [u14 _ (by omega) (by omega)]; exact hfx
  have f0 : W14.cell? ⟨w.heap.size, 0, none⟩ = some (.int .i64 0) := cell_obj hf14 rfl
  have f1 : W14.cell? ⟨w.heap.size, 1, none⟩ = some (.int .i64 0) := cell_obj hf14 rfl
  have g0 : W14.frozen? ⟨w.heap.size, 0, none⟩ = false := frozen_obj hf14
  have g1 : W14.frozen? ⟨w.heap.size, 1, none⟩ = false := frozen_obj hf14
  clear c0 c1 c2 c3 c4 c5 c6 cf
  have b14 := b13.trans k14
  go_wp2_with fail
  refine bodyPost_ret (v := .agg #[.int .i64 0, .int .i64 0]) (by simp [results, Tryz.results19, go_sem, f0, f1]) rfl ⟨rfl, ⟨ta14, tc14, ?_⟩, ?_⟩
  · rw [hsz] at t14
    exact (t14.other w.heap.size 0 (.int .i64 0) (by omega) (by omega)).other w.heap.size 1 (.int .i64 0) (by omega) (by omega)
  · have hle : sb ≤ w.heap.size := by omega
    exact (b14.setCell hle _).setCell hle _
end Go.Proofs.YtfoofbcfcekleaaGreatDoor
