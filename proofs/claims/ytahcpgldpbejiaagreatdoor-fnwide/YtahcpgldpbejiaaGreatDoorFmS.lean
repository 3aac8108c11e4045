import Derived.Test.YtahcpgldpbejiaaGreatDoorFmQ
import Derived.Test.YtahcpgldpbejiaaGreatDoorFmL
namespace Go.Proofs.YtahcpgldpbejiaaGreatDoor
open Go.RowKit Go.Lib
set_option linter.unusedVariables false
set_option linter.unusedSimpArgs false

set_option maxHeartbeats 1000000 in
set_option maxRecDepth 100000 in
theorem readSpecS_none (s : ByteArray) (w : World) (hA : textOf s = none) (hs : s.size ≤ 16777216) :
    Calls Tryz.prog 21 #[.string s] w fun e w' => e = .returned (.tuple #[spV sv0, .bool false]) ∧ Below w.heap.size w w' := by
  have hR := fun W => l3Runes_any s W (by omega)
  rw [hA] at hR
  rw [show (ansL none).length = 0 from rfl, show (none : Option (List Nat)).isSome = false from rfl] at hR
  have hX := (Bx.new w (spC sz0) 45)
  have hX1 : Bx ((w.alloc (.cells (spC sz0).toArray 45)).alloc (.cells (spC sv0).toArray 45)) w.heap.size (spC sz0) := hX.keep ((Below.refl _ _).alloc (Nat.le_refl _) _)
  have hP1 : Bx ((w.alloc (.cells (spC sz0).toArray 45)).alloc (.cells (spC sv0).toArray 45)) (w.heap.size + 1) (spC sv0) := by
    have := Bx.new (w.alloc (.cells (spC sz0).toArray 45)) (spC sv0) 45
    simpa using this
  have hB1 : Below w.heap.size w ((w.alloc (.cells (spC sz0).toArray 45)).alloc (.cells (spC sv0).toArray 45)) := ((Below.refl _ w).alloc (Nat.le_refl _) _).alloc (by simp) _
  have hR1 := hR ((w.alloc (.cells (spC sz0).toArray 45)).alloc (.cells (spC sv0).toArray 45))
  clear hR hX hA
  go_enter Tryz.func21, Tryz.ntmps21
  go_wp2_with fail
  refine hR1.mono ?_
  rintro e W7 ⟨a1, c1, rfl, hO1, hB2⟩
  have HX0 := hX1.keep hB2
  have HP0 := hP1.keep hB2
  have HBB : Hid (Below w.heap.size w W7) := hB1.trans (hB2.mono (by simp; omega))
  clear hR1 hX1 hP1 hB1 hO1 hB2
  have p0 : W7.cell? ⟨w.heap.size + 1, 0, none⟩ = some (.int .i64 (-1)) := HP0.cell 0 (by simp [spC])
  have x0 : W7.cell? ⟨w.heap.size, 0, none⟩ = some (.int .i64 0) := HX0.cell 0 (by simp [spC])
  have f0 := HX0.fr 0
  have p1 : W7.cell? ⟨w.heap.size + 1, 1, none⟩ = some (.int .u8 0) := HP0.cell 1 (by simp [spC])
  have x1 : W7.cell? ⟨w.heap.size, 1, none⟩ = some (.int .u8 0) := HX0.cell 1 (by simp [spC])
  have f1 := HX0.fr 1
  have p2 : W7.cell? ⟨w.heap.size + 1, 2, none⟩ = some (.int .u8 0) := HP0.cell 2 (by simp [spC])
  have x2 : W7.cell? ⟨w.heap.size, 2, none⟩ = some (.int .u8 0) := HX0.cell 2 (by simp [spC])
  have f2 := HX0.fr 2
  have p3 : W7.cell? ⟨w.heap.size + 1, 3, none⟩ = some (.bool false) := HP0.cell 3 (by simp [spC])
  have x3 : W7.cell? ⟨w.heap.size, 3, none⟩ = some (.bool false) := HX0.cell 3 (by simp [spC])
  have f3 := HX0.fr 3
  have p4 : W7.cell? ⟨w.heap.size + 1, 4, none⟩ = some (.int .i64 0) := HP0.cell 4 (by simp [spC])
  have x4 : W7.cell? ⟨w.heap.size, 4, none⟩ = some (.int .i64 0) := HX0.cell 4 (by simp [spC])
  have f4 := HX0.fr 4
  have p5 : W7.cell? ⟨w.heap.size + 1, 5, none⟩ = some (.bool false) := HP0.cell 5 (by simp [spC])
  have x5 : W7.cell? ⟨w.heap.size, 5, none⟩ = some (.bool false) := HX0.cell 5 (by simp [spC])
  have f5 := HX0.fr 5
  have p6 : W7.cell? ⟨w.heap.size + 1, 6, none⟩ = some (.bool false) := HP0.cell 6 (by simp [spC])
  have x6 : W7.cell? ⟨w.heap.size, 6, none⟩ = some (.bool false) := HX0.cell 6 (by simp [spC])
  have f6 := HX0.fr 6
  have p7 : W7.cell? ⟨w.heap.size + 1, 7, none⟩ = some (.int .i64 0) := HP0.cell 7 (by simp [spC])
  have x7 : W7.cell? ⟨w.heap.size, 7, none⟩ = some (.int .i64 0) := HX0.cell 7 (by simp [spC])
  have f7 := HX0.fr 7
  have p8 : W7.cell? ⟨w.heap.size + 1, 8, none⟩ = some (.int .u8 0) := HP0.cell 8 (by simp [spC])
  have x8 : W7.cell? ⟨w.heap.size, 8, none⟩ = some (.int .u8 0) := HX0.cell 8 (by simp [spC])
  have f8 := HX0.fr 8
  have hXl := HX0.lt
  clear HX0 HP0
  go_wp2
  exact bodyPost_ret (v := .tuple #[spV sv0, .bool false]) (by simp [spV, spC, sv0, results, Tryz.results21, go_sem, p0, p1, p2, p3, p4, p5, p6, p7, p8, x0, x1, x2, x3, x4, x5, x6, x7, x8, f0, f1, f2, f3, f4, f5, f6, f7, f8, hXl]) rfl ⟨rfl, set9 HBB.out _ _ _ _ _ _ _ _ _⟩
theorem readSpecS_any (s : ByteArray) (w : World) (hs : s.size ≤ 16777216) :
    Calls Tryz.prog 21 #[.string s] w fun e w' => ∃ (v : Sv) (ok : Bool), e = .returned (.tuple #[.agg #[.int .i64 v.f, .int .u8 v.a, .int .u8 v.s, .bool v.z, .int .i64 v.wd, .bool v.cm, .bool v.dt, .int .i64 v.pr, .int .u8 v.kd], .bool ok]) ∧ RsA s v ok ∧ Below w.heap.size w w' := by
  cases hA : textOf s with
  | none => exact (readSpecS_none s w hA hs).mono fun e w' ⟨h1, h2⟩ => ⟨sv0, false, h1, by unfold RsA; rw [hA], h2⟩
  | some rs =>
    obtain ⟨hs1, hs2, hs3⟩ := text_iff.1 hA
    have hsz : (encs rs).length = s.size := by rw [← hs2, ← size_eq]
    have hrl : rs.length ≤ 16384 := by have := encs_len rs hs3; omega
    exact (readSpecS_some s rs w hA hrl hs).mono fun e w' ⟨v, ok, h1, h2, h3⟩ => ⟨v, ok, h1, by unfold RsA; rw [hA]; exact h2, h3⟩
theorem cutAl_mem (c : List Nat) (x : Nat) (h : (cutAl c).1 = some x) : x ∈ c := by
  rcases sh2 c with rfl | ⟨y, rfl⟩ | ⟨y, z, t, rfl⟩
  · simp [cutAl] at h
  · by_cases hy : isAl y = true <;> simp [cutAl, hy] at h
  · by_cases hz : isAl z = true
    · simp [cutAl, hz] at h; subst h; simp
    · by_cases hy : isAl y = true <;> simp [cutAl, hy, hz] at h
theorem cutAl_a (c : List Nat) : (cutAl c).2.1 = 0 ∨ isAl (cutAl c).2.1 = true := by
  rcases sh2 c with rfl | ⟨y, rfl⟩ | ⟨y, z, t, rfl⟩
  · left; rfl
  · by_cases hy : isAl y = true <;> simp [cutAl, hy]
  · by_cases hz : isAl z = true
    · simp [cutAl, hz]
    · by_cases hy : isAl y = true <;> simp [cutAl, hy, hz]
theorem w7_ok {c : List Nat} (hs : ∀ r ∈ c, Scalar r) (h : okQ c = true) : ∃ k, kindR (rdR c).rest = some k ∧ w7 c = svR (rdR c) k ∧ badR (rdR c) = false ∧ Scalar (fcS (w7 c)) ∧ (w7 c).wd ≤ 9999 ∧ (w7 c).a < 256 ∧ (w7 c).pr ≤ 999 := by
  obtain ⟨h1, h2⟩ := okQ_eq c
  rw [h] at h1
  have h3 : badR (rdR c) = false ∧ (kindR (rdR c).rest).isSome = true := by
    have := h1.symm
    simpa using this
  obtain ⟨k, hk⟩ := Option.isSome_iff_exists.1 h3.2
  have hw := h2 h k hk
  refine ⟨k, hk, hw, h3.1, ?_, ?_, ?_, ?_⟩
  · rw [hw]
    unfold fcS svR
    simp only
    cases hf : (rdR c).fl with
    | none =>
      simp only
      rw [if_neg (by omega)]
      split
      · exact .inl (by omega)
      · exact .inl (by omega)
    | some x =>
      simp only
      rw [if_pos (by omega), Int.toNat_natCast]
      exact hs x (cutAl_mem c x hf)
  · rw [hw]
    show nv (cutD 4 (r3 c)).1 ≤ 9999
    have := nv_lt (cutD_dig 4 (r3 c)) (cutD_len 4 (r3 c))
    omega
  · rw [hw]
    show (cutAl c).2.1 < 256
    rcases cutAl_a c with h | h
    · rw [h]; omega
    · unfold isAl at h; simp at h; omega
  · rw [hw]
    show nv (afDot (r5 c)).2.1 ≤ 999
    obtain ⟨d1, d2, d3, d4⟩ := afDot_eq (r5 c)
    cases hh : hd (· == 46) (r5 c)
    · rw [d4 hh]; decide
    · rw [← d3 hh]
      have := nv_lt (cutD_dig 3 ((r5 c).drop 1)) (cutD_len 3 ((r5 c).drop 1))
      omega
end Go.Proofs.YtahcpgldpbejiaaGreatDoor
