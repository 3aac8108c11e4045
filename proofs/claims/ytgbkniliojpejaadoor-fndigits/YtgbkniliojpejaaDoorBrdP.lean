import Derived.Test.YtgbkniliojpejaaDoorBrdM
namespace Go.Proofs.YtgbkniliojpejaaDoor
open Go.RowKit
set_option linter.unusedVariables false
set_option linter.unusedSimpArgs false

/-- What k rounds of times-and-plus have made. -/
def Tp (P xs : List Int) (x c0 k cc : Nat) : Prop := P.length = xs.length + 1 ∧ val (P.take k) + 4294967296 ^ k * cc = val (xs.take k) * x + c0 ∧ cc < 4294967296
theorem tp_arith {VP VX Pk x c0 cc Y D E : Nat} (h : VP + Pk * cc = VX * x + c0) (hd : D + 4294967296 * E = x * Y + cc) : VP + Pk * D + Pk * 4294967296 * E = (VX + Pk * Y) * x + c0 := by
  have h1 : Pk * (D + 4294967296 * E) = Pk * (x * Y + cc) := by rw [hd]
  have h2 : Pk * (D + 4294967296 * E) = Pk * D + Pk * 4294967296 * E := by rw [Nat.mul_add, Nat.mul_assoc]
  have h3 : Pk * (x * Y + cc) = Pk * Y * x + Pk * cc := by rw [Nat.mul_add, Nat.mul_comm x Y, Nat.mul_assoc]
  rw [Nat.add_mul]
  omega
theorem Tp.begin (xs : List Int) (x c0 : Nat) (h : c0 < 4294967296) : Tp (List.replicate (xs.length + 1) 0) xs x c0 0 c0 := ⟨by simp, by simp [val], h⟩
theorem Tp.step {P xs : List Int} {x c0 k cc D E : Nat} (h : Tp P xs x c0 k cc) (hk : k < xs.length) (hd : D + 4294967296 * E = x * (xs.getD k 0).toNat + cc) (hE : E < 4294967296) : Tp (P.set k (D : Int)) xs x c0 (k + 1) E := by
  obtain ⟨h1, h2, h3⟩ := h
  refine ⟨by simp [h1], ?_, hE⟩
  rw [val_take_succ, val_take_succ, Nat.pow_succ]
  have e1 : (P.set k (D : Int)).take k = P.take k := by simp [List.take_set_of_le]
  have e2 : (P.set k (D : Int)).getD k 0 = (D : Int) := by simp [List.getD, show k < P.length by omega]
  rw [e1, e2]
  exact tp_arith h2 hd
theorem Tp.done {P xs : List Int} {x c0 cc : Nat} (h : Tp P xs x c0 xs.length cc) : val (P.set xs.length (cc : Int)) = val xs * x + c0 := by
  obtain ⟨h1, h2, h3⟩ := h
  have e : P.set xs.length (cc : Int) = (P.set xs.length (cc : Int)).take (xs.length + 1) := by rw [List.take_of_length_le (by simp; omega)]
  rw [e, val_take_succ]
  have e1 : (P.set xs.length (cc : Int)).take xs.length = P.take xs.length := by simp [List.take_set_of_le]
  have e2 : (P.set xs.length (cc : Int)).getD xs.length 0 = (cc : Int) := by simp [List.getD, show xs.length < P.length by omega]
  rw [e1, e2]
  rw [List.take_of_length_le (Nat.le_refl _)] at h2
  simpa using h2
set_option maxHeartbeats 2000000 in
set_option maxRecDepth 100000 in
theorem timesPlus_any (v : Value) (xs : List Int) (x c0 : Nat) (w : World) (hx : Rd w v xs) (hlx : xs.length ≤ 1048576) (hx1 : x < 4294967296) (hc1 : c0 < 4294967296) :
    Calls Tryd.prog 35 #[v, .int .u32 (x : Int), .int .u32 (c0 : Int)] w fun e w' => ∃ a c, e = .returned (.slice a (lim (val xs * x + c0)).length c) ∧ Own w' w.heap.size (.slice a (lim (val xs * x + c0)).length c) (lim (val xs * x + c0)) ∧ Below w.heap.size w w' := by
  obtain ⟨a, cap, rfl, _, hzx, hnx, hcx⟩ := hx
  have hT := fun B n cp a W L (hO : Own W B (.slice a n cp) L) (he : val L = val xs * x + c0) => he ▸ trimmed_any B n cp a L W hO
  generalize hQ : lim (val xs * x + c0) = Q at hT ⊢
  clear hQ hnx
  obtain ⟨i0, hi, hz0, hz1, hz2⟩ := info_parts Tryd.info43
  go_enter Tryd.func35, Tryd.ntmps35
  go_wp2_with (at_make; refine wpList_make_full _ rfl _ _ 41 rfl w.heap.size 43 i0 (.int .u32 0) 1 Tryd.underlying41 hi hz0 hz1 .i64 .i64 _ _ (xs.length + 1) rfl rfl (by go_num) (by go_num) (by rw [hz2]; omega) (by unfold maxLen; omega) (Nat.le_refl _) ?_; intro w1 hown hgrow)
  have hO : Own w1 w.heap.size _ (List.replicate (xs.length + 1) 0) := Own.made (by omega) hown
  have hB : Below w.heap.size w w1 := (Below.refl _ _).grown hgrow (Nat.le_refl _) (by intro k h; cases h)
  clear hown hgrow hi hz0 hz1 hz2
  go_loopw [2, 16] (fun c i wr => ∃ (k cc : Nat) (P : List Int), k ≤ xs.length ∧ i = .int .i64 k ∧ c = .int .u32 cc ∧ Own wr w.heap.size (.slice (some ⟨w.heap.size, 0, none⟩) (xs.length + 1) (xs.length + 1)) P ∧ Tp P xs x c0 k cc ∧ Below w.heap.size w wr)
    (fun _ i _ => xs.length - (intOf i).toNat)
  case atStart => exact ⟨0, c0, _, Nat.zero_le _, rfl, rfl, hO, Tp.begin xs x c0 hc1, hB⟩
  case round =>
    obtain ⟨k, c, P, hk, rfl, rfl, hPw, hTp, hBr⟩ := hrel
    clear hO hB
    have hcc := hTp.2.2
    have hPl := hTp.1
    by_cases hlt : k < xs.length
    · obtain ⟨b, off, rfl, hb, hcell⟩ := hcx (by omega)
      have hcx1 : wr.cell? ⟨b, off + k, none⟩ = some (.int .u32 (xs.getD k 0)) := (hBr.cell (p := ⟨b, off + k, none⟩) hb).trans (hcell k hlt)
      have hYb := hzx.get k
      have hcO : wr.cell? ⟨w.heap.size, k, none⟩ = some (.int .u32 (P.getD k 0)) := hPw.cell k (by omega)
      have hfO := hPw.frozen k
      have hStep := fun D E => hTp.step (D := D) (E := E) hlt
      generalize xs.getD k 0 = Y at hcx1 hYb hStep
      generalize P.getD k 0 = o at hcO
      have hp := prod_bound (x : Int) Y (by omega) (by omega) hYb.1 (by omega)
      have hnat : ((x * Y.toNat : Nat) : Int) = (x : Int) * Y := by rw [Int.natCast_mul, Int.toNat_of_nonneg hYb.1]
      obtain ⟨D, hD⟩ : ∃ D : Nat, (D : Int) = ((x : Int) * Y + c + 0) % 4294967296 := ⟨(((x : Int) * Y + c + 0) % 4294967296).toNat, by omega⟩
      obtain ⟨E, hE⟩ : ∃ E : Nat, (E : Int) = ((x : Int) * Y + c + 0) / 4294967296 := ⟨(((x : Int) * Y + c + 0) / 4294967296).toNat, by omega⟩
      have hta := timesAdd_any (x : Int) Y c 0 wr (by omega) hYb (by omega) (by omega)
      rw [← hD, ← hE] at hta
      have hS := hStep D E (by omega) (by omega)
      have hD1 : (D : Int) < 4294967296 := by omega
      have hSt := hPw.store k (z := (D : Int)) (by omega) hD1
      have HS : Hid _ := hS
      have HSt : Hid _ := hSt
      have hi0 : (k : Int) < (xs.length : Int) := by omega
      have hi2 : (k : Int) < (xs.length : Int) + 1 := by omega
      clear hStep hTp hS hSt hD hnat hcell hcx hT hPw
      clear hp hE
      go_wp2_with (go_at_call 47; refine hta.mono ?_; rintro e w2 ⟨rfl, rfl⟩)
      go_roundw
      case rel => exact ⟨k + 1, E, P.set k (D : Int), by omega, by go_num, rfl, HSt.out, HS.out, hBr.setCell (Nat.le_refl _) _⟩
      case measure => simp [intOf]; omega
    · obtain rfl : k = xs.length := by omega
      obtain ⟨u0, hcO⟩ : ∃ u0, wr.cell? ⟨w.heap.size, xs.length, none⟩ = some u0 := ⟨_, hPw.cell xs.length (by omega)⟩
      have hfO := hPw.frozen xs.length
      have hSt := hPw.store xs.length (z := (c : Int)) (by omega) (by omega)
      have hK := hT _ _ _ _ _ _ hSt hTp.done
      have hi2 : (xs.length : Int) < (xs.length : Int) + 1 := by omega
      clear hT hPw hTp hcx hSt
      go_wp2_with fail
      refine hK.mono ?_
      rintro e w2 ⟨a2, c2, rfl, hO2, rfl⟩
      clear hK
      go_wp2
      go_ret
      exact ⟨a2, c2, rfl, hO2, hBr.setCell (Nat.le_refl _) _⟩
end Go.Proofs.YtgbkniliojpejaaDoor
