import Derived.Test.YtakbmjndhejfpaaDoorBaseS
import Derived.Test.YtakbmjndhejfpaaDoorBzU
namespace Go.Proofs.YtakbmjndhejfpaaDoor
open Go.RowKit
set_option linter.unusedVariables false
set_option linter.unusedSimpArgs false

/-- The bytes of the texts together. -/
def tot (zs : List ByteArray) : Nat := (zs.map ByteArray.size).sum
theorem tot_take_succ (zs : List ByteArray) (k : Nat) (h : k < zs.length) : tot (zs.take (k + 1)) = tot (zs.take k) + (zs.getD k Str.Z).size := by
  unfold tot
  rw [List.take_add_one, List.getElem?_eq_getElem h, List.map_append, List.sum_append]
  simp only [Option.toList, List.map_cons, List.map_nil, List.sum_cons, List.sum_nil, Nat.add_zero]
  simp [List.getD, h]
theorem tot_take_le (zs : List ByteArray) (k : Nat) : tot (zs.take k) ≤ tot zs := by
  have : tot zs = tot (zs.take k) + tot (zs.drop k) := by
    conv => lhs; rw [← List.take_append_drop k zs]
    simp only [tot, List.map_append, List.sum_append]
  omega
theorem Str.Own.made {w' : World} {B n : Nat} {v : Value} (hl : n ≤ 16777216) (h : w'.ownsRow B 9 1 v n (madeCells (Value.cells (.string Str.Z)) (n * 1)).toList) : Str.Own w' B v (List.replicate n Str.Z) := by
  refine ⟨?_, by simpa using hl⟩
  have e : (madeCells (Value.cells (.string Str.Z)) (n * 1)).toList = (List.replicate n Str.Z).map Value.string := by
    have : Value.cells (.string Str.Z) = #[.string Str.Z] := rfl
    rw [this, toList_madeCells_one]; simp
  rw [e] at h; simpa using h
theorem set_take_replT (zs : List ByteArray) (k : Nat) (hk : k < zs.length) : (zs.take k ++ List.replicate (zs.length - k) Str.Z).set k (zs.getD k Str.Z) = zs.take (k + 1) ++ List.replicate (zs.length - (k + 1)) Str.Z := by
  have e : List.replicate (zs.length - k) Str.Z = Str.Z :: List.replicate (zs.length - (k + 1)) Str.Z := by
    rw [show zs.length - k = (zs.length - (k + 1)) + 1 by omega, List.replicate_succ]
  have hl : (zs.take k).length = k := by simp; omega
  rw [e, List.set_append_right _ _ (by omega), hl, Nat.sub_self, List.set_cons_zero]
  rw [List.take_add_one, List.getElem?_eq_getElem hk, List.append_assoc]
  simp [List.getD, hk]
set_option maxRecDepth 100000 in
theorem toT_any (v : Value) (zs : List ByteArray) (w : World) (hr : Str.Rd w v zs) :
    Calls Tryd.prog 12 #[v] w fun e w' => ∃ a c, e = .returned (.slice a zs.length c) ∧ Str.Own w' w.heap.size (.slice a zs.length c) zs ∧ Below w.heap.size w w' := by
  obtain ⟨a, cap, rfl, hl, hn0, hc⟩ := hr
  obtain ⟨i0, hi, hz0, hz1, hz2⟩ := info_parts Str.Tryd.info9
  go_enter Tryd.func12, Tryd.ntmps12
  go_wp2_with (at_make; refine wpList_make_full _ rfl _ _ 22 rfl w.heap.size 9 i0 (.string Str.Z) 1 Tryd.underlying22 hi hz0 hz1 .i64 .i64 _ _ zs.length rfl rfl rfl rfl (by rw [hz2]; omega) (by unfold maxLen; omega) (Nat.le_refl _) ?_; intro w1 hown hgrow)
  have hO : Str.Own w1 w.heap.size _ (List.replicate zs.length Str.Z) := Str.Own.made hl hown
  have hB : Below w.heap.size w w1 := (Below.refl _ _).grown hgrow (Nat.le_refl _) (by intro k h; cases h)
  clear hown hgrow
  go_loopw [4] (fun i wr => ∃ k : Nat, k ≤ zs.length ∧ i = .int .i64 k ∧ Str.Own wr w.heap.size (.slice (some ⟨w.heap.size, 0, none⟩) zs.length zs.length) (zs.take k ++ List.replicate (zs.length - k) Str.Z) ∧ Below w.heap.size w wr)
    (fun i _ => zs.length - (intOf i).toNat)
  case atStart => exact ⟨0, Nat.zero_le _, rfl, by simpa using hO, hB⟩
  case round =>
    obtain ⟨k, hk, rfl, hOr, hBr⟩ := hrel
    clear hO hB
    by_cases hlt : k < zs.length
    · obtain ⟨b, off, rfl, hb, hcell⟩ := hc (by omega)
      have HS : Hid ((zs.take k ++ List.replicate (zs.length - k) Str.Z).set k (zs.getD k Str.Z) = zs.take (k + 1) ++ List.replicate (zs.length - (k + 1)) Str.Z) := set_take_replT zs k hlt
      obtain ⟨z, hz⟩ : ∃ z, zs.getD k Str.Z = z := ⟨_, rfl⟩
      have hce : wr.cell? ⟨b, off + k, none⟩ = some (.string z) := ((hBr.cell (p := ⟨b, off + k, none⟩) hb).trans (hcell k hlt)).trans (by rw [hz])
      obtain ⟨u, hu⟩ : ∃ u, wr.cell? ⟨w.heap.size, k, none⟩ = some u := ⟨_, hOr.cell k (by simp; omega)⟩
      have hfz := hOr.frozen k
      rw [hz] at HS
      clear hcell hc hz
      go_wp2
      go_roundw
      case rel =>
        refine ⟨k + 1, by omega, by go_num, ?_, hBr.setCell (Nat.le_refl _) _⟩
        have := hOr.store k z
        rw [HS.out] at this
        exact this
      case measure => simp [intOf]; omega
    · go_wp2
      go_ret
      have hk' : k = zs.length := by omega
      subst hk'
      exact ⟨_, _, rfl, by simpa using hOr, hBr⟩
set_option maxRecDepth 100000 in
/-- What szStringS tells of a list that came in. -/
theorem szT_any (a : Option Addr) (cap : Nat) (zs : List ByteArray) (w : World) (hl : zs.length ≤ 9223372036854775807) (hs : ∀ s ∈ zs, s.size ≤ 9223372036854775807) (hr : zs.length ≤ 1048576 → Str.Rd w (.slice a zs.length cap) zs) :
    Calls Tryd.prog 10 #[.slice a zs.length cap, .int .i64 1048576] w fun e w' => ∃ r : Int, e = .returned (.int .i64 r) ∧ (r < 0 ∨ (¬ r < 0 ∧ zs.length + tot zs ≤ 1048576)) ∧ Below w.heap.size w w' := by
  by_cases h : (1048576 : Int) < (zs.length : Int)
  · go_enter Tryd.func10, Tryd.ntmps10
    go_wp2
    go_ret
    exact ⟨-1, rfl, .inl (by omega), Below.refl _ _⟩
  · obtain ⟨a', cap', he, hl2, hn0, hc⟩ := hr (by omega)
    simp only [Value.slice.injEq] at he
    obtain ⟨rfl, _, rfl⟩ := he
    have hww : IntKind.i64.wrap ((1048576 : Int) - (zs.length : Int)) = (1048576 : Int) - (zs.length : Int) := by
      simp [IntKind.wrap, IntKind.bits, IntKind.signed]; omega
    go_enter Tryd.func10, Tryd.ntmps10
    go_wp2
    go_loopw [1, 5] (fun q i wr => ∃ (k r : Nat), k ≤ zs.length ∧ zs.length + tot (zs.take k) + r = 1048576 ∧ q = .int .i64 r ∧ i = .int .i64 k ∧ Below w.heap.size w wr)
      (fun _ i _ => zs.length - (intOf i).toNat)
    case atStart => exact ⟨0, 1048576 - zs.length, Nat.zero_le _, by simp [tot]; omega, by go_num, rfl, Below.refl _ _⟩
    case round =>
      obtain ⟨k, r, hk, hsum, rfl, rfl, hBr⟩ := hrel
      have HT : Hid (zs.length + tot (zs.take k) + r = 1048576) := hsum
      have hr1 : r ≤ 1048576 := by omega
      clear hsum
      by_cases hlt : k < zs.length
      · obtain ⟨b, off, rfl, hb, hcell⟩ := hc (by omega)
        have H1 : Hid (tot (zs.take (k + 1)) = tot (zs.take k) + (zs.getD k Str.Z).size) := tot_take_succ zs k hlt
        have hzm : (zs.getD k Str.Z).size ≤ 9223372036854775807 := hs _ (by simp [List.getD, hlt])
        obtain ⟨z, hz⟩ : ∃ z, zs.getD k Str.Z = z := ⟨_, rfl⟩
        rw [hz] at H1 hzm
        have hce : wr.cell? ⟨b, off + k, none⟩ = some (.string z) := ((hBr.cell (p := ⟨b, off + k, none⟩) hb).trans (hcell k hlt)).trans (by rw [hz])
        clear hcell hc hz hs
        have hww2 : IntKind.i64.wrap ((r : Int) - (z.size : Int)) = (r : Int) - (z.size : Int) := by
          simp [IntKind.wrap, IntKind.bits, IntKind.signed]; omega
        by_cases hneg : (r : Int) - (z.size : Int) < 0
        · go_wp2
          go_ret
          exact ⟨-1, rfl, .inl (by omega), hBr⟩
        · go_wp2
          go_roundw
          case rel => exact ⟨k + 1, r - z.size, by omega, by have := HT.out; have := H1.out; omega, by go_num, by go_num, hBr⟩
          case measure => simp [intOf]; omega
      · go_wp2
        go_ret
        have hk' : k = zs.length := by omega
        subst hk'
        refine ⟨r, rfl, .inr ⟨by omega, ?_⟩, hBr⟩
        have := HT.out
        rw [List.take_of_length_le (Nat.le_refl _)] at this
        omega
end Go.Proofs.YtakbmjndhejfpaaDoor
