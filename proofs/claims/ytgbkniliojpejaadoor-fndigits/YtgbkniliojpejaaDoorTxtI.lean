import Derived.Test.YtgbkniliojpejaaDoorTxtS
import Derived.Test.YtgbkniliojpejaaDoorLaidT
namespace Go.Proofs.YtgbkniliojpejaaDoor
open Go.RowKit Go.Shelf
set_option linter.unusedVariables false
set_option linter.unusedSimpArgs false

theorem trimLeft0 (s : ByteArray) (w : World) :
    Calls Tryd.prog 31 #[.string s, .string ⟨#[48]⟩] w fun e w' => e = .returned (.string ⟨(s.data.toList.dropWhile (· == 48)).toArray⟩) ∧ w' = w := Any.strings_TrimLeft_one Tryd.laysTrimLeft s 48 (by decide) w
theorem holds_u8 {w : World} {B g n co : Nat} {l : List Int} (hO : U8.Own w B (.slice (some ⟨g, 0, none⟩) n co) l) : Sort.Holds (Value.int .u8) w g 0 l.toArray := by
  intro j hj
  have hj' : j < l.length := by simpa using hj
  refine ⟨?_, by rw [Nat.zero_add]; exact hO.frozen j⟩
  rw [Nat.zero_add, hO.cell j hj']
  simp [List.getD, hj']
theorem grown_u8 {w : World} {g n : Nat} (d : Array Int) : w.grownBy (Sort.putRow (Value.int .u8) (Sort.ahead w n) g 0 d) (some g) := by
  refine ⟨rfl, rfl, rfl, by simp [Sort.putRow, Sort.mapBlock, Sort.ahead], fun k hk hne => ?_⟩
  have : g ≠ k := fun e => hne (by rw [e])
  simp [Sort.putRow, Sort.mapBlock, Sort.ahead, Array.getElem?_modify, this]
/-- What a text of the reversed row reads as. -/
theorem reverse_any (B g n co : Nat) (L : List UInt8) (w : World) (hO : U8.Own w B (.slice (some ⟨g, 0, none⟩) n co) (bz L)) (hl : L.length = n) (hnb : n ≤ 16777216) (hB : B ≤ w.heap.size) :
    Calls Tryd.prog 30 #[.slice (some ⟨g, 0, none⟩) n co] w fun e w' => e = .returned (.tuple #[]) ∧ (convert 22 9 (.slice (some ⟨g, 0, none⟩) n co)).run Tryd.prog w' = .ok (.string ⟨L.reverse.toArray⟩) w' ∧ Below B w w' := by
  have hgw : B ≤ g := (hO.lt g rfl).1
  have hH := holds_u8 hO
  have hlen : (bz L).length = n := by simp [bz, hl]
  have hR := AnyE.slices_Reverse Tryd.laysReverse (Value.int .u8) (fun _ => rfl) g 0 co (bz L) w hH (by omega)
  rw [hlen] at hR
  refine Calls.mono hR ?_
  rintro e w' ⟨rfl, q, rfl⟩
  refine ⟨rfl, ?_, (Below.refl _ _).grown (grown_u8 _) hB (fun k hk => by cases hk; exact hgw)⟩
  have hH2 := Sort.holds_putRow (Value.int .u8) (Sort.ahead w q) g 0 (bz L).toArray (bz L).reverse.toArray hH (by simp)
  have hrl : (bz L).reverse = bz L.reverse := by unfold bz; rw [List.map_reverse]
  rw [hrl] at hH2 ⊢
  have e2 : n = L.reverse.length := by simp [hl]
  rw [e2]
  refine run_convert_bytes_back _ 22 9 5 ⟨g, 0, none⟩ co L.reverse Tryd.underlying22 Tryd.underlying5 Tryd.underlying9 (fun j hj => ?_)
  rw [add_at]
  have := (hH2 j (by simp [bz]; simpa using hj)).1
  rw [Nat.zero_add] at this
  rw [this]
  have hj2 : j < L.length := by simpa using hj
  have e3 : (bz L.reverse).toArray[j]! = (L.reverse[j].toNat : Int) := by
    have h3 : j < (bz L.reverse).toArray.size := by simp [bz]; exact hj2
    rw [getElem!_pos _ j h3]
    simp [bz]
  rw [e3]
theorem pow_bound {b k : Nat} (hb : 2 ≤ b) (h : b ^ k < 4294967296) : k ≤ 31 := by
  rcases Nat.lt_or_ge 31 k with h1 | h1
  · exfalso
    have h2 : (2 : Nat) ^ 32 ≤ 2 ^ k := Nat.pow_le_pow_right (by decide) h1
    have h3 : 2 ^ k ≤ b ^ k := Nat.pow_le_pow_left hb k
    have h4 : (2 : Nat) ^ 32 = 4294967296 := by decide
    omega
  · exact h1
set_option maxHeartbeats 1000000 in
set_option maxRecDepth 100000 in
theorem limbOfDigits_any (b : Nat) (w : World) (hb : 2 ≤ b) (hb2 : b ≤ 36) :
    Calls Tryd.prog 28 #[.int .u32 b] w fun e w' => ∃ k u : Nat, e = .returned (.tuple #[.int .u32 u, .int .i64 k]) ∧ u = b ^ k ∧ 1 ≤ k ∧ u < 4294967296 ∧ w' = w := by
  have hdz : (b : Int) ≠ 0 := by omega
  have hdv : Int.tdiv 4294967295 (b : Int) = ((4294967295 / b : Nat) : Int) := by rw [show (4294967295 : Int) = ((4294967295 : Nat) : Int) from rfl, ← Int.ofNat_tdiv]
  obtain ⟨q, hq⟩ : ∃ q, 4294967295 / b = q := ⟨_, rfl⟩
  have hqb : q * b ≤ 4294967295 := by rw [← hq]; exact Nat.div_mul_le_self _ _
  have hqd : (4294967295 : Int) / (b : Int) = (q : Int) := by rw [← hq]; rfl
  rw [hq] at hdv
  have hqm : (q : Int) % 4294967296 = (q : Int) := by
    have : q ≤ 4294967295 := by rw [← hq]; exact Nat.div_le_self _ _
    omega
  clear hq
  go_enter Tryd.func28, Tryd.ntmps28
  go_wp2
  go_loopw [4, 5] (fun u k wr => ∃ kk uu : Nat, u = .int .u32 uu ∧ k = .int .i64 kk ∧ uu = b ^ kk ∧ 1 ≤ kk ∧ uu < 4294967296 ∧ wr = w) (fun u _ _ => 4294967296 - (intOf u).toNat)
  case atStart => exact ⟨1, b, rfl, rfl, by rw [Nat.pow_one], by omega, by omega, rfl⟩
  case round =>
    obtain ⟨kk, uu, rfl, rfl, hu, hk1, hul, rfl⟩ := hrel
    have hkb := pow_bound hb (hu ▸ hul)
    have HU : Hid (uu = b ^ kk) := hu
    have hup : 1 ≤ uu := by rw [hu]; exact Nat.le_trans Nat.one_le_two_pow (Nat.pow_le_pow_left hb kk)
    clear hu
    by_cases hc : (uu : Int) ≤ (q : Int)
    · have hm : uu * b ≤ q * b := Nat.mul_le_mul_right _ (by omega)
      have hm2 : uu * 2 ≤ uu * b := Nat.mul_le_mul_left _ hb
      obtain ⟨ub, hub⟩ : ∃ ub, uu * b = ub := ⟨_, rfl⟩
      rw [hub] at hm hm2
      have hubz : (uu : Int) * (b : Int) = (ub : Int) := by rw [← hub, Int.natCast_mul]
      have HP : Hid (ub = b ^ (kk + 1)) := by show _ = _; rw [← hub, HU.out, Nat.pow_succ]
      clear hub
      go_wp2
      go_roundw
      case rel => exact ⟨kk + 1, ub, by go_num, by go_num, HP.out, by omega, by omega, by first | rfl | trivial⟩
      case measure => simp [intOf]; omega
    · go_wp2
      refine bodyPost_ret (v := .tuple #[.int .u32 uu, .int .i64 kk]) (by simp [results, Tryd.results28, go_sem]) rfl ?_
      exact ⟨kk, uu, rfl, HU.out, hk1, hul, rfl⟩
end Go.Proofs.YtgbkniliojpejaaDoor
