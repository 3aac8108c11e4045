import Derived.Test.YtakbmjndhejfpaaDoorBaseS
import Derived.Test.YtakbmjndhejfpaaDoorBzU
import Derived.Lib.SmallJoins
namespace Go.Proofs.YtakbmjndhejfpaaDoor
open Go.RowKit Go.Lib
set_option linter.unusedVariables false
set_option linter.unusedSimpArgs false

def digF : Nat → Nat → List UInt8 → List UInt8
  | 0, _, acc => acc
  | f + 1, k, acc => if k = 0 then acc else digF f (k / 10) ((48 + k % 10).toUInt8 :: acc)
theorem digF_zero (f : Nat) (acc : List UInt8) : digF f 0 acc = acc := by cases f <;> simp [digF]
/-- A mark's text. -/
def mtB (k : Nat) : ByteArray := ⟨#[109]⟩ ++ ⟨(digF k k []).toArray⟩
theorem ba_ext {a : ByteArray} {l : List UInt8} (h : a.data.toList = l) : a = ⟨l.toArray⟩ := by
  apply ByteArray.ext
  apply Array.toList_inj.1
  rw [h]
set_option maxHeartbeats 1000000 in
set_option maxRecDepth 100000 in
theorem markText_any (k0 : Nat) (w : World) (h1 : 1 ≤ k0) (h2 : k0 ≤ 2097152) :
    Calls Tryd.prog 52 #[.int .i64 k0] w fun e w' => e = .returned (.string (mtB k0)) ∧ Below w.heap.size w w' := by
  obtain ⟨E, hE⟩ : ∃ E, digF k0 k0 [] = E := ⟨_, rfl⟩
  have HE : Hid (digF k0 k0 [] = E) := hE
  have HR : Hid (mtB k0 = ⟨#[109]⟩ ++ ⟨E.toArray⟩) := by show _ = _; rw [← hE]; rfl
  obtain ⟨R, hR⟩ : ∃ R, mtB k0 = R := ⟨_, rfl⟩
  have HR2 : Hid (R = ⟨#[109]⟩ ++ ⟨E.toArray⟩) := by rw [← hR]; exact HR.out
  rw [hR]
  clear hE hR HR
  have hkz : ¬ (k0 : Int) ≤ 0 := by omega
  go_enter Tryd.func52, Tryd.ntmps52
  go_wp2
  go_loopw [0, 3] (fun q o wr => ∃ (k f : Nat) (O : ByteArray), k ≤ f ∧ k ≤ 2097152 ∧ O.size + k ≤ 2097152 ∧ digF f k O.data.toList = E ∧ q = .int .i64 k ∧ o = .string O ∧ Below w.heap.size w wr) (fun q _ _ => (RowKit.intOf q).toNat)
  case atStart => exact ⟨k0, k0, _, Nat.le_refl _, h2, by first | (simp; omega) | (show 0 + k0 ≤ 2097152; omega), HE.out, rfl, rfl, Below.refl _ _⟩
  case round =>
    obtain ⟨k, f, O, hkf, hk2, hOs, hd, rfl, rfl, hBr⟩ := hrel
    have hcat : ¬ (9223372036854775807 < 1 + O.size) := by omega
    have HD : Hid (digF f k O.data.toList = E) := hd
    clear hd
    by_cases hz : k = 0
    · have hzi : ¬ (0 : Int) < (k : Int) := by omega
      have hOE : R = ⟨#[109]⟩ ++ O := by
        rw [HR2.out]
        have := HD.out
        rw [hz, digF_zero] at this
        rw [← this, ← ba_ext rfl]
      clear hz HD HE HR2
      go_wp2
      go_ret
      exact ⟨rfl, hBr⟩
    · have hzi : (0 : Int) < (k : Int) := by omega
      obtain ⟨f', rfl⟩ : ∃ f', f = f' + 1 := ⟨f - 1, by omega⟩
      obtain ⟨m, hm⟩ : ∃ m, k % 10 = m := ⟨_, rfl⟩
      obtain ⟨k', hk'⟩ : ∃ k', k / 10 = k' := ⟨_, rfl⟩
      have hm9 : m < 10 := by omega
      have htm : Int.tmod (k : Int) 10 = (m : Int) := by rw [← hm]; rfl
      have htd : Int.tdiv (k : Int) 10 = (k' : Int) := by rw [← hk']; exact (Int.ofNat_tdiv k 10).symm
      have wm := wrap64_id (a := (m : Int)) (by omega) (by omega)
      have wk := wrap64_id (a := (k' : Int)) (by omega) (by omega)
      obtain ⟨d, hd⟩ : ∃ d : Int, 48 + (m : Int) = d := ⟨_, rfl⟩
      have wd := wrap64_id (a := d) (by omega) (by omega)
      have ud : IntKind.u8.wrap d = d := by simp [IntKind.wrap, IntKind.bits, IntKind.signed]; omega
      have hd0 : 0 ≤ d := by omega
      have hd1 : d < 4294967296 := by omega
      have hbz : bz [(48 + m).toUInt8] = [d] := by
        show [(((48 + m).toUInt8.toNat : Nat) : Int)] = [d]
        rw [Nat.toUInt8, UInt8.toNat_ofNat']
        congr 1; omega
      have hcv := bytes_back (wr.alloc (.cells #[.int .u8 d] 5)) wr.heap.size wr.heap.size 1 [(48 + m).toUInt8] 1 rfl (by rw [hbz]; exact U8.Own.lit1 wr wr.heap.size rfl hd0 hd1)
      have HN : Hid (digF f' k' ((⟨[(48 + m).toUInt8].toArray⟩ : ByteArray) ++ O).data.toList = E) := by
        show _ = _
        rw [Joins.data_append, ← HD.out]
        show _ = digF (f' + 1) k O.data.toList
        rw [digF, if_neg hz, hm, hk']; rfl
      have hkl : k' < k := by omega
      clear hbz hm hk' HD hz
      obtain ⟨b8, hb8⟩ : ∃ b8, (48 + m).toUInt8 = b8 := ⟨_, rfl⟩
      rw [hb8] at hcv HN
      go_wp2
      go_roundw
      case rel => exact ⟨k', f', _, by omega, by omega, by first | (simp [ByteArray.size_append]; show 1 + O.size + k' ≤ 2097152; omega) | (rw [ByteArray.size_append]; show 1 + O.size + k' ≤ 2097152; omega), HN.out, rfl, rfl, hBr.alloc hBr.size _⟩
      case measure => first | (simp [RowKit.intOf]; omega) | (simp [RowKit.intOf]; done)
end Go.Proofs.YtakbmjndhejfpaaDoor
