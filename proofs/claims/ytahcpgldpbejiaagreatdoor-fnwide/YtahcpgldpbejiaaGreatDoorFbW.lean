import Derived.Test.YtahcpgldpbejiaaGreatDoorMfa
import Derived.Test.YtahcpgldpbejiaaGreatDoorLaidFm
namespace Go.Proofs.YtahcpgldpbejiaaGreatDoor
open Go.RowKit Go.Lib Go.Shelf
set_option linter.unusedVariables false
set_option linter.unusedSimpArgs false

theorem noAny (l : List UInt8) (hd : dgs l) : Lib.indexAny l [46, 101] = -1 := by
  induction l with
  | nil => rfl
  | cons b t ih =>
    have hb := hd b (by simp)
    have h1 : ([46, 101] : List UInt8).contains b = false := by
      simp only [List.contains_cons, List.contains_nil, Bool.or_false, Bool.or_eq_false_iff, beq_eq_false_iff_ne]
      exact ⟨fun h => by subst h; have := hb.1; simp at this, fun h => by subst h; have := hb.2; simp at this⟩
    have h2 := ih (fun x hx => hd x (by simp [hx]))
    unfold Lib.indexAny
    rw [h1, h2]; rfl
theorem ba_ext (s : ByteArray) (a b : Nat) : (s.extract a b).data.toList = (s.data.toList.drop a).take (b - a) := by
  rw [ByteArray.data_extract, Array.toList_extract]
theorem ba_of {a b : ByteArray} (h : a.data.toList = b.data.toList) : a = b := by
  cases a; cases b; simp only at h; rw [Array.toList_inj.1 h]
set_option maxHeartbeats 1000000 in
set_option maxRecDepth 100000 in
theorem withCommas_any (s : ByteArray) (w : World) (hs : s.size ≤ 16384) (hd : dgs s.data.toList) :
    Calls Tryz.prog 82 #[.string s] w fun e w' => e = .returned (.string ⟨(cmT s.data.toList).toArray⟩) ∧ Below w.heap.size w w' := by
  have hl : s.data.toList.length = s.size := (size_eq s).symm
  have hI : Calls Tryz.prog 103 #[.string s, .string ⟨#[46, 101]⟩] w _ := Any.strings_IndexAny_laid Tryz.laysAny (by kernel_rfl) s ⟨#[46, 101]⟩ w (by omega) (by decide) (fun j b hb => by have := hd b (List.mem_of_getElem? hb); omega) (fun j b hb => by have := List.mem_of_getElem? hb; simp at this; rcases this with rfl | rfl <;> decide)
  rw [noAny s.data.toList hd] at hI
  have HL : Hid (s.data.toList.length = s.size) := hl
  obtain ⟨T, hT⟩ : ∃ T : ByteArray, (⟨(cmT s.data.toList).toArray⟩ : ByteArray) = T := ⟨_, rfl⟩
  have HTT : Hid ((⟨(cmT s.data.toList).toArray⟩ : ByteArray) = T) := hT
  rw [hT]
  clear hT hl hd
  go_enter Tryz.func82, Tryz.ntmps82
  go_wp2_with fail
  refine hI.mono ?_
  rintro e w1 ⟨rfl, hB1⟩
  clear hI
  go_wp2
  go_loopw [3, 4] (fun i o wr => ∃ (e : Nat) (O : ByteArray), e ≤ s.size ∧ (s.size - e) % 3 = 0 ∧ i = .int .i64 e ∧ o = .string O ∧ Hid (cmO s.data.toList e ++ O.data.toList = cmT s.data.toList) ∧ wr = w1) (fun i _ _ => (Lib.intOf i).toNat)
  case atStart => exact ⟨s.size, ByteArray.empty, Nat.le_refl _, by simp, rfl, rfl, by show _ = _; unfold cmT; rw [HL.out]; simp, rfl⟩
  case round =>
    obtain ⟨e, O, he, hm, rfl, rfl, HC, hw⟩ := hrel
    obtain rfl : w1 = wr := hw.symm
    clear hw
    have HM : Hid ((s.size - e) % 3 = 0) := hm
    have HO : Hid (O.size ≤ 32768) := by
      show _ ≤ _
      have h1 := congrArg List.length HC.out
      rw [List.length_append, ← size_eq] at h1
      have h2 := cmO_len s.data.toList s.data.toList.length
      have h3 := HL.out
      unfold cmT at h1
      omega
    clear hm
    by_cases h3 : 3 < e
    · obtain ⟨f, rfl⟩ : ∃ f, e = f + 3 := ⟨e - 3, by omega⟩
      have h3z : (3 : Int) < ((f + 3 : Nat) : Int) := by omega
      have h3n : (3 : Int) < (f : Int) + 3 := by omega
      have hsm : ¬ 9223372036854775807 < 4 + O.size := by have := HO.out; omega
      have HC2 : Hid (cmO s.data.toList f ++ (((⟨#[44]⟩ : ByteArray) ++ s.extract f (f + 3)) ++ O).data.toList = cmT s.data.toList) := by
        show _ = _
        rw [ba_app, ba_app, ba_ext, ← HC.out, cmO_step _ f (by rw [HL.out]; exact HM.out) (by omega) (by rw [HL.out]; exact he)]
        simp
      have HM2 : Hid ((s.size - f) % 3 = 0) := by show _ = _; have := HM.out; omega
      go_wp2
      go_roundw
      case rel => exact ⟨f, _, by omega, HM2.out, rfl, rfl, HC2, by first | rfl | trivial⟩
      case measure => first | (simp [Lib.intOf]; done) | (simp [Lib.intOf]; omega)
    · have h3z : ¬ (3 : Int) < (e : Int) := by omega
      have hsm : ¬ 9223372036854775807 < e + O.size := by have := HO.out; omega
      have HE : Hid (s.extract 0 e ++ O = T) := by
        show _ = _
        rw [← HTT.out, ← HC.out, cmO_low _ e (by rw [HL.out]; exact HM.out) (by omega) (by rw [HL.out]; exact he) e (Nat.le_refl _)]
        apply ba_of
        rw [ba_app, ba_ext]
        simp
      go_wp2
      go_ret
      exact ⟨congrArg (fun x => Ending.returned (.string x)) HE.out, hB1⟩
end Go.Proofs.YtahcpgldpbejiaaGreatDoor
