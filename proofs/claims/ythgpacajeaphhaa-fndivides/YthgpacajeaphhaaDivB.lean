import Derived.Test.YthgpacajeaphhaaDivT
import Derived.Deep.CutRange
import Derived.Deep.RegionHeld3
namespace Go.Proofs.Ythgpacajeaphhaa
open Go.RowKit
set_option linter.unusedVariables false
set_option linter.unusedSimpArgs false

theorem give_step {P V A B c x y d e : Nat} (h : V + P * c = A + B) (hd : d + 4294967296 * e = x + y + c) : V + P * d + P * 4294967296 * e = A + P * x + (B + P * y) := by
  have e1 : P * (d + 4294967296 * e) = P * (x + y + c) := by rw [hd]
  have e2 : P * (d + 4294967296 * e) = P * d + P * 4294967296 * e := by rw [Nat.mul_add, Nat.mul_assoc]
  have e3 : P * (x + y + c) = P * x + P * y + P * c := by rw [Nat.mul_add, Nat.mul_add]
  generalize P * 4294967296 * e = z2 at *
  omega
def GaveP (k c : Nat) (U A Y : List Int) : Prop := val U + 4294967296 ^ k * c = val (A.take k) + val (Y.take k)
def GaveF (c : Nat) (U A Y : List Int) : Prop := val U + 4294967296 ^ A.length * c = val A + val Y

set_option maxHeartbeats 2000000 in
set_option maxRecDepth 100000 in
theorem giveBack_any (B g N off c0 : Nat) (Lo A Hi : List Int) (u : Value) (Y : List Int) (w : World) (hO : Own w B (.slice (some ⟨g, 0, none⟩) N N) (Lo ++ (A ++ Hi))) (hoff : Lo.length = off) (hA : A.length = Y.length + 1) (hyb : ∀ W : World, w.grownBy W (some g) → Rd W u Y) (hN : N ≤ 1048576) :
    Calls Try.prog 88 #[.slice (some ⟨g, off, none⟩) (Y.length + 1) c0, u] w fun e w' => e = .returned (.tuple #[]) ∧ ∃ (U : List Int) (c : Nat), U.length = A.length ∧ Own w' B (.slice (some ⟨g, 0, none⟩) N N) (Lo ++ (U ++ Hi)) ∧ GaveF c U A Y ∧ w.grownBy w' (some g) := by
  have hNl := hO.len
  have hlen : off + (A.length + Hi.length) = N := by rw [hNl]; simp [hoff]
  have hzA : Limbs A := fun z hz => hO.2.2 z (by simp [hz])
  have hzy : Limbs Y := (hyb w (World.grownBy.refl _ _)).choose_spec.choose_spec.2.2.1
  have hyl : Y.length ≤ 1048576 := by omega
  obtain ⟨n1, hn1⟩ : ∃ n1, n1 = Y.length + 1 := ⟨_, rfl⟩
  rw [← hn1] at hA ⊢
  have hn1l : n1 ≤ 1048577 := by omega
  go_enter Try.func88, Try.ntmps88
  clear hNl
  have HA : Hid (A.length = n1) := hA
  have HN1 : Hid (n1 = Y.length + 1) := hn1
  clear hA hn1
  go_wp2
  go_loopw [4, 8] (fun s4 i wr => ∃ (k c : Nat) (U : List Int), k ≤ n1 ∧ i = .int .i64 k ∧ s4 = .int .u32 (c : Int) ∧ c ≤ 1 ∧ U.length = k ∧ Own wr B (.slice (some ⟨g, 0, none⟩) N N) (Lo ++ (U ++ (A.drop k ++ Hi))) ∧ GaveP k c U A Y ∧ w.grownBy wr (some g)) (fun _ i _ => n1 - (intOf i).toNat)
  case atStart => exact ⟨0, 0, [], Nat.zero_le _, rfl, rfl, by omega, rfl, by simpa using hO, by simp [GaveP, val], World.grownBy.refl _ _⟩
  case round =>
    obtain ⟨k, c, U, hk, rfl, rfl, hc, hUl, oU, hV, hg⟩ := hrel
    clear hO
    have hAe := HA.out
    by_cases hlt : k < n1
    · have hdr : k < A.length := by omega
      have hda := List.drop_eq_getElem_cons hdr
      have hAk : A.getD k 0 = A[k] := by simp [List.getD, hdr]
      rw [hda, ← hAk] at oU
      have hmb := hzA.get k
      have hSa := val_take_succ A k
      have hSy := val_take_succ Y k
      have hyk := hzy.get k
      have hay := fun W h => at_any u Y k W h (by have := HN1.out; omega)
      obtain ⟨m, hm⟩ : ∃ m : Nat, A.getD k 0 = (m : Int) := ⟨(A.getD k 0).toNat, by omega⟩
      obtain ⟨y, hy⟩ : ∃ y : Nat, Y.getD k 0 = (y : Int) := ⟨(Y.getD k 0).toNat, by omega⟩
      rw [hm] at oU hmb hSa
      rw [hy] at hSy hyk hay
      rw [Int.toNat_natCast] at hSa hSy
      have eL : Lo ++ (U ++ ((m : Int) :: A.drop (k + 1) ++ Hi)) = (Lo ++ U) ++ (m : Int) :: (A.drop (k + 1) ++ Hi) := by simp
      rw [eL] at oU
      have hpl : off + k = (Lo ++ U).length := by simp [hoff, hUl]
      have hce := oU.cell (off + k) (by rw [List.length_append, ← hpl]; simp)
      rw [mid_cell _ [] _ _ hpl] at hce
      have hfz := oU.frozen (off + k)
      have hadd := fun W => add32_any (m : Int) (y : Int) (c : Int) W (by omega) (by omega) (by omega)
      obtain ⟨D, hD⟩ : ∃ D : Nat, (D : Int) = ((m : Int) + (y : Int) + (c : Int)) % 4294967296 := ⟨(((m : Int) + (y : Int) + (c : Int)) % 4294967296).toNat, by omega⟩
      obtain ⟨E, hE⟩ : ∃ E : Nat, (E : Int) = ((m : Int) + (y : Int) + (c : Int)) / 4294967296 := ⟨(((m : Int) + (y : Int) + (c : Int)) / 4294967296).toNat, by omega⟩
      rw [← hD, ← hE] at hadd
      have hE1 : E ≤ 1 := by omega
      have hD1 : D < 4294967296 := by omega
      have HV : GaveP (k + 1) E (U ++ [(D : Int)]) A Y := by
        have hV' : val U + 4294967296 ^ k * c = val (A.take k) + val (Y.take k) := hV
        have := give_step (d := D) (e := E) hV' (by omega : D + 4294967296 * E = m + y + c)
        show _ = _
        rw [hSa, hSy, val_append, hUl, Nat.pow_succ, ← this]; simp [val]
      have hst : Own (wr.setCell ⟨g, off + k, none⟩ (.int .u32 (D : Int))) B (.slice (some ⟨g, 0, none⟩) N N) (Lo ++ ((U ++ [(D : Int)]) ++ (A.drop (k + 1) ++ Hi))) := by
        have := oU.store (off + k) (z := (D : Int)) (by omega) (by omega)
        rw [mid_set _ _ _ hpl] at this
        simpa using this
      have HST : Hid _ := hst
      have hry := (hyb wr hg).drew
      have hk1 : (k : Int) < (n1 : Int) := by omega
      clear hV hSa hSy hda hAk hm hy eL hpl hlen hst oU hD hE hAe hyb
      go_upto_region 4 with fail
      go_region_with (first | (go_at_call 70; refine (hay _ hry).mono ?_; rintro e w2 ⟨rfl, rfl⟩) | (go_at_call 69; refine (hadd _).mono ?_; rintro e w2 ⟨rfl, rfl⟩))
      all_goals go_wp2
      all_goals go_roundw
      all_goals first | exact ⟨k + 1, E, U ++ [(D : Int)], by omega, by go_num, rfl, hE1, by simp [hUl], HST.out, HV, gb_trans hg (gb_set _ _ _ _)⟩ | exact ⟨k + 1, E, U ++ [(D : Int)], by omega, by go_num, rfl, hE1, by simp [hUl], Own.drew HST.out, HV, gb_trans hg (gb_trans (gb_set _ _ _ _) (gb_below _ (Below.refl _ _).drew))⟩ | (simp [intOf]; omega)
    · have hk' : k = n1 := by omega
      subst hk'
      rw [List.drop_of_length_le (by omega), List.nil_append] at oU
      have HV : GaveF c U A Y := by
        have hV' : val U + 4294967296 ^ k * c = val (A.take k) + val (Y.take k) := hV
        have hn := HN1.out
        rw [List.take_of_length_le (by omega), List.take_of_length_le (by omega)] at hV'
        show _ = _
        rw [hAe]; exact hV'
      have hUA : U.length = A.length := by omega
      clear hV hyb hAe
      go_wp2
      go_end0
      exact ⟨rfl, U, c, hUA, oU, HV, hg⟩
end Go.Proofs.Ythgpacajeaphhaa
