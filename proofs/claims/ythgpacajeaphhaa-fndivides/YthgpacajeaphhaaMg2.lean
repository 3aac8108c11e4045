import Derived.Test.YthgpacajeaphhaaMg1
import Derived.Deep.CutRange
import Derived.Deep.RegionHeld3
namespace Go.Proofs.Ythgpacajeaphhaa
open Go.RowKit
set_option linter.unusedVariables false
set_option linter.unusedSimpArgs false

theorem take_step {P V B A x c b y m lo hi d e : Nat} (h : V + B * x = A + P * (c + b)) (h1 : lo + 4294967296 * hi = x * y + c) (h2 : d + lo + b = m + 4294967296 * e) :
    V + P * d + (B + P * y) * x = A + P * m + P * 4294967296 * (hi + e) := by
  have e1 : P * (d + lo + b) = P * (m + 4294967296 * e) := by rw [h2]
  have e2 : P * (lo + 4294967296 * hi) = P * (x * y + c) := by rw [h1]
  have e3 : (B + P * y) * x = B * x + P * (x * y) := by rw [Nat.add_mul, Nat.mul_assoc, Nat.mul_comm y x]
  have e4 : P * (d + lo + b) = P * d + P * lo + P * b := by rw [Nat.mul_add, Nat.mul_add]
  have e5 : P * (m + 4294967296 * e) = P * m + P * 4294967296 * e := by rw [Nat.mul_add, Nat.mul_assoc]
  have e6 : P * (lo + 4294967296 * hi) = P * lo + P * 4294967296 * hi := by rw [Nat.mul_add, Nat.mul_assoc]
  have e7 : P * (x * y + c) = P * (x * y) + P * c := by rw [Nat.mul_add]
  have e8 : P * (c + b) = P * c + P * b := by rw [Nat.mul_add]
  have e9 : P * 4294967296 * (hi + e) = P * 4294967296 * hi + P * 4294967296 * e := by rw [Nat.mul_add]
  rw [e3, e9]
  generalize P * 4294967296 * hi = z1 at *
  generalize P * 4294967296 * e = z2 at *
  omega
theorem take_end {P V B A x c b m d e : Nat} (h : V + B * x = A + P * (c + b)) (h2 : d + c + b = m + 4294967296 * e) : V + P * d + B * x = A + P * m + P * 4294967296 * e := by
  have e1 : P * (d + c + b) = P * (m + 4294967296 * e) := by rw [h2]
  have e4 : P * (d + c + b) = P * d + P * c + P * b := by rw [Nat.mul_add, Nat.mul_add]
  have e5 : P * (m + 4294967296 * e) = P * m + P * 4294967296 * e := by rw [Nat.mul_add, Nat.mul_assoc]
  have e8 : P * (c + b) = P * c + P * b := by rw [Nat.mul_add]
  generalize P * 4294967296 * e = z2 at *
  omega
/-- A row with a part of it written anew. -/
theorem mid_cell (L1 L2 L3 : List Int) (k : Nat) (h : k = L1.length) (z : Int) : (L1 ++ z :: L3).getD k 0 = z := by subst h; simp [List.getD]
theorem mid_set (L1 L3 : List Int) (k : Nat) (h : k = L1.length) (z d : Int) : (L1 ++ z :: L3).set k d = L1 ++ d :: L3 := by
  subst h; rw [List.set_append_right _ _ (Nat.le_refl _), Nat.sub_self, List.set_cons_zero]

/-- What takeTimes leaves of the window: A the window, Y the divisor, x how often. -/
def TookF (x c : Nat) (U A Y : List Int) : Prop := val U + val Y * x = val A + 4294967296 ^ A.length * c
def TookP (x k c b : Nat) (U A Y : List Int) : Prop := val U + val (Y.take k) * x = val (A.take k) + 4294967296 ^ k * (c + b)

set_option maxHeartbeats 2000000 in
set_option maxRecDepth 100000 in
theorem takeTimes_any (B g N off c0 : Nat) (Lo A Hi : List Int) (u : Value) (Y : List Int) (x : Nat) (w : World) (hO : Own w B (.slice (some ⟨g, 0, none⟩) N N) (Lo ++ (A ++ Hi))) (hoff : Lo.length = off) (hA : A.length = Y.length + 1) (hy : Rd w u Y) (hyb : ∀ W : World, w.grownBy W (some g) → Rd W u Y) (hx : x < 4294967296) (hN : N ≤ 1048576) :
    Calls Try.prog 87 #[.slice (some ⟨g, off, none⟩) (Y.length + 1) c0, u, .int .u32 (x : Int)] w fun e w' => ∃ (U : List Int) (c : Nat), e = .returned (.bool (decide (c = 0))) ∧ c ≤ 1 ∧ U.length = A.length ∧ Own w' B (.slice (some ⟨g, 0, none⟩) N N) (Lo ++ (U ++ Hi)) ∧ TookF x c U A Y ∧ w.grownBy w' (some g) := by
  have hNl := hO.len
  have hlen : off + (A.length + Hi.length) = N := by rw [hNl]; simp [hoff]
  have hzA : Limbs A := fun z hz => hO.2.2 z (by simp [hz])
  have hy0 := hy
  obtain ⟨a', cap', rfl, _, hzy, hny, hcy⟩ := hy
  clear hny
  have hyl : Y.length ≤ 1048576 := by omega
  have hAl : ((A.length : Nat) : Int) = (Y.length : Int) + 1 := by omega
  go_enter Try.func87, Try.ntmps87
  go_wp2
  go_loopw [7, 8, 16] (fun s7 s8 i wr => ∃ (k c b : Nat) (U : List Int), k ≤ Y.length ∧ i = .int .i64 k ∧ s7 = .int .u32 (c : Int) ∧ s8 = .int .u32 (b : Int) ∧ c < 4294967296 ∧ b ≤ 1 ∧ U.length = k ∧ Own wr B (.slice (some ⟨g, 0, none⟩) N N) (Lo ++ (U ++ (A.drop k ++ Hi))) ∧ TookP x k c b U A Y ∧ w.grownBy wr (some g)) (fun _ _ i _ => Y.length - (intOf i).toNat)
  case atStart => exact ⟨0, 0, 0, [], Nat.zero_le _, rfl, rfl, rfl, by omega, by omega, rfl, by simpa using hO, by simp [TookP, val], World.grownBy.refl _ _⟩
  case round =>
    obtain ⟨k, c, b, U, hk, rfl, rfl, rfl, hc, hb, hUl, oU, hV, hg⟩ := hrel
    clear hO
    have hdr : k < A.length := by omega
    have hda := List.drop_eq_getElem_cons hdr
    have hAk : A.getD k 0 = A[k] := by simp [List.getD, hdr]
    rw [hda, ← hAk] at oU
    have hmb := hzA.get k
    have hSa := val_take_succ A k
    obtain ⟨m, hm⟩ : ∃ m : Nat, A.getD k 0 = (m : Int) := ⟨(A.getD k 0).toNat, by omega⟩
    rw [hm] at oU hmb hSa
    rw [Int.toNat_natCast] at hSa
    have eL : Lo ++ (U ++ ((m : Int) :: A.drop (k + 1) ++ Hi)) = (Lo ++ U) ++ (m : Int) :: (A.drop (k + 1) ++ Hi) := by simp
    rw [eL] at oU
    have hpl : off + k = (Lo ++ U).length := by simp [hoff, hUl]
    have hce := oU.cell (off + k) (by rw [List.length_append, ← hpl]; simp)
    rw [mid_cell _ [] _ _ hpl] at hce
    have hfz := oU.frozen (off + k)
    clear hda hAk hm eL
    have hst : ∀ D : Nat, D < 4294967296 → Own (wr.setCell ⟨g, off + k, none⟩ (.int .u32 (D : Int))) B (.slice (some ⟨g, 0, none⟩) N N) (Lo ++ ((U ++ [(D : Int)]) ++ (A.drop (k + 1) ++ Hi))) := fun D hD => by
      have := oU.store (off + k) (z := (D : Int)) (by omega) (by omega)
      rw [mid_set _ _ _ hpl] at this
      simpa using this
    have HST : Hid _ := hst
    clear hst oU hpl hlen hNl
    have hkA : (k : Int) < (Y.length : Int) + 1 := by omega
    by_cases hlt : k < Y.length
    · obtain ⟨a2, cap2, hv2, -, -, -, hc2⟩ := hyb wr hg
      simp only [Value.slice.injEq] at hv2
      obtain ⟨rfl, -, rfl⟩ := hv2
      obtain ⟨b', off', rfl, hb', hcell'⟩ := hc2 (by omega)
      have hcy' := hcell' k hlt
      have hyk := hzy.get k
      have hSy := val_take_succ Y k
      obtain ⟨y, hye⟩ : ∃ y : Nat, Y.getD k 0 = (y : Int) := ⟨(Y.getD k 0).toNat, by omega⟩
      rw [hye] at hcy' hyk hSy
      rw [Int.toNat_natCast] at hSy
      have hta := fun W => timesAdd_any (x : Int) (y : Int) (c : Int) 0 W (by omega) (by omega) (by omega) (by omega)
      obtain ⟨lo, hlo⟩ : ∃ lo : Nat, lo = (x * y + c) % 4294967296 := ⟨_, rfl⟩
      obtain ⟨hi, hhi⟩ : ∃ hi : Nat, hi = (x * y + c) / 4294967296 := ⟨_, rfl⟩
      have e1 : ((x : Int) * (y : Int) + (c : Int) + 0) % 4294967296 = (lo : Int) := by rw [hlo]; rw [← Int.natCast_mul]; omega
      have e2 : ((x : Int) * (y : Int) + (c : Int) + 0) / 4294967296 = (hi : Int) := by rw [hhi]; rw [← Int.natCast_mul]; omega
      rw [e1, e2] at hta
      have hlh : lo + 4294967296 * hi = x * y + c := by omega
      have hxy : x * y ≤ 4294967295 * 4294967295 := Nat.mul_le_mul (by omega) (by omega)
      have hhil : hi < 4294967296 := by omega
      have hlol : lo < 4294967296 := by omega
      have hsb := fun W => sub32_any (m : Int) (lo : Int) (b : Int) W (by omega) (by omega) (by omega)
      obtain ⟨D, hD⟩ : ∃ D : Nat, (D : Int) = ((m : Int) - (lo : Int) - (b : Int)) % 4294967296 := ⟨(((m : Int) - (lo : Int) - (b : Int)) % 4294967296).toNat, by omega⟩
      obtain ⟨E, hE⟩ : ∃ E : Nat, (E : Int) = if (m : Int) < (lo : Int) + (b : Int) then 1 else 0 := ⟨if (m : Int) < (lo : Int) + (b : Int) then 1 else 0, by split <;> rfl⟩
      rw [← hD, ← hE] at hsb
      have hE1 : E ≤ 1 := by split at hE <;> omega
      have hD1 : D < 4294967296 := by omega
      have hde : D + lo + b = m + 4294967296 * E := by split at hE <;> omega
      have HV : TookP x (k + 1) hi E (U ++ [(D : Int)]) A Y := by
        have hV' : val U + val (Y.take k) * x = val (A.take k) + 4294967296 ^ k * (c + b) := hV
        have := take_step hV' hlh hde
        show _ = _
        rw [hSa, hSy, val_append, hUl, Nat.pow_succ, ← this]; simp [val]
      clear hV hSa hSy hlo hhi e1 e2 hlh hxy hD hE hde hye hyb hy0 hcell' hc2 hcy
      go_wp2_with (first | (go_at_call 62; refine (hta _).mono ?_; rintro e w2 ⟨rfl, rfl⟩) | (go_at_call 71; refine (hsb _).mono ?_; rintro e w2 ⟨rfl, rfl⟩))
      go_roundw
      case rel => exact ⟨k + 1, hi, E, U ++ [(D : Int)], by omega, by go_num, rfl, rfl, hhil, hE1, by simp [hUl], HST.out D hD1, HV, gb_trans hg (gb_set _ _ _ _)⟩
      case measure => simp [intOf]; omega
    · have hk' : k = Y.length := by omega
      subst hk'
      have hsb := fun W => sub32_any (m : Int) (c : Int) (b : Int) W (by omega) (by omega) (by omega)
      obtain ⟨D, hD⟩ : ∃ D : Nat, (D : Int) = ((m : Int) - (c : Int) - (b : Int)) % 4294967296 := ⟨(((m : Int) - (c : Int) - (b : Int)) % 4294967296).toNat, by omega⟩
      obtain ⟨E, hE⟩ : ∃ E : Nat, (E : Int) = if (m : Int) < (c : Int) + (b : Int) then 1 else 0 := ⟨if (m : Int) < (c : Int) + (b : Int) then 1 else 0, by split <;> rfl⟩
      rw [← hD, ← hE] at hsb
      have hE1 : E ≤ 1 := by split at hE <;> omega
      have hD1 : D < 4294967296 := by omega
      have hde : D + c + b = m + 4294967296 * E := by split at hE <;> omega
      have HV : TookF x E (U ++ [(D : Int)]) A Y := by
        have hV' : val U + val (Y.take Y.length) * x = val (A.take Y.length) + 4294967296 ^ Y.length * (c + b) := hV
        have := take_end hV' hde
        rw [List.take_length] at this
        rw [List.take_of_length_le (by omega)] at hSa
        show _ = _
        rw [hA, hSa, val_append, hUl, Nat.pow_succ, ← this]; simp [val]
      have hOf := HST.out D hD1
      rw [List.drop_of_length_le (by omega), List.nil_append] at hOf
      have hlU : (U ++ [(D : Int)]).length = A.length := by simp; omega
      clear hV hSa hD hE hde hyb hy0 hcy HST
      rcases (by omega : E = 0 ∨ E = 1) with rfl | rfl
      · go_wp2_with (go_at_call 71; refine (hsb _).mono ?_; rintro e w2 ⟨rfl, rfl⟩)
        go_ret
        exact ⟨U ++ [(D : Int)], 0, rfl, by omega, hlU, hOf, HV, gb_trans hg (gb_set _ _ _ _)⟩
      · go_wp2_with (go_at_call 71; refine (hsb _).mono ?_; rintro e w2 ⟨rfl, rfl⟩)
        go_ret
        exact ⟨U ++ [(D : Int)], 1, rfl, by omega, hlU, hOf, HV, gb_trans hg (gb_set _ _ _ _)⟩
end Go.Proofs.Ythgpacajeaphhaa

namespace Go.Proofs.Ythgpacajeaphhaa
open Go.RowKit
set_option linter.unusedVariables false
set_option linter.unusedSimpArgs false

theorem give_step {P V A B c x y d e : Nat} (h : V + P * c = A + B) (hd : d + 4294967296 * e = x + y + c) : V + P * d + P * 4294967296 * e = A + P * x + (B + P * y) := by
  have e1 : P * (d + 4294967296 * e) = P * (x + y + c) := by rw [hd]
  have e2 : P * (d + 4294967296 * e) = P * d + P * 4294967296 * e := by rw [Nat.mul_add, Nat.mul_assoc]
  have e3 : P * (x + y + c) = P * x + P * y + P * c := by rw [Nat.mul_add, Nat.mul_add]
  generalize P * 4294967296 * e = z2 at *
  omega
def GaveP (k c : Nat) (U A Y : List Int) : Prop := val U + 4294967296 ^ k * c = val (A.take k) + val (Y.take k)
def GaveF (c : Nat) (U A Y : List Int) : Prop := val U + 4294967296 ^ A.length * c = val A + val Y

set_option maxHeartbeats 2000000 in
set_option maxRecDepth 100000 in
theorem giveBack_any (B g N off c0 : Nat) (Lo A Hi : List Int) (u : Value) (Y : List Int) (w : World) (hO : Own w B (.slice (some ⟨g, 0, none⟩) N N) (Lo ++ (A ++ Hi))) (hoff : Lo.length = off) (hA : A.length = Y.length + 1) (hyb : ∀ W : World, w.grownBy W (some g) → Rd W u Y) (hN : N ≤ 1048576) :
    Calls Try.prog 88 #[.slice (some ⟨g, off, none⟩) (Y.length + 1) c0, u] w fun e w' => e = .returned (.tuple #[]) ∧ ∃ (U : List Int) (c : Nat), U.length = A.length ∧ Own w' B (.slice (some ⟨g, 0, none⟩) N N) (Lo ++ (U ++ Hi)) ∧ GaveF c U A Y ∧ w.grownBy w' (some g) := by
  have hNl := hO.len
  have hlen : off + (A.length + Hi.length) = N := by rw [hNl]; simp [hoff]
  have hzA : Limbs A := fun z hz => hO.2.2 z (by simp [hz])
  have hzy : Limbs Y := (hyb w (World.grownBy.refl _ _)).choose_spec.choose_spec.2.2.1
  have hyl : Y.length ≤ 1048576 := by omega
  obtain ⟨n1, hn1⟩ : ∃ n1, n1 = Y.length + 1 := ⟨_, rfl⟩
  rw [← hn1] at hA ⊢
  have hn1l : n1 ≤ 1048577 := by omega
  go_enter Try.func88, Try.ntmps88
  clear hNl
  have HA : Hid (A.length = n1) := hA
  have HN1 : Hid (n1 = Y.length + 1) := hn1
  clear hA hn1
  go_wp2
  go_loopw [4, 8] (fun s4 i wr => ∃ (k c : Nat) (U : List Int), k ≤ n1 ∧ i = .int .i64 k ∧ s4 = .int .u32 (c : Int) ∧ c ≤ 1 ∧ U.length = k ∧ Own wr B (.slice (some ⟨g, 0, none⟩) N N) (Lo ++ (U ++ (A.drop k ++ Hi))) ∧ GaveP k c U A Y ∧ w.grownBy wr (some g)) (fun _ i _ => n1 - (intOf i).toNat)
  case atStart => exact ⟨0, 0, [], Nat.zero_le _, rfl, rfl, by omega, rfl, by simpa using hO, by simp [GaveP, val], World.grownBy.refl _ _⟩
  case round =>
    obtain ⟨k, c, U, hk, rfl, rfl, hc, hUl, oU, hV, hg⟩ := hrel
    clear hO
    have hAe := HA.out
    by_cases hlt : k < n1
    · have hdr : k < A.length := by omega
      have hda := List.drop_eq_getElem_cons hdr
      have hAk : A.getD k 0 = A[k] := by simp [List.getD, hdr]
      rw [hda, ← hAk] at oU
      have hmb := hzA.get k
      have hSa := val_take_succ A k
      have hSy := val_take_succ Y k
      have hyk := hzy.get k
      have hay := fun W h => at_any u Y k W h (by have := HN1.out; omega)
      obtain ⟨m, hm⟩ : ∃ m : Nat, A.getD k 0 = (m : Int) := ⟨(A.getD k 0).toNat, by omega⟩
      obtain ⟨y, hy⟩ : ∃ y : Nat, Y.getD k 0 = (y : Int) := ⟨(Y.getD k 0).toNat, by omega⟩
      rw [hm] at oU hmb hSa
      rw [hy] at hSy hyk hay
      rw [Int.toNat_natCast] at hSa hSy
      have eL : Lo ++ (U ++ ((m : Int) :: A.drop (k + 1) ++ Hi)) = (Lo ++ U) ++ (m : Int) :: (A.drop (k + 1) ++ Hi) := by simp
      rw [eL] at oU
      have hpl : off + k = (Lo ++ U).length := by simp [hoff, hUl]
      have hce := oU.cell (off + k) (by rw [List.length_append, ← hpl]; simp)
      rw [mid_cell _ [] _ _ hpl] at hce
      have hfz := oU.frozen (off + k)
      have hadd := fun W => add32_any (m : Int) (y : Int) (c : Int) W (by omega) (by omega) (by omega)
      obtain ⟨D, hD⟩ : ∃ D : Nat, (D : Int) = ((m : Int) + (y : Int) + (c : Int)) % 4294967296 := ⟨(((m : Int) + (y : Int) + (c : Int)) % 4294967296).toNat, by omega⟩
      obtain ⟨E, hE⟩ : ∃ E : Nat, (E : Int) = ((m : Int) + (y : Int) + (c : Int)) / 4294967296 := ⟨(((m : Int) + (y : Int) + (c : Int)) / 4294967296).toNat, by omega⟩
      rw [← hD, ← hE] at hadd
      have hE1 : E ≤ 1 := by omega
      have hD1 : D < 4294967296 := by omega
      have HV : GaveP (k + 1) E (U ++ [(D : Int)]) A Y := by
        have hV' : val U + 4294967296 ^ k * c = val (A.take k) + val (Y.take k) := hV
        have := give_step (d := D) (e := E) hV' (by omega : D + 4294967296 * E = m + y + c)
        show _ = _
        rw [hSa, hSy, val_append, hUl, Nat.pow_succ, ← this]; simp [val]
      have hst : Own (wr.setCell ⟨g, off + k, none⟩ (.int .u32 (D : Int))) B (.slice (some ⟨g, 0, none⟩) N N) (Lo ++ ((U ++ [(D : Int)]) ++ (A.drop (k + 1) ++ Hi))) := by
        have := oU.store (off + k) (z := (D : Int)) (by omega) (by omega)
        rw [mid_set _ _ _ hpl] at this
        simpa using this
      have HST : Hid _ := hst
      have hry := (hyb wr hg).drew
      have hk1 : (k : Int) < (n1 : Int) := by omega
      clear hV hSa hSy hda hAk hm hy eL hpl hlen hst oU hD hE hAe hyb
      go_upto_region 4 with fail
      go_region_with (first | (go_at_call 70; refine (hay _ hry).mono ?_; rintro e w2 ⟨rfl, rfl⟩) | (go_at_call 69; refine (hadd _).mono ?_; rintro e w2 ⟨rfl, rfl⟩))
      all_goals go_wp2
      all_goals go_roundw
      all_goals first | exact ⟨k + 1, E, U ++ [(D : Int)], by omega, by go_num, rfl, hE1, by simp [hUl], HST.out, HV, gb_trans hg (gb_set _ _ _ _)⟩ | exact ⟨k + 1, E, U ++ [(D : Int)], by omega, by go_num, rfl, hE1, by simp [hUl], Own.drew HST.out, HV, gb_trans hg (gb_trans (gb_set _ _ _ _) (gb_below _ (Below.refl _ _).drew))⟩ | (simp [intOf]; omega)
    · have hk' : k = n1 := by omega
      subst hk'
      rw [List.drop_of_length_le (by omega), List.nil_append] at oU
      have HV : GaveF c U A Y := by
        have hV' : val U + 4294967296 ^ k * c = val (A.take k) + val (Y.take k) := hV
        have hn := HN1.out
        rw [List.take_of_length_le (by omega), List.take_of_length_le (by omega)] at hV'
        show _ = _
        rw [hAe]; exact hV'
      have hUA : U.length = A.length := by omega
      clear hV hyb hAe
      go_wp2
      go_end0
      exact ⟨rfl, U, c, hUA, oU, HV, hg⟩
end Go.Proofs.Ythgpacajeaphhaa

namespace Go.Proofs.Ythgpacajeaphhaa
open Go.RowKit
set_option linter.unusedVariables false
set_option linter.unusedSimpArgs false

/-- What the guess is: the greatest limb that is not too much. -/
def GuessF (Q T O : Nat) : Prop := Q < 4294967296 ∧ Q * O ≤ T ∧ ∀ t, t < 4294967296 → t * O ≤ T → t ≤ Q
/-- What the loop keeps: g the guess, r the rest. -/
def GuessL (T h m0 top next g r : Nat) : Prop := T = h * 4294967296 + m0 ∧ m0 < 4294967296 ∧ next < 4294967296 ∧ T < (top * 4294967296 + next + 1) * 4294967296 ∧ g * top + r = h ∧ ∀ t, t < 4294967296 → t * (top * 4294967296 + next) ≤ T → t ≤ g
theorem GuessL.done {T h m0 top next g r : Nat} (H : GuessL T h m0 top next g r) (hg : g < 4294967296) (hc : g * next ≤ r * 4294967296 + m0) : GuessF g T (top * 4294967296 + next) :=
  ⟨hg, guess_fits H.1 H.2.2.2.2.1 hc, H.2.2.2.2.2⟩
theorem GuessL.broke {T h m0 top next g r : Nat} (H : GuessL T h m0 top next g r) (hr : 4294967296 ≤ r) : GuessF g T (top * 4294967296 + next) := by
  obtain ⟨h1, h2⟩ := guess_broke H.1 H.2.2.2.2.1 hr H.2.2.1 H.2.2.2.1
  exact H.done h1 h2
theorem GuessL.step {T h m0 top next g r : Nat} (H : GuessL T h m0 top next g r) (hg : 1 ≤ g) (hc : ¬ g < 4294967296 ∨ r * 4294967296 + m0 < g * next) : GuessL T h m0 top next (g - 1) (r + top) := by
  obtain ⟨h1, h2, h3, h4, h5, h6⟩ := H
  refine ⟨h1, h2, h3, h4, ?_, fun t ht hq => ?_⟩
  · obtain ⟨k, rfl⟩ : ∃ k, g = k + 1 := ⟨g - 1, by omega⟩
    rw [Nat.add_sub_cancel]
    rw [Nat.succ_mul] at h5
    omega
  · have ha := h6 t ht hq
    have hb : t ≠ g := by
      rintro rfl
      rcases hc with hc | hc
      · exact hc ht
      · have := guess_over h1 h5 hc
        omega
    omega
def GuessP (g nx P : Nat) : Prop := g * nx = P
theorem belowN {B : Nat} {a w : World} (h : Below B a w) (n : Nat) : Below B a (w.drewN n) := h.trans ⟨rfl, rfl, rfl, Nat.le_refl _, fun _ _ => rfl⟩
set_option maxHeartbeats 2000000 in
set_option maxRecDepth 100000 in
theorem guess_any (v u : Value) (m0 m1 m2 nx tp : Nat) (w : World) (hx : Rd w v [(m0 : Int), (m1 : Int), (m2 : Int)]) (hy : Rd w u [(nx : Int), (tp : Int)]) (htp : 2147483648 ≤ tp) (hT : (m1 + 4294967296 * m2) * 4294967296 + m0 < (tp * 4294967296 + nx + 1) * 4294967296) :
    Calls Try.prog 86 #[v, u] w fun e w' => ∃ Q : Nat, e = .returned (.int .u32 (Q : Int)) ∧ GuessF Q ((m1 + 4294967296 * m2) * 4294967296 + m0) (tp * 4294967296 + nx) ∧ Below w.heap.size w w' := by
  obtain ⟨a, cap, rfl, _, hzx, hnx, hcx⟩ := hx
  obtain ⟨a', cap', rfl, _, hzy, hny, hcy⟩ := hy
  obtain ⟨b, off, rfl, hb, hcell⟩ := hcx (by simp)
  obtain ⟨b', off', rfl, hb', hcell'⟩ := hcy (by simp)
  have c0 := hcell 0 (by simp)
  have c1 := hcell 1 (by simp)
  have c2 := hcell 2 (by simp)
  have d0 := hcell' 0 (by simp)
  have d1 := hcell' 1 (by simp)
  simp at c0 c1 c2 d0 d1
  have hm0 : m0 < 4294967296 := by have := hzx (m0 : Int) (by simp); omega
  have hm1 : m1 < 4294967296 := by have := hzx (m1 : Int) (by simp); omega
  have hm2 : m2 < 4294967296 := by have := hzx (m2 : Int) (by simp); omega
  have hnx0 : nx < 4294967296 := by have := hzy (nx : Int) (by simp); omega
  have htp0 : tp < 4294967296 := by have := hzy (tp : Int) (by simp); omega
  clear hcell hcell' hcx hcy hnx hny hzx hzy
  obtain ⟨T, hTe⟩ : ∃ T, T = (m1 + 4294967296 * m2) * 4294967296 + m0 := ⟨_, rfl⟩
  obtain ⟨h, hh⟩ : ∃ h, h = m1 + 4294967296 * m2 := ⟨_, rfl⟩
  rw [← hTe] at hT ⊢
  rw [← hh] at hTe
  have hor := or_wide m1 m2 hm1 hm2
  rw [← hh] at hor
  have hhl : h < 18446744073709551616 := by omega
  have hdm := Nat.div_add_mod h tp
  have hml := Nat.mod_lt h (by omega : tp > 0)
  obtain ⟨g0, hg0⟩ : ∃ g0, g0 = h / tp := ⟨_, rfl⟩
  obtain ⟨r0, hr0⟩ : ∃ r0, r0 = h % tp := ⟨_, rfl⟩
  rw [← hg0, ← hr0] at hdm
  rw [← hr0] at hml
  have hg0l : g0 ≤ 8589934592 := by
    rw [hg0]
    refine Nat.le_of_lt_succ ((Nat.div_lt_iff_lt_mul (by omega)).mpr ?_)
    have : 8589934593 * 2147483648 ≤ (8589934592 + 1) * tp := Nat.mul_le_mul_left _ htp
    omega
  have HL : GuessL T h m0 tp nx g0 r0 := ⟨hTe, hm0, hnx0, hT, by rw [Nat.mul_comm]; exact hdm, fun t _ hq => by rw [hg0]; exact guess_first (by omega) hTe hm0 hq⟩
  have e1 : (h : Int) / (tp : Int) = (g0 : Int) := by rw [hg0, Int.natCast_ediv]
  have e2 : (h : Int).tmod (tp : Int) = (r0 : Int) := by rw [Int.tmod_eq_emod_of_nonneg (Int.natCast_nonneg _), hr0, Int.natCast_emod]
  have e3 : (h : Int).tdiv (tp : Int) = (g0 : Int) := by rw [Int.tdiv_eq_ediv_of_nonneg (Int.natCast_nonneg _), e1]
  have y0 : ((tp : Int) == 0) = false := beq_len0 (by omega)
  have y1 : ¬ (tp : Int) = 0 := by omega
  have y2 : ¬ tp = 0 := by omega
  have x1 : IntKind.u64.wrap (m1 : Int) = (m1 : Int) := by rw [IntKind.wrap_u64]; omega
  have x2 : IntKind.u64.wrap (m2 : Int) = (m2 : Int) := by rw [IntKind.wrap_u64]; omega
  have x3 : IntKind.u64.wrap (nx : Int) = (nx : Int) := by rw [IntKind.wrap_u64]; omega
  have x4 : IntKind.u64.wrap (tp : Int) = (tp : Int) := by rw [IntKind.wrap_u64]; omega
  have x5 : IntKind.u64.wrap ((m2 : Int) * 4294967296) = (m2 : Int) * 4294967296 := by rw [IntKind.wrap_u64]; omega
  have x6 : IntKind.u64.wrap (g0 : Int) = (g0 : Int) := by rw [IntKind.wrap_u64]; omega
  have x7 : IntKind.u64.wrap (r0 : Int) = (r0 : Int) := by rw [IntKind.wrap_u64]; omega
  have x8 : IntKind.u64.wrap (m0 : Int) = (m0 : Int) := by rw [IntKind.wrap_u64]; omega
  clear hdm hT hTe hh hg0 hr0
  go_enter Try.func86, Try.ntmps86
  go_wp2_with fail
  go_quiet (fail)
  go_wp2_with fail
  go_quiet (fail)
  go_wp2_with fail
  go_quiet (fail)
  go_wp2
  go_loopw [8, 9] (fun s8 s9 wr => ∃ g r : Nat, s8 = .int .u64 (g : Int) ∧ s9 = .int .u64 (r : Int) ∧ GuessL T h m0 tp nx g r ∧ g ≤ 8589934592 ∧ r < 4294967296 ∧ Below w.heap.size w wr) (fun s8 _ _ => (intOf s8).toNat)
  case atStart => exact ⟨g0, r0, rfl, rfl, HL, hg0l, by omega, belowN (belowN (belowN (Below.refl _ _) _) _) _⟩
  case round =>
    clear HL e1 e2 e3 x1 x2 x5 x6 x7 hor hml hg0l y0 y1 y2
    obtain ⟨g, r, rfl, rfl, HL, hgl, hrl, hWr⟩ := hrel
    have k0 : wr.cell? ⟨b, off, none⟩ = some (.int .u32 (m0 : Int)) := (hWr.cell (p := ⟨b, off, none⟩) hb).trans c0
    have x9 : IntKind.u64.wrap ((r : Int) * 4294967296) = (r : Int) * 4294967296 := by rw [IntKind.wrap_u64]; omega
    have hor := or_wide m0 r hm0 hrl
    by_cases hA : 4294967296 ≤ g
    · have hA' : (4294967295 : Int) < (g : Int) := by omega
      have hAd : decide ((4294967295 : Int) < (g : Int)) = true := decide_eq_true hA'
      have HN := HL.step (by omega) (.inl (by omega))
      have hgm : (g : Int) - 1 = ((g - 1 : Nat) : Int) := by omega
      have hwg : IntKind.u64.wrap ((g : Int) - 1) = ((g - 1 : Nat) : Int) := by rw [IntKind.wrap_u64]; omega
      have hwr : IntKind.u64.wrap ((r : Int) + (tp : Int)) = ((r + tp : Nat) : Int) := by rw [IntKind.wrap_u64]; omega
      obtain ⟨g1, hg1e⟩ : ∃ g1, g1 = g - 1 := ⟨_, rfl⟩
      obtain ⟨r1, hr1⟩ : ∃ r1, r1 = r + tp := ⟨_, rfl⟩
      rw [← hg1e] at HN hgm hwg
      rw [← hr1] at HN hwr
      have hg1l : g1 ≤ 8589934592 ∧ g1 < g := by omega
      have hr1l : r1 < 8589934592 := by omega
      clear hg1e hr1 HL
      by_cases hbr : 4294967296 ≤ r1
      · have hbr' : (4294967295 : Int) < (r1 : Int) := by omega
        have HF := HN.broke hbr
        have hq : g1 < 4294967296 := HF.1
        have hwq : IntKind.u32.wrap (g1 : Int) = (g1 : Int) := by simp [IntKind.wrap, IntKind.bits, IntKind.signed]; omega
        clear HN
        go_wp2
        go_ret
        exact ⟨g1, rfl, HF, hWr⟩
      · have hbr' : ¬ (4294967295 : Int) < (r1 : Int) := by omega
        go_wp2
        go_roundw
        case rel => exact ⟨g1, r1, rfl, rfl, HN, hg1l.1, by omega, hWr⟩
        case measure => simp [intOf]; omega
    · have hA' : ¬ (4294967295 : Int) < (g : Int) := by omega
      have hAd : decide ((4294967295 : Int) < (g : Int)) = false := decide_eq_false hA'
      have hpl : g * nx < 18446744073709551616 := Nat.lt_of_lt_of_le (Nat.mul_lt_mul'' (by omega : g < 4294967296) hnx0) (by decide)
      have hpw : IntKind.u64.wrap ((g : Int) * (nx : Int)) = ((g * nx : Nat) : Int) := by rw [IntKind.wrap_u64, ← Int.natCast_mul]; omega
      have HP : GuessP g nx (g * nx) := rfl
      generalize g * nx = P at hpl hpw HP
      obtain ⟨Z, hZ⟩ : ∃ Z, Z = m0 + 4294967296 * r := ⟨_, rfl⟩
      rw [← hZ] at hor
      by_cases hB : Z < P
      · have hB' : (Z : Int) < (P : Int) := by omega
        have hg1 : 1 ≤ g := by
          rcases Nat.eq_zero_or_pos g with h0 | h0
          · have : g * nx = P := HP
            rw [h0, Nat.zero_mul] at this; omega
          · exact h0
        have hcc : r * 4294967296 + m0 < g * nx := by rw [show g * nx = P from HP]; omega
        have HN := HL.step hg1 (.inr hcc)
        have hgm : (g : Int) - 1 = ((g - 1 : Nat) : Int) := by omega
        have hwg : IntKind.u64.wrap ((g : Int) - 1) = ((g - 1 : Nat) : Int) := by rw [IntKind.wrap_u64]; omega
        have hwr : IntKind.u64.wrap ((r : Int) + (tp : Int)) = ((r + tp : Nat) : Int) := by rw [IntKind.wrap_u64]; omega
        obtain ⟨g1, hg1e⟩ : ∃ g1, g1 = g - 1 := ⟨_, rfl⟩
        obtain ⟨r1, hr1⟩ : ∃ r1, r1 = r + tp := ⟨_, rfl⟩
        rw [← hg1e] at HN hgm hwg
        rw [← hr1] at HN hwr
        have hg1l : g1 ≤ 8589934592 ∧ g1 < g := by omega
        have hr1l : r1 < 8589934592 := by omega
        clear hg1e hr1 HL hcc HP hZ
        by_cases hbr : 4294967296 ≤ r1
        · have hbr' : (4294967295 : Int) < (r1 : Int) := by omega
          have HF := HN.broke hbr
          have hq : g1 < 4294967296 := HF.1
          have hwq : IntKind.u32.wrap (g1 : Int) = (g1 : Int) := by simp [IntKind.wrap, IntKind.bits, IntKind.signed]; omega
          clear HN
          go_wp2
          go_ret
          exact ⟨g1, rfl, HF, hWr⟩
        · have hbr' : ¬ (4294967295 : Int) < (r1 : Int) := by omega
          go_wp2
          go_roundw
          case rel => exact ⟨g1, r1, rfl, rfl, HN, hg1l.1, by omega, hWr⟩
          case measure => simp [intOf]; omega
      · have hB' : ¬ (Z : Int) < (P : Int) := by omega
        have HF := HL.done (by omega) (by rw [show g * nx = P from HP]; omega)
        have hwq : IntKind.u32.wrap (g : Int) = (g : Int) := by simp [IntKind.wrap, IntKind.bits, IntKind.signed]; omega
        clear HL HP hZ
        go_wp2
        go_ret
        exact ⟨g, rfl, HF, hWr⟩
end Go.Proofs.Ythgpacajeaphhaa

namespace Go.Proofs.Ythgpacajeaphhaa
open Go.RowKit
set_option linter.unusedVariables false
set_option linter.unusedSimpArgs false

/-- A part of what reads as limbs. -/
theorem Rd.tail {w : World} {b off n cap : Nat} {zs : List Int} (h : Rd w (.slice (some ⟨b, off, none⟩) n cap) zs) (k : Nat) (hk : k ≤ zs.length) (c : Nat) (hc : zs.length - k ≤ c) : Rd w (.slice (some ⟨b, off + k, none⟩) (zs.drop k).length c) (zs.drop k) := by
  obtain ⟨a', cap', hv, hl, hz, hn, hcell⟩ := h
  simp at hv
  obtain ⟨rfl, rfl, rfl⟩ := hv
  refine ⟨_, c, rfl, by simp; omega, hz.drop k, ⟨by simpa using hc, fun h => by cases h⟩, fun h0 => ?_⟩
  obtain ⟨b', off', he, hb, hce⟩ := hcell (by simp at h0; omega)
  simp at he
  obtain ⟨rfl, rfl⟩ := he
  refine ⟨b, off + k, rfl, hb, fun j hj => ?_⟩
  simp at hj
  have := hce (k + j) (by omega)
  rw [Nat.add_assoc, this]
  simp [List.getD, List.getElem?_drop]
/-- A window of a row. -/
theorem Own.win {w : World} {B g N : Nat} {Lo A Hi : List Int} (h : Own w B (.slice (some ⟨g, 0, none⟩) N N) (Lo ++ (A ++ Hi))) (c : Nat) (hc : A.length ≤ c) : Rd w (.slice (some ⟨g, Lo.length, none⟩) A.length c) A := by
  have hN := h.len
  have hr := h.rd
  obtain ⟨a', cap', hv, hl, hz, hn, hcell⟩ := hr
  simp only [Value.slice.injEq] at hv
  obtain ⟨rfl, _, rfl⟩ := hv
  refine ⟨_, c, rfl, by simp at hl; omega, fun z hz' => hz z (by simp [hz']), ⟨hc, fun h => by cases h⟩, fun h0 => ?_⟩
  obtain ⟨b', off', he, hb, hce⟩ := hcell (by simp; omega)
  simp at he
  obtain ⟨rfl, rfl⟩ := he
  refine ⟨_, _, rfl, hb, fun j hj => ?_⟩
  have := hce (Lo.length + j) (by simp; omega)
  rw [Nat.zero_add] at this
  rw [this]
  simp [List.getD, List.getElem?_append_right, List.getElem?_append_left hj]

theorem take_two (Y : List Int) (hz : Limbs Y) (n : Nat) (hn : Y.length = n + 2) : ∃ nx tp : Nat, Y.drop n = [(nx : Int), (tp : Int)] ∧ val Y = val (Y.take n) + 4294967296 ^ n * (tp * 4294967296 + nx) := by
  have h0 := hz.get n
  have h1 := hz.get (n + 1)
  have e : Y.drop n = [Y.getD n 0, Y.getD (n + 1) 0] := by
    rw [List.drop_eq_getElem_cons (by omega), List.drop_eq_getElem_cons (by omega : n + 1 < Y.length), List.drop_of_length_le (by omega)]
    simp [List.getD, (by omega : n < Y.length), (by omega : n + 1 < Y.length)]
  refine ⟨(Y.getD n 0).toNat, (Y.getD (n + 1) 0).toNat, ?_, ?_⟩
  · rw [e]; congr 1; · omega
    congr 1; omega
  · have := val_append (Y.take n) (Y.drop n)
    rw [List.take_append_drop, List.length_take, Nat.min_eq_left (by omega), e] at this
    rw [this]; simp only [val]; rw [Nat.mul_comm (Y.getD (n + 1) 0).toNat, Nat.mul_zero, Nat.add_zero, Nat.add_comm (4294967296 * _)]
theorem take_three (A : List Int) (hz : Limbs A) (n : Nat) (hn : A.length = n + 3) : ∃ m0 m1 m2 : Nat, A.drop n = [(m0 : Int), (m1 : Int), (m2 : Int)] ∧ val A = val (A.take n) + 4294967296 ^ n * ((m1 + 4294967296 * m2) * 4294967296 + m0) := by
  have h0 := hz.get n
  have h1 := hz.get (n + 1)
  have h2 := hz.get (n + 2)
  have e : A.drop n = [A.getD n 0, A.getD (n + 1) 0, A.getD (n + 2) 0] := by
    rw [List.drop_eq_getElem_cons (by omega), List.drop_eq_getElem_cons (by omega : n + 1 < A.length), List.drop_eq_getElem_cons (by omega : n + 1 + 1 < A.length), List.drop_of_length_le (by omega)]
    simp [List.getD, (by omega : n < A.length), (by omega : n + 1 < A.length), (by omega : n + 2 < A.length)]
  refine ⟨(A.getD n 0).toNat, (A.getD (n + 1) 0).toNat, (A.getD (n + 2) 0).toNat, ?_, ?_⟩
  · rw [e]; congr 1; · omega
    congr 1; · omega
    congr 1; omega
  · have := val_append (A.take n) (A.drop n)
    rw [List.take_append_drop, List.length_take, Nat.min_eq_left (by omega), e] at this
    rw [this]; simp only [val]
    congr 2; omega
end Go.Proofs.Ythgpacajeaphhaa

namespace Go.Proofs.Ythgpacajeaphhaa
open Go.RowKit
set_option linter.unusedVariables false
set_option linter.unusedSimpArgs false

/-- What the walk need not see: A the window, Y the divisor. -/
def MostF (nn : Nat) (A Y : List Int) : Prop := A.length = nn + 3 ∧ Y.length = nn + 2 ∧ Limbs A ∧ Limbs Y ∧ 2147483648 * 4294967296 ^ (nn + 1) ≤ val Y ∧ val A < val Y * 4294967296
/-- Behind the guess: it is the quotient or one more. -/
def NearF (Q : Nat) (A Y : List Int) : Prop := Q < 4294967296 ∧ val A / val Y ≤ Q ∧ Q ≤ val A / val Y + 1
theorem most_near {nn m0 m1 m2 nx tp Q : Nat} {A Y : List Int} (H : MostF nn A Y) (h1 : val A = val (A.take nn) + 4294967296 ^ nn * ((m1 + 4294967296 * m2) * 4294967296 + m0)) (h2 : val Y = val (Y.take nn) + 4294967296 ^ nn * (tp * 4294967296 + nx)) (hQ : GuessF Q ((m1 + 4294967296 * m2) * 4294967296 + m0) (tp * 4294967296 + nx)) : NearF Q A Y := by
  obtain ⟨hA, hY, hzA, hzY, htop, hlt⟩ := H
  have l1 := val_lt (hzA.take nn)
  have l2 := val_lt (hzY.take nn)
  rw [List.length_take, Nat.min_eq_left (by omega)] at l1 l2
  have hoP : 4294967296 ^ nn * 4294967296 ≤ val Y := by
    rw [Nat.pow_succ] at htop
    have : 1 * (4294967296 ^ nn * 4294967296) ≤ 2147483648 * (4294967296 ^ nn * 4294967296) := Nat.mul_le_mul_right _ (by decide)
    omega
  exact ⟨hQ.1, guess_near h1 l1 h2 l2 hoP hQ.1 hQ.2.1 hQ.2.2 hlt⟩
theorem most_guess {nn m0 m1 m2 nx tp : Nat} {A Y : List Int} (H : MostF nn A Y) (h1 : val A = val (A.take nn) + 4294967296 ^ nn * ((m1 + 4294967296 * m2) * 4294967296 + m0)) (h2 : val Y = val (Y.take nn) + 4294967296 ^ nn * (tp * 4294967296 + nx)) (hnx : nx < 4294967296) : 2147483648 ≤ tp ∧ (m1 + 4294967296 * m2) * 4294967296 + m0 < (tp * 4294967296 + nx + 1) * 4294967296 := by
  obtain ⟨hA, hY, hzA, hzY, htop, hlt⟩ := H
  have l2 := val_lt (hzY.take nn)
  rw [List.length_take, Nat.min_eq_left (by omega)] at l2
  have hP : 0 < 4294967296 ^ nn := Nat.pow_pos (by decide)
  rw [Nat.pow_succ] at htop
  generalize 4294967296 ^ nn = P at *
  generalize val (Y.take nn) = y' at *
  generalize val (A.take nn) = a' at *
  have hup : val Y < P * (tp * 4294967296 + nx + 1) := by rw [Nat.mul_add P _ 1, Nat.mul_one]; omega
  generalize val Y = y at *
  generalize val A = aa at *
  have e0 : ∀ z : Nat, z = P * (tp * 4294967296 + nx + 1) → y < z := fun z h => by rw [h]; exact hup
  constructor
  · rcases Nat.lt_or_ge tp 2147483648 with h | h
    · exfalso
      have e2 : P * (tp * 4294967296 + nx + 1) ≤ P * 9223372036854775808 := Nat.mul_le_mul_left _ (by omega)
      have e3 := e0 _ rfl
      generalize P * (tp * 4294967296 + nx + 1) = z at e2 e3
      clear e0 hup h2
      omega
    · exact h
  · rcases Nat.lt_or_ge ((m1 + 4294967296 * m2) * 4294967296 + m0) ((tp * 4294967296 + nx + 1) * 4294967296) with h | h
    · exact h
    · exfalso
      have e1 : y * 4294967296 < P * (tp * 4294967296 + nx + 1) * 4294967296 := Nat.mul_lt_mul_of_pos_right hup (by decide)
      rw [Nat.mul_assoc] at e1
      have e2 := Nat.mul_le_mul_left P h
      generalize P * ((tp * 4294967296 + nx + 1) * 4294967296) = z at e1 e2
      generalize P * ((m1 + 4294967296 * m2) * 4294967296 + m0) = z2 at e2 h1
      clear e0 hup h2 h htop
      omega

theorem took_fits {Q : Nat} {U A Y : List Int} (hY : 0 < val Y) (hQ : NearF Q A Y) (h : TookF Q 0 U A Y) (hU : val U < 4294967296 ^ A.length) : Q = val A / val Y ∧ val U = val A % val Y := by
  have h' : val U + val Y * Q = val A := by have : val U + val Y * Q = val A + 4294967296 ^ A.length * 0 := h; omega
  have h1 : Q ≤ val A / val Y := by rw [Nat.le_div_iff_mul_le hY, Nat.mul_comm]; omega
  have h2 : Q = val A / val Y := Nat.le_antisymm h1 hQ.2.1
  refine ⟨h2, ?_⟩
  have h3 := Nat.div_add_mod (val A) (val Y)
  rw [← h2] at h3
  omega
theorem took_over {Q : Nat} {U A Y : List Int} (hY : 0 < val Y) (hQ : NearF Q A Y) (h : TookF Q 1 U A Y) (hU : val U < 4294967296 ^ A.length) : Q = val A / val Y + 1 := by
  have h' : val U + val Y * Q = val A + 4294967296 ^ A.length := by have : val U + val Y * Q = val A + 4294967296 ^ A.length * 1 := h; omega
  have h1 : ¬ Q ≤ val A / val Y := fun hc => by
    rw [Nat.le_div_iff_mul_le hY, Nat.mul_comm] at hc
    omega
  have := hQ.2.2
  omega
theorem took_back {Q c : Nat} {U V A Y : List Int} (hY : 0 < val Y) (h : TookF Q 1 U A Y) (hQ : Q = val A / val Y + 1) (hG : GaveF c V U Y) (hl : U.length = A.length) (hV : val V < 4294967296 ^ A.length) (hA : val A < 4294967296 ^ A.length) (hYl : val Y < 4294967296 ^ A.length) : val V = val A % val Y := by
  have h' : val U + val Y * Q = val A + 4294967296 ^ A.length := by have : val U + val Y * Q = val A + 4294967296 ^ A.length * 1 := h; omega
  have g' : val V + 4294967296 ^ A.length * c = val U + val Y := by have : val V + 4294967296 ^ U.length * c = val U + val Y := hG; rw [hl] at this; exact this
  have h3 := Nat.div_add_mod (val A) (val Y)
  have h4 := Nat.mod_lt (val A) hY
  rw [hQ, Nat.mul_succ] at h'
  generalize val Y * (val A / val Y) = z at h' h3
  generalize 4294967296 ^ A.length = P at *
  rcases Nat.lt_or_ge c 1 with hc | hc
  · obtain rfl : c = 0 := by omega
    omega
  · rcases Nat.lt_or_ge c 2 with hc2 | hc2
    · obtain rfl : c = 1 := by omega
      omega
    · have : P * 2 ≤ P * c := Nat.mul_le_mul_left _ hc2
      omega

set_option maxHeartbeats 2000000 in
set_option maxRecDepth 100000 in
theorem takeMost_any (B g N off c0 b' off' cap' nn LA LB : Nat) (hLA : LA = nn + 3) (hLB : LB = nn + 2) (Lo A Hi Y : List Int) (w : World) (hO : Own w B (.slice (some ⟨g, 0, none⟩) N N) (Lo ++ (A ++ Hi))) (hoff : Lo.length = off) (H : MostF nn A Y) (hyb : ∀ W : World, w.grownBy W (some g) → Rd W (.slice (some ⟨b', off', none⟩) LB cap') Y) (hN : N ≤ 1048576) (hc0 : nn + 3 ≤ c0) :
    Calls Try.prog 83 #[.slice (some ⟨g, off, none⟩) LA c0, .slice (some ⟨b', off', none⟩) LB cap'] w fun e w' => ∃ U : List Int, e = .returned (.int .u32 ((val A / val Y : Nat) : Int)) ∧ U.length = A.length ∧ val U = val A % val Y ∧ Own w' B (.slice (some ⟨g, 0, none⟩) N N) (Lo ++ (U ++ Hi)) ∧ w.grownBy w' (some g) := by
  have hNl := hO.len
  obtain ⟨hAl, hYl, hzA, hzY, -, -⟩ := id H
  have hry := hyb w (World.grownBy.refl _ _)
  have hcl : nn + 2 ≤ cap' := by
    obtain ⟨a2, cap2, hv2, _, _, hn2, _⟩ := hry
    simp only [Value.slice.injEq] at hv2
    obtain ⟨_, _, rfl⟩ := hv2
    omega
  obtain ⟨nx, tp, hdy, hvy⟩ := take_two Y hzY nn (by omega)
  obtain ⟨m0, m1, m2, hda, hva⟩ := take_three A hzA nn (by omega)
  have hrm : Rd w (.slice (some ⟨g, off + nn, none⟩) 3 (c0 - nn)) [(m0 : Int), (m1 : Int), (m2 : Int)] := by
    have h1 := (hO.win c0 (by omega)).tail nn (by omega) (c0 - nn) (by omega)
    rw [hda, hoff] at h1; exact h1
  have hro : Rd w (.slice (some ⟨b', off' + nn, none⟩) 2 (cap' - nn)) [(nx : Int), (tp : Int)] := by
    have h1 := hry.tail nn (by omega) (cap' - nn) (by omega)
    rw [hdy] at h1; exact h1
  have hnxl : nx < 4294967296 := by have := hzY (nx : Int) (List.mem_of_mem_drop (i := nn) (by rw [hdy]; simp)); omega
  obtain ⟨htp, hT⟩ := most_guess H hva hvy hnxl
  have hgs := fun W h1 h2 => guess_any (.slice (some ⟨g, off + nn, none⟩) 3 (c0 - nn)) (.slice (some ⟨b', off' + nn, none⟩) 2 (cap' - nn)) m0 m1 m2 nx tp W h1 h2 htp hT
  have hnr := fun Q h => most_near (Q := Q) H hva hvy h
  have HNR : Hid _ := hnr
  have hN3 : nn + 3 ≤ 1048576 := by rw [hNl] at hN; simp at hN; omega
  have hnc : ¬ nn = c0 := by omega
  have hnc' : ¬ nn = cap' := by omega
  have hnd : ¬ c0 = nn := by omega
  have hnd' : ¬ cap' = nn := by omega
  have i1 : (nn : Int) ≤ (c0 : Int) := by omega
  have i2 : (nn : Int) ≤ (cap' : Int) := by omega
  have i3 : (nn : Int) ≤ (LA : Int) := by omega
  have i4 : (nn : Int) ≤ (LB : Int) := by omega
  have i5 : (LB : Int) - 2 = (nn : Int) := by omega
  have i6 : LA - nn = 3 := by omega
  have i7 : LB - nn = 2 := by omega
  have i8 : LA ≤ 1048576 := by omega
  have hwn : IntKind.i64.wrap (nn : Int) = (nn : Int) := by simp [IntKind.wrap, IntKind.bits, IntKind.signed]; omega
  have i9 : LB ≤ 1048576 := by omega
  have HLA : Hid (LA = nn + 3 ∧ LB = nn + 2 ∧ A.length = LA ∧ Y.length = LB) := ⟨hLA, hLB, by omega, by omega⟩
  clear hva hvy hda hdy hT htp hnr hnxl hNl hLA hLB hAl hYl
  go_enter Try.func83, Try.ntmps83
  go_upto_region 2 with fail
  go_cut [6] from 9 to 28 (fun s6 wc => ∃ Q : Nat, s6 = .int .u32 (Q : Int) ∧ NearF Q A Y ∧ Below w.heap.size w wc)
  case first =>
    go_region_with (go_at_call 86; refine (hgs _ hrm.drew hro.drew).mono ?_; rintro e w2 ⟨Q, rfl, HQ, hB⟩)
    all_goals go_wp2_with fail
    all_goals go_meet
    all_goals exact ⟨Q, rfl, HNR.out Q HQ, (Below.refl _ _).drew.trans hB⟩
  case rest =>
    obtain ⟨Q, rfl, HQ, hB⟩ := hcut
    obtain ⟨e1, e2, e3, e4⟩ := HLA.out
    have hO2 := hO.keep hB
    have hgB := gb_below (some g) hB
    have hyb2 : ∀ W : World, wc.grownBy W (some g) → Rd W (.slice (some ⟨b', off', none⟩) Y.length cap') Y := fun W h => by rw [e4]; exact hyb W (gb_trans hgB h)
    have hQl : Q < 4294967296 := HQ.1
    have htk := takeTimes_any B g N off c0 Lo A Hi _ Y Q wc hO2 hoff (by omega) (hyb2 wc (World.grownBy.refl _ _)) hyb2 hQl hN
    rw [e4, show LB + 1 = LA from by omega] at htk
    clear hO hO2 hB hyb hgs hrm hro hry HNR e1 e2 e3 e4
    go_wp2_with fail
    refine htk.mono ?_
    rintro e w3 ⟨U, c, rfl, hc1, hUl, oU, hF, hg3⟩
    clear htk
    have hgA := gb_trans hgB hg3
    obtain ⟨e1, e2, e3, e4⟩ := HLA.out
    have hYA : val A < 4294967296 ^ A.length := val_lt hzA
    have hUA : val U < 4294967296 ^ A.length := by rw [← hUl]; exact val_lt (fun z hz => oU.2.2 z (by simp [hz]))
    have hYlt : val Y < 4294967296 ^ A.length := Nat.lt_of_lt_of_le (val_lt hzY) (Nat.pow_le_pow_right (by decide) (by omega))
    have hYp : 0 < val Y := by obtain ⟨-, -, -, -, ht, -⟩ := H; have : 0 < 2147483648 * 4294967296 ^ (nn + 1) := Nat.mul_pos (by decide) (Nat.pow_pos (by decide)); omega
    rcases (by omega : c = 0 ∨ c = 1) with rfl | rfl
    · obtain ⟨f1, f2⟩ := took_fits hYp HQ hF hUA
      have HF1 : Hid (Q = val A / val Y) := f1
      clear f1 hYlt hF hYA hUA hYp HQ hyb2 H HLA e1 e2 e3 e4
      go_wp2
      go_ret
      exact ⟨U, by rw [← HF1.out]; rfl, hUl, f2, oU, hgA⟩
    · have hgv := giveBack_any B g N off c0 Lo U Hi (.slice (some ⟨b', off', none⟩) Y.length cap') Y w3 oU hoff (by omega) (fun W h => hyb2 W (gb_trans hg3 h)) hN
      rw [e4, show LB + 1 = LA from by omega] at hgv
      have hQ1 := took_over hYp HQ hF hUA
      have hfin : ∀ (V : List Int) (c : Nat), V.length = U.length → Limbs V → GaveF c V U Y → val V = val A % val Y := fun V c hVl hVz hG => took_back hYp hF hQ1 hG hUl (by rw [← hUl, ← hVl]; exact val_lt hVz) hYA hYlt
      have HFIN : Hid _ := hfin
      obtain ⟨qq, hqq⟩ : ∃ qq, qq = val A / val Y := ⟨_, rfl⟩
      rw [← hqq] at hQ1
      have hwq : IntKind.u32.wrap ((Q : Int) - 1) = (qq : Int) := by rw [hQ1]; simp [IntKind.wrap, IntKind.bits, IntKind.signed]; omega
      have HQQ : Hid (qq = val A / val Y) := hqq
      clear hqq
      clear hYlt hF hYA hUA hYp HQ hyb2 H HLA e1 e2 e3 e4 hfin hQ1
      go_wp2_with fail
      refine hgv.mono ?_
      rintro e w4 ⟨rfl, V, c2, hVl, oV, hG, hg4⟩
      clear hgv
      have hv := HFIN.out V c2 hVl (fun z hz => oV.2.2 z (by simp [hz])) hG
      go_wp2
      go_ret
      exact ⟨V, by rw [← HQQ.out]; rfl, by omega, hv, oV, gb_trans hgA hg4⟩
end Go.Proofs.Ythgpacajeaphhaa

namespace Go.Proofs.Ythgpacajeaphhaa
open Go.RowKit
set_option linter.unusedVariables false
set_option linter.unusedSimpArgs false

/-- What the long division starts from: s binary digits bring the divisor to its full width. -/
theorem long_start {xs os : List Int} (hzx : Limbs xs) (hzo : Limbs os) (hn : Norm os) (h2 : 2 ≤ os.length) (hl : os.length ≤ xs.length) (s : Nat) (hs : s = 32 - Lib.bitLen (os.getD (os.length - 1) 0).toNat) :
    s ≤ 31 ∧ Lib.bitLen (os.getD (os.length - 1) 0).toNat ≤ 32 ∧ 2147483648 * 4294967296 ^ (os.length - 1) ≤ val os * 2 ^ s ∧ (lim (val os * 2 ^ s)).length = os.length ∧ val xs * 2 ^ s < val os * 2 ^ s * 4294967296 ^ (xs.length - os.length + 1) ∧ (lim (val xs * 2 ^ s)).length ≤ xs.length + 1 := by
  have hb := bits_val hzo hn (by omega)
  have ht := hzo.get (os.length - 1)
  have htn : os.getD (os.length - 1) 0 ≠ 0 := by rcases hn with h | h; (exact absurd h (by omega)); exact h
  have l0 := bitLen_32 (os.getD (os.length - 1) 0).toNat (by omega)
  have l1 : 1 ≤ Lib.bitLen (os.getD (os.length - 1) 0).toNat := by
    rw [bitLen_half (by omega) (by omega)]; omega
  have hbn : (bitsN os).toNat = 32 * (os.length - 1) + Lib.bitLen (os.getD (os.length - 1) 0).toNat := by unfold bitsN; rw [if_neg (by omega)]; omega
  rw [hbn] at hb
  generalize Lib.bitLen (os.getD (os.length - 1) 0).toNat = bl at *
  have hs31 : s ≤ 31 := by omega
  obtain ⟨n, hnn⟩ : ∃ n, os.length = n + 1 := ⟨os.length - 1, by omega⟩
  have e0 : os.length - 1 = n := by omega
  rw [e0] at hb ⊢
  have eD : (2 : Nat) ^ (32 * n + bl) * 2 ^ s = 4294967296 ^ n * 4294967296 := by
    rw [← Nat.pow_add, R_pow, show (4294967296 : Nat) = 2 ^ 32 from by decide, ← Nat.pow_add]; congr 1; omega
  have hP : 0 < 4294967296 ^ n := Nat.pow_pos (by decide)
  have hp2 : 0 < 2 ^ s := Nat.two_pow_pos s
  have d1 : 4294967296 ^ n * 4294967296 ≤ 2 * (val os * 2 ^ s) := by
    rw [← eD, ← Nat.mul_assoc]; exact Nat.mul_le_mul_right _ hb.1
  have d2 : val os * 2 ^ s < 4294967296 ^ n * 4294967296 := by
    rw [← eD]; exact Nat.mul_lt_mul_of_pos_right hb.2 hp2
  have d3 : 2147483648 * 4294967296 ^ n ≤ val os * 2 ^ s := by omega
  refine ⟨hs31, l0, d3, ?_, ?_, ?_⟩
  · have a1 : (lim (val os * 2 ^ s)).length ≤ n + 1 := lim_length_le (by rw [Nat.pow_succ]; exact d2)
    have a2 : n < (lim (val os * 2 ^ s)).length := lim_length_gt (by omega)
    omega
  · have hx := val_lt hzx
    have h31 : 2 ^ s ≤ 2147483648 := by
      have : (2 : Nat) ^ s ≤ 2 ^ 31 := Nat.pow_le_pow_right (by decide) hs31
      simpa using this
    have e1 : (4294967296 : Nat) ^ xs.length = 4294967296 ^ n * 4294967296 ^ (xs.length - os.length + 1) := by
      rw [← Nat.pow_add]; congr 1; omega
    have a1 : val xs * 2 ^ s < 4294967296 ^ xs.length * 2147483648 := Nat.lt_of_lt_of_le (Nat.mul_lt_mul_of_pos_right hx hp2) (Nat.mul_le_mul_left _ h31)
    have a2 := Nat.mul_le_mul_right (4294967296 ^ (xs.length - os.length + 1)) d3
    rw [Nat.mul_assoc, ← e1, Nat.mul_comm] at a2
    exact Nat.lt_of_lt_of_le a1 a2
  · refine lim_length_le ?_
    have hx := val_lt hzx
    have h31 : 2 ^ s ≤ 4294967296 := by
      have : (2 : Nat) ^ s ≤ 2 ^ 32 := Nat.pow_le_pow_right (by decide) (by omega)
      simpa using this
    rw [Nat.pow_succ]
    exact Nat.lt_of_lt_of_le (Nat.mul_lt_mul_of_pos_right hx hp2) (Nat.mul_le_mul_left _ h31)
theorem long_end {X O s A D Qv V : Nat} (hO : 0 < O) (hA : A = X * 2 ^ s) (hD : D = O * 2 ^ s) (h : A = D * (Qv * 1) + V) (hV : V < D * 1) : Qv = X / O ∧ V / 2 ^ s = X % O := by
  have hp2 : 0 < 2 ^ s := Nat.two_pow_pos s
  rw [Nat.mul_one] at h hV
  have h1 : A / D = Qv := by rw [h, Nat.mul_add_div (by omega), Nat.div_eq_of_lt hV, Nat.add_zero]
  have h2 : A % D = V := by rw [h, Nat.mul_add_mod, Nat.mod_eq_of_lt hV]
  rw [hA, hD, Nat.mul_div_mul_right _ _ hp2] at h1
  rw [hA, hD, Nat.mul_mod_mul_right] at h2
  refine ⟨h1.symm, ?_⟩
  rw [← h2, Nat.mul_div_cancel _ hp2]
/-- What the loop keeps, hidden from the walk. -/
def LongF (A D j : Nat) (Qs Rs : List Int) : Prop := A = D * (val Qs * 4294967296 ^ j) + val Rs ∧ val Rs < D * 4294967296 ^ j
theorem long_round {A D i n : Nat} {Qs Lo Aw Hi : List Int} (hD : 0 < D) (hDn : D < 4294967296 ^ n) (hL : Limbs (Lo ++ (Aw ++ Hi))) (hLo : Lo.length = i) (hAw : Aw.length = n + 1) (H : LongF A D (i + 1) Qs (Lo ++ (Aw ++ Hi))) :
    val Aw < D * 4294967296 ∧ ∀ U : List Int, U.length = Aw.length → val U = val Aw % D → LongF A D i (((val Aw / D : Nat) : Int) :: Qs) (Lo ++ (U ++ Hi)) := by
  obtain ⟨h1, h2⟩ := H
  have hzLo : Limbs Lo := fun z hz => hL z (by simp [hz])
  have hlo := val_lt hzLo
  rw [hLo] at hlo
  have hv : val (Lo ++ (Aw ++ Hi)) = val Lo + 4294967296 ^ i * (val Aw + 4294967296 ^ (n + 1) * val Hi) := by rw [val_append, val_append, hLo, hAw]
  have hH : val Hi = 0 := by
    rcases Nat.eq_zero_or_pos (val Hi) with h | h
    · exact h
    · exfalso
      have a1 : D * 4294967296 ^ (i + 1) ≤ 4294967296 ^ n * 4294967296 ^ (i + 1) := Nat.mul_le_mul_right _ (Nat.le_of_lt hDn)
      have a2 : 4294967296 ^ n * 4294967296 ^ (i + 1) = 4294967296 ^ i * (4294967296 ^ (n + 1) * 1) := by rw [Nat.mul_one, ← Nat.pow_add, ← Nat.pow_add]; congr 1; omega
      have a3 : 4294967296 ^ i * (4294967296 ^ (n + 1) * 1) ≤ 4294967296 ^ i * (val Aw + 4294967296 ^ (n + 1) * val Hi) := Nat.mul_le_mul_left _ (Nat.le_trans (Nat.mul_le_mul_left _ h) (Nat.le_add_left _ _))
      rw [hv] at h2
      generalize 4294967296 ^ i * (val Aw + 4294967296 ^ (n + 1) * val Hi) = z at *
      omega
  rw [hH, Nat.mul_zero, Nat.add_zero] at hv
  rw [Nat.pow_succ] at h1 h2
  obtain ⟨s1, s2, s3⟩ := long_step hD h1 hv hlo h2
  refine ⟨s1, fun U hU hU2 => ?_⟩
  have hv2 : val (Lo ++ (U ++ Hi)) = val Lo + 4294967296 ^ i * (val Aw % D) := by rw [val_append, val_append, hLo, hH, hU2]; simp
  refine ⟨?_, by rw [hv2]; exact s3⟩
  rw [hv2]
  simp only [val, Int.toNat_natCast]
  exact s2
end Go.Proofs.Ythgpacajeaphhaa
