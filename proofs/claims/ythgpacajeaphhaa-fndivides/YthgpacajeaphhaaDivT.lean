import Derived.Test.YthgpacajeaphhaaDivN
import Derived.Test.YthgpacajeaphhaaFloorX
namespace Go.Proofs.Ythgpacajeaphhaa
open Go.RowKit
set_option linter.unusedVariables false
set_option linter.unusedSimpArgs false

theorem take_step {P V B A x c b y m lo hi d e : Nat} (h : V + B * x = A + P * (c + b)) (h1 : lo + 4294967296 * hi = x * y + c) (h2 : d + lo + b = m + 4294967296 * e) :
    V + P * d + (B + P * y) * x = A + P * m + P * 4294967296 * (hi + e) := by
  have e1 : P * (d + lo + b) = P * (m + 4294967296 * e) := by rw [h2]
  have e2 : P * (lo + 4294967296 * hi) = P * (x * y + c) := by rw [h1]
  have e3 : (B + P * y) * x = B * x + P * (x * y) := by rw [Nat.add_mul, Nat.mul_assoc, Nat.mul_comm y x]
  have e4 : P * (d + lo + b) = P * d + P * lo + P * b := by rw [Nat.mul_add, Nat.mul_add]
  have e5 : P * (m + 4294967296 * e) = P * m + P * 4294967296 * e := by rw [Nat.mul_add, Nat.mul_assoc]
  have e6 : P * (lo + 4294967296 * hi) = P * lo + P * 4294967296 * hi := by rw [Nat.mul_add, Nat.mul_assoc]
  have e7 : P * (x * y + c) = P * (x * y) + P * c := by rw [Nat.mul_add]
  have e8 : P * (c + b) = P * c + P * b := by rw [Nat.mul_add]
  have e9 : P * 4294967296 * (hi + e) = P * 4294967296 * hi + P * 4294967296 * e := by rw [Nat.mul_add]
  rw [e3, e9]
  generalize P * 4294967296 * hi = z1 at *
  generalize P * 4294967296 * e = z2 at *
  omega
theorem take_end {P V B A x c b m d e : Nat} (h : V + B * x = A + P * (c + b)) (h2 : d + c + b = m + 4294967296 * e) : V + P * d + B * x = A + P * m + P * 4294967296 * e := by
  have e1 : P * (d + c + b) = P * (m + 4294967296 * e) := by rw [h2]
  have e4 : P * (d + c + b) = P * d + P * c + P * b := by rw [Nat.mul_add, Nat.mul_add]
  have e5 : P * (m + 4294967296 * e) = P * m + P * 4294967296 * e := by rw [Nat.mul_add, Nat.mul_assoc]
  have e8 : P * (c + b) = P * c + P * b := by rw [Nat.mul_add]
  generalize P * 4294967296 * e = z2 at *
  omega
/-- A row with a part of it written anew. -/
theorem mid_cell (L1 L2 L3 : List Int) (k : Nat) (h : k = L1.length) (z : Int) : (L1 ++ z :: L3).getD k 0 = z := by subst h; simp [List.getD]
theorem mid_set (L1 L3 : List Int) (k : Nat) (h : k = L1.length) (z d : Int) : (L1 ++ z :: L3).set k d = L1 ++ d :: L3 := by
  subst h; rw [List.set_append_right _ _ (Nat.le_refl _), Nat.sub_self, List.set_cons_zero]

/-- What takeTimes leaves of the window: A the window, Y the divisor, x how often. -/
def TookF (x c : Nat) (U A Y : List Int) : Prop := val U + val Y * x = val A + 4294967296 ^ A.length * c
def TookP (x k c b : Nat) (U A Y : List Int) : Prop := val U + val (Y.take k) * x = val (A.take k) + 4294967296 ^ k * (c + b)

set_option maxHeartbeats 2000000 in
set_option maxRecDepth 100000 in
theorem takeTimes_any (B g N off c0 : Nat) (Lo A Hi : List Int) (u : Value) (Y : List Int) (x : Nat) (w : World) (hO : Own w B (.slice (some ⟨g, 0, none⟩) N N) (Lo ++ (A ++ Hi))) (hoff : Lo.length = off) (hA : A.length = Y.length + 1) (hy : Rd w u Y) (hyb : ∀ W : World, w.grownBy W (some g) → Rd W u Y) (hx : x < 4294967296) (hN : N ≤ 1048576) :
    Calls Try.prog 87 #[.slice (some ⟨g, off, none⟩) (Y.length + 1) c0, u, .int .u32 (x : Int)] w fun e w' => ∃ (U : List Int) (c : Nat), e = .returned (.bool (decide (c = 0))) ∧ c ≤ 1 ∧ U.length = A.length ∧ Own w' B (.slice (some ⟨g, 0, none⟩) N N) (Lo ++ (U ++ Hi)) ∧ TookF x c U A Y ∧ w.grownBy w' (some g) := by
  have hNl := hO.len
  have hlen : off + (A.length + Hi.length) = N := by rw [hNl]; simp [hoff]
  have hzA : Limbs A := fun z hz => hO.2.2 z (by simp [hz])
  have hy0 := hy
  obtain ⟨a', cap', rfl, _, hzy, hny, hcy⟩ := hy
  clear hny
  have hyl : Y.length ≤ 1048576 := by omega
  have hAl : ((A.length : Nat) : Int) = (Y.length : Int) + 1 := by omega
  go_enter Try.func87, Try.ntmps87
  go_wp2
  go_loopw [7, 8, 16] (fun s7 s8 i wr => ∃ (k c b : Nat) (U : List Int), k ≤ Y.length ∧ i = .int .i64 k ∧ s7 = .int .u32 (c : Int) ∧ s8 = .int .u32 (b : Int) ∧ c < 4294967296 ∧ b ≤ 1 ∧ U.length = k ∧ Own wr B (.slice (some ⟨g, 0, none⟩) N N) (Lo ++ (U ++ (A.drop k ++ Hi))) ∧ TookP x k c b U A Y ∧ w.grownBy wr (some g)) (fun _ _ i _ => Y.length - (intOf i).toNat)
  case atStart => exact ⟨0, 0, 0, [], Nat.zero_le _, rfl, rfl, rfl, by omega, by omega, rfl, by simpa using hO, by simp [TookP, val], World.grownBy.refl _ _⟩
  case round =>
    obtain ⟨k, c, b, U, hk, rfl, rfl, rfl, hc, hb, hUl, oU, hV, hg⟩ := hrel
    clear hO
    have hdr : k < A.length := by omega
    have hda := List.drop_eq_getElem_cons hdr
    have hAk : A.getD k 0 = A[k] := by simp [List.getD, hdr]
    rw [hda, ← hAk] at oU
    have hmb := hzA.get k
    have hSa := val_take_succ A k
    obtain ⟨m, hm⟩ : ∃ m : Nat, A.getD k 0 = (m : Int) := ⟨(A.getD k 0).toNat, by omega⟩
    rw [hm] at oU hmb hSa
    rw [Int.toNat_natCast] at hSa
    have eL : Lo ++ (U ++ ((m : Int) :: A.drop (k + 1) ++ Hi)) = (Lo ++ U) ++ (m : Int) :: (A.drop (k + 1) ++ Hi) := by simp
    rw [eL] at oU
    have hpl : off + k = (Lo ++ U).length := by simp [hoff, hUl]
    have hce := oU.cell (off + k) (by rw [List.length_append, ← hpl]; simp)
    rw [mid_cell _ [] _ _ hpl] at hce
    have hfz := oU.frozen (off + k)
    clear hda hAk hm eL
    have hst : ∀ D : Nat, D < 4294967296 → Own (wr.setCell ⟨g, off + k, none⟩ (.int .u32 (D : Int))) B (.slice (some ⟨g, 0, none⟩) N N) (Lo ++ ((U ++ [(D : Int)]) ++ (A.drop (k + 1) ++ Hi))) := fun D hD => by
      have := oU.store (off + k) (z := (D : Int)) (by omega) (by omega)
      rw [mid_set _ _ _ hpl] at this
      simpa using this
    have HST : Hid _ := hst
    clear hst oU hpl hlen hNl
    have hkA : (k : Int) < (Y.length : Int) + 1 := by omega
    by_cases hlt : k < Y.length
    · obtain ⟨a2, cap2, hv2, -, -, -, hc2⟩ := hyb wr hg
      simp only [Value.slice.injEq] at hv2
      obtain ⟨rfl, -, rfl⟩ := hv2
      obtain ⟨b', off', rfl, hb', hcell'⟩ := hc2 (by omega)
      have hcy' := hcell' k hlt
      have hyk := hzy.get k
      have hSy := val_take_succ Y k
      obtain ⟨y, hye⟩ : ∃ y : Nat, Y.getD k 0 = (y : Int) := ⟨(Y.getD k 0).toNat, by omega⟩
      rw [hye] at hcy' hyk hSy
      rw [Int.toNat_natCast] at hSy
      have hta := fun W => timesAdd_any (x : Int) (y : Int) (c : Int) 0 W (by omega) (by omega) (by omega) (by omega)
      obtain ⟨lo, hlo⟩ : ∃ lo : Nat, lo = (x * y + c) % 4294967296 := ⟨_, rfl⟩
      obtain ⟨hi, hhi⟩ : ∃ hi : Nat, hi = (x * y + c) / 4294967296 := ⟨_, rfl⟩
      have e1 : ((x : Int) * (y : Int) + (c : Int) + 0) % 4294967296 = (lo : Int) := by rw [hlo]; rw [← Int.natCast_mul]; omega
      have e2 : ((x : Int) * (y : Int) + (c : Int) + 0) / 4294967296 = (hi : Int) := by rw [hhi]; rw [← Int.natCast_mul]; omega
      rw [e1, e2] at hta
      have hlh : lo + 4294967296 * hi = x * y + c := by omega
      have hxy : x * y ≤ 4294967295 * 4294967295 := Nat.mul_le_mul (by omega) (by omega)
      have hhil : hi < 4294967296 := by omega
      have hlol : lo < 4294967296 := by omega
      have hsb := fun W => sub32_any (m : Int) (lo : Int) (b : Int) W (by omega) (by omega) (by omega)
      obtain ⟨D, hD⟩ : ∃ D : Nat, (D : Int) = ((m : Int) - (lo : Int) - (b : Int)) % 4294967296 := ⟨(((m : Int) - (lo : Int) - (b : Int)) % 4294967296).toNat, by omega⟩
      obtain ⟨E, hE⟩ : ∃ E : Nat, (E : Int) = if (m : Int) < (lo : Int) + (b : Int) then 1 else 0 := ⟨if (m : Int) < (lo : Int) + (b : Int) then 1 else 0, by split <;> rfl⟩
      rw [← hD, ← hE] at hsb
      have hE1 : E ≤ 1 := by split at hE <;> omega
      have hD1 : D < 4294967296 := by omega
      have hde : D + lo + b = m + 4294967296 * E := by split at hE <;> omega
      have HV : TookP x (k + 1) hi E (U ++ [(D : Int)]) A Y := by
        have hV' : val U + val (Y.take k) * x = val (A.take k) + 4294967296 ^ k * (c + b) := hV
        have := take_step hV' hlh hde
        show _ = _
        rw [hSa, hSy, val_append, hUl, Nat.pow_succ, ← this]; simp [val]
      clear hV hSa hSy hlo hhi e1 e2 hlh hxy hD hE hde hye hyb hy0 hcell' hc2 hcy
      go_wp2_with (first | (go_at_call 62; refine (hta _).mono ?_; rintro e w2 ⟨rfl, rfl⟩) | (go_at_call 71; refine (hsb _).mono ?_; rintro e w2 ⟨rfl, rfl⟩))
      go_roundw
      case rel => exact ⟨k + 1, hi, E, U ++ [(D : Int)], by omega, by go_num, rfl, rfl, hhil, hE1, by simp [hUl], HST.out D hD1, HV, gb_trans hg (gb_set _ _ _ _)⟩
      case measure => simp [intOf]; omega
    · have hk' : k = Y.length := by omega
      subst hk'
      have hsb := fun W => sub32_any (m : Int) (c : Int) (b : Int) W (by omega) (by omega) (by omega)
      obtain ⟨D, hD⟩ : ∃ D : Nat, (D : Int) = ((m : Int) - (c : Int) - (b : Int)) % 4294967296 := ⟨(((m : Int) - (c : Int) - (b : Int)) % 4294967296).toNat, by omega⟩
      obtain ⟨E, hE⟩ : ∃ E : Nat, (E : Int) = if (m : Int) < (c : Int) + (b : Int) then 1 else 0 := ⟨if (m : Int) < (c : Int) + (b : Int) then 1 else 0, by split <;> rfl⟩
      rw [← hD, ← hE] at hsb
      have hE1 : E ≤ 1 := by split at hE <;> omega
      have hD1 : D < 4294967296 := by omega
      have hde : D + c + b = m + 4294967296 * E := by split at hE <;> omega
      have HV : TookF x E (U ++ [(D : Int)]) A Y := by
        have hV' : val U + val (Y.take Y.length) * x = val (A.take Y.length) + 4294967296 ^ Y.length * (c + b) := hV
        have := take_end hV' hde
        rw [List.take_length] at this
        rw [List.take_of_length_le (by omega)] at hSa
        show _ = _
        rw [hA, hSa, val_append, hUl, Nat.pow_succ, ← this]; simp [val]
      have hOf := HST.out D hD1
      rw [List.drop_of_length_le (by omega), List.nil_append] at hOf
      have hlU : (U ++ [(D : Int)]).length = A.length := by simp; omega
      clear hV hSa hD hE hde hyb hy0 hcy HST
      rcases (by omega : E = 0 ∨ E = 1) with rfl | rfl
      · go_wp2_with (go_at_call 71; refine (hsb _).mono ?_; rintro e w2 ⟨rfl, rfl⟩)
        go_ret
        exact ⟨U ++ [(D : Int)], 0, rfl, by omega, hlU, hOf, HV, gb_trans hg (gb_set _ _ _ _)⟩
      · go_wp2_with (go_at_call 71; refine (hsb _).mono ?_; rintro e w2 ⟨rfl, rfl⟩)
        go_ret
        exact ⟨U ++ [(D : Int)], 1, rfl, by omega, hlU, hOf, HV, gb_trans hg (gb_set _ _ _ _)⟩
end Go.Proofs.Ythgpacajeaphhaa
