import Derived.Test.YthgpacajeaphhaaDivK
namespace Go.Proofs.Ythgpacajeaphhaa
open Go.RowKit
set_option linter.unusedVariables false
set_option linter.unusedSimpArgs false

/-- What the walk need not see: A the window, Y the divisor. -/
def MostF (nn : Nat) (A Y : List Int) : Prop := A.length = nn + 3 ∧ Y.length = nn + 2 ∧ Limbs A ∧ Limbs Y ∧ 2147483648 * 4294967296 ^ (nn + 1) ≤ val Y ∧ val A < val Y * 4294967296
/-- Behind the guess: it is the quotient or one more. -/
def NearF (Q : Nat) (A Y : List Int) : Prop := Q < 4294967296 ∧ val A / val Y ≤ Q ∧ Q ≤ val A / val Y + 1
theorem most_near {nn m0 m1 m2 nx tp Q : Nat} {A Y : List Int} (H : MostF nn A Y) (h1 : val A = val (A.take nn) + 4294967296 ^ nn * ((m1 + 4294967296 * m2) * 4294967296 + m0)) (h2 : val Y = val (Y.take nn) + 4294967296 ^ nn * (tp * 4294967296 + nx)) (hQ : GuessF Q ((m1 + 4294967296 * m2) * 4294967296 + m0) (tp * 4294967296 + nx)) : NearF Q A Y := by
  obtain ⟨hA, hY, hzA, hzY, htop, hlt⟩ := H
  have l1 := val_lt (hzA.take nn)
  have l2 := val_lt (hzY.take nn)
  rw [List.length_take, Nat.min_eq_left (by omega)] at l1 l2
  have hoP : 4294967296 ^ nn * 4294967296 ≤ val Y := by
    rw [Nat.pow_succ] at htop
    have : 1 * (4294967296 ^ nn * 4294967296) ≤ 2147483648 * (4294967296 ^ nn * 4294967296) := Nat.mul_le_mul_right _ (by decide)
    omega
  exact ⟨hQ.1, guess_near h1 l1 h2 l2 hoP hQ.1 hQ.2.1 hQ.2.2 hlt⟩
theorem most_guess {nn m0 m1 m2 nx tp : Nat} {A Y : List Int} (H : MostF nn A Y) (h1 : val A = val (A.take nn) + 4294967296 ^ nn * ((m1 + 4294967296 * m2) * 4294967296 + m0)) (h2 : val Y = val (Y.take nn) + 4294967296 ^ nn * (tp * 4294967296 + nx)) (hnx : nx < 4294967296) : 2147483648 ≤ tp ∧ (m1 + 4294967296 * m2) * 4294967296 + m0 < (tp * 4294967296 + nx + 1) * 4294967296 := by
  obtain ⟨hA, hY, hzA, hzY, htop, hlt⟩ := H
  have l2 := val_lt (hzY.take nn)
  rw [List.length_take, Nat.min_eq_left (by omega)] at l2
  have hP : 0 < 4294967296 ^ nn := Nat.pow_pos (by decide)
  rw [Nat.pow_succ] at htop
  generalize 4294967296 ^ nn = P at *
  generalize val (Y.take nn) = y' at *
  generalize val (A.take nn) = a' at *
  have hup : val Y < P * (tp * 4294967296 + nx + 1) := by rw [Nat.mul_add P _ 1, Nat.mul_one]; omega
  generalize val Y = y at *
  generalize val A = aa at *
  have e0 : ∀ z : Nat, z = P * (tp * 4294967296 + nx + 1) → y < z := fun z h => by rw [h]; exact hup
  constructor
  · rcases Nat.lt_or_ge tp 2147483648 with h | h
    · exfalso
      have e2 : P * (tp * 4294967296 + nx + 1) ≤ P * 9223372036854775808 := Nat.mul_le_mul_left _ (by omega)
      have e3 := e0 _ rfl
      generalize P * (tp * 4294967296 + nx + 1) = z at e2 e3
      clear e0 hup h2
      omega
    · exact h
  · rcases Nat.lt_or_ge ((m1 + 4294967296 * m2) * 4294967296 + m0) ((tp * 4294967296 + nx + 1) * 4294967296) with h | h
    · exact h
    · exfalso
      have e1 : y * 4294967296 < P * (tp * 4294967296 + nx + 1) * 4294967296 := Nat.mul_lt_mul_of_pos_right hup (by decide)
      rw [Nat.mul_assoc] at e1
      have e2 := Nat.mul_le_mul_left P h
      generalize P * ((tp * 4294967296 + nx + 1) * 4294967296) = z at e1 e2
      generalize P * ((m1 + 4294967296 * m2) * 4294967296 + m0) = z2 at e2 h1
      clear e0 hup h2 h htop
      omega

theorem took_fits {Q : Nat} {U A Y : List Int} (hY : 0 < val Y) (hQ : NearF Q A Y) (h : TookF Q 0 U A Y) (hU : val U < 4294967296 ^ A.length) : Q = val A / val Y ∧ val U = val A % val Y := by
  have h' : val U + val Y * Q = val A := by have : val U + val Y * Q = val A + 4294967296 ^ A.length * 0 := h; omega
  have h1 : Q ≤ val A / val Y := by rw [Nat.le_div_iff_mul_le hY, Nat.mul_comm]; omega
  have h2 : Q = val A / val Y := Nat.le_antisymm h1 hQ.2.1
  refine ⟨h2, ?_⟩
  have h3 := Nat.div_add_mod (val A) (val Y)
  rw [← h2] at h3
  omega
theorem took_over {Q : Nat} {U A Y : List Int} (hY : 0 < val Y) (hQ : NearF Q A Y) (h : TookF Q 1 U A Y) (hU : val U < 4294967296 ^ A.length) : Q = val A / val Y + 1 := by
  have h' : val U + val Y * Q = val A + 4294967296 ^ A.length := by have : val U + val Y * Q = val A + 4294967296 ^ A.length * 1 := h; omega
  have h1 : ¬ Q ≤ val A / val Y := fun hc => by
    rw [Nat.le_div_iff_mul_le hY, Nat.mul_comm] at hc
    omega
  have := hQ.2.2
  omega
theorem took_back {Q c : Nat} {U V A Y : List Int} (hY : 0 < val Y) (h : TookF Q 1 U A Y) (hQ : Q = val A / val Y + 1) (hG : GaveF c V U Y) (hl : U.length = A.length) (hV : val V < 4294967296 ^ A.length) (hA : val A < 4294967296 ^ A.length) (hYl : val Y < 4294967296 ^ A.length) : val V = val A % val Y := by
  have h' : val U + val Y * Q = val A + 4294967296 ^ A.length := by have : val U + val Y * Q = val A + 4294967296 ^ A.length * 1 := h; omega
  have g' : val V + 4294967296 ^ A.length * c = val U + val Y := by have : val V + 4294967296 ^ U.length * c = val U + val Y := hG; rw [hl] at this; exact this
  have h3 := Nat.div_add_mod (val A) (val Y)
  have h4 := Nat.mod_lt (val A) hY
  rw [hQ, Nat.mul_succ] at h'
  generalize val Y * (val A / val Y) = z at h' h3
  generalize 4294967296 ^ A.length = P at *
  rcases Nat.lt_or_ge c 1 with hc | hc
  · obtain rfl : c = 0 := by omega
    omega
  · rcases Nat.lt_or_ge c 2 with hc2 | hc2
    · obtain rfl : c = 1 := by omega
      omega
    · have : P * 2 ≤ P * c := Nat.mul_le_mul_left _ hc2
      omega

set_option maxHeartbeats 2000000 in
set_option maxRecDepth 100000 in
theorem takeMost_any (B g N off c0 b' off' cap' nn LA LB : Nat) (hLA : LA = nn + 3) (hLB : LB = nn + 2) (Lo A Hi Y : List Int) (w : World) (hO : Own w B (.slice (some ⟨g, 0, none⟩) N N) (Lo ++ (A ++ Hi))) (hoff : Lo.length = off) (H : MostF nn A Y) (hyb : ∀ W : World, w.grownBy W (some g) → Rd W (.slice (some ⟨b', off', none⟩) LB cap') Y) (hN : N ≤ 1048576) (hc0 : nn + 3 ≤ c0) :
    Calls Try.prog 83 #[.slice (some ⟨g, off, none⟩) LA c0, .slice (some ⟨b', off', none⟩) LB cap'] w fun e w' => ∃ U : List Int, e = .returned (.int .u32 ((val A / val Y : Nat) : Int)) ∧ U.length = A.length ∧ val U = val A % val Y ∧ Own w' B (.slice (some ⟨g, 0, none⟩) N N) (Lo ++ (U ++ Hi)) ∧ w.grownBy w' (some g) := by
  have hNl := hO.len
  obtain ⟨hAl, hYl, hzA, hzY, -, -⟩ := id H
  have hry := hyb w (World.grownBy.refl _ _)
  have hcl : nn + 2 ≤ cap' := by
    obtain ⟨a2, cap2, hv2, _, _, hn2, _⟩ := hry
    simp only [Value.slice.injEq] at hv2
    obtain ⟨_, _, rfl⟩ := hv2
    omega
  obtain ⟨nx, tp, hdy, hvy⟩ := take_two Y hzY nn (by omega)
  obtain ⟨m0, m1, m2, hda, hva⟩ := take_three A hzA nn (by omega)
  have hrm : Rd w (.slice (some ⟨g, off + nn, none⟩) 3 (c0 - nn)) [(m0 : Int), (m1 : Int), (m2 : Int)] := by
    have h1 := (hO.win c0 (by omega)).tail nn (by omega) (c0 - nn) (by omega)
    rw [hda, hoff] at h1; exact h1
  have hro : Rd w (.slice (some ⟨b', off' + nn, none⟩) 2 (cap' - nn)) [(nx : Int), (tp : Int)] := by
    have h1 := hry.tail nn (by omega) (cap' - nn) (by omega)
    rw [hdy] at h1; exact h1
  have hnxl : nx < 4294967296 := by have := hzY (nx : Int) (List.mem_of_mem_drop (i := nn) (by rw [hdy]; simp)); omega
  obtain ⟨htp, hT⟩ := most_guess H hva hvy hnxl
  have hgs := fun W h1 h2 => guess_any (.slice (some ⟨g, off + nn, none⟩) 3 (c0 - nn)) (.slice (some ⟨b', off' + nn, none⟩) 2 (cap' - nn)) m0 m1 m2 nx tp W h1 h2 htp hT
  have hnr := fun Q h => most_near (Q := Q) H hva hvy h
  have HNR : Hid _ := hnr
  have hN3 : nn + 3 ≤ 1048576 := by rw [hNl] at hN; simp at hN; omega
  have hnc : ¬ nn = c0 := by omega
  have hnc' : ¬ nn = cap' := by omega
  have hnd : ¬ c0 = nn := by omega
  have hnd' : ¬ cap' = nn := by omega
  have i1 : (nn : Int) ≤ (c0 : Int) := by omega
  have i2 : (nn : Int) ≤ (cap' : Int) := by omega
  have i3 : (nn : Int) ≤ (LA : Int) := by omega
  have i4 : (nn : Int) ≤ (LB : Int) := by omega
  have i5 : (LB : Int) - 2 = (nn : Int) := by omega
  have i6 : LA - nn = 3 := by omega
  have i7 : LB - nn = 2 := by omega
  have i8 : LA ≤ 1048576 := by omega
  have hwn : IntKind.i64.wrap (nn : Int) = (nn : Int) := by simp [IntKind.wrap, IntKind.bits, IntKind.signed]; omega
  have i9 : LB ≤ 1048576 := by omega
  have HLA : Hid (LA = nn + 3 ∧ LB = nn + 2 ∧ A.length = LA ∧ Y.length = LB) := ⟨hLA, hLB, by omega, by omega⟩
  clear hva hvy hda hdy hT htp hnr hnxl hNl hLA hLB hAl hYl
  go_enter Try.func83, Try.ntmps83
  go_upto_region 2 with fail
  go_cut [6] from 9 to 28 (fun s6 wc => ∃ Q : Nat, s6 = .int .u32 (Q : Int) ∧ NearF Q A Y ∧ Below w.heap.size w wc)
  case first =>
    go_region_with (go_at_call 86; refine (hgs _ hrm.drew hro.drew).mono ?_; rintro e w2 ⟨Q, rfl, HQ, hB⟩)
    all_goals go_wp2_with fail
    all_goals go_meet
    all_goals exact ⟨Q, rfl, HNR.out Q HQ, (Below.refl _ _).drew.trans hB⟩
  case rest =>
    obtain ⟨Q, rfl, HQ, hB⟩ := hcut
    obtain ⟨e1, e2, e3, e4⟩ := HLA.out
    have hO2 := hO.keep hB
    have hgB := gb_below (some g) hB
    have hyb2 : ∀ W : World, wc.grownBy W (some g) → Rd W (.slice (some ⟨b', off', none⟩) Y.length cap') Y := fun W h => by rw [e4]; exact hyb W (gb_trans hgB h)
    have hQl : Q < 4294967296 := HQ.1
    have htk := takeTimes_any B g N off c0 Lo A Hi _ Y Q wc hO2 hoff (by omega) (hyb2 wc (World.grownBy.refl _ _)) hyb2 hQl hN
    rw [e4, show LB + 1 = LA from by omega] at htk
    clear hO hO2 hB hyb hgs hrm hro hry HNR e1 e2 e3 e4
    go_wp2_with fail
    refine htk.mono ?_
    rintro e w3 ⟨U, c, rfl, hc1, hUl, oU, hF, hg3⟩
    clear htk
    have hgA := gb_trans hgB hg3
    obtain ⟨e1, e2, e3, e4⟩ := HLA.out
    have hYA : val A < 4294967296 ^ A.length := val_lt hzA
    have hUA : val U < 4294967296 ^ A.length := by rw [← hUl]; exact val_lt (fun z hz => oU.2.2 z (by simp [hz]))
    have hYlt : val Y < 4294967296 ^ A.length := Nat.lt_of_lt_of_le (val_lt hzY) (Nat.pow_le_pow_right (by decide) (by omega))
    have hYp : 0 < val Y := by obtain ⟨-, -, -, -, ht, -⟩ := H; have : 0 < 2147483648 * 4294967296 ^ (nn + 1) := Nat.mul_pos (by decide) (Nat.pow_pos (by decide)); omega
    rcases (by omega : c = 0 ∨ c = 1) with rfl | rfl
    · obtain ⟨f1, f2⟩ := took_fits hYp HQ hF hUA
      have HF1 : Hid (Q = val A / val Y) := f1
      clear f1 hYlt hF hYA hUA hYp HQ hyb2 H HLA e1 e2 e3 e4
      go_wp2
      go_ret
      exact ⟨U, by rw [← HF1.out]; rfl, hUl, f2, oU, hgA⟩
    · have hgv := giveBack_any B g N off c0 Lo U Hi (.slice (some ⟨b', off', none⟩) Y.length cap') Y w3 oU hoff (by omega) (fun W h => hyb2 W (gb_trans hg3 h)) hN
      rw [e4, show LB + 1 = LA from by omega] at hgv
      have hQ1 := took_over hYp HQ hF hUA
      have hfin : ∀ (V : List Int) (c : Nat), V.length = U.length → Limbs V → GaveF c V U Y → val V = val A % val Y := fun V c hVl hVz hG => took_back hYp hF hQ1 hG hUl (by rw [← hUl, ← hVl]; exact val_lt hVz) hYA hYlt
      have HFIN : Hid _ := hfin
      obtain ⟨qq, hqq⟩ : ∃ qq, qq = val A / val Y := ⟨_, rfl⟩
      rw [← hqq] at hQ1
      have hwq : IntKind.u32.wrap ((Q : Int) - 1) = (qq : Int) := by rw [hQ1]; simp [IntKind.wrap, IntKind.bits, IntKind.signed]; omega
      have HQQ : Hid (qq = val A / val Y) := hqq
      clear hqq
      clear hYlt hF hYA hUA hYp HQ hyb2 H HLA e1 e2 e3 e4 hfin hQ1
      go_wp2_with fail
      refine hgv.mono ?_
      rintro e w4 ⟨rfl, V, c2, hVl, oV, hG, hg4⟩
      clear hgv
      have hv := HFIN.out V c2 hVl (fun z hz => oV.2.2 z (by simp [hz])) hG
      go_wp2
      go_ret
      exact ⟨V, by rw [← HQQ.out]; rfl, by omega, hv, oV, gb_trans hgA hg4⟩
end Go.Proofs.Ythgpacajeaphhaa
