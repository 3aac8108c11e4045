import Derived.Test.YthgpacajeaphhaaDivN
namespace Go.Proofs.Ythgpacajeaphhaa
open Go.RowKit
set_option linter.unusedVariables false
set_option linter.unusedSimpArgs false

/-- What the guess is: the greatest limb that is not too much. -/
def GuessF (Q T O : Nat) : Prop := Q < 4294967296 ∧ Q * O ≤ T ∧ ∀ t, t < 4294967296 → t * O ≤ T → t ≤ Q
/-- What the loop keeps: g the guess, r the rest. -/
def GuessL (T h m0 top next g r : Nat) : Prop := T = h * 4294967296 + m0 ∧ m0 < 4294967296 ∧ next < 4294967296 ∧ T < (top * 4294967296 + next + 1) * 4294967296 ∧ g * top + r = h ∧ ∀ t, t < 4294967296 → t * (top * 4294967296 + next) ≤ T → t ≤ g
theorem GuessL.done {T h m0 top next g r : Nat} (H : GuessL T h m0 top next g r) (hg : g < 4294967296) (hc : g * next ≤ r * 4294967296 + m0) : GuessF g T (top * 4294967296 + next) :=
  ⟨hg, guess_fits H.1 H.2.2.2.2.1 hc, H.2.2.2.2.2⟩
theorem GuessL.broke {T h m0 top next g r : Nat} (H : GuessL T h m0 top next g r) (hr : 4294967296 ≤ r) : GuessF g T (top * 4294967296 + next) := by
  obtain ⟨h1, h2⟩ := guess_broke H.1 H.2.2.2.2.1 hr H.2.2.1 H.2.2.2.1
  exact H.done h1 h2
theorem GuessL.step {T h m0 top next g r : Nat} (H : GuessL T h m0 top next g r) (hg : 1 ≤ g) (hc : ¬ g < 4294967296 ∨ r * 4294967296 + m0 < g * next) : GuessL T h m0 top next (g - 1) (r + top) := by
  obtain ⟨h1, h2, h3, h4, h5, h6⟩ := H
  refine ⟨h1, h2, h3, h4, ?_, fun t ht hq => ?_⟩
  · obtain ⟨k, rfl⟩ : ∃ k, g = k + 1 := ⟨g - 1, by omega⟩
    rw [Nat.add_sub_cancel]
    rw [Nat.succ_mul] at h5
    omega
  · have ha := h6 t ht hq
    have hb : t ≠ g := by
      rintro rfl
      rcases hc with hc | hc
      · exact hc ht
      · have := guess_over h1 h5 hc
        omega
    omega
def GuessP (g nx P : Nat) : Prop := g * nx = P
theorem belowN {B : Nat} {a w : World} (h : Below B a w) (n : Nat) : Below B a (w.drewN n) := h.trans ⟨rfl, rfl, rfl, Nat.le_refl _, fun _ _ => rfl⟩
theorem shl32 (x : Nat) (h : x < 4294967296) : IntKind.u64.wrap ((x : Int) * 4294967296) = ((x * 4294967296 : Nat) : Int) := by rw [IntKind.wrap_u64]; omega

set_option maxHeartbeats 2000000 in
set_option maxRecDepth 100000 in
theorem guess_any (v u : Value) (m0 m1 m2 nx tp : Nat) (w : World) (hx : Rd w v [(m0 : Int), (m1 : Int), (m2 : Int)]) (hy : Rd w u [(nx : Int), (tp : Int)]) (htp : 2147483648 ≤ tp) (hT : (m1 + 4294967296 * m2) * 4294967296 + m0 < (tp * 4294967296 + nx + 1) * 4294967296) :
    Calls Try.prog 86 #[v, u] w fun e w' => ∃ Q : Nat, e = .returned (.int .u32 (Q : Int)) ∧ GuessF Q ((m1 + 4294967296 * m2) * 4294967296 + m0) (tp * 4294967296 + nx) ∧ Below w.heap.size w w' := by
  obtain ⟨a, cap, rfl, _, hzx, hnx, hcx⟩ := hx
  obtain ⟨a', cap', rfl, _, hzy, hny, hcy⟩ := hy
  obtain ⟨b, off, rfl, hb, hcell⟩ := hcx (by simp)
  obtain ⟨b', off', rfl, hb', hcell'⟩ := hcy (by simp)
  have c0 := hcell 0 (by simp)
  have c1 := hcell 1 (by simp)
  have c2 := hcell 2 (by simp)
  have d0 := hcell' 0 (by simp)
  have d1 := hcell' 1 (by simp)
  simp at c0 c1 c2 d0 d1
  have hm0 : m0 < 4294967296 := by have := hzx (m0 : Int) (by simp); omega
  have hm1 : m1 < 4294967296 := by have := hzx (m1 : Int) (by simp); omega
  have hm2 : m2 < 4294967296 := by have := hzx (m2 : Int) (by simp); omega
  have hnx0 : nx < 4294967296 := by have := hzy (nx : Int) (by simp); omega
  have htp0 : tp < 4294967296 := by have := hzy (tp : Int) (by simp); omega
  clear hcell hcell' hcx hcy hnx hny hzx hzy
  obtain ⟨T, hTe⟩ : ∃ T, T = (m1 + 4294967296 * m2) * 4294967296 + m0 := ⟨_, rfl⟩
  obtain ⟨h, hh⟩ : ∃ h, h = m1 + 4294967296 * m2 := ⟨_, rfl⟩
  rw [← hTe] at hT ⊢
  rw [← hh] at hTe
  have hor := or_wide m1 m2 hm1 hm2
  rw [← hh] at hor
  have hhl : h < 18446744073709551616 := by omega
  have hdm := Nat.div_add_mod h tp
  have hml := Nat.mod_lt h (by omega : tp > 0)
  obtain ⟨g0, hg0⟩ : ∃ g0, g0 = h / tp := ⟨_, rfl⟩
  obtain ⟨r0, hr0⟩ : ∃ r0, r0 = h % tp := ⟨_, rfl⟩
  rw [← hg0, ← hr0] at hdm
  rw [← hr0] at hml
  have hg0l : g0 ≤ 8589934592 := by
    rw [hg0]
    refine Nat.le_of_lt_succ ((Nat.div_lt_iff_lt_mul (by omega)).mpr ?_)
    have : 8589934593 * 2147483648 ≤ (8589934592 + 1) * tp := Nat.mul_le_mul_left _ htp
    omega
  have HL : GuessL T h m0 tp nx g0 r0 := ⟨hTe, hm0, hnx0, hT, by rw [Nat.mul_comm]; exact hdm, fun t _ hq => by rw [hg0]; exact guess_first (by omega) hTe hm0 hq⟩
  have e1 : (h : Int) / (tp : Int) = (g0 : Int) := by rw [hg0, Int.natCast_ediv]
  have e2 : (h : Int).tmod (tp : Int) = (r0 : Int) := by rw [Int.tmod_eq_emod_of_nonneg (Int.natCast_nonneg _), hr0, Int.natCast_emod]
  have e3 : (h : Int).tdiv (tp : Int) = (g0 : Int) := by rw [Int.tdiv_eq_ediv_of_nonneg (Int.natCast_nonneg _), e1]
  have y0 : ((tp : Int) == 0) = false := beq_len0 (by omega)
  have y1 : ¬ (tp : Int) = 0 := by omega
  have y2 : ¬ tp = 0 := by omega
  have x1 : IntKind.u64.wrap (m1 : Int) = (m1 : Int) := by rw [IntKind.wrap_u64]; omega
  have x2 : IntKind.u64.wrap (m2 : Int) = (m2 : Int) := by rw [IntKind.wrap_u64]; omega
  have x3 : IntKind.u64.wrap (nx : Int) = (nx : Int) := by rw [IntKind.wrap_u64]; omega
  have x4 : IntKind.u64.wrap (tp : Int) = (tp : Int) := by rw [IntKind.wrap_u64]; omega
  have x5 : IntKind.u64.wrap ((m2 : Int) * 4294967296) = (m2 : Int) * 4294967296 := by rw [IntKind.wrap_u64]; omega
  have x6 : IntKind.u64.wrap (g0 : Int) = (g0 : Int) := by rw [IntKind.wrap_u64]; omega
  have x7 : IntKind.u64.wrap (r0 : Int) = (r0 : Int) := by rw [IntKind.wrap_u64]; omega
  have x8 : IntKind.u64.wrap (m0 : Int) = (m0 : Int) := by rw [IntKind.wrap_u64]; omega
  clear hdm hT hTe hh hg0 hr0
  go_enter Try.func86, Try.ntmps86
  go_wp2_with fail
  go_quiet (fail)
  go_wp2_with fail
  go_quiet (fail)
  go_wp2_with fail
  go_quiet (fail)
  go_wp2
  go_loopw [8, 9] (fun s8 s9 wr => ∃ g r : Nat, s8 = .int .u64 (g : Int) ∧ s9 = .int .u64 (r : Int) ∧ GuessL T h m0 tp nx g r ∧ g ≤ 8589934592 ∧ r < 4294967296 ∧ Below w.heap.size w wr) (fun s8 _ _ => (intOf s8).toNat)
  case atStart => exact ⟨g0, r0, rfl, rfl, HL, hg0l, by omega, belowN (belowN (belowN (Below.refl _ _) _) _) _⟩
  case round =>
    clear HL e1 e2 e3 x1 x2 x5 x6 x7 hor hml hg0l y0 y1 y2
    obtain ⟨g, r, rfl, rfl, HL, hgl, hrl, hWr⟩ := hrel
    have k0 : wr.cell? ⟨b, off, none⟩ = some (.int .u32 (m0 : Int)) := (hWr.cell (p := ⟨b, off, none⟩) hb).trans c0
    have x9 : IntKind.u64.wrap ((r : Int) * 4294967296) = (r : Int) * 4294967296 := by rw [IntKind.wrap_u64]; omega
    have hor := or_wide m0 r hm0 hrl
    by_cases hA : 4294967296 ≤ g
    · have hA' : (4294967295 : Int) < (g : Int) := by omega
      have hAd : decide ((4294967295 : Int) < (g : Int)) = true := decide_eq_true hA'
      have HN := HL.step (by omega) (.inl (by omega))
      have hgm : (g : Int) - 1 = ((g - 1 : Nat) : Int) := by omega
      have hwg : IntKind.u64.wrap ((g : Int) - 1) = ((g - 1 : Nat) : Int) := by rw [IntKind.wrap_u64]; omega
      have hwr : IntKind.u64.wrap ((r : Int) + (tp : Int)) = ((r + tp : Nat) : Int) := by rw [IntKind.wrap_u64]; omega
      obtain ⟨g1, hg1e⟩ : ∃ g1, g1 = g - 1 := ⟨_, rfl⟩
      obtain ⟨r1, hr1⟩ : ∃ r1, r1 = r + tp := ⟨_, rfl⟩
      rw [← hg1e] at HN hgm hwg
      rw [← hr1] at HN hwr
      have hg1l : g1 ≤ 8589934592 ∧ g1 < g := by omega
      have hr1l : r1 < 8589934592 := by omega
      clear hg1e hr1 HL
      by_cases hbr : 4294967296 ≤ r1
      · have hbr' : (4294967295 : Int) < (r1 : Int) := by omega
        have HF := HN.broke hbr
        have hq : g1 < 4294967296 := HF.1
        have hwq : IntKind.u32.wrap (g1 : Int) = (g1 : Int) := by simp [IntKind.wrap, IntKind.bits, IntKind.signed]; omega
        clear HN
        go_wp2
        go_ret
        exact ⟨g1, rfl, HF, hWr⟩
      · have hbr' : ¬ (4294967295 : Int) < (r1 : Int) := by omega
        go_wp2
        go_roundw
        case rel => exact ⟨g1, r1, rfl, rfl, HN, hg1l.1, by omega, hWr⟩
        case measure => simp [intOf]; omega
    · have hA' : ¬ (4294967295 : Int) < (g : Int) := by omega
      have hAd : decide ((4294967295 : Int) < (g : Int)) = false := decide_eq_false hA'
      have hpl : g * nx < 18446744073709551616 := Nat.lt_of_lt_of_le (Nat.mul_lt_mul'' (by omega : g < 4294967296) hnx0) (by decide)
      have hpw : IntKind.u64.wrap ((g : Int) * (nx : Int)) = ((g * nx : Nat) : Int) := by rw [IntKind.wrap_u64, ← Int.natCast_mul]; omega
      have HP : GuessP g nx (g * nx) := rfl
      generalize g * nx = P at hpl hpw HP
      obtain ⟨Z, hZ⟩ : ∃ Z, Z = m0 + 4294967296 * r := ⟨_, rfl⟩
      rw [← hZ] at hor
      by_cases hB : Z < P
      · have hB' : (Z : Int) < (P : Int) := by omega
        have hg1 : 1 ≤ g := by
          rcases Nat.eq_zero_or_pos g with h0 | h0
          · have : g * nx = P := HP
            rw [h0, Nat.zero_mul] at this; omega
          · exact h0
        have hcc : r * 4294967296 + m0 < g * nx := by rw [show g * nx = P from HP]; omega
        have HN := HL.step hg1 (.inr hcc)
        have hgm : (g : Int) - 1 = ((g - 1 : Nat) : Int) := by omega
        have hwg : IntKind.u64.wrap ((g : Int) - 1) = ((g - 1 : Nat) : Int) := by rw [IntKind.wrap_u64]; omega
        have hwr : IntKind.u64.wrap ((r : Int) + (tp : Int)) = ((r + tp : Nat) : Int) := by rw [IntKind.wrap_u64]; omega
        obtain ⟨g1, hg1e⟩ : ∃ g1, g1 = g - 1 := ⟨_, rfl⟩
        obtain ⟨r1, hr1⟩ : ∃ r1, r1 = r + tp := ⟨_, rfl⟩
        rw [← hg1e] at HN hgm hwg
        rw [← hr1] at HN hwr
        have hg1l : g1 ≤ 8589934592 ∧ g1 < g := by omega
        have hr1l : r1 < 8589934592 := by omega
        clear hg1e hr1 HL hcc HP hZ
        by_cases hbr : 4294967296 ≤ r1
        · have hbr' : (4294967295 : Int) < (r1 : Int) := by omega
          have HF := HN.broke hbr
          have hq : g1 < 4294967296 := HF.1
          have hwq : IntKind.u32.wrap (g1 : Int) = (g1 : Int) := by simp [IntKind.wrap, IntKind.bits, IntKind.signed]; omega
          clear HN
          go_wp2
          go_ret
          exact ⟨g1, rfl, HF, hWr⟩
        · have hbr' : ¬ (4294967295 : Int) < (r1 : Int) := by omega
          go_wp2
          go_roundw
          case rel => exact ⟨g1, r1, rfl, rfl, HN, hg1l.1, by omega, hWr⟩
          case measure => simp [intOf]; omega
      · have hB' : ¬ (Z : Int) < (P : Int) := by omega
        have HF := HL.done (by omega) (by rw [show g * nx = P from HP]; omega)
        have hwq : IntKind.u32.wrap (g : Int) = (g : Int) := by simp [IntKind.wrap, IntKind.bits, IntKind.signed]; omega
        clear HL HP hZ
        go_wp2
        go_ret
        exact ⟨g, rfl, HF, hWr⟩
end Go.Proofs.Ythgpacajeaphhaa
