import Derived.Test.YtnpjlmnhailipaaRunP
import Derived.Test.YtnpjlmnhailipaaHelO
import Derived.Deep.RegionWith
namespace Go.Proofs.Ytnpjlmnhailipaa
open Go.RowKit Go.Maps
set_option linter.unusedVariables false
set_option linter.unusedSimpArgs false

theorem oneIf_any (b : Bool) (w : World) : Calls Try.prog 80 #[.bool b] w fun e w' => e = .returned (.int .i64 (if b then 1 else 0)) ∧ w' = w := by
  cases b
  · go_enter Try.func80, Try.ntmps80
    go_wp2
    go_ret
    exact ⟨rfl, rfl⟩
  · go_enter Try.func80, Try.ntmps80
    go_wp2
    go_ret
    exact ⟨rfl, rfl⟩

/-- What an operation answers, and the dict behind it. -/
noncomputable def runD (d : Dt) (o : Op) : Dt × Int :=
  if o.c = 1 then ((putD d o.h o.k o.v).1, if (putD d o.h o.k o.v).2 then 1 else 0)
  else if o.c = 2 then (d, if 0 ≤ (fnd d o.h o.k).1 then (d.e.getD (fnd d o.h o.k).1.toNat ⟨0, 0, 0, false⟩).v else -1)
  else if o.c = 3 then ((cutD d o.h o.k).1, if (cutD d o.h o.k).2 then 1 else 0)
  else if o.c = 4 then (d, (fnd d o.h o.k).2)
  else if o.c = 5 then (d, d.s.length)
  else (d, -2)

set_option maxRecDepth 100000 in
set_option maxHeartbeats 2000000 in
theorem ranOn_any (g : Nat) (d : Dt) (o : Op) (w : World) (hM : MapAt w g d) (hok : OkD d) (ho : shO.ok o) :
    Calls Try.prog 59 #[.pointer (some ⟨g, 0, none⟩), o.val] w fun e w' => e = .returned (.int .i64 (runD d o).2) ∧ MapAt w' g (runD d o).1 ∧ Below g w w' ∧ Fr w w' g := by
  obtain ⟨m, hm3, hm, ht, hl, hs, hroom⟩ := hok.tab
  have hsz := sz_le hm
  obtain ⟨c, h, k, v⟩ := o
  obtain ⟨hc, hh, hk, hv⟩ := id ho
  simp only at hc hh hk hv
  have hgz : g < w.heap.size := by obtain ⟨_, _, b, _⟩ := hM; exact b.1
  have bX := Box4.new w (.int .i64 c) (.int .u64 h) (.int .i64 k) (.int .i64 v) 59
  have hB0 : Below w.heap.size w (w.alloc (.cells #[.int .i64 c, .int .u64 h, .int .i64 k, .int .i64 v] 59)) := (Below.refl _ _).alloc (Nat.le_refl _) _
  have hM0 := hM.keep hB0
  have hF0 : Fr w (w.alloc (.cells #[.int .i64 c, .int .u64 h, .int .i64 k, .int .i64 v] 59)) g := Fr.keep hB0 hgz
  have hB0' : Below g w (w.alloc (.cells #[.int .i64 c, .int .u64 h, .int .i64 k, .int .i64 v] 59)) := hB0.mono (Nat.le_of_lt hgz)
  have hz0 := hB0.size
  have HP := fun W r => put_anyF g d h k v W r hok hh.1 hh.2 hk hv
  have HC := fun W r => cut_anyF g d h k W r hok hh.1 hh.2
  have hfv := fnd_val hok h k hh.1 hh.2
  have HF := fun W vs ve b r1 r2 => find_tab g m vs ve (.int .i64 d.l) d h k W b r1 r2 hm ht hl hh.1 hh.2
  clear ht hs
  generalize hZ : runD d ⟨c, h, k, v⟩ = Z
  simp only [runD] at hZ
  simp only [Op.val]
  obtain ⟨-, x0, x1, x2, x3⟩ := id bX
  by_cases h1 : c = 1
  · subst h1
    rw [if_pos rfl] at hZ
    generalize putD d h k v = P at hZ HP
    obtain ⟨Pd, Pb⟩ := P
    simp only at hZ HP
    have HZ : Hid _ := hZ
    clear hZ
    go_enter Try.func59, Try.ntmps59
    go_wp2_with fail
    refine (HP _ hM0).mono ?_
    rintro e w1 ⟨rfl, hM1, hB1, hF1⟩
    have hZ := HZ.out
    subst hZ
    cases Pb
    · go_wp2_with (go_at_call 80; refine (oneIf_any _ _).mono ?_; rintro e w2 ⟨rfl, rfl⟩)
      go_ret
      exact ⟨rfl, hM1, hB0'.trans hB1, hF0.trans hF1 hz0⟩
    · go_wp2_with (go_at_call 80; refine (oneIf_any _ _).mono ?_; rintro e w2 ⟨rfl, rfl⟩)
      go_ret
      exact ⟨rfl, hM1, hB0'.trans hB1, hF0.trans hF1 hz0⟩
  rw [if_neg h1] at hZ
  have h1' : (c == 1) = false := by simpa using h1
  clear h1
  by_cases h2 : c = 2
  · subst h2
    rw [if_pos rfl] at hZ
    generalize hFn : fnd d h k = F at hfv hZ HF
    obtain ⟨F0, F1⟩ := F
    simp only at hfv hZ HF
    have HZ : Hid _ := hZ
    clear hZ h1' hFn
    obtain ⟨vs, ve, bM, oS, oE, hne, hfz⟩ := id hM0
    go_enter Try.func59, Try.ntmps59
    go_wp2_with fail
    refine (HF _ _ _ bM oS.rd oE.rd).mono ?_
    rintro e w1 ⟨rfl, hB1⟩
    have hM1 := hM0.keep hB1
    have V1 : Below g w w1 := hB0'.trans (hB1.mono (Nat.le_of_lt bM.1))
    have F1' : Fr w w1 g := hF0.trans (Fr.keep hB1 bM.1) hz0
    have bM1 := bM.keep hB1
    have oE1 := oE.keep hB1
    obtain ⟨-, k0, k1, k2⟩ := id bM1
    rcases hfv with rfl | ⟨hF0', hlt, hg, hhh, hkk⟩
    · have hZ := HZ.out
      rw [if_neg (by omega)] at hZ
      subst hZ
      clear HZ
      go_wp2_with fail
      go_ret
      exact ⟨rfl, hM1, V1, F1'⟩
    · have hZ := HZ.out
      rw [if_pos hF0'] at hZ
      clear HZ
      obtain ⟨P, rfl⟩ : ∃ P : Nat, F0 = (P : Int) := ⟨F0.toNat, by omega⟩
      simp only [Int.toNat_natCast] at hlt hg hhh hkk hZ
      have hgd : d.e.getD P ⟨0, 0, 0, false⟩ = d.e[P] := by simp [List.getD, hlt]
      rw [hgd] at hZ
      subst hZ
      obtain ⟨ea, ec, rfl⟩ := oE1.form
      rcases oE1.shape with ⟨-, he⟩ | ⟨gb, cap, he, hgb, hgs, hcap⟩
      · rw [he] at hlt; simp at hlt
      simp only [Value.slice.injEq, true_and] at he
      obtain ⟨rfl, rfl⟩ := he
      obtain ⟨d0, d1, d2, d3⟩ := RdE.at (off := 0) (fun k hk j hj => by rw [Nat.zero_add]; exact oE1.cell k hk j hj) P hlt
      simp only [Nat.zero_add] at d0 d1 d2 d3
      clear hg hhh hkk hgd
      go_wp2_with fail
      go_ret
      exact ⟨rfl, hM1, V1, F1'⟩
  rw [if_neg h2] at hZ
  have h2' : (c == 2) = false := by simpa using h2
  clear h2
  by_cases h3 : c = 3
  · subst h3
    rw [if_pos rfl] at hZ
    generalize cutD d h k = P at hZ HC
    obtain ⟨Pd, Pb⟩ := P
    simp only at hZ HC
    have HZ : Hid _ := hZ
    clear hZ h1' h2'
    go_enter Try.func59, Try.ntmps59
    go_wp2_with fail
    refine (HC _ hM0).mono ?_
    rintro e w1 ⟨rfl, hM1, hB1, hF1⟩
    have hZ := HZ.out
    subst hZ
    cases Pb
    · go_wp2_with (go_at_call 80; refine (oneIf_any _ _).mono ?_; rintro e w2 ⟨rfl, rfl⟩)
      go_ret
      exact ⟨rfl, hM1, hB0'.trans hB1, hF0.trans hF1 hz0⟩
    · go_wp2_with (go_at_call 80; refine (oneIf_any _ _).mono ?_; rintro e w2 ⟨rfl, rfl⟩)
      go_ret
      exact ⟨rfl, hM1, hB0'.trans hB1, hF0.trans hF1 hz0⟩
  rw [if_neg h3] at hZ
  have h3' : (c == 3) = false := by simpa using h3
  clear h3
  obtain ⟨vs, ve, bM, oS, oE, hne, hfz⟩ := id hM0
  obtain ⟨-, k0, k1, k2⟩ := id bM
  by_cases h4 : c = 4
  · subst h4
    rw [if_pos rfl] at hZ
    generalize hFn : fnd d h k = F at hfv hZ HF
    obtain ⟨F0, F1⟩ := F
    simp only at hfv hZ HF
    subst hZ
    clear h1' h2' h3' hFn hfv
    go_enter Try.func59, Try.ntmps59
    go_wp2_with fail
    refine (HF _ _ _ bM oS.rd oE.rd).mono ?_
    rintro e w1 ⟨rfl, hB1⟩
    have hM1 := hM0.keep hB1
    have V1 : Below g w w1 := hB0'.trans (hB1.mono (Nat.le_of_lt bM.1))
    have F1' : Fr w w1 g := hF0.trans (Fr.keep hB1 bM.1) hz0
    go_wp2_with fail
    go_ret
    exact ⟨rfl, hM1, V1, F1'⟩
  rw [if_neg h4] at hZ
  have h4' : (c == 4) = false := by simpa using h4
  clear h4
  by_cases h5 : c = 5
  · subst h5
    rw [if_pos rfl] at hZ
    subst hZ
    clear h1' h2' h3' h4'
    obtain ⟨sa, sc, rfl⟩ := oS.form
    go_enter Try.func59, Try.ntmps59
    go_wp2_with fail
    go_ret
    exact ⟨rfl, hM0, hB0', hF0⟩
  · rw [if_neg h5] at hZ
    subst hZ
    have h5' : (c == 5) = false := by simpa using h5
    clear h5
    go_enter Try.func59, Try.ntmps59
    go_wp2_with fail
    go_ret
    exact ⟨rfl, hM0, hB0', hF0⟩
end Go.Proofs.Ytnpjlmnhailipaa
