import Derived.Test.YtfcoffllelgakaaDoorBase
import Derived.Test.YtfcoffllelgakaaDoorNum
import Derived.Laws.AppendOwnNone
namespace Go.Proofs.YtfcoffllelgakaaDoor
open Go.RowKit
set_option linter.unusedVariables false
set_option linter.unusedSimpArgs false


set_option maxRecDepth 100000 in
theorem trimS_any (v : Value) (zs : List Int) (w : World) (hr : Rd w v zs) :
    Calls Tryd.prog 81 #[v] w fun e w' => ∃ a c, e = .returned (.slice a (lim (val zs)).length c) ∧ Own w' w.heap.size (.slice a (lim (val zs)).length c) (lim (val zs)) ∧ Below w.heap.size w w' := by
  have hr' := hr
  obtain ⟨a, cap, rfl, hl, hz, hn0, hc⟩ := hr
  obtain ⟨L, hL⟩ : ∃ L, L = lim (val zs) := ⟨_, rfl⟩
  rw [← hL]
  have HL : Hid (L = lim (val zs)) := hL
  clear hL
  go_enter Tryd.func81, Tryd.ntmps81
  go_wp2
  go_loop [3] (fun n => ∃ k : Nat, k ≤ zs.length ∧ n = .int .i64 k ∧ ∀ j, k ≤ j → zs.getD j 0 = 0) (fun n => (intOf n).toNat)
  case atStart => exact ⟨zs.length, Nat.le_refl _, rfl, fun j hj => by simp [List.getD, List.getElem?_eq_none hj]⟩
  case round =>
    obtain ⟨k, hk, rfl, hzero⟩ := hrel
    by_cases hk0 : k = 0
    · have HT : Hid (zs.take k = L) := (take_lim hz k hk hzero (.inl hk0)).trans HL.out.symm
      clear hzero hc
      subst hk0
      go_wp2_with (at_builtin; refine wpList_append_rd rfl _ _ 22 rfl Tryd.underlying22 w.heap.size _ _ [] (zs.take 0) rfl rfl (Own.empty w) ((hr'.upto 0 (Nat.zero_le _)).alloc _) (by simp) (by simp) ?_; intro a1 c1 w1 hO hB; rw [List.nil_append, HT.out] at hO ⊢)
      go_ret
      exact ⟨a1, c1, rfl, hO, ((Below.refl _ _).alloc (Nat.le_refl _) _).trans hB⟩
    · obtain ⟨b, off, rfl, hb, hcell⟩ := hc (by omega)
      have hce : w.cell? ⟨b, off + (k - 1), none⟩ = some (.int .u32 (zs.getD (k - 1) 0)) := hcell (k - 1) (by omega)
      by_cases hlast : zs.getD (k - 1) 0 = 0
      · rw [hlast] at hce
        have HZ : Hid (∀ j, k - 1 ≤ j → zs.getD j 0 = 0) := fun j hj => by
          by_cases e : j = k - 1
          · subst e; exact hlast
          · exact hzero j (by omega)
        clear hzero hc hcell hlast
        go_wp2
        go_round
        case rel => exact ⟨k - 1, by omega, by go_num, HZ.out⟩
        case measure => simp [intOf]; omega
      · have HT : Hid (zs.take k = L) := (take_lim hz k hk hzero (.inr hlast)).trans HL.out.symm
        have hb0 : (zs.getD (k - 1) 0 == 0) = false := beq_eq_false_iff_ne.mpr hlast
        generalize hq : zs.getD (k - 1) 0 = q at hce hb0
        have hcap : k ≤ cap := Nat.le_trans hk hn0.1
        clear hq hzero hlast hc hcell
        go_wp2_with (at_builtin; refine wpList_append_rd rfl _ _ 22 rfl Tryd.underlying22 w.heap.size _ _ [] (zs.take k) rfl rfl (Own.empty w) ((hr'.upto k hk).alloc _) (by simp; omega) (by simp) ?_; intro a1 c1 w1 hO hB; rw [List.nil_append, HT.out] at hO ⊢)
        go_ret
        exact ⟨a1, c1, rfl, hO, ((Below.refl _ _).alloc (Nat.le_refl _) _).trans hB⟩

theorem Own.cut {w : World} {B n cap : Nat} {a : Option Addr} {zs : List Int} (h : Own w B (.slice a n cap) zs) (k : Nat) (hk : k ≤ zs.length) (h0 : ¬ k = 0) : Own w B (.slice a k cap) (zs.take k) := by
  obtain ⟨⟨h1, h2⟩, hl, hz⟩ := h
  have hlen : (zs.take k).length = k := by simp; omega
  refine ⟨⟨by simp, ?_⟩, by omega, hz.take k⟩
  rcases h2 with ⟨hv, hn⟩ | ⟨g, c, cur, hv, hB, hh, hc, hm, hs, ht⟩
  · omega
  · simp at hv
    obtain ⟨rfl, rfl, rfl⟩ := hv
    refine .inr ⟨g, cap, cur, by rw [hlen], hB, hh, by omega, hm, hs, ?_⟩
    rw [hlen, List.map_take, ← ht]
    simp [List.take_take]; omega

set_option maxRecDepth 100000 in
theorem trimmed_gen (B n cap : Nat) (A0 : Option Addr) (zs : List Int) (w : World) (hO : Own w B (.slice A0 n cap) zs) :
    Calls Tryd.prog 75 #[.slice A0 n cap] w fun e w' => ∃ a c, e = .returned (.slice a (lim (val zs)).length c) ∧ (∀ W B, Own W B (.slice A0 n cap) zs → Own W B (.slice a (lim (val zs)).length c) (lim (val zs))) ∧ w' = w := by
  have hr := hO.rd
  obtain ⟨a1, cap1, e, hl, hz, hn0, hc⟩ := hr
  simp at e
  obtain ⟨rfl, rfl, rfl⟩ := e
  obtain ⟨L, hL⟩ : ∃ L, L = lim (val zs) := ⟨_, rfl⟩
  rw [← hL]
  have HL : Hid (L = lim (val zs)) := hL
  clear hL
  go_enter Tryd.func75, Tryd.ntmps75
  go_wp2
  go_loop [3] (fun n => ∃ k : Nat, k ≤ zs.length ∧ n = .int .i64 k ∧ ∀ j, k ≤ j → zs.getD j 0 = 0) (fun n => (intOf n).toNat)
  case atStart => exact ⟨zs.length, Nat.le_refl _, rfl, fun j hj => by simp [List.getD, List.getElem?_eq_none hj]⟩
  case round =>
    obtain ⟨k, hk, rfl, hzero⟩ := hrel
    by_cases hk0 : k = 0
    · have HT : Hid (zs.take k = L) := (take_lim hz k hk hzero (.inl hk0)).trans HL.out.symm
      clear hzero hc
      subst hk0
      go_wp2
      go_ret
      have e : L = [] := by rw [← HT.out]; rfl
      subst e
      exact ⟨none, 0, rfl, fun _ _ _ => Own.nil _ _, rfl⟩
    · obtain ⟨b, off, rfl, hb, hcell⟩ := hc (by omega)
      have hce : w.cell? ⟨b, off + (k - 1), none⟩ = some (.int .u32 (zs.getD (k - 1) 0)) := hcell (k - 1) (by omega)
      by_cases hlast : zs.getD (k - 1) 0 = 0
      · rw [hlast] at hce
        have HZ : Hid (∀ j, k - 1 ≤ j → zs.getD j 0 = 0) := fun j hj => by
          by_cases e : j = k - 1
          · subst e; exact hlast
          · exact hzero j (by omega)
        clear hzero hc hcell hlast
        go_wp2
        go_round
        case rel => exact ⟨k - 1, by omega, by go_num, HZ.out⟩
        case measure => simp [intOf]; omega
      · have HT : Hid (zs.take k = L) := (take_lim hz k hk hzero (.inr hlast)).trans HL.out.symm
        have hb0 : (zs.getD (k - 1) 0 == 0) = false := beq_eq_false_iff_ne.mpr hlast
        have hk1 : ((k : Int) == 0) = false := beq_len0 hk0
        have hcap : k ≤ cap := by
          rcases hO.shape with ⟨hv, _⟩ | ⟨g, c, hv, _, _, h⟩
          · cases hv
          · simp at hv; omega
        generalize hq : zs.getD (k - 1) 0 = q at hce hb0
        have hcut := fun W B (h : Own W B (.slice (some ⟨b, off, none⟩) zs.length cap) zs) => h.cut k hk hk0
        clear hq hzero hlast hc hcell
        go_wp2
        go_ret
        have hlen : L.length = k := by rw [← HT.out]; simp; omega
        rw [HT.out] at hcut
        refine ⟨_, cap, ?_, by rw [hlen]; exact hcut, rfl⟩
        rw [hlen]; rfl

theorem trimmed_any (B n cap : Nat) (a : Option Addr) (zs : List Int) (w : World) (hO : Own w B (.slice a n cap) zs) :
    Calls Tryd.prog 75 #[.slice a n cap] w fun e w' => ∃ a c, e = .returned (.slice a (lim (val zs)).length c) ∧ Own w B (.slice a (lim (val zs)).length c) (lim (val zs)) ∧ w' = w :=
  (trimmed_gen B n cap a zs w hO).mono fun e w' ⟨a1, c1, h1, h2, h3⟩ => ⟨a1, c1, h1, h2 w B hO, h3⟩
end Go.Proofs.YtfcoffllelgakaaDoor
