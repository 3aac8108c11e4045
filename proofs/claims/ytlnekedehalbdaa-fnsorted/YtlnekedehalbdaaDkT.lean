import Derived.Test.YtlnekedehalbdaaDkS
namespace Go.Proofs.Ytlnekedehalbdaa
open Go.RowKit
set_option linter.unusedVariables false
set_option linter.unusedSimpArgs false

set_option maxRecDepth 100000 in
set_option maxHeartbeats 1000000 in
theorem drawSort_any (w : World) (a : Option Addr) (n c : Nat) (bs : List Int) (hs : Src w a n c bs) :
    Calls Try.prog 21 #[.slice a n c] w fun e w' => ∃ v L, e = .returned v ∧ L.length ≤ 2001 ∧ Own w' w.heap.size v L ∧ Below w.heap.size w w' := by
  have hOp := dr_open_any w a n c bs hs
  go_enter Try.func21, Try.ntmps21
  go_wp2_with fail
  refine hOp.mono ?_
  rintro e w1 ⟨g, rfl, hg, hR, hB1⟩
  have hz1 := hB1.size
  have hbz : ∀ b off, 0 < n → a = some ⟨b, off, none⟩ → b < w1.heap.size := fun b off h0 e => by
    obtain ⟨b', off', e', hlt, _⟩ := hs.by_ h0
    rw [e'] at e; cases e; omega
  have hO40 := fun W h => dr_once_any W g a n c bs 40 (by omega) (by omega) h
  have hB2 := fun W h => dr_below_any W g a n c bs 2 (by omega) (by omega) h
  have hglt := hR.lt
  clear hOp
  go_wp2_with fail
  refine (hO40 _ hR).mono ?_
  rintro e w2 ⟨x, rfl, hD2⟩
  clear hO40
  cases x
  · have hK := drawKeys_any w2 g a n c bs 120 (by omega) (by omega) hD2.rd (fun b off h0 e => Nat.lt_of_lt_of_le (hbz b off h0 e) hD2.gb.size)
    go_wp2_with fail
    refine hK.mono ?_
    rintro e w3 ⟨v, L, rfl, hL, hO, hD3⟩
    go_wp2
    go_ret
    exact ⟨v, L, rfl, by omega, hO.mono (Nat.le_trans hz1 hD2.gb.size), hB1.trans (gb_to (hD2.trans hD3).gb (fun k hk => by cases hk; exact hg) hz1)⟩
  · have hO0 := Own.empty w2
    have hDa := hD2.below ((Below.refl _ w2).alloc (Nat.le_refl _) (.cells #[] 2))
    have hsz2 := hD2.gb.size
    go_wp2
    go_loopw [4] (fun v wr => ∃ (L : List Int), L.length ≤ 2001 ∧ Own wr w1.heap.size v L ∧ Drawn w1 wr g a n c bs) (fun v _ => 2001 - slM v)
    case atStart => exact ⟨[], by simp, hO0.mono hsz2, hDa⟩
    case round =>
      obtain ⟨L, hlen, hO, hD⟩ := hrel
      clear hO0 hDa hD2 hR
      obtain ⟨va, vc, hv⟩ := hO.form
      subst hv
      obtain ⟨k, hk⟩ : ∃ k, L.length = k := ⟨_, rfl⟩
      have HL : Hid (L.length = k) := hk
      rw [hk] at hO hlen ⊢
      clear hk
      go_wp2_with fail
      refine (hB2 _ hD.rd).mono ?_
      rintro e w3 ⟨x, rfl, hx, hD2⟩
      have hO2 := hO.drawn hglt hD2
      have hDB := hD.trans hD2
      have hsz2 := hDB.gb.size
      clear hO hD hD2
      by_cases hlt : k < 2000 + x
      · have hxR : -9223372036854775808 ≤ (k : Int) ∧ (k : Int) < 9223372036854775808 := by omega
        have hlz : (k : Int) < 2000 + (x : Int) := by omega
        go_wp2_with (at_builtin; refine wpList_append_gb rfl _ _ 22 rfl Try.underlying22 w1.heap.size _ _ L [(k : Int)] (k + 1) (by simp [HL.out]) rfl rfl (hO2.alloc _) (Rd.one w3 w3.heap.size rfl 2 hxR.1 hxR.2) (by simp) (by omega) (by simp; omega) ?_; intro a5 c5 w5 hO5 hg5)
        go_roundw
        case rel => exact ⟨L ++ [(k : Int)], by have := HL.out; simp; omega, hO5, (hDB.below ((Below.refl _ _).alloc (Nat.le_refl _) _)).grown hg5 (fun j hj => (hO2.lt j hj).1) hglt hbz⟩
        case measure => simp [slM]; omega
      · have hlz : ¬ (k : Int) < 2000 + (x : Int) := by omega
        go_wp2
        go_ret
        exact ⟨_, L, rfl, by have := HL.out; omega, hO2.mono hz1, hB1.trans (gb_to hDB.gb (fun k hk => by cases hk; exact hg) hz1)⟩
end Go.Proofs.Ytlnekedehalbdaa
