import Derived.Test.YtnpjlmnhailipaaKpD
namespace Go.Proofs.Ytnpjlmnhailipaa
open Go.RowKit Go.Maps
set_option linter.unusedVariables false
set_option linter.unusedSimpArgs false

/-- How long a slice value is. -/
def slLen : Value → Nat
  | .slice _ n _ => n
  | _ => 0

set_option maxRecDepth 100000 in
set_option maxHeartbeats 1000000 in
theorem drawDictRun_any (w : World) (a : Option Addr) (n c : Nat) (bs : List Int) (h : Src w a n c bs) :
    Calls Try.prog 36 #[.slice a n c] w fun e w' => ∃ ad cp ops, e = .returned (.slice ad ops.length cp) ∧ ops.length ≤ 5001 ∧ OwnO 59 w' w.heap.size (.slice ad ops.length cp) ops ∧ Below w.heap.size w w' := by
  go_enter Try.func36, Try.ntmps36
  go_wp2_with fail
  refine (dr_open_any _ a n c bs h).mono ?_
  rintro e w1 ⟨g, rfl, hg, hR1, V1⟩
  have hgl := hR1.lt
  have hbz : ∀ b off, 0 < n → a = some ⟨b, off, none⟩ → b < w1.heap.size := fun b off h0 e => by
    obtain ⟨b', off', e', hlt, _⟩ := h.by_ h0
    rw [e] at e'
    simp at e'
    have := V1.size
    omega
  have hO60 : ∀ W, Rdr W g a n c bs → Calls Try.prog 63 #[.pointer (some ⟨g, 0, none⟩), .int .i64 60] W fun e w' => ∃ x : Bool, e = .returned (.bool x) ∧ Drawn W w' g a n c bs := fun W h => dr_once_any W g a n c bs 60 (by omega) (by omega) h
  have hB2 : ∀ W, Rdr W g a n c bs → Calls Try.prog 64 #[.pointer (some ⟨g, 0, none⟩), .int .i64 2] W fun e w' => ∃ x : Nat, e = .returned (.int .i64 x) ∧ x < 2 ∧ Drawn W w' g a n c bs := fun W h => dr_below_any W g a n c bs 2 (by omega) (by omega) h
  go_wp2_with fail
  refine (drawOps_any w1 g a n c bs 200 (by omega) (by omega) hR1 hbz).mono ?_
  rintro e w2 ⟨oa, oc, ops, rfl, hol, hO2, hD2⟩
  go_wp2_with fail
  refine (hO60 _ hD2.rd).mono ?_
  rintro e w3 ⟨t, rfl, hD3⟩
  have hD13 := hD2.trans hD3
  have hO3 := hO2.drawn hgl hD3
  have V3 : Below w.heap.size w w3 := V1.trans (gb_to hD13.gb (fun k hk => by cases hk; omega) V1.size)
  have hs1 := V1.size
  cases t
  · go_wp2
    go_ret
    exact ⟨_, _, ops, rfl, by omega, hO3.mono hs1, V3⟩
  · go_wp2
    go_loopw [4] (fun v wr => ∃ (os : List Op), os.length ≤ 5001 ∧ OwnO 59 wr w1.heap.size v os ∧ Drawn w1 wr g a n c bs) (fun v _ => 5001 - slLen v)
    case atStart => exact ⟨ops, by omega, hO3, hD13⟩
    case round =>
      obtain ⟨os, hos, hO, hD⟩ := hrel
      obtain ⟨va, vc, hv⟩ := hO.form
      subst hv
      go_wp2_with fail
      refine (hB2 _ hD.rd).mono ?_
      rintro e w4 ⟨x, rfl, hx, hD4⟩
      have hDA := hD.trans hD4
      have hO4 := hO.drawn hgl hD4
      have hs4 := hDA.gb.size
      by_cases hlt : os.length < 5000 + x
      · have hlti : (os.length : Int) < 5000 + (x : Int) := by omega
        obtain ⟨N, hN⟩ : ∃ N, os.length = N := ⟨_, rfl⟩
        obtain ⟨q, hq⟩ : ∃ q : Nat, N / 40 = q := ⟨_, rfl⟩
        have hqd : Int.tdiv (N : Int) 40 = (q : Int) := by rw [← hq, show (40 : Int) = ((40 : Nat) : Int) from rfl, ← Int.ofNat_tdiv]
        have hqb : q ≤ 5001 := by omega
        have HN : Hid (os.length = N) := hN
        rw [hN] at hlti hO hO4 hos ⊢
        clear hN hq
        have hok : shO.ok ⟨1, (N : Int), (q : Int), 0⟩ := ⟨⟨(by decide : (-9223372036854775808 : Int) ≤ 1), (by decide : (1 : Int) < 9223372036854775808)⟩, ⟨by show 0 ≤ (N : Int); omega, by show (N : Int) < _; omega⟩, ⟨by show _ ≤ (q : Int); omega, by show (q : Int) < _; omega⟩, ⟨(by decide : (-9223372036854775808 : Int) ≤ 0), (by decide : (0 : Int) < 9223372036854775808)⟩⟩
        go_wp2_with (at_builtin; refine wpList_append_one (S := shO) Try.info59 rfl (by omega) rfl _ _ 48 rfl Try.underlying48 w1.heap.size _ os (⟨1, (N : Int), (q : Int), 0⟩ : Op) hok w4.heap.size 1 rfl rfl (hO4.alloc _) (op_new _ (⟨1, (N : Int), (q : Int), 0⟩ : Op) _ _ (by simp)) (by have := HN.out; omega) (by simp; omega) ?_; intro a' c' w' hO' hg')
        go_roundw
        case rel => exact ⟨os ++ [(⟨1, (N : Int), (q : Int), 0⟩ : Op)], by have := HN.out; simp; omega, by simpa using hO', (hDA.below ((Below.refl _ _).alloc (Nat.le_refl _) _)).grown hg' (fun j hj => (hO4.lt j hj).1) hgl hbz⟩
        case measure => have := HN.out; simp [slLen]; omega
      · have hlti : ¬ (os.length : Int) < 5000 + (x : Int) := by omega
        go_wp2
        go_ret
        exact ⟨_, _, os, rfl, hos, hO4.mono hs1, V1.trans (gb_to hDA.gb (fun k hk => by cases hk; omega) V1.size)⟩
end Go.Proofs.Ytnpjlmnhailipaa
