import Derived.Test.YtnpjlmnhailipaaPuI
import Derived.Test.YtnpjlmnhailipaaCtS
namespace Go.Proofs.Ytnpjlmnhailipaa
open Go.RowKit Go.Maps
set_option linter.unusedVariables false
set_option linter.unusedSimpArgs false

open Classical in
noncomputable def putA (d : Dt) (h k v : Int) : Dt × Bool := if OkD d then putD d h k v else (noD, false)

theorem rn_len {d : Dt} (hl : livN d.e ≤ 43690) (h : (rnD d).2 = true) : (rnD d).1.e.length ≤ 43690 ∧ (rnD d).1.s.length ≤ 65536 := by
  obtain ⟨M, hM, hN⟩ := NM.ex _ hl
  simp only [rnD, nsm_eq hN] at h ⊢
  split at h
  · cases h
  · rename_i h16
    rw [if_neg h16]
    refine ⟨by simp only [liv_len]; exact hl, ?_⟩
    rw [show (⟨tabOf (2 ^ M) (liv d.e), liv d.e, d.l⟩ : Dt).s.length = 2 ^ M from tabK_length _ _ _]
    exact sz_le (by omega)
theorem putD_len {d : Dt} (hok : OkD d) (h k v : Int) : (putD d h k v).1.e.length ≤ 65536 ∧ (putD d h k v).1.s.length ≤ 65536 := by
  obtain ⟨m, hm3, hm, ht, hl, hs, hroom⟩ := hok.tab
  have hsz := sz_le hm
  have hll : livN d.e ≤ 43690 := Nat.le_trans (List.countP_le_length) (by omega)
  unfold putD
  split
  · simp; omega
  · split
    · simp only [addD, List.length_append, List.length_singleton]
      rw [show (tabOf d.s.length (d.e ++ [⟨h, k, v, false⟩])).length = d.s.length from tabK_length _ _ _]
      omega
    · split
      · rename_i h2
        have := rn_len hll h2
        simp only [addD, List.length_append, List.length_singleton]
        rw [show (tabOf (rnD d).1.s.length ((rnD d).1.e ++ [⟨h, k, v, false⟩])).length = (rnD d).1.s.length from tabK_length _ _ _]
        omega
      · simp only; omega
theorem putA_len (d : Dt) (h k v : Int) : (1 : Int) + (putA d h k v).1.s.length ≤ 33554432 := by
  unfold putA
  split
  · rename_i hok
    have := (putD_len hok h k v).2
    omega
  · simp [noD]

set_option maxRecDepth 100000 in
theorem putI_any (v : Value) (d : Dt) (h k x : Int) (w : World) (hr : RdD w v d) (hb : -9223372036854775808 ≤ d.l ∧ d.l < 9223372036854775808) (hkb : -9223372036854775808 ≤ k ∧ k ≤ 9223372036854775807) (hh0 : 0 ≤ h) (hh1 : h < 18446744073709551616) (hx0 : -9223372036854775808 ≤ x) (hx1 : x < 9223372036854775808) :
    Calls Try.prog 23 #[v, .int .u64 h, .int .i64 k, .int .i64 x] w fun e w' => ∃ u, e = .returned (.tuple #[u, .bool (putA d h k x).2]) ∧ OwnD w' w.heap.size u (putA d h k x).1 ∧ Below w.heap.size w w' := by
  obtain ⟨a1, n1, c1, a2, n2, c2, e0⟩ := hr.form
  subst e0
  have bW := Below.three (w := w) (.slice a1 n1 c1) (.slice a2 n2 c2) (.int .i64 d.l) 25
  have bX := Box3.new w (.slice a1 n1 c1) (.slice a2 n2 c2) (.int .i64 d.l) 25
  have HO := fun W r => orderedOf_any (.agg #[.slice a1 n1 c1, .slice a2 n2 c2, .int .i64 d.l]) d W r hb
  have bW2 := bW.alloc bW.size (.cells #[.slice none 0 0, .slice none 0 0, .int .i64 0] 25)
  have bR0 := Box3.new (w.alloc (.cells #[.slice a1 n1 c1, .slice a2 n2 c2, .int .i64 d.l] 25)) (.slice none 0 0) (.slice none 0 0) (.int .i64 0) 25
  have fR0 : ∀ o, ((w.alloc (.cells #[.slice a1 n1 c1, .slice a2 n2 c2, .int .i64 d.l] 25)).alloc (.cells #[.slice none 0 0, .slice none 0 0, .int .i64 0] 25)).frozen? ⟨w.heap.size + 1, o, none⟩ = false := fun o => World.frozen?_alloc_at _ _ _ _ (by simp)
  simp only [World.size_alloc] at bR0
  obtain ⟨-, k0, k1, k2⟩ := id bX
  by_cases hok : OkD d
  · simp only [putA, if_pos hok]
    simp only [okD_true hok] at HO
    obtain ⟨m, _, hm, ht, hl, _⟩ := hok.tab
    have hsz := sz_le hm
    have hlen := (putD_len hok h k x).1
    generalize hA : putD d h k x = Z at hlen ⊢
    have HA : Hid (putD d h k x = Z) := hA
    clear hA
    obtain ⟨Zd, Zb⟩ := Z
    simp only at hlen ⊢
    go_enter Try.func23, Try.ntmps23
    go_wp2_with fail
    refine (HO _ (hr.keep bW2)).mono ?_
    rintro e w1 ⟨g, rfl, hg, hB1, hM⟩
    have hM1 : MapAt w1 g d := hM hok
    have V1 := bW2.trans (hB1.mono bW2.size)
    simp only [World.size_alloc] at hg
    have bR1 := bR0.keep hB1
    have fR1 : ∀ o, w1.frozen? ⟨w.heap.size + 1, o, none⟩ = false := fun o => (hB1.frozen (p := ⟨w.heap.size + 1, o, none⟩) bR0.1).trans (fR0 o)
    clear k0 k1 k2 hM
    go_wp2_with fail
    refine (put_any g d h k x _ hM1 hok hh0 hh1 ⟨hkb.1, by omega⟩ ⟨hx0, hx1⟩).mono ?_
    rw [HA.out]
    simp only
    rintro e w2 ⟨rfl, hM2, hB2⟩
    have V2 := V1.trans (hB2.mono (by omega))
    have bR2 : Box3 w2 (w.heap.size + 1) (.slice none 0 0) (.slice none 0 0) (.int .i64 0) := bR1.keepB (hB2.block (w.heap.size + 1) (by omega)) hB2.size
    have fR2 : ∀ o, w2.frozen? ⟨w.heap.size + 1, o, none⟩ = false := fun o => by
      rw [World.frozen?_of_block (hB2.block (w.heap.size + 1) (by omega))]; exact fR1 o
    go_wp2_with fail
    refine (handed g Zd _ hM2 (by omega)).mono ?_
    rintro e w3 ⟨u, rfl, hO3, hB3⟩
    obtain ⟨b1, m1, p1, b2, m2, p2, e1⟩ := hO3.rd.form
    subst e1
    have V3 := V2.trans (hB3.mono V2.size)
    have bR3 := bR2.keep hB3
    have fR3 : ∀ o, w3.frozen? ⟨w.heap.size + 1, o, none⟩ = false := fun o => (hB3.frozen (p := ⟨w.heap.size + 1, o, none⟩) bR2.1).trans (fR2 o)
    obtain ⟨-, r0, r1, r2⟩ := id bR3
    have f0 := fR3 0
    have f1 := fR3 1
    have f2 := fR3 2
    have q0 := bR3.p0 (.slice b1 m1 p1)
    have q1 := q0.p1 (.slice b2 m2 p2)
    have q2 := q1.p2 (.int .i64 Zd.l)
    go_wp2_with fail
    have hz := V3.size
    refine bodyPost_ret (v := .tuple #[.agg #[.slice b1 m1 p1, .slice b2 m2 p2, .int .i64 Zd.l], .bool Zb]) (by simp [results, Try.results23, go_sem, q0.2.1, q1.2.2.1, q2.2.2.2]) rfl ⟨_, rfl, ?_, ?_⟩
    · exact (((hO3.setBelow (by show w.heap.size + 1 < g + 1; omega) _).setBelow (by show w.heap.size + 1 < g + 1; omega) _).setBelow (by show w.heap.size + 1 < g + 1; omega) _).mono (by omega)
    · exact below_set (below_set (below_set V3 hz (by omega) _) (by simpa [World.setCell] using hz) (by omega) _) (by simpa [World.setCell] using hz) (by omega) _
  · simp only [putA, if_neg hok]
    simp only [okD_false hok] at HO
    go_enter Try.func23, Try.ntmps23
    go_wp2_with fail
    refine (HO _ (hr.keep bW2)).mono ?_
    rintro e w1 ⟨g, rfl, hg, hB1, hM⟩
    have V1 := bW2.trans (hB1.mono bW2.size)
    have bR3 := bR0.keep hB1
    have fR3 : ∀ o, w1.frozen? ⟨w.heap.size + 1, o, none⟩ = false := fun o => (hB1.frozen (p := ⟨w.heap.size + 1, o, none⟩) bR0.1).trans (fR0 o)
    obtain ⟨-, r0, r1, r2⟩ := id bR3
    have f0 := fR3 0
    have f1 := fR3 1
    have f2 := fR3 2
    have q0 := bR3.p0 (.slice none 0 0)
    have q1 := q0.p1 (.slice none 0 0)
    have q2 := q1.p2 (.int .i64 0)
    go_wp2
    have hz := V1.size
    refine bodyPost_ret (v := .tuple #[.agg #[.slice none 0 0, .slice none 0 0, .int .i64 0], .bool false]) (by simp [results, Try.results23, go_sem, q0.2.1, q1.2.2.1, q2.2.2.2]) rfl ⟨_, rfl, OwnD.nil _ _, ?_⟩
    exact below_set (below_set (below_set V1 hz (by omega) _) (by simpa [World.setCell] using hz) (by omega) _) (by simpa [World.setCell] using hz) (by omega) _
end Go.Proofs.Ytnpjlmnhailipaa
