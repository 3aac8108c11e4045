import Derived.Test.YtfcoffllelgakaaDoorTrim
import Derived.Laws.MathBits
namespace Go.Proofs.YtfcoffllelgakaaDoor
open Go.RowKit
set_option linter.unusedVariables false
set_option linter.unusedSimpArgs false

/-- A block of which no cell is frozen. -/
def Unf (w : World) (b : Nat) : Prop := b < w.heap.size ∧ ∀ o, w.frozen? ⟨b, o, none⟩ = false
theorem Unf.keep {w w' : World} {b : Nat} (h : Unf w b) (hb : Below w.heap.size w w') : Unf w' b := ⟨Nat.lt_of_lt_of_le h.1 hb.size, fun o => (hb.frozen (p := ⟨b, o, none⟩) h.1).trans (h.2 o)⟩
theorem Unf.new (w : World) (cs : Array Value) (t : TypeId) : Unf (w.alloc (.cells cs t)) w.heap.size := ⟨by simp, fun o => World.frozen?_alloc_at _ _ _ _ (by simp)⟩
theorem Unf.drew {w : World} {b : Nat} (h : Unf w b) : Unf w.drew b := h.keep (Below.refl _ _).drew

/-- The sign that a number of absolute value n bears. -/
def nz (neg : Bool) (n : Nat) : Bool := neg && decide (0 < n)
theorem nz_len (neg : Bool) (n : Nat) : nz neg n = (neg && decide (0 < ((lim n).length : Int))) := by
  unfold nz
  congr 1
  by_cases h : n = 0
  · subst h; rw [lim_zero]; rfl
  · have : (lim n).length ≠ 0 := fun e => h (lim_eq_nil.mp (List.length_eq_zero_iff.mp e))
    rw [decide_eq_true (by omega), decide_eq_true (by omega)]

set_option maxRecDepth 100000 in
theorem l1Big_any (neg : Bool) (v : Value) (zs : List Int) (w : World) (hr : Rd w v zs) :
    Calls Tryd.prog 45 #[.bool neg, v] w fun e w' => ∃ a c, e = .returned (.agg #[.bool (nz neg (val zs)), .slice a (lim (val zs)).length c]) ∧ Own w' w.heap.size (.slice a (lim (val zs)).length c) (lim (val zs)) ∧ Below w.heap.size w w' := by
  have hT := trimS_any v zs (w.alloc (Obj.cells #[.bool false, .slice none 0 0] 29)) (hr.alloc _)
  rw [nz_len]
  generalize lim (val zs) = L at hT ⊢
  obtain ⟨a, cap, rfl, hl, hz, hn0, hc⟩ := hr
  clear hc
  go_enter Tryd.func45, Tryd.ntmps45
  go_wp2_with fail
  refine hT.mono ?_
  rintro e w1 ⟨a1, c1, rfl, hO, hB⟩
  clear hT
  have hbx := (Box.new w (.bool false) (.slice none 0 0) 29).keep hB
  obtain ⟨hz1, p0, p1⟩ := hbx
  obtain ⟨_, hf1⟩ := bcell hB
  cases neg with
  | true =>
    go_wp2
    refine bodyPost_ret (v := .agg #[.bool (decide (0 < (L.length : Int))), .slice a1 L.length c1]) (by simp [results, Tryd.results45, go_sem, p0, p1, hz1]) rfl ⟨a1, c1, by simp, ?_, ?_⟩
    · exact (((hO.setBelow (by simp) _).setBelow (by simp) _)).mono (by simp)
    · exact ((below_of_alloc hB).setCell (by simp) _).setCell (by simp) _
  | false =>
    go_wp2
    refine bodyPost_ret (v := .agg #[.bool false, .slice a1 L.length c1]) (by simp [results, Tryd.results45, go_sem, p0, p1, hz1]) rfl ⟨a1, c1, by simp, ?_, ?_⟩
    · exact (((hO.setBelow (by simp) _).setBelow (by simp) _)).mono (by simp)
    · exact ((below_of_alloc hB).setCell (by simp) _).setCell (by simp) _

theorem wrap_neg {x : Int} (h0 : -9223372036854775808 ≤ x) (hx : x < 0) : IntKind.u64.wrap (-IntKind.u64.wrap x) = -x := by
  simp only [IntKind.wrap_u64]; omega
theorem wrap_pos {x : Int} (h1 : x ≤ 9223372036854775807) (hx : ¬ x < 0) : IntKind.u64.wrap x = x := by
  simp only [IntKind.wrap_u64]; omega
theorem low32 {u : Int} (h0 : 0 ≤ u) (h1 : u ≤ 18446744073709551615) : bits .and .u64 u 4294967295 % 4294967296 = u % 4294967296 := by
  rw [and_low32 u h0 (by omega)]; omega
theorem val_two {u : Int} (h0 : 0 ≤ u) (h1 : u ≤ 18446744073709551615) : val [u % 4294967296, u / 4294967296 % 4294967296] = u.natAbs := by
  simp only [val]; omega

theorem val_two2 {u : Int} (h0 : 0 ≤ u) (h1 : u ≤ 18446744073709551615) : val [u % 4294967296, u / 4294967296] = u.natAbs := by
  simp only [val]; omega

set_option maxRecDepth 100000 in
theorem bigOfS_any (x : Int) (w : World) (h0 : -9223372036854775808 ≤ x) (h1 : x ≤ 9223372036854775807) :
    Calls Tryd.prog 19 #[.int .i64 x] w fun e w' => ∃ a c, e = .returned (.agg #[.bool (decide (x < 0)), .slice a (lim x.natAbs).length c]) ∧ Own w' w.heap.size (.slice a (lim x.natAbs).length c) (lim x.natAbs) ∧ Below w.heap.size w w' := by
  by_cases hx : x < 0
  · have hK := fun W v hr => l1Big_any true v [(-x) % 4294967296, (-x) / 4294967296 % 4294967296] W hr
    rw [val_two (by omega) (by omega), show (-x).natAbs = x.natAbs from by omega, show nz true x.natAbs = true from by unfold nz; simp; omega] at hK
    rw [show decide (x < 0) = true from by simpa using hx]
    generalize lim x.natAbs = L at hK ⊢
    have hK := hK _ _ (Rd.two (w.alloc (Obj.cells #[.bool false, .slice none 0 0] 29)) (w.heap.size + 1) (by simp) (by omega) (by omega) (by omega) (by omega))
    go_enter Tryd.func19, Tryd.ntmps19
    go_wp2_with fail
    rw [wrap_neg h0 hx, low32 (by omega) (by omega)]
    refine hK.mono ?_
    rintro e w1 ⟨a1, c1, rfl, hO, hB⟩
    obtain ⟨hz1, p0, p1⟩ := ((Box.new w (.bool false) (.slice none 0 0) 29).alloc _).keep hB
    obtain ⟨_, hf1⟩ := bcell hB
    clear hK
    go_wp2
    refine bodyPost_ret (v := .agg #[.bool true, .slice a1 L.length c1]) (by simp [results, Tryd.results19, go_sem, p0, p1, hz1]) rfl ⟨a1, c1, rfl, ?_, ?_⟩
    · exact (((hO.setBelow (by simp; omega) _).setBelow (by simp; omega) _)).mono (by simp; omega)
    · exact ((below_of_alloc (below_of_alloc hB)).setCell (by simp) _).setCell (by simp) _
  · have hK := fun W v hr => l1Big_any false v [x % 4294967296, x / 4294967296] W hr
    rw [val_two2 (by omega) (by omega), show nz false x.natAbs = false from rfl] at hK
    rw [show decide (x < 0) = false from by simpa using hx]
    generalize lim x.natAbs = L at hK ⊢
    have hK := hK _ _ (Rd.two (w.alloc (Obj.cells #[.bool false, .slice none 0 0] 29)) (w.heap.size + 1) (by simp) (by omega) (by omega) (by omega) (by omega))
    go_enter Tryd.func19, Tryd.ntmps19
    go_wp2_with fail
    rw [low32 (by omega) (by omega)]
    refine hK.mono ?_
    rintro e w1 ⟨a1, c1, rfl, hO, hB⟩
    obtain ⟨hz1, p0, p1⟩ := ((Box.new w (.bool false) (.slice none 0 0) 29).alloc _).keep hB
    obtain ⟨_, hf1⟩ := bcell hB
    clear hK
    go_wp2
    refine bodyPost_ret (v := .agg #[.bool false, .slice a1 L.length c1]) (by simp [results, Tryd.results19, go_sem, p0, p1, hz1]) rfl ⟨a1, c1, rfl, ?_, ?_⟩
    · exact (((hO.setBelow (by simp; omega) _).setBelow (by simp; omega) _)).mono (by simp; omega)
    · exact ((below_of_alloc (below_of_alloc hB)).setCell (by simp) _).setCell (by simp) _

set_option maxRecDepth 100000 in
theorem limbsOf_any (u : Int) (w : World) (h0 : 0 ≤ u) (h1 : u ≤ 18446744073709551615) :
    Calls Tryd.prog 41 #[.int .u64 u] w fun e w' => ∃ a c, e = .returned (.slice a (lim u.natAbs).length c) ∧ Own w' w.heap.size (.slice a (lim u.natAbs).length c) (lim u.natAbs) ∧ Below w.heap.size w w' := by
  have hK := trimmed_any w.heap.size _ _ _ _ _ (Own.lit2 w w.heap.size rfl (x := u % 4294967296) (y := u / 4294967296) (by omega) (by omega) (by omega) (by omega))
  rw [val_two2 h0 h1] at hK
  generalize lim u.natAbs = L at hK ⊢
  go_enter Tryd.func41, Tryd.ntmps41
  go_wp2_with fail
  refine hK.mono ?_
  rintro e w1 ⟨a1, c1, rfl, hO, rfl⟩
  clear hK
  go_wp2
  go_ret
  exact ⟨a1, c1, rfl, hO, (Below.refl _ _).alloc (Nat.le_refl _) _⟩
end Go.Proofs.YtfcoffllelgakaaDoor
