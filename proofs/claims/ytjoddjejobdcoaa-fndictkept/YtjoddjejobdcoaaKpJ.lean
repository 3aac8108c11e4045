import Derived.Test.YtjoddjejobdcoaaKpI
import Derived.Test.YtjoddjejobdcoaaKpQ
import Derived.Test.YtjoddjejobdcoaaPvI
import Derived.Test.YtjoddjejobdcoaaOrI
import Derived.Test.YtjoddjejobdcoaaDfI
namespace Go.Proofs.Ytjoddjejobdcoaa
open Go.RowKit Go.Maps
set_option linter.unusedVariables false
set_option linter.unusedSimpArgs false

theorem big_any (w : World) (a : Option Addr) (n c : Nat) :
    Calls Try.prog 35 #[.slice a n c] w fun e w' => e = .returned (.bool (decide ((1048576 : Int) < (n : Int)))) ∧ w' = w := by
  go_enter Try.func35, Try.ntmps35
  go_wp2
  go_ret
  exact ⟨by simp, rfl⟩

theorem sameInts_any (v u : Value) (xs : List Int) (w : World) (hx : Rd w v xs) (hy : Rd w u xs) :
    Calls Try.prog 38 #[v, u] w fun e w' => e = .returned (.bool true) ∧ Below w.heap.size w w' := by
  obtain ⟨a, cap, rfl, hlx, hzx, hnx, hcx⟩ := hx
  obtain ⟨a', cap', rfl, hly, hzy, hny, hcy⟩ := hy
  go_enter Try.func38, Try.ntmps38
  go_wp2
  go_loopw [5] (fun i wr => ∃ k : Nat, k ≤ xs.length ∧ i = .int .i64 k ∧ Below w.heap.size w wr)
    (fun i _ => xs.length - (intOf i).toNat)
  case atStart => exact ⟨0, Nat.zero_le _, rfl, Below.refl _ _⟩
  case round =>
    obtain ⟨k, hk, rfl, hBr⟩ := hrel
    by_cases hlt : k < xs.length
    · obtain ⟨b, off, rfl, hb, hcell⟩ := hcx (by omega)
      obtain ⟨b', off', rfl, hb', hcell'⟩ := hcy (by omega)
      have hce : wr.cell? ⟨b, off + k, none⟩ = some (.int .i64 (xs.getD k 0)) := (hBr.cell (p := ⟨b, off + k, none⟩) hb).trans (hcell k hlt)
      have hce' : wr.cell? ⟨b', off' + k, none⟩ = some (.int .i64 (xs.getD k 0)) := (hBr.cell (p := ⟨b', off' + k, none⟩) hb').trans (hcell' k hlt)
      clear hcell hcell' hcx hcy
      generalize xs.getD k 0 = Z at *
      go_wp2
      go_region
      all_goals go_wp2
      all_goals
        go_roundw
        case rel => exact ⟨k + 1, by omega, by go_num, hBr.drew⟩
        case measure => simp [intOf]; omega
    · go_wp2
      go_ret
      exact ⟨rfl, hBr⟩

theorem OkD.lb {d : Dt} (h : OkD d) : -9223372036854775808 ≤ d.l ∧ d.l < 9223372036854775808 := by
  obtain ⟨⟨m, _, hm, hs⟩, he, _, hl, _⟩ := h
  have h1 := livN_le d.e
  have h2 : (2 : Nat) ^ m ≤ 2 ^ 16 := Nat.pow_le_pow_right (by decide) hm
  rw [hl]
  omega
theorem put_true {d : Dt} (hok : OkD d) (hel : d.e.length ≤ 200) (h k v : Int) : (putD d h k v).2 = true := by
  unfold putD
  split
  · rfl
  · split
    · rfl
    · have : (rnD d).2 = true := by
        have h1 := livN_le d.e
        obtain ⟨m, hm17, hNM⟩ := NM.ex (livN d.e) (by omega)
        have hm : m ≤ 10 := by
          by_cases h9 : m ≤ 10
          · exact h9
          · exfalso
            have h8 := hNM.2.2 10 (by omega) (by omega)
            omega
        unfold rnD
        rw [nsm_eq hNM, if_neg (by omega)]
      rw [if_pos this]
/-- The keys and values of entries, in a row. -/
def kvs (es : List En) : List Int := es.flatMap fun e => [e.k, e.v]
theorem kvs_snoc (es : List En) (e : En) : kvs (es ++ [e]) = kvs es ++ [e.k, e.v] := by simp [kvs]
theorem kvs_len (es : List En) : (kvs es).length = 2 * es.length := by
  induction es with
  | nil => rfl
  | cons e r ih => simp [kvs] at ih ⊢; omega
end Go.Proofs.Ytjoddjejobdcoaa
