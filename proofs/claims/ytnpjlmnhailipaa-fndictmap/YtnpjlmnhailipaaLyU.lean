import Derived.Test.YtnpjlmnhailipaaEn
namespace Go.Proofs.Ytnpjlmnhailipaa
open Go.RowKit Go.Maps
set_option linter.unusedVariables false
set_option linter.unusedSimpArgs false

/-- What the map of names says of the first k. -/
structure SeenOk (ns : List (Int × Int)) (k : Nat) (D : DataW Unit) : Prop where
  key : ∀ h' k' l, keyOf Try.prog 95 (.agg #[.int .u64 h', .int .i64 k']) = some l → (has D l = true ↔ (h', k') ∈ ns.take k)
  le : Maps.size D ≤ k
  eq : Maps.size D = k ↔ (ns.take k).Nodup
theorem SeenOk.put {ns : List (Int × Int)} {k : Nat} {D : DataW Unit} (h : SeenOk ns k D) (hD : Tidy D) (hk : k < ns.length) {l : Lit} (hl : keyOf Try.prog 95 (.agg #[.int .u64 ns[k].1, .int .i64 ns[k].2]) = some l) (d : DataW Unit) : SeenOk ns (k + 1) (D.put l d) := by
  have htk := List.take_succ_eq_append_getElem hk
  have hkl := keyedN.key hl
  have hin := h.key _ _ _ hl
  refine ⟨fun h' k' l' hl' => ?_, ?_, ?_⟩
  · rw [htk, List.mem_append, List.mem_singleton]
    by_cases e : l' = l
    · subst e
      obtain ⟨e1, e2⟩ := keyN_inj hl' hl
      rw [has_put_same hD.isMap hkl]
      simp [e1, e2]
    · rw [has_put_other e, h.key _ _ _ hl']
      constructor
      · intro h; exact .inl h
      · rintro (h2 | h2)
        · exact h2
        · exfalso; apply e
          have : (h', k') = (ns[k].1, ns[k].2) := h2
          simp at this
          rw [this.1, this.2, hl] at hl'
          simpa using hl'.symm
  · rw [size_put hD]; have := h.le; split <;> omega
  · rw [size_put hD, htk, List.nodup_append]
    have hle := h.le
    have heq := h.eq
    cases hh : has D l
    · have hni : ¬ (ns[k].1, ns[k].2) ∈ ns.take k := fun hm => by rw [hin.2 hm] at hh; cases hh
      simp only [Bool.false_eq_true, if_false]
      constructor
      · intro e
        refine ⟨heq.1 (by omega), by simp, fun a ha b hb => ?_⟩
        simp at hb; subst hb
        intro e2; subst e2; exact hni ha
      · intro ⟨hn, _, _⟩
        have := heq.2 hn; omega
    · have hi := hin.1 hh
      simp only [if_true]
      constructor
      · intro e; omega
      · intro ⟨_, _, hn⟩
        exact absurd rfl (hn _ hi _ (by simp))

set_option maxRecDepth 100000 in
set_option maxHeartbeats 1000000 in
theorem allUnlike_any (v : Value) (ns : List (Int × Int)) (w : World) (hr : RdG shN w v ns) (hlen : ns.length ≤ 65536) :
    Calls Try.prog 73 #[v] w fun e w' => e = .returned (.bool (decide ns.Nodup)) ∧ Below w.heap.size w w' := by
  obtain ⟨a, cap, rfl, hlx, hzx, hnx, hcx⟩ := id hr
  have hmm := @run_makeMap Try.prog
  go_enter Try.func73, Try.ntmps73
  go_wp2
  go_loopw [9] (fun i wr => ∃ (k : Nat) (D : DataW Unit), k ≤ ns.length ∧ i = .int .i64 k ∧ wr.ownsMap Try.prog 95 (plainElem Try.prog 2) w.heap.size k D ∧ SeenOk ns k D ∧ Below w.heap.size w wr) (fun i _ => ns.length - (intOf i).toNat)
  case atStart =>
    refine ⟨0, _, Nat.zero_le _, rfl, World.ownsMap_made w _ _ _, ⟨fun h' k' l hl => by simp [has], by simp [Maps.size], by simp [Maps.size]⟩, (Below.refl _ w).alloc (Nat.le_refl _) _⟩
  case round =>
    obtain ⟨k, D, hk, rfl, hown, hSO, hBr⟩ := hrel
    clear hmm
    by_cases hlt : k < ns.length
    · obtain ⟨b, off, rfl, hb, hcell⟩ := hcx (by omega)
      have hok := hzx ns[k] (List.getElem_mem hlt)
      have d0 : wr.cell? ⟨b, off + k * 2, none⟩ = some (.int .u64 ns[k].1) := (hBr.cell (p := ⟨b, off + k * 2, none⟩) hb).trans (hcell k hlt 0 (by decide))
      have d1 : wr.cell? ⟨b, off + k * 2 + 1, none⟩ = some (.int .i64 ns[k].2) := (hBr.cell (p := ⟨b, off + k * 2 + 1, none⟩) hb).trans (hcell k hlt 1 (by decide))
      obtain ⟨l, hkey⟩ := keyN ns[k].1 ns[k].2 hok.1 hok.2
      have hput := fun d => hSO.put (hown.tidy keyedN) hlt hkey d
      have Hput : Hid (∀ d, SeenOk ns (k + 1) (D.put l d)) := hput
      have hown1 := (hown.alloc (.cells #[.int .u64 ns[k].1, .int .i64 ns[k].2] 95)).drew
      have bx := Box.new wr (.int .u64 ns[k].1) (.int .i64 ns[k].2) 95
      obtain ⟨c, st, W2, hL, hE, hL2, hg2, hwc, hS⟩ := seen_step hown1 (by unfold maxLen; omega) hkey
      obtain ⟨W3, hS3, hown3, hg3⟩ := hS (wrap64 (c + 1)) (wrap64_wf _)
      have hMl := hown.lt
      obtain ⟨-, y0, y1⟩ := bx.drew.but hg2 (by simp; omega)
      have hB3 : Below w.heap.size w W3 := ((hBr.alloc hBr.size _).drew).grown hg3 (by simp; omega) (fun j hj => by cases hj; exact Nat.le_refl _)
      simp only [goInt] at hE hS3
      generalize hX : ns[k] = X at *
      clear hput hS hcell hcx hok hzx hown1
      go_wp2
      go_region
      all_goals
        go_wp2
        go_roundw
        case rel => exact ⟨k + 1, _, by omega, by go_num, hown3, Hput.out _, hB3⟩
        case measure => simp [intOf]; omega
    · obtain rfl : k = ns.length := by omega
      have hL := hown.len Try.underlying123 3
      have hle := hSO.le
      have heq := hSO.eq
      rw [List.take_length] at heq
      generalize Maps.size D = sz at *
      clear hcx
      by_cases hn : ns.Nodup
      · have e1 : ((sz : Int) == (ns.length : Int)) = true := by have := heq.2 hn; simp; omega
        clear heq
        go_wp2
        go_ret
        exact ⟨by first | simp [hn] | simp [hn, e1], hBr⟩
      · have e1 : ((sz : Int) == (ns.length : Int)) = false := by
          have : ¬ sz = ns.length := fun e => hn (heq.1 e)
          simp; omega
        clear heq
        go_wp2
        go_ret
        exact ⟨by first | simp [hn] | simp [hn, e1], hBr⟩
end Go.Proofs.Ytnpjlmnhailipaa
