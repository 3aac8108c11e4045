import Derived.Test.YtnpjlmnhailipaaLyO
import Derived.Test.YtnpjlmnhailipaaKy
import Derived.WideKeyEntry
namespace Go.Proofs.Ytnpjlmnhailipaa
open Go.RowKit Go.Maps Go.ChangeMaps Go.MapKept
open Go.WideElems (Fit rd rg pl rd_val elemAt set_self)
set_option linter.unusedVariables false
set_option linter.unusedSimpArgs false

theorem zeroI64 (w : World) : (zeroValue 2).run Try.prog w = .ok (.int .i64 0) w := by kernel_rfl
theorem lawN : WideMaps.KeyLaw Try.prog 95 := deep_law_gate laidOut (by decide +kernel) (of_decide_eq_true (by kernel_rfl)) (by kernel_rfl) (by kernel_rfl)

section
variable {P : Program} {w : World} {t k e : TypeId} {b : Nat} {es : Array MapEntry} {clock : Nat} {R : Value → Option (DataW Unit × List MemPlace)}
/-- What the entry's op lays is what a store of the value that is there would lay. -/
theorem entry_is_update (K : WideMaps.KeyLaw P k) (ht : P.underlying t = some (.map k e)) {z : Value} (hz : ∀ u : World, (zeroValue e).run P u = .ok z u) (hb : w.heap[b]? = some (.map es clock)) (F : Fit P k R es clock)
    {key : Value} {kl : Lit} (hkey : keyOf P k key = some kl) :
    ∃ v0 st w2, (Instr.mapEntry t (.map (some b)) key).run P w = .ok (.tuple #[v0, goInt st]) w2 ∧ (Instr.mapUpdate t (.map (some b)) key v0).run P w = .ok () w2 ∧ (Instr.lookup t (.map (some b)) key false).run P w = .ok v0 w := by
  rcases K.find w hkey es.toList F.keys with ⟨h1, h2⟩ | ⟨j, e0, h1, h2, h3⟩
  · refine ⟨z, clock, setBlock w b (.map (es.push ⟨key, z, clock⟩) (clock + 1)), ?_, ?_, ?_⟩
    · simp [Instr.mapEntry, run_underlying ht, MapKept.run_getObj_map hb, K.check w false hkey, h1, hz, MapKept.run_setObj_map _ hb, Result.andThen, setBlock]
    · simp [Instr.mapUpdate, run_underlying ht, MapKept.run_getObj_map hb, K.check w false hkey, h1, MapKept.run_setObj_map _ hb, Result.andThen, setBlock]
    · simp [Instr.lookup, run_underlying ht, MapKept.run_getObj_map hb, K.check w _ hkey, h1, hz, Result.andThen]
  · have hj : es[j]? = some e0 := by simpa using h2
    have hsame : es.modify j (fun e => { e with key := key }) = es := by
      apply Array.ext'
      rw [Array.toList_modify, modify_eq_set _ _ _ _ h2]
      have : ({ e0 with key := key } : MapEntry) = e0 := by rw [← h3]
      rw [this]
      exact set_self _ _ _ h2
    have hsame2 : es.modify j (fun e' => { e' with key := key, val := e0.val }) = es := by
      apply Array.ext'
      rw [Array.toList_modify, modify_eq_set _ _ _ _ h2]
      have : ({ e0 with key := key, val := e0.val } : MapEntry) = e0 := by rw [← h3]
      rw [this]
      exact set_self _ _ _ h2
    refine ⟨e0.val, e0.born, setBlock w b (.map es clock), ?_, ?_, ?_⟩
    · simp [Instr.mapEntry, run_underlying ht, MapKept.run_getObj_map hb, K.check w false hkey, h1, hj, h3, K.stays w hkey, hsame, MapKept.run_setObj_map _ hb, Result.andThen, setBlock]
    · simp [Instr.mapUpdate, run_underlying ht, MapKept.run_getObj_map hb, K.check w false hkey, h1, hj, h3, K.stays w hkey, hsame2, MapKept.run_setObj_map _ hb, Result.andThen, setBlock]
    · simp [Instr.lookup, run_underlying ht, MapKept.run_getObj_map hb, K.check w _ hkey, h1, Result.andThen]
end

theorem setBlock_twice {w : World} {b : Nat} (o o' : Obj) : setBlock (setBlock w b o) b o' = setBlock w b o' := by
  simp [setBlock]

/-- 'seen[x]++': the four runs of it, in whatever order. -/
theorem seen_step {W : World} {M n : Nat} {D : DataW Unit} (hown : W.ownsMap Try.prog 95 (plainElem Try.prog 2) M n D) (hn : n < maxLen) {key : Value} {kl : Lit} (hkey : keyOf Try.prog 95 key = some kl) :
    ∃ c st W2, (Instr.lookup 123 (.map (some M)) key false).run Try.prog W = .ok (.int .i64 c) W ∧
      (Instr.mapEntry 123 (.map (some M)) key).run Try.prog W = .ok (.tuple #[.int .i64 c, goInt st]) W2 ∧
      (Instr.lookup 123 (.map (some M)) key false).run Try.prog W2 = .ok (.int .i64 c) W2 ∧ W.grownBy W2 (some M) ∧
      (Lit.int .i64 c).wf = true ∧
      ∀ x, (Lit.int .i64 x).wf = true → ∃ W3, (Instr.entryStore 123 (.map (some M)) (goInt st) (.int .i64 x)).run Try.prog W2 = .ok () W3 ∧ W3.ownsMap Try.prog 95 (plainElem Try.prog 2) M (n + 1) (D.put kl (.lit (.int .i64 x))) ∧ W.grownBy W3 (some M) := by
  obtain ⟨es, clock, hb, F, hs, hD⟩ := id hown
  obtain ⟨v0, st, W2, hE, hU, hL⟩ := entry_is_update lawN Try.underlying123 zeroI64 hb F hkey
  obtain ⟨c, hL', hat, hwc⟩ := hown.lookup_int keyedN Try.underlying123 Try.underlying2 (zeroI64 _) hkey
  obtain rfl : v0 = .int .i64 c := by rw [hL] at hL'; simpa using hL'
  obtain ⟨w', hU', hown2, hg2⟩ := hown.update keyedN Try.underlying123 hn hkey (plainElem_int (H := Unit) Try.underlying2 hwc)
  obtain rfl : W2 = w' := by rw [hU] at hU'; simpa using hU'
  obtain ⟨c2, hL2, hat2, _⟩ := hown2.lookup_int keyedN Try.underlying123 Try.underlying2 (zeroI64 _) hkey
  rw [atKey_put_same hown.isMap (keyedN.key hkey)] at hat2
  obtain rfl : c = c2 := by simpa using hat2
  refine ⟨c, st, W2, hL', hE, hL2, hg2, hwc, fun x hx => ?_⟩
  obtain ⟨v1, st1, es1, clock1, hE1, -, hS⟩ := WideElems.entry_then_store lawN Try.underlying123 zeroI64 hb F hkey
  rw [hE] at hE1
  simp only [Result.ok.injEq, Value.tuple.injEq, goInt] at hE1
  obtain ⟨e1, e2⟩ := hE1
  simp at e1
  obtain ⟨es', clock', hs1, hs2⟩ := hS W2 (.int .i64 x) (by rw [e2]; exact heap_setBlock_same hb _)
  obtain ⟨w3, hU3, hown3, hg3⟩ := hown.update keyedN Try.underlying123 hn hkey (plainElem_int (H := Unit) Try.underlying2 hx)
  obtain rfl : w3 = setBlock W M (.map es' clock') := by rw [hs2] at hU3; simpa using hU3.symm
  refine ⟨_, ?_, hown3, hg3⟩
  rw [e2, setBlock_twice] at hs1
  rw [e2]
  have : st = st1 := by have := e1.2; omega
  rw [this]; exact hs1
end Go.Proofs.Ytnpjlmnhailipaa
