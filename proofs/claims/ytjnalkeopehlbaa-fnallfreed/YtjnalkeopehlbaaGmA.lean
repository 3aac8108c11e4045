import Derived.Test.YtjnalkeopehlbaaGrI
import Derived.Maps.Range
import Derived.Maps.RangeWalk
namespace Go.Proofs.Ytjnalkeopehlbaa
open Go.RowKit Go.Maps Go.ChangeMaps Go.MapKept
set_option linter.unusedVariables false
set_option linter.unusedSimpArgs false

def kvs (es : Array MapEntry) : List (Value × Value) := es.toList.map fun e => (e.key, e.val)
/-- A map, entry by entry. -/
def MM (w : World) (m : Nat) (ps : List (Value × Value)) : Prop := ∃ es clock, w.heap[m]? = some (.map es clock) ∧ kvs es = ps ∧ (es.toList.map (·.born)).Nodup ∧ ∀ x ∈ es.toList, x.born < clock
/-- What is asked of a key: the types of a map's keys, what can be looked up. -/
structure Fnd (kT : TypeId) (w : World) (key : Value) (good : Value → Prop) : Prop where
  check : ∀ em, (Instr.checkKey em 10000 kT key).run Try.prog w = .ok () w
  stays : (Instr.keyThatStays key key).run Try.prog w = .ok key w
  find : ∀ es : List MapEntry, (∀ e ∈ es, good e.key) → ((Instr.findKey kT key es).run Try.prog w = .ok none w ∧ ∀ e ∈ es, e.key ≠ key) ∨ ∃ j e, (Instr.findKey kT key es).run Try.prog w = .ok (some (j, e.val)) w ∧ es[j]? = some e ∧ e.key = key
theorem MM.lt {w : World} {m : Nat} {ps : List (Value × Value)} (h : MM w m ps) : m < w.heap.size := by
  obtain ⟨es, clock, hh, _⟩ := h
  rcases Nat.lt_or_ge m w.heap.size with h1 | h1
  · exact h1
  · rw [Array.getElem?_eq_none h1] at hh; cases hh
theorem MM.same {w w' : World} {m : Nat} {ps : List (Value × Value)} (h : MM w m ps) (hs : w'.heap[m]? = w.heap[m]?) : MM w' m ps := by
  obtain ⟨es, clock, hh, r⟩ := h
  exact ⟨es, clock, hs.trans hh, r⟩
theorem MM.good {w : World} {m : Nat} {ps : List (Value × Value)} {P : Value → Prop} (hg : ∀ p ∈ ps, P p.1) {es : Array MapEntry} (he : kvs es = ps) : ∀ e ∈ es.toList, P e.key := fun e h => hg (e.key, e.val) (by rw [← he]; exact List.mem_map.2 ⟨e, h, rfl⟩)
theorem MM.made (w : World) : MM (w.alloc (.map #[] 0)) w.heap.size [] := ⟨#[], 0, heap_alloc_new w _, rfl, by simp, fun x hx => by simp at hx⟩
/-- m[k]. -/
theorem MM.look {w : World} {m : Nat} {ps : List (Value × Value)} {t kT e : TypeId} {key z : Value} {good : Value → Prop} (h : MM w m ps) (ht : Try.prog.underlying t = some (.map kT e)) (hz : (zeroValue e).run Try.prog w = .ok z w) (F : Fnd kT w key good) (hg : ∀ p ∈ ps, good p.1) :
    ((∀ c, (Instr.lookup t (.map (some m)) key c).run Try.prog w = .ok (if c then .tuple #[z, .bool false] else z) w) ∧ ∀ p ∈ ps, p.1 ≠ key) ∨ ∃ (j : Nat) (v : Value), ps[j]? = some (key, v) ∧ ∀ c, (Instr.lookup t (.map (some m)) key c).run Try.prog w = .ok (if c then .tuple #[v, .bool true] else v) w := by
  obtain ⟨es, clock, hh, he, _, _⟩ := h
  rcases F.find es.toList (MM.good (w := w) (m := m) hg he) with ⟨h1, h2⟩ | ⟨j, e0, h1, h2, h3⟩
  · refine .inl ⟨fun c => ?_, fun p hp => ?_⟩
    · simp [Instr.lookup, run_underlying ht, MapKept.run_getObj_map hh, F.check, h1, hz, Result.andThen]
    · rw [← he] at hp
      obtain ⟨x, hx, rfl⟩ := List.mem_map.1 hp
      exact h2 x hx
  · refine .inr ⟨j, e0.val, ?_, fun c => ?_⟩
    · rw [← he]; unfold kvs; rw [List.getElem?_map, h2]; simp [h3]
    · simp [Instr.lookup, run_underlying ht, MapKept.run_getObj_map hh, F.check, h1, Result.andThen]
/-- m[k] = v at a key that is not there. -/
theorem MM.add {w : World} {m : Nat} {ps : List (Value × Value)} {t kT e : TypeId} {key v : Value} {good : Value → Prop} (h : MM w m ps) (ht : Try.prog.underlying t = some (.map kT e)) (F : Fnd kT w key good) (hg : ∀ p ∈ ps, good p.1) (hn : ∀ p ∈ ps, p.1 ≠ key) :
    ∃ w', (Instr.mapUpdate t (.map (some m)) key v).run Try.prog w = .ok () w' ∧ MM w' m (ps ++ [(key, v)]) ∧ w.grownBy w' (some m) ∧ w'.heap.size = w.heap.size := by
  have hml := h.lt
  obtain ⟨es, clock, hh, he, hb, hc⟩ := h
  rcases F.find es.toList (MM.good (w := w) (m := m) hg he) with ⟨h1, h2⟩ | ⟨j, e0, h1, h2, h3⟩
  · have hso : ∀ o, (setObj m o).run Try.prog w = .ok () { w with heap := w.heap.setIfInBounds m o } := fun o => by simp [setObj, Sem.run, hh]
    refine ⟨{ w with heap := w.heap.setIfInBounds m (.map (es.push { key := key, val := v, born := clock }) (clock + 1)) }, ?_, ⟨es.push { key := key, val := v, born := clock }, clock + 1, by simp [hml], ?_, ?_, ?_⟩, setG w m _, by simp⟩
    · simp [Instr.mapUpdate, run_underlying ht, MapKept.run_getObj_map hh, F.check, h1, hso]
    · unfold kvs; rw [Array.toList_push, List.map_append, ← he]; rfl
    · rw [Array.toList_push, List.map_append, List.nodup_append]
      refine ⟨hb, by simp, fun a ha b hb' => ?_⟩
      obtain ⟨x, hx, rfl⟩ := List.mem_map.1 ha
      simp at hb'
      have := hc x hx
      omega
    · intro x hx
      rw [Array.toList_push] at hx
      rcases List.mem_append.1 hx with h4 | h4
      · have := hc x h4; omega
      · simp at h4; subst h4; exact Nat.lt_succ_self _
  · exfalso
    exact hn (e0.key, e0.val) (by rw [← he]; exact List.mem_map.2 ⟨e0, List.mem_of_getElem? h2, rfl⟩) h3
theorem nodup_get {α : Type} {l : List α} (hn : l.Nodup) {i j : Nat} {a : α} (h1 : l[i]? = some a) (h2 : l[j]? = some a) : i = j := by
  obtain ⟨hi, e1⟩ := List.getElem?_eq_some_iff.1 h1
  obtain ⟨hj, e2⟩ := List.getElem?_eq_some_iff.1 h2
  rcases Nat.lt_trichotomy i j with h | h | h
  · exact absurd (e1.trans e2.symm) ((List.pairwise_iff_getElem.1 hn) i j hi hj h)
  · exact h
  · exact absurd (e2.trans e1.symm) ((List.pairwise_iff_getElem.1 hn) j i hj hi h)
/-- m[k] = v at a key that is there. -/
theorem MM.put {w : World} {m : Nat} {ps : List (Value × Value)} {t kT e : TypeId} {key v v0 : Value} {good : Value → Prop} {j : Nat} (h : MM w m ps) (ht : Try.prog.underlying t = some (.map kT e)) (F : Fnd kT w key good) (hg : ∀ p ∈ ps, good p.1) (hd : (ps.map (·.1)).Nodup) (hj : ps[j]? = some (key, v0)) :
    ∃ w', (Instr.mapUpdate t (.map (some m)) key v).run Try.prog w = .ok () w' ∧ MM w' m (ps.set j (key, v)) ∧ w.grownBy w' (some m) ∧ w'.heap.size = w.heap.size := by
  have hml := h.lt
  obtain ⟨es, clock, hh, he, hb, hc⟩ := h
  have hpk : (ps.map (·.1))[j]? = some key := by rw [List.getElem?_map, hj]; rfl
  rcases F.find es.toList (MM.good (w := w) (m := m) hg he) with ⟨h1, h2⟩ | ⟨i, e0, h1, h2, h3⟩
  · exfalso
    rw [← he] at hj
    unfold kvs at hj
    rw [List.getElem?_map] at hj
    obtain ⟨x, hx, e1⟩ := Option.map_eq_some_iff.1 hj
    exact h2 x (List.mem_of_getElem? hx) (congrArg Prod.fst e1)
  · have hij : i = j := nodup_get hd (by rw [← he]; unfold kvs; rw [List.map_map, List.getElem?_map, h2]; simp [h3]) hpk
    subst hij
    have hil : i < es.toList.length := (List.getElem?_eq_some_iff.1 h2).1
    have hget : es[i]? = some e0 := by rw [← Array.getElem?_toList]; exact h2
    have hso : ∀ o, (setObj m o).run Try.prog w = .ok () { w with heap := w.heap.setIfInBounds m o } := fun o => by simp [setObj, Sem.run, hh]
    refine ⟨{ w with heap := w.heap.setIfInBounds m (.map (es.modify i fun e => { e with key := key, val := v }) clock) }, ?_, ⟨es.modify i fun e => { e with key := key, val := v }, clock, by simp [hml], ?_, ?_, ?_⟩, setG w m _, by simp⟩
    · have hkk : ((es[i]?).map (·.key)).getD key = key := by rw [hget]; exact h3
      simp [Instr.mapUpdate, run_underlying ht, MapKept.run_getObj_map hh, F.check, h1, hso]
      rw [hkk, F.stays]
      exact hso _
    · unfold kvs
      rw [Array.toList_modify, ← he]
      unfold kvs
      apply List.ext_getElem
      · simp
      · intro q a b
        simp only [List.getElem_map, List.getElem_modify, List.getElem_set]
        split
        · rfl
        · rfl
    · rw [Array.toList_modify]
      have : (es.toList.modify i fun e => { e with key := key, val := v }).map (·.born) = es.toList.map (·.born) := by
        apply List.ext_getElem
        · simp
        · intro q a b
          simp only [List.getElem_map, List.getElem_modify]
          split <;> rfl
      rw [this]; exact hb
    · intro x hx
      rw [Array.toList_modify] at hx
      obtain ⟨q, hq, rfl⟩ := List.getElem_of_mem hx
      have hq2 : q < es.toList.length := by simpa using hq
      have e5 : (((es.toList.modify i fun e => { e with key := key, val := v })[q]).born) = es.toList[q].born := by
        rw [List.getElem_modify]; split <;> rfl
      rw [e5]
      exact hc _ (List.getElem_mem hq2)
/-- delete(m, k) at a key that is there. -/
theorem MM.del {w : World} {m : Nat} {ps : List (Value × Value)} {t kT e : TypeId} {key v0 : Value} {good : Value → Prop} {j : Nat} (h : MM w m ps) (ht : Try.prog.underlying t = some (.map kT e)) (F : Fnd kT w key good) (hg : ∀ p ∈ ps, good p.1) (hd : (ps.map (·.1)).Nodup) (hj : ps[j]? = some (key, v0)) :
    ∃ w', (∀ ty, (Builtin.delete_ #[t, kT] ty #[.map (some m), key]).run Try.prog w = .ok (.tuple #[]) w') ∧ MM w' m (ps.eraseIdx j) ∧ w.grownBy w' (some m) ∧ w'.heap.size = w.heap.size := by
  have hml := h.lt
  obtain ⟨es, clock, hh, he, hb, hc⟩ := h
  have hpk : (ps.map (·.1))[j]? = some key := by rw [List.getElem?_map, hj]; rfl
  rcases F.find es.toList (MM.good (w := w) (m := m) hg he) with ⟨h1, h2⟩ | ⟨i, e0, h1, h2, h3⟩
  · exfalso
    rw [← he] at hj
    unfold kvs at hj
    rw [List.getElem?_map] at hj
    obtain ⟨x, hx, e1⟩ := Option.map_eq_some_iff.1 hj
    exact h2 x (List.mem_of_getElem? hx) (congrArg Prod.fst e1)
  · have hij : i = j := nodup_get hd (by rw [← he]; unfold kvs; rw [List.map_map, List.getElem?_map, h2]; simp [h3]) hpk
    subst hij
    have hjs : i < es.size := by simpa using (List.getElem?_eq_some_iff.1 h2).1
    have hsub : (es.eraseIdxIfInBounds i).toList = es.toList.eraseIdx i := by
      unfold Array.eraseIdxIfInBounds
      rw [dif_pos hjs]
      simp
    refine ⟨{ w with heap := w.heap.setIfInBounds m (.map (es.eraseIdxIfInBounds i) clock) }, ?_, ⟨es.eraseIdxIfInBounds i, clock, by simp [hml], ?_, ?_, ?_⟩, setG w m _, by simp⟩
    · simp [Builtin.delete_, run_underlying ht, MapKept.run_getObj_map hh, F.check, h1, MapKept.run_setObj_map _ hh, Result.andThen]
    · unfold kvs
      rw [hsub, ← he]
      unfold kvs
      rw [map_eraseIdx]
    · rw [hsub, map_eraseIdx]
      exact (List.eraseIdx_sublist _ _).nodup hb
    · intro x hx
      rw [hsub] at hx
      exact hc x ((List.eraseIdx_sublist _ _).subset hx)
/-- len(m). -/
theorem MM.len {w : World} {m : Nat} {ps : List (Value × Value)} {t kT e : TypeId} (h : MM w m ps) (ht : Try.prog.underlying t = some (.map kT e)) (ty : TypeId) : (Builtin.len_ #[t] ty #[.map (some m)]).run Try.prog w = .ok (.int .i64 (ps.length : Nat)) w := by
  obtain ⟨es, clock, hh, he, _, _⟩ := h
  have : ps.length = es.size := by rw [← he]; unfold kvs; simp
  rw [this]
  simp [Builtin.len_, run_underlying ht, MapKept.run_getObj_map hh, Result.andThen]
  rfl
/-- A range over a map, under way. -/
def RR (w : World) (m r : Nat) (ps left : List (Value × Value)) : Prop := ∃ es clock since seen c0, w.heap[m]? = some (.map es clock) ∧ kvs es = ps ∧ (es.toList.map (·.born)).Nodup ∧ (∀ x ∈ es.toList, x.born < clock) ∧ w.heap[r]? = some (.mapIter (some m) since seen c0) ∧ (∀ x ∈ es.toList, x.born < since) ∧ since ≤ c0 ∧ since ≤ clock ∧ (leftOf es seen).toList.map (fun e => (e.key, e.val)) = left
theorem MM.range {w : World} {m : Nat} {ps : List (Value × Value)} {t kT e : TypeId} (h : MM w m ps) (ht : Try.prog.underlying t = some (.map kT e)) :
    ∃ w', (Instr.range t (.map (some m))).run Try.prog w = .ok (.pointer (some ⟨w.heap.size, 0, none⟩)) w' ∧ RR w' m w.heap.size ps ps ∧ Below w.heap.size w w' ∧ w'.heap.size = w.heap.size + 1 := by
  have hml := h.lt
  obtain ⟨es, clock, hh, he, hb, hc⟩ := h
  refine ⟨_, run_range_map w t kT e m es clock ht hh, ⟨es, clock, clock, #[], clock, ((MapKept.heap_alloc w _).2 m hml).trans hh, he, hb, hc, (MapKept.heap_alloc w _).1, hc, Nat.le_refl _, Nat.le_refl _, ?_⟩, (Below.refl _ _).alloc (Nat.le_refl _) _, by simp⟩
  rw [← he]
  unfold leftOf kvs
  rw [Array.toList_filter, List.filter_eq_self.2 (fun x _ => by simp)]
theorem RR.mm {w : World} {m r : Nat} {ps left : List (Value × Value)} (h : RR w m r ps left) : MM w m ps := by
  obtain ⟨es, clock, since, seen, c0, h1, h2, h3, h4, _⟩ := h
  exact ⟨es, clock, h1, h2, h3, h4⟩
theorem RR.lt {w : World} {m r : Nat} {ps left : List (Value × Value)} (h : RR w m r ps left) : r < w.heap.size := by
  obtain ⟨es, clock, since, seen, c0, h1, h2, h3, h4, h5, _⟩ := h
  rcases Nat.lt_or_ge r w.heap.size with h1 | h1
  · exact h1
  · rw [Array.getElem?_eq_none h1] at h5; cases h5
theorem RR.same {w w' : World} {m r : Nat} {ps left : List (Value × Value)} (h : RR w m r ps left) (hm : w'.heap[m]? = w.heap[m]?) (hr : w'.heap[r]? = w.heap[r]?) : RR w' m r ps left := by
  obtain ⟨es, clock, since, seen, c0, h1, h2, h3, h4, h5, h6⟩ := h
  exact ⟨es, clock, since, seen, c0, hm.trans h1, h2, h3, h4, hr.trans h5, h6⟩
theorem filter_one_out {l : List MapEntry} (hn : (l.map (·.born)).Nodup) {e : MapEntry} (he : e ∈ l) : ∃ a b, l = a ++ e :: b ∧ l.filter (fun x => !(x.born == e.born)) = a ++ b := by
  obtain ⟨a, b, rfl⟩ := List.append_of_mem he
  refine ⟨a, b, rfl, ?_⟩
  rw [List.map_append, List.map_cons, List.nodup_append] at hn
  obtain ⟨h1, h2, h3⟩ := hn
  rw [List.nodup_cons] at h2
  rw [List.filter_append, List.filter_cons]
  have e1 : a.filter (fun x => !(x.born == e.born)) = a := List.filter_eq_self.2 (fun x hx => by
    have := h3 x.born (List.mem_map.2 ⟨x, hx, rfl⟩) e.born (by simp)
    simpa using this)
  have e2 : b.filter (fun x => !(x.born == e.born)) = b := List.filter_eq_self.2 (fun x hx => by
    have : x.born ≠ e.born := fun h => h2.1 (List.mem_map.2 ⟨x, hx, h⟩)
    simpa using this)
  simp [e1, e2]
/-- The next entry, whichever. -/
theorem RR.next {w : World} {m r : Nat} {ps left : List (Value × Value)} (h : RR w m r ps left) (ty : TypeId) :
    (left = [] ∧ (Instr.next (.pointer (some ⟨r, 0, none⟩)) false ty).run Try.prog w = .ok (.tuple #[.bool false]) w) ∨
    ∃ a p b w', left = a ++ p :: b ∧ (Instr.next (.pointer (some ⟨r, 0, none⟩)) false ty).run Try.prog w = .ok (.tuple #[.bool true, p.1, p.2]) w' ∧ RR w' m r ps (a ++ b) ∧ w.grownBy w' (some r) ∧ w'.heap.size = w.heap.size ∧ (Instr.entry (.pointer (some ⟨r, 0, none⟩))).run Try.prog w' = .ok (.tuple #[p.1, p.2]) w' := by
  have hne : r ≠ m := by
    obtain ⟨es, clock, since, seen, c0, h1, _, _, _, h5, _⟩ := h
    intro e
    rw [e, h1] at h5
    cases h5
  obtain ⟨es, clock, since, seen, c0, h1, h2, h3, h4, h5, h6, h7, h8, h9⟩ := h
  rcases run_next_at (P := Try.prog) w ty r m since c0 seen es clock h5 h1 h6 h7 with ⟨h0, hrun⟩ | ⟨e, he, w1, hal, hrun⟩
  · refine .inl ⟨?_, hrun⟩
    rw [← h9]
    have : (leftOf es seen).toList = [] := List.eq_nil_of_length_eq_zero (by simpa using h0)
    rw [this]; rfl
  · obtain ⟨hem, hes⟩ := mem_left he
    have hr1 : w1.heap[r]? = some (.mapIter (some m) since seen c0) := by rcases hal with rfl | rfl <;> exact h5
    have hb1 : w1.heap[m]? = some (.map es clock) := by rcases hal with rfl | rfl <;> exact h1
    have hset := heap_set (o' := .mapIter (some m) since (seen.push e.born) clock) hr1
    have hb' := (hset.2 m (fun e1 => hne e1.symm)).trans hb1
    have hnl : ((leftOf es seen).toList.map (·.born)).Nodup := by
      unfold leftOf
      rw [Array.toList_filter]
      exact (List.Sublist.map _ List.filter_sublist).nodup h3
    obtain ⟨a, b, e1, e2⟩ := filter_one_out hnl he
    have e3 : (leftOf es (seen.push e.born)).toList = a ++ b := by
      rw [← e2]
      unfold leftOf
      rw [Array.toList_filter, Array.toList_filter, List.filter_filter]
      apply List.filter_congr
      intro x _
      rw [contains_push]
      cases seen.contains x.born <;> cases (x.born == e.born) <;> rfl
    refine .inr ⟨a.map (fun e => (e.key, e.val)), (e.key, e.val), b.map (fun e => (e.key, e.val)), _, ?_, hrun, ⟨es, clock, since, seen.push e.born, clock, hb', h2, h3, h4, hset.1, h6, h8, h8, ?_⟩, ?_, ?_, run_entry_at _ r m since seen es clock e hset.1 hb' hem h3⟩
    · rw [← h9, e1]; simp
    · rw [e3]; simp
    · rcases hal with rfl | rfl <;> exact ⟨rfl, rfl, rfl, by simp [setBlock], fun i _ hi => hset.2 i (fun e1 => hi (by rw [e1]))⟩
    · rcases hal with rfl | rfl <;> simp [setBlock]
end Go.Proofs.Ytjnalkeopehlbaa
