import Derived.Test.YtjnalkeopehlbaaGrD
import Derived.Carry
import Derived.LaidEql
namespace Go.Proofs.Ytjnalkeopehlbaa
open Go.RowKit Go.Maps
set_option linter.unusedVariables false
set_option linter.unusedSimpArgs false

/-- A thing's cells: its number, how often it is counted, its map, its row. -/
def thC (num cnt : Int) (m : Nat) (row : Value) : Array Value := #[.int .i64 num, .int .i64 0, .int .i64 cnt, .int .i64 0, .int .i64 0, .bool false, .map (some m), row]
set_option maxRecDepth 100000 in
theorem newThing_any (k : Int) (w : World) :
    Calls Try.prog 28 #[.int .i64 k] w fun e w' => e = .returned (.pointer (some ⟨w.heap.size + 1, 0, none⟩)) ∧ w' = (w.alloc (.map #[] 0)).alloc (.cells (thC k 0 w.heap.size (.slice none 0 0)) 78) := by
  have hmm := @run_makeMap Try.prog
  go_enter Try.func28, Try.ntmps28
  go_wp2
  go_ret
  exact ⟨rfl, rfl⟩
/-- A block that is plain memory. -/
def Pl (w : World) (b : Nat) : Prop := ∃ c t, w.heap[b]? = some (.cells c t (0, 0))
def pk (b : Nat) : Value := .pointer (some ⟨b, 0, none⟩)
theorem Try.info78 : (Try.prog.info? 78).map (fun i => i.size) = some 8 := by kernel_rfl
theorem eq_pk (w : World) (a b : Nat) (ha : Pl w a) (hb : Pl w b) : (Op.equal 56 (pk a) (pk b)).run Try.prog w = .ok (decide (a = b)) w := by
  obtain ⟨ca, ta, ha⟩ := ha
  obtain ⟨cb, tb, hb⟩ := hb
  obtain ⟨j, hj, hs⟩ : ∃ j, Try.prog.info? 78 = some j ∧ j.size = 8 := by
    have := Try.info78
    cases h : Try.prog.info? 78 with
    | none => rw [h] at this; cases this
    | some j => rw [h] at this; exact ⟨j, rfl, by simpa using this⟩
  have hd : ∀ d : Nat, (Op.equalIn (d + 1) 56 (pk a) (pk b)).run Try.prog w = .ok (decide (a = b)) w := by
    intro d
    by_cases e : a = b
    · subst e
      simp [Op.equalIn, pk, run_underlying Try.underlying56, sizeOf, typeInfo, hj, hs, run_sameAddr_same]
    · have h1 := run_sameAddr_other (P := Try.prog) w (a := ⟨a, 0, none⟩) (b := ⟨b, 0, none⟩) (by intro h; exact e (Addr.mk.inj h).1) ha hb
      simp [Op.equalIn, pk, run_underlying Try.underlying56, sizeOf, typeInfo, hj, hs, h1, e]
  simp [Op.equal, Op.maxDepth, hd 9999]
/-- What an entry of a map of things says. -/
def meOf (p : Nat × Int) (e : MapEntry) : Prop := e.key = pk p.1 ∧ e.val = .int .i64 p.2
/-- Where a thing stands among the entries. -/
def posM : List (Nat × Int) → Nat → Nat → Option (Nat × Int)
  | [], _, _ => none
  | p :: r, b, i => if b = p.1 then some (i, p.2) else posM r b (i + 1)
theorem findAsk (w : World) (b : Nat) (hb : Pl w b) : ∀ (es : List MapEntry) (ps : List (Nat × Int)) (i : Nat), es.length = ps.length → (∀ k (h : k < es.length) (h' : k < ps.length), meOf ps[k] es[k]) → (∀ p ∈ ps, Pl w p.1) →
    (Instr.findAsking 56 (pk b) es i).run Try.prog w = .ok ((posM ps b i).map fun q => (q.1, .int .i64 q.2)) w
  | [], [], i, _, _, _ => rfl
  | e :: es, p :: ps, i, hl, hm, hp => by
    have h0 := hm 0 (by simp) (by simp)
    simp only [List.getElem_cons_zero] at h0
    have hq := eq_pk w b p.1 hb (hp p (by simp))
    have ih := findAsk w b hb es ps (i + 1) (by simpa using hl) (fun k h h' => by
      have := hm (k + 1) (by simpa using h) (by simpa using h')
      simpa using this) (fun q hq => hp q (List.mem_cons_of_mem _ hq))
    unfold Instr.findAsking posM
    rw [h0.1]
    by_cases eb : b = p.1
    · rw [decide_eq_true eb] at hq
      rw [eb] at hq ⊢
      simp [hq, h0.2]
    · rw [decide_eq_false eb] at hq
      simp [hq, eb, ih]
theorem findK (w : World) (b : Nat) (hb : Pl w b) (es : List MapEntry) (ps : List (Nat × Int)) (hl : es.length = ps.length) (hm : ∀ k (h : k < es.length) (h' : k < ps.length), meOf ps[k] es[k]) (hp : ∀ p ∈ ps, Pl w p.1) :
    (Instr.findKey 56 (pk b) es).run Try.prog w = .ok ((posM ps b 0).map fun q => (q.1, .int .i64 q.2)) w := by
  have hu := run_underlying (w := w) Try.underlying56
  cases es with
  | nil =>
    cases ps with
    | nil => simp [Instr.findKey, Instr.findNow, hu, posM]
    | cons p r => cases hl
  | cons e r =>
    have ha := findAsk w b hb (e :: r) ps 0 hl hm hp
    cases ps with
    | nil => cases hl
    | cons p r' =>
      have h0 := hm 0 (by simp) (by simp)
      simp only [List.getElem_cons_zero] at h0
      have hn : Instr.findNow (.pointer 78) (pk b) (e :: r) 0 = none := by
        unfold Instr.findNow
        rw [h0.1]
        rfl
      simp [Instr.findKey, hu, hn, ha]
/-- A map of things to counts. -/
def PM (w : World) (m : Nat) (ps : List (Nat × Int)) : Prop := ∃ es clock, w.heap[m]? = some (.map es clock) ∧ es.toList.length = ps.length ∧ ∀ k (h : k < es.toList.length) (h' : k < ps.length), meOf ps[k] es.toList[k]
def cntM (ps : List (Nat × Int)) (b : Nat) : Int := ((posM ps b 0).map (·.2)).getD 0
theorem chk (w : World) (e : Bool) (b : Nat) : (Instr.checkKey e 10000 56 (pk b)).run Try.prog w = .ok () w := by
  have h : ∀ d : Nat, (Instr.checkKey e (d + 1) 56 (pk b)).run Try.prog w = .ok () w := fun d => by
    simp [Instr.checkKey, run_underlying Try.underlying56, pk]
  exact h 9999
def setM : List (Nat × Int) → Nat → Int → List (Nat × Int)
  | [], b, c => [(b, c)]
  | p :: r, b, c => if b = p.1 then (b, c) :: r else p :: setM r b c
theorem PM.get {w : World} {m : Nat} {ps : List (Nat × Int)} (h : PM w m ps) (b : Nat) (hb : Pl w b) (hp : ∀ p ∈ ps, Pl w p.1) :
    (Instr.lookup 76 (.map (some m)) (pk b) false).run Try.prog w = .ok (.int .i64 (cntM ps b)) w := by
  obtain ⟨es, clock, hh, hl, hm⟩ := h
  have hk := findK w b hb es.toList ps hl hm hp
  have hc := chk w es.isEmpty b
  have hz : (zeroValue 2).run Try.prog w = .ok (.int .i64 0) w := by kernel_rfl
  have hgo : (getObj m).run Try.prog w = .ok (.map es clock) w := by simp [getObj, Sem.run, hh]
  unfold cntM
  cases hq : posM ps b 0 with
  | none =>
    rw [hq] at hk
    simp [Instr.lookup, run_underlying Try.underlying76, hgo, hc, hk, hz]
  | some q =>
    rw [hq] at hk
    simp [Instr.lookup, run_underlying Try.underlying76, hgo, hc, hk]
theorem posM_ge : ∀ (ps : List (Nat × Int)) (b i : Nat) (q : Nat × Int), posM ps b i = some q → i ≤ q.1 ∧ q.1 - i < ps.length ∧ setM ps b = fun c => ps.set (q.1 - i) (b, c)
  | [], _, _, _, h => by cases h
  | p :: r, b, i, q, h => by
    unfold posM at h
    by_cases e : b = p.1
    · rw [if_pos e] at h
      cases h
      refine ⟨Nat.le_refl _, by simp, funext fun c => ?_⟩
      unfold setM
      rw [if_pos e, Nat.sub_self, List.set_cons_zero]
    · rw [if_neg e] at h
      obtain ⟨h1, h2, h3⟩ := posM_ge r b (i + 1) q h
      refine ⟨by omega, by simp; omega, funext fun c => ?_⟩
      unfold setM
      rw [if_neg e, show q.1 - i = (q.1 - (i + 1)) + 1 by omega, List.set_cons_succ]
      rw [congrFun h3 c]
theorem posM_none : ∀ (ps : List (Nat × Int)) (b i : Nat), posM ps b i = none → ∀ c, setM ps b c = ps ++ [(b, c)]
  | [], _, _, _, _ => rfl
  | p :: r, b, i, h, c => by
    unfold posM at h
    by_cases e : b = p.1
    · rw [if_pos e] at h; cases h
    · rw [if_neg e] at h
      unfold setM
      rw [if_neg e, posM_none r b (i + 1) h c]
      rfl
theorem cntM_set : ∀ (ps : List (Nat × Int)) (b c2 : Nat) (c : Int) (i : Nat), ((posM (setM ps b c) c2 i).map (·.2)).getD 0 = if c2 = b then c else ((posM ps c2 i).map (·.2)).getD 0
  | [], b, c2, c, i => by
    unfold setM posM
    by_cases e : c2 = b
    · rw [if_pos e, if_pos e]; rfl
    · rw [if_neg e, if_neg e]; rfl
  | p :: r, b, c2, c, i => by
    unfold setM
    by_cases e : b = p.1
    · rw [if_pos e]
      unfold posM
      by_cases e2 : c2 = b
      · rw [if_pos e2, if_pos e2]; rfl
      · rw [if_neg e2, if_neg e2, if_neg (by rw [← e]; exact e2)]
    · rw [if_neg e]
      unfold posM
      by_cases e2 : c2 = p.1
      · rw [if_pos e2, if_pos e2, if_neg (by rw [e2]; exact fun h => e h.symm)]
      · rw [if_neg e2, if_neg e2]
        exact cntM_set r b c2 c (i + 1)
theorem setG (w : World) (m : Nat) (o : Obj) : w.grownBy { w with heap := w.heap.setIfInBounds m o } (some m) :=
  ⟨rfl, rfl, rfl, by simp, fun i hi hne => by
    show (w.heap.setIfInBounds m o)[i]? = w.heap[i]?
    rw [Array.getElem?_setIfInBounds_ne (by intro e; exact hne (by rw [e]))]⟩
theorem posM_key : ∀ (ps : List (Nat × Int)) (b i : Nat) (q : Nat × Int) (h : posM ps b i = some q) (h2 : q.1 - i < ps.length), ps[q.1 - i].1 = b
  | [], _, _, _, h, _ => by cases h
  | p :: r, b, i, q, h, h2 => by
    unfold posM at h
    by_cases e : b = p.1
    · rw [if_pos e] at h
      cases h
      simp [e]
    · rw [if_neg e] at h
      have h1 := (posM_ge r b (i + 1) q h)
      have := posM_key r b (i + 1) q h h1.2.1
      have e2 : q.1 - i = (q.1 - (i + 1)) + 1 := by omega
      simp only [e2, List.getElem_cons_succ]
      exact this
theorem PM.put {w : World} {m : Nat} {ps : List (Nat × Int)} (h : PM w m ps) (b : Nat) (hb : Pl w b) (hp : ∀ p ∈ ps, Pl w p.1) (c : Int) :
    ∃ w', (Instr.mapUpdate 76 (.map (some m)) (pk b) (.int .i64 c)).run Try.prog w = .ok () w' ∧ PM w' m (setM ps b c) ∧ w.grownBy w' (some m) := by
  obtain ⟨es, clock, hh, hl, hm⟩ := h
  have hk := findK w b hb es.toList ps hl hm hp
  have hc := chk w false b
  have hgo : (getObj m).run Try.prog w = .ok (.map es clock) w := by simp [getObj, Sem.run, hh]
  have hml : m < w.heap.size := by
    rcases Nat.lt_or_ge m w.heap.size with h | h
    · exact h
    · rw [Array.getElem?_eq_none h] at hh; cases hh
  have hso : ∀ o, (setObj m o).run Try.prog w = .ok () { w with heap := w.heap.setIfInBounds m o } := fun o => by simp [setObj, Sem.run, hh]
  cases hq : posM ps b 0 with
  | none =>
    rw [hq] at hk
    refine ⟨{ w with heap := w.heap.setIfInBounds m (.map (es.push { key := pk b, val := .int .i64 c, born := clock }) (clock + 1)) }, ?_, ?_, ?_⟩
    · simp [Instr.mapUpdate, run_underlying Try.underlying76, hgo, hc, hk, hso]
    · refine ⟨es.push { key := pk b, val := .int .i64 c, born := clock }, clock + 1, by simp [hml], by rw [posM_none ps b 0 hq c]; simp at hl ⊢; omega, fun k h h' => ?_⟩
      have hs : (es.push { key := pk b, val := .int .i64 c, born := clock }).toList = es.toList ++ [{ key := pk b, val := .int .i64 c, born := clock }] := by simp
      simp only [hs, posM_none ps b 0 hq c] at h h' ⊢
      by_cases hk2 : k < ps.length
      · rw [List.getElem_append_left hk2, List.getElem_append_left (by omega)]
        exact hm k (by omega) hk2
      · have e1 : k = ps.length := by simp at h'; omega
        rw [List.getElem_append_right (by omega), List.getElem_append_right (by omega)]
        simp only [e1, Nat.sub_self, hl, List.getElem_cons_zero]
        exact ⟨rfl, rfl⟩
    · exact setG w m _
  | some q =>
    rw [hq] at hk
    obtain ⟨-, h2, h3⟩ := posM_ge ps b 0 q hq
    rw [Nat.sub_zero] at h2 h3
    have hke : (es.toList[q.1]'(by omega)).key = pk b := by
      have hkey := posM_key ps b 0 q hq (by simpa using h2)
      simp only [Nat.sub_zero] at hkey
      rw [(hm q.1 (by omega) h2).1, hkey]
    have hget : es[q.1]? = some (es.toList[q.1]'(by omega)) := by simp
    refine ⟨{ w with heap := w.heap.setIfInBounds m (.map (es.modify q.1 fun e => { e with key := pk b, val := .int .i64 c }) clock) }, ?_, ?_, ?_⟩
    · have hst : (Instr.keyThatStays (pk b) (pk b)).run Try.prog w = .ok (pk b) w := by
        have : Instr.sameBits 10000 (pk b) (pk b) = true := by
          show Instr.sameBits (9999 + 1) (.pointer (some ⟨b, 0, none⟩)) (.pointer (some ⟨b, 0, none⟩)) = true
          simp [Instr.sameBits]
        simp [Instr.keyThatStays, this]
      have hkk : ((es[q.1]?).map (·.key)).getD (pk b) = pk b := by rw [hget]; exact hke
      simp [Instr.mapUpdate, run_underlying Try.underlying76, hgo, hc, hk, hso]
      rw [hkk, hst]
      exact hso _
    · have hs : (es.modify q.1 fun e => { e with key := pk b, val := .int .i64 c }).toList = es.toList.modify q.1 (fun e => { e with key := pk b, val := .int .i64 c }) := by simp
      refine ⟨_, clock, by simp [hml]; rfl, ?_, fun k h h' => ?_⟩
      · rw [hs, h3]; simp; simpa using hl
      · simp only [hs, h3] at h h' ⊢
        rw [List.getElem_modify, List.getElem_set]
        by_cases e : q.1 = k
        · rw [if_pos e, if_pos e]; exact ⟨rfl, rfl⟩
        · rw [if_neg e, if_neg e]
          exact hm k (by simpa using h) (by simpa using h')
    · exact setG w m _
end Go.Proofs.Ytjnalkeopehlbaa
