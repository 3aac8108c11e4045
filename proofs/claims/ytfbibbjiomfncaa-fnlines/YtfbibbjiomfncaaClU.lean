import Derived.Test.YtfbibbjiomfncaaClS
import Derived.WideKeyEntry
import Derived.Maps.OwnSet
import Derived.DeepKeys5
namespace Go.Proofs.Ytfbibbjiomfncaa
open Go.RowKit Go.Maps Go.ChangeMaps Go.MapKept
open Go.WideElems (Fit rd rg pl rd_val elemAt set_self findIdx_born findIdx_arr modify_last)
set_option linter.unusedVariables false
set_option linter.unusedSimpArgs false

theorem zeroI64 (w : World) : (zeroValue 2).run Try.prog w = .ok (.int .i64 0) w := by kernel_rfl
theorem setBlock_twice {w : World} {b : Nat} (o o' : Obj) : setBlock (setBlock w b o) b o' = setBlock w b o' := by
  simp [setBlock]

section
variable {P : Program} {w : World} {t k e : TypeId} {b : Nat} {es : Array MapEntry} {clock : Nat} {R : Value → Option (DataW Unit × List MemPlace)}
/-- 'm[key] op= x' over any kind of key: its entry's op and store do what one store of the end's value does. -/
theorem entry_steps (K : Keyed P k) (ht : P.underlying t = some (.map k e)) {z : Value} (hz : ∀ u : World, (zeroValue e).run P u = .ok z u) (hb : w.heap[b]? = some (.map es clock)) (F : Fit P k R es clock)
    {key : Value} {kl : Lit} (hkey : keyOf P k key = some kl) :
    ∃ v0 st es1 clock1, (Instr.mapEntry t (.map (some b)) key).run P w = .ok (.tuple #[v0, goInt st]) (setBlock w b (.map es1 clock1)) ∧ (Instr.mapUpdate t (.map (some b)) key v0).run P w = .ok () (setBlock w b (.map es1 clock1)) ∧ (Instr.lookup t (.map (some b)) key false).run P w = .ok v0 w ∧
      ∀ x, ∃ es2 clock2, (Instr.entryStore t (.map (some b)) (goInt st) x).run P (setBlock w b (.map es1 clock1)) = .ok () (setBlock w b (.map es2 clock2)) ∧ (Instr.mapUpdate t (.map (some b)) key x).run P w = .ok () (setBlock w b (.map es2 clock2)) := by
  have hgo : ∀ {es1 clock1} , (setBlock w b (.map es1 clock1)).heap[b]? = some (.map es1 clock1) := fun {es1 clock1} => heap_setBlock_same hb _
  obtain ⟨s1, s2, _⟩ := F.stamped
  have hK := K.check w false hkey
  rcases K.find w hkey es.toList (fun x hx => by obtain ⟨y, hy⟩ := F.reads x hx; exact ⟨_, Go.WideElems.rd_key hy⟩) with ⟨h1, h2⟩ | ⟨j, e0, h1, h2, h3⟩
  · refine ⟨z, clock, es.push ⟨key, z, clock⟩, clock + 1, ?_, ?_, ?_, fun x => ⟨es.push ⟨key, x, clock⟩, clock + 1, ?_, ?_⟩⟩
    · simp [Instr.mapEntry, run_underlying ht, MapKept.run_getObj_map hb, hK, h1, hz, MapKept.run_setObj_map _ hb, Result.andThen, setBlock]
    · simp [Instr.mapUpdate, run_underlying ht, MapKept.run_getObj_map hb, hK, h1, MapKept.run_setObj_map _ hb, Result.andThen, setBlock]
    · simp [Instr.lookup, run_underlying ht, MapKept.run_getObj_map hb, K.check w _ hkey, h1, hz, Result.andThen]
    · have hnd : ((es.push ⟨key, z, clock⟩).toList.map (·.born)).Nodup := by
        rw [Array.toList_push, List.map_append]
        exact nodup_snoc s2 (fun hm => by obtain ⟨x, hx, e⟩ := List.mem_map.1 hm; have := s1 x hx; simp at e; omega)
      have hidx : (es.push ⟨key, z, clock⟩).findIdx? (fun e => ((e.born : Nat) : Int) == ((clock : Nat) : Int)) = some es.size := by
        rw [findIdx_arr]; exact findIdx_born hnd (j := es.size) (e0 := ⟨key, z, clock⟩) (by simp)
      have hmod : (es.push ⟨key, z, clock⟩).modify es.size (fun e => { e with val := x }) = es.push ⟨key, x, clock⟩ := by
        apply Array.ext'; rw [Array.toList_modify, Array.toList_push, Array.toList_push, ← Array.length_toList, modify_last]
      generalize hW : setBlock w b (.map (es.push ⟨key, z, clock⟩) (clock + 1)) = W2
      have hw2 : W2.heap[b]? = some (.map (es.push ⟨key, z, clock⟩) (clock + 1)) := by rw [← hW]; exact hgo
      have hst : (Instr.entryStore t (.map (some b)) (goInt clock) x).run P W2 = .ok () (setBlock W2 b (.map (es.push ⟨key, x, clock⟩) (clock + 1))) := by
        simp [Instr.entryStore, MapKept.run_getObj_map hw2, asInt, asIntOf, goInt, hidx, hmod, MapKept.run_setObj_map _ hw2, Result.andThen, setBlock]
      rw [hst, ← hW, setBlock_twice]
    · simp [Instr.mapUpdate, run_underlying ht, MapKept.run_getObj_map hb, hK, h1, MapKept.run_setObj_map _ hb, Result.andThen, setBlock]
  · have hj : es[j]? = some e0 := by simpa using h2
    have hset : ∀ x, es.modify j (fun e' => { e' with key := key, val := x }) = es.modify j (fun e' => { e' with val := x }) := fun x => by
      apply Array.ext'
      rw [Array.toList_modify, Array.toList_modify, modify_eq_set _ _ _ _ h2, modify_eq_set _ _ _ _ h2, ← h3]
    have hkeep : es.modify j (fun e => { e with key := key }) = es := by
      apply Array.ext'
      rw [Array.toList_modify, modify_eq_set _ _ _ _ h2, ← h3]; exact set_self _ _ _ h2
    have hkeep2 : es.modify j (fun e => { e with val := e0.val }) = es := by
      apply Array.ext'
      rw [Array.toList_modify, modify_eq_set _ _ _ _ h2]; exact set_self _ _ _ h2
    have hS := K.stays w hkey
    refine ⟨e0.val, e0.born, es, clock, ?_, ?_, ?_, fun x => ⟨es.modify j (fun e' => { e' with val := x }), clock, ?_, ?_⟩⟩
    · simp [Instr.mapEntry, run_underlying ht, MapKept.run_getObj_map hb, hK, h1, hj, h3, hS, hkeep, MapKept.run_setObj_map _ hb, Result.andThen, setBlock]
    · have := hset e0.val
      rw [hkeep2] at this
      simp [Instr.mapUpdate, run_underlying ht, MapKept.run_getObj_map hb, hK, h1, hj, h3, hS, this, MapKept.run_setObj_map _ hb, Result.andThen, setBlock]
    · simp [Instr.lookup, run_underlying ht, MapKept.run_getObj_map hb, K.check w _ hkey, h1, Result.andThen]
    · have hidx : es.findIdx? (fun e => ((e.born : Nat) : Int) == ((e0.born : Nat) : Int)) = some j := by
        rw [findIdx_arr]; exact findIdx_born s2 h2
      generalize hW : setBlock w b (.map es clock) = W2
      have hw2 : W2.heap[b]? = some (.map es clock) := by rw [← hW]; exact hgo
      have hst : (Instr.entryStore t (.map (some b)) (goInt e0.born) x).run P W2 = .ok () (setBlock W2 b (.map (es.modify j (fun e' => { e' with val := x })) clock)) := by
        simp [Instr.entryStore, MapKept.run_getObj_map hw2, asInt, asIntOf, goInt, hidx, MapKept.run_setObj_map _ hw2, Result.andThen, setBlock]
      rw [hst, ← hW, setBlock_twice]
    · simp [Instr.mapUpdate, run_underlying ht, MapKept.run_getObj_map hb, hK, h1, hj, h3, hS, hset, MapKept.run_setObj_map _ hb, Result.andThen, setBlock]
end

/-- 'seen[x]++': the runs of it, in whatever order. -/
theorem count_step {kt mt : TypeId} (K : Keyed Try.prog kt) (ht : Try.prog.underlying mt = some (.map kt 2)) {W : World} {M n : Nat} {D : DataW Unit} (hown : W.ownsMap Try.prog kt (plainElem Try.prog 2) M n D) (hn : n < maxLen) {key : Value} {kl : Lit} (hkey : keyOf Try.prog kt key = some kl) :
    ∃ c st W2, (Instr.lookup mt (.map (some M)) key false).run Try.prog W = .ok (.int .i64 c) W ∧ D.atKey kl (.lit (.int .i64 0)) = .lit (.int .i64 c) ∧
      (Instr.mapEntry mt (.map (some M)) key).run Try.prog W = .ok (.tuple #[.int .i64 c, goInt st]) W2 ∧
      (Instr.lookup mt (.map (some M)) key false).run Try.prog W2 = .ok (.int .i64 c) W2 ∧ W.grownBy W2 (some M) ∧
      (Lit.int .i64 c).wf = true ∧
      ∀ x, (Lit.int .i64 x).wf = true → ∃ W3, (Instr.entryStore mt (.map (some M)) (goInt st) (.int .i64 x)).run Try.prog W2 = .ok () W3 ∧ W3.ownsMap Try.prog kt (plainElem Try.prog 2) M (n + 1) (D.put kl (.lit (.int .i64 x))) ∧ W.grownBy W3 (some M) := by
  obtain ⟨es, clock, hb, F, hs, hD⟩ := id hown
  obtain ⟨v0, st, es1, clock1, hE, hU, hL, hS⟩ := entry_steps K ht zeroI64 hb F hkey
  obtain ⟨c, hL', hat, hwc⟩ := hown.lookup_int K ht Try.underlying2 (zeroI64 _) hkey
  obtain rfl : v0 = .int .i64 c := by rw [hL] at hL'; simpa using hL'
  obtain ⟨w', hU', hown2, hg2⟩ := hown.update K ht hn hkey (plainElem_int (H := Unit) Try.underlying2 hwc)
  obtain rfl : setBlock W M (.map es1 clock1) = w' := by rw [hU] at hU'; simpa using hU'
  obtain ⟨c2, hL2, hat2, _⟩ := hown2.lookup_int K ht Try.underlying2 (zeroI64 _) hkey
  rw [atKey_put_same hown.isMap (K.key hkey)] at hat2
  obtain rfl : c = c2 := by simpa using hat2
  refine ⟨c, st, _, hL', hat, hE, hL2, hg2, hwc, fun x hx => ?_⟩
  obtain ⟨es2, clock2, hs1, hs2⟩ := hS (.int .i64 x)
  obtain ⟨w3, hU3, hown3, hg3⟩ := hown.update K ht hn hkey (plainElem_int (H := Unit) Try.underlying2 hx)
  obtain rfl : w3 = setBlock W M (.map es2 clock2) := by rw [hs2] at hU3; simpa using hU3.symm
  exact ⟨_, hs1, hown3, hg3⟩

/-- What the map of counts says of the first k. -/
structure SeenG {α : Type} (kt : TypeId) (kv : α → Value) (ns : List α) (k : Nat) (D : DataW Unit) : Prop where
  key : ∀ x l, keyOf Try.prog kt (kv x) = some l → (has D l = true ↔ x ∈ ns.take k)
  le : Maps.size D ≤ k
  eq : Maps.size D = k ↔ (ns.take k).Nodup
theorem SeenG.put {α : Type} {kt : TypeId} {kv : α → Value} (K : Keyed Try.prog kt) (hinj : ∀ x y, kv x = kv y → x = y) {ns : List α} {k : Nat} {D : DataW Unit} (h : SeenG kt kv ns k D) (hD : Tidy D) (hk : k < ns.length) {l : Lit} (hl : keyOf Try.prog kt (kv ns[k]) = some l) (d : DataW Unit) : SeenG kt kv ns (k + 1) (D.put l d) := by
  have htk := List.take_succ_eq_append_getElem hk
  have hkl := K.key hl
  have hin := h.key _ _ hl
  refine ⟨fun x l' hl' => ?_, ?_, ?_⟩
  · rw [htk, List.mem_append, List.mem_singleton]
    by_cases e : l' = l
    · subst e
      have e1 := hinj _ _ (K.inj hl' hl)
      rw [has_put_same hD.isMap hkl]
      simp [e1]
    · rw [has_put_other e, h.key _ _ hl']
      constructor
      · intro h; exact .inl h
      · rintro (h2 | h2)
        · exact h2
        · exfalso; apply e
          rw [h2, hl] at hl'
          simpa using hl'.symm
  · rw [size_put hD]; have := h.le; split <;> omega
  · rw [size_put hD, htk, List.nodup_append]
    have hle := h.le
    have heq := h.eq
    cases hh : has D l
    · have hni : ¬ ns[k] ∈ ns.take k := fun hm => by rw [hin.2 hm] at hh; cases hh
      simp only [Bool.false_eq_true, if_false]
      constructor
      · intro e
        refine ⟨heq.1 (by omega), by simp, fun a ha b hb => ?_⟩
        simp at hb; subst hb
        intro e2; subst e2; exact hni ha
      · intro ⟨hn, _, _⟩
        have := heq.2 hn; omega
    · have hi := hin.1 hh
      simp only [if_true]
      constructor
      · intro e; omega
      · intro ⟨_, _, hn⟩
        exact absurd rfl (hn _ hi _ (by simp))

theorem keyedI : Keyed Try.prog 2 := int_keyed Try.underlying2
theorem keyedS : Keyed Try.prog 9 := string_keyed Try.underlying9
theorem keyI {x : Int} (h0 : -9223372036854775808 ≤ x) (h1 : x < 9223372036854775808) : keyOf Try.prog 2 (.int .i64 x) = some (.int .i64 x) := keyOf_int_mk Try.underlying2 (WalkArith.wf_i64 (by omega))

set_option maxRecDepth 100000 in
set_option maxHeartbeats 1000000 in
theorem unlikeI_any (v : Value) (ns : List Int) (w : World) (hr : Rd w v ns) :
    Calls Try.prog 66 #[v] w fun e w' => e = .returned (.bool (dec ns.Nodup)) ∧ Below w.heap.size w w' := by
  obtain ⟨a, cap, rfl, hlx, hzx, hnx, hcx⟩ := id hr
  generalize hR : dec ns.Nodup = R
  have HR : Hid (dec ns.Nodup = R) := hR
  clear hR
  have hmm := @run_makeMap Try.prog
  go_enter Try.func66, Try.ntmps66
  go_wp2
  go_loopw [9] (fun i wr => ∃ (k : Nat) (D : DataW Unit), k ≤ ns.length ∧ i = .int .i64 k ∧ wr.ownsMap Try.prog 2 (plainElem Try.prog 2) w.heap.size k D ∧ SeenG 2 (Value.int .i64) ns k D ∧ Below w.heap.size w wr) (fun i _ => ns.length - (intOf i).toNat)
  case atStart =>
    refine ⟨0, _, Nat.zero_le _, rfl, World.ownsMap_made w _ _ _, ⟨fun h' l hl => by simp [has], by simp [Maps.size], by simp [Maps.size]⟩, (Below.refl _ w).alloc (Nat.le_refl _) _⟩
  case round =>
    obtain ⟨k, D, hk, rfl, hown, hSO, hBr⟩ := hrel
    clear hmm
    by_cases hlt : k < ns.length
    · obtain ⟨b, off, rfl, hb, hcell⟩ := hcx (by omega)
      have hok := hzx.get k
      have hg : ns.getD k 0 = ns[k] := by simp [List.getD, hlt]
      have d0 : wr.cell? ⟨b, off + k, none⟩ = some (.int .i64 (ns.getD k 0)) := (hBr.cell (p := ⟨b, off + k, none⟩) hb).trans (hcell k hlt)
      have hkey := keyI hok.1 hok.2
      have hput := fun d => hSO.put keyedI (fun x y h => by simpa using h) (hown.tidy keyedI) hlt (l := .int .i64 (ns.getD k 0)) (by rw [← hg]; exact hkey) d
      have Hput : Hid (∀ d, SeenG 2 (Value.int .i64) ns (k + 1) (D.put (.int .i64 (ns.getD k 0)) d)) := hput
      obtain ⟨c, hL, -, hwc⟩ := hown.lookup_int keyedI Try.underlying101 Try.underlying2 (zeroI64 _) hkey
      obtain ⟨W3, hU3, hown3, hg3⟩ := hown.update keyedI Try.underlying101 (by unfold maxLen; omega) hkey (plainElem_int (H := Unit) Try.underlying2 (wrap64_wf (c + 1)))
      have hMl := hown.lt
      have hB3 : Below w.heap.size w W3 := hBr.grown hg3 hBr.size (fun j hj => by cases hj; exact Nat.le_refl _)
      clear hput hcell hcx hok hzx hg
      generalize ns.getD k 0 = X at *
      go_wp2
      go_roundw
      case rel => exact ⟨k + 1, _, by omega, by go_num, hown3, Hput.out _, hB3⟩
      case measure => simp [intOf]; omega
    · obtain rfl : k = ns.length := by omega
      have hL := hown.len Try.underlying101 3
      have hle := hSO.le
      have heq := hSO.eq
      rw [List.take_length] at heq
      generalize Maps.size D = sz at *
      clear hcx
      by_cases hn : ns.Nodup
      · obtain rfl : R = true := by rw [← HR.out]; exact dec_true hn
        have e1 : ((sz : Int) == (ns.length : Int)) = true := by have := heq.2 hn; simp; omega
        clear heq
        go_wp2
        go_ret
        exact ⟨by first | rfl | simp [e1], hBr⟩
      · obtain rfl : R = false := by rw [← HR.out]; exact dec_false hn
        have e1 : ((sz : Int) == (ns.length : Int)) = false := by
          have : ¬ sz = ns.length := fun e => hn (heq.1 e)
          simp; omega
        clear heq
        go_wp2
        go_ret
        exact ⟨by first | rfl | simp [e1], hBr⟩

def shS : Sh ByteArray := ⟨1, by decide, fun s => [.string s], fun s => s.size ≤ maxLen, fun _ => rfl, fun a u hu => by simp at hu; subst hu; rfl⟩
abbrev RdS := RdG shS
abbrev OwnS := OwnG shS 9
def keyLS (s : ByteArray) : Lit := .string s.toList
theorem keyS (s : ByteArray) (h : s.size ≤ maxLen) : keyOf Try.prog 9 (.string s) = some (keyLS s) := by
  rw [WideMaps.keyOf_string_mk Try.underlying9 h, keyLS, ByteArray.toList_eq]

set_option maxRecDepth 100000 in
set_option maxHeartbeats 1000000 in
theorem unlikeS_any (v : Value) (ns : List ByteArray) (w : World) (hr : RdS w v ns) :
    Calls Try.prog 67 #[v] w fun e w' => e = .returned (.bool (dec ns.Nodup)) ∧ Below w.heap.size w w' := by
  obtain ⟨a, cap, rfl, hlx, hzx, hnx, hcx⟩ := id hr
  generalize hR : dec ns.Nodup = R
  have HR : Hid (dec ns.Nodup = R) := hR
  clear hR
  have hmm := @run_makeMap Try.prog
  go_enter Try.func67, Try.ntmps67
  go_wp2
  go_loopw [9] (fun i wr => ∃ (k : Nat) (D : DataW Unit), k ≤ ns.length ∧ i = .int .i64 k ∧ wr.ownsMap Try.prog 9 (plainElem Try.prog 2) w.heap.size k D ∧ SeenG 9 Value.string ns k D ∧ Below w.heap.size w wr) (fun i _ => ns.length - (intOf i).toNat)
  case atStart =>
    refine ⟨0, _, Nat.zero_le _, rfl, World.ownsMap_made w _ _ _, ⟨fun h' l hl => by simp [has], by simp [Maps.size], by simp [Maps.size]⟩, (Below.refl _ w).alloc (Nat.le_refl _) _⟩
  case round =>
    obtain ⟨k, D, hk, rfl, hown, hSO, hBr⟩ := hrel
    clear hmm
    by_cases hlt : k < ns.length
    · obtain ⟨b, off, rfl, hb, hcell⟩ := hcx (by omega)
      have d0 : wr.cell? ⟨b, off + k, none⟩ = some (.string ns[k]) := (hBr.cell (p := ⟨b, off + k, none⟩) hb).trans (by have := hcell k hlt 0 (by decide); simpa [shS] using this)
      have hkey := keyS ns[k] (hzx ns[k] (List.getElem_mem hlt))
      have hput := fun d => hSO.put keyedS (fun x y h => by simpa using h) (hown.tidy keyedS) hlt hkey d
      have Hput : Hid (∀ d, SeenG 9 Value.string ns (k + 1) (D.put (keyLS ns[k]) d)) := hput
      obtain ⟨c, hL, -, hwc⟩ := hown.lookup_int keyedS Try.underlying102 Try.underlying2 (zeroI64 _) hkey
      obtain ⟨W3, hU3, hown3, hg3⟩ := hown.update keyedS Try.underlying102 (by unfold maxLen; omega) hkey (plainElem_int (H := Unit) Try.underlying2 (wrap64_wf (c + 1)))
      have hMl := hown.lt
      have hB3 : Below w.heap.size w W3 := hBr.grown hg3 hBr.size (fun j hj => by cases hj; exact Nat.le_refl _)
      clear hput hcell hcx hzx
      generalize ns[k] = X at *
      go_wp2
      go_roundw
      case rel => exact ⟨k + 1, _, by omega, by go_num, hown3, Hput.out _, hB3⟩
      case measure => simp [intOf]; omega
    · obtain rfl : k = ns.length := by omega
      have hL := hown.len Try.underlying102 3
      have hle := hSO.le
      have heq := hSO.eq
      rw [List.take_length] at heq
      generalize Maps.size D = sz at *
      clear hcx
      by_cases hn : ns.Nodup
      · obtain rfl : R = true := by rw [← HR.out]; exact dec_true hn
        have e1 : ((sz : Int) == (ns.length : Int)) = true := by have := heq.2 hn; simp; omega
        clear heq
        go_wp2
        go_ret
        exact ⟨by first | rfl | simp [e1], hBr⟩
      · obtain rfl : R = false := by rw [← HR.out]; exact dec_false hn
        have e1 : ((sz : Int) == (ns.length : Int)) = false := by
          have : ¬ sz = ns.length := fun e => hn (heq.1 e)
          simp; omega
        clear heq
        go_wp2
        go_ret
        exact ⟨by first | rfl | simp [e1], hBr⟩
end Go.Proofs.Ytfbibbjiomfncaa
