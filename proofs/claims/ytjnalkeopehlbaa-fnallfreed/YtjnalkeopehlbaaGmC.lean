import Derived.Test.YtjnalkeopehlbaaGmB
import Derived.Test.YtjnalkeopehlbaaGcT
import Derived.Maps.Keyed
import Derived.Deep.RegionHeld3
namespace Go.Proofs.Ytjnalkeopehlbaa
open Go.RowKit Go.Maps
set_option linter.unusedVariables false
set_option linter.unusedSimpArgs false

def gP (w : World) (v : Value) : Prop := ∃ b, v = pk b ∧ Pl w b
theorem pk_inj {a b : Nat} (h : pk a = pk b) : a = b := by
  unfold pk at h
  simpa using h
theorem findAskV (w : World) (b : Nat) (hb : Pl w b) : ∀ (es : List MapEntry) (i : Nat), (∀ e ∈ es, gP w e.key) →
    ((Instr.findAsking 56 (pk b) es i).run Try.prog w = .ok none w ∧ ∀ e ∈ es, e.key ≠ pk b) ∨ ∃ j e, (Instr.findAsking 56 (pk b) es i).run Try.prog w = .ok (some (i + j, e.val)) w ∧ es[j]? = some e ∧ e.key = pk b
  | [], i, _ => .inl ⟨rfl, fun e he => by cases he⟩
  | e :: es, i, hg => by
    obtain ⟨q, hq1, hq2⟩ := hg e (by simp)
    have hq := eq_pk w b q hb hq2
    by_cases eb : b = q
    · rw [decide_eq_true eb] at hq
      refine .inr ⟨0, e, ?_, rfl, by rw [hq1, eb]⟩
      unfold Instr.findAsking
      rw [hq1]
      simp [hq]
    · rw [decide_eq_false eb] at hq
      rcases findAskV w b hb es (i + 1) (fun e he => hg e (by simp [he])) with ⟨h1, h2⟩ | ⟨j, e1, h1, h2, h3⟩
      · refine .inl ⟨?_, fun e2 he2 => ?_⟩
        · unfold Instr.findAsking
          rw [hq1]
          simp [hq, h1]
        · rcases List.mem_cons.1 he2 with rfl | h4
          · rw [hq1]; exact fun e => eb (pk_inj e).symm
          · exact h2 e2 h4
      · refine .inr ⟨j + 1, e1, ?_, by simpa using h2, h3⟩
        unfold Instr.findAsking
        rw [hq1, show i + (j + 1) = i + 1 + j by omega]
        simp [hq, h1]
theorem fndP (w : World) (b : Nat) (hb : Pl w b) : Fnd 56 w (pk b) (gP w) := by
  refine ⟨fun em => chk w em b, ?_, fun es hg => ?_⟩
  · have : Instr.sameBits 10000 (pk b) (pk b) = true := by
      show Instr.sameBits (9999 + 1) (.pointer (some ⟨b, 0, none⟩)) (.pointer (some ⟨b, 0, none⟩)) = true
      simp [Instr.sameBits]
    simp [Instr.keyThatStays, this]
  · have hu := run_underlying (w := w) Try.underlying56
    cases es with
    | nil => exact .inl ⟨by simp [Instr.findKey, Instr.findNow, hu], fun e he => by cases he⟩
    | cons e r =>
      obtain ⟨q, hq1, hq2⟩ := hg e (by simp)
      have hn : Instr.findNow (.pointer 78) (pk b) (e :: r) 0 = none := by
        unfold Instr.findNow
        rw [hq1]
        rfl
      rcases findAskV w b hb (e :: r) 0 hg with ⟨h1, h2⟩ | ⟨j, e1, h1, h2, h3⟩
      · exact .inl ⟨by simp [Instr.findKey, hu, hn, h1], h2⟩
      · rw [Nat.zero_add] at h1
        exact .inr ⟨j, e1, by simp [Instr.findKey, hu, hn, h1], h2, h3⟩
def gI (v : Value) : Prop := ∃ y : Int, v = .int .i64 y ∧ (Lit.int .i64 y).wf = true
theorem wf_i64 {y : Int} (h1 : -9223372036854775808 ≤ y) (h2 : y < 9223372036854775808) : (Lit.int .i64 y).wf = true := by
  simp [Lit.wf, IntKind.min, IntKind.max, IntKind.bits, IntKind.signed]
  omega
theorem fndI (w : World) (x : Int) (hx : (Lit.int .i64 x).wf = true) : Fnd 2 w (.int .i64 x) gI := by
  have K : Keyed Try.prog 2 := int_keyed Try.underlying2
  have hk := keyOf_int_mk (P := Try.prog) Try.underlying2 hx
  refine ⟨fun em => K.check w em hk, K.stays w hk, fun es hg => K.find w hk es (fun e he => ?_)⟩
  obtain ⟨y, h1, h2⟩ := hg e he
  rw [h1]
  exact ⟨_, keyOf_int_mk Try.underlying2 h2⟩
theorem upd_upd {α : Type} (f : Nat → α) (i : Nat) (u v : α) : upd (upd f i u) i v = upd f i v := by
  funext k
  by_cases e : k = i
  · subst e; rw [upd_same, upd_same]
  · rw [upd_ne _ _ e, upd_ne _ _ e, upd_ne _ _ e]
/-- The things are those of S. -/
structure Gi (S : Gs) (f : Nat → Tc) (AL : List Nat) : Prop where
  rt : ∀ x, In S.n x → (f x).rt = S.rt x
  ct : ∀ x, In S.n x → (f x).ct = cnt S x
  wk : ∀ x, In S.n x → (f x).wk = S.wk x
  fn : ∀ x, In S.n x → (f x).fn = S.fn x
  rn : ∀ x, In S.n x → (f x).rn = S.rn x
  od : ∀ x, In S.n x → (f x).ord = (S.hl x).map (·.1)
  mp : ∀ x, In S.n x → (f x).mp = S.hl x
  al : ∀ x, x ∈ AL ↔ S.al x = true
structure GI (w : World) (B hb am : Nat) (ew : Value) (tb : Nat → Nat) (f : Nat → Tc) (AL : List Nat) (S : Gs) : Prop where
  th : TH w B hb am S.n ew tb f AL S.ev
  gi : Gi S f AL
/-- What a walk through the heap leaves. -/
def GP (B hb am : Nat) (tb : Nat → Nat) (ew : Value) (f : Nat → Tc) (S S' : Gs) (w w' : World) : Prop := ∃ ew' f' AL', GI w' B hb am ew' tb f' AL' S' ∧ Fr (PH hb am S.n ew tb f) w (PH hb am S'.n ew' tb f') w'
theorem wrap_small {x : Int} (h1 : -9223372036854775808 ≤ x) (h2 : x < 9223372036854775808) : IntKind.i64.wrap x = x := by
  simp [IntKind.wrap, IntKind.bits, IntKind.signed]; omega
set_option maxRecDepth 100000 in
theorem root_any (b x : Nat) (t : Tc) (w : World) (ho : w.heap[b]? = some (.cells (tcC x t) 78 (0, 0))) (h1 : t.rt ≤ 1000000000) (h2 : t.ct ≤ 1000000000) :
    Calls Try.prog 57 #[.pointer (some ⟨b, 0, none⟩)] w fun e w' => e = .returned (.tuple #[]) ∧ w' = (w.setCell ⟨b, 1, none⟩ (.int .i64 ((t.rt : Int) + 1))).setCell ⟨b, 2, none⟩ (.int .i64 ((t.ct : Int) + 1)) := by
  have c1 : w.cell? ⟨b, 1, none⟩ = some (.int .i64 (t.rt : Nat)) := cell_obj ho rfl
  have f1 : w.frozen? ⟨b, 1, none⟩ = false := frozen_obj ho
  have ho2 := heap_setCell_same w b 1 _ _ (.int .i64 ((t.rt : Int) + 1)) ho
  have c2 : (w.setCell ⟨b, 1, none⟩ (.int .i64 ((t.rt : Int) + 1))).cell? ⟨b, 2, none⟩ = some (.int .i64 (t.ct : Nat)) := cell_obj ho2 rfl
  have f2 : (w.setCell ⟨b, 1, none⟩ (.int .i64 ((t.rt : Int) + 1))).frozen? ⟨b, 2, none⟩ = false := frozen_obj ho2
  have hw1 : IntKind.i64.wrap ((t.rt : Int) + 1) = (t.rt : Int) + 1 := wrap_small (by omega) (by omega)
  have hw2 : IntKind.i64.wrap ((t.ct : Int) + 1) = (t.ct : Int) + 1 := wrap_small (by omega) (by omega)
  clear ho ho2
  go_enter Try.func57, Try.ntmps57
  go_wp2
  go_end0
  exact ⟨rfl, rfl⟩
set_option maxRecDepth 100000 in
theorem unroot_any (b x : Nat) (t : Tc) (w : World) (ho : w.heap[b]? = some (.cells (tcC x t) 78 (0, 0))) (h1 : t.rt ≤ 1000000000) (h2 : t.ct ≤ 1000000000) :
    Calls Try.prog 64 #[.pointer (some ⟨b, 0, none⟩)] w fun e w' => e = .returned (.tuple #[]) ∧ w' = (w.setCell ⟨b, 1, none⟩ (.int .i64 ((t.rt : Int) - 1))).setCell ⟨b, 2, none⟩ (.int .i64 ((t.ct : Int) - 1)) := by
  have c1 : w.cell? ⟨b, 1, none⟩ = some (.int .i64 (t.rt : Nat)) := cell_obj ho rfl
  have f1 : w.frozen? ⟨b, 1, none⟩ = false := frozen_obj ho
  have ho2 := heap_setCell_same w b 1 _ _ (.int .i64 ((t.rt : Int) - 1)) ho
  have c2 : (w.setCell ⟨b, 1, none⟩ (.int .i64 ((t.rt : Int) - 1))).cell? ⟨b, 2, none⟩ = some (.int .i64 (t.ct : Nat)) := cell_obj ho2 rfl
  have f2 : (w.setCell ⟨b, 1, none⟩ (.int .i64 ((t.rt : Int) - 1))).frozen? ⟨b, 2, none⟩ = false := frozen_obj ho2
  have hw1 : IntKind.i64.wrap ((t.rt : Int) - 1) = (t.rt : Int) - 1 := wrap_small (by omega) (by omega)
  have hw2 : IntKind.i64.wrap ((t.ct : Int) - 1) = (t.ct : Int) - 1 := wrap_small (by omega) (by omega)
  clear ho ho2
  go_enter Try.func64, Try.ntmps64
  go_wp2
  go_end0
  exact ⟨rfl, rfl⟩
set_option maxRecDepth 100000 in
theorem take_any (b x : Nat) (t : Tc) (k : Int) (w : World) (ho : w.heap[b]? = some (.cells (tcC x t) 78 (0, 0))) :
    Calls Try.prog 50 #[.pointer (some ⟨b, 0, none⟩), .int .i64 k] w fun e w' => ((k < 0 ∨ 2 < k) ∧ e = .returned (.int .i64 (-1)) ∧ w' = w) ∨ (0 ≤ k ∧ k ≤ 2 ∧ e = .returned (.int .i64 k) ∧ w' = w.setCell ⟨b, 4, none⟩ (.int .i64 k)) := by
  have c1 : w.cell? ⟨b, 4, none⟩ = some (.int .i64 (t.fn : Nat)) := cell_obj ho rfl
  have f1 : w.frozen? ⟨b, 4, none⟩ = false := frozen_obj ho
  clear ho
  by_cases h1 : k < 0
  · go_enter Try.func50, Try.ntmps50
    go_wp2
    go_ret
    exact .inl ⟨.inl h1, rfl, rfl⟩
  · by_cases h2 : 2 < k
    · go_enter Try.func50, Try.ntmps50
      go_wp2
      go_ret
      first | exact .inl ⟨.inr h2, rfl, rfl⟩ | exact .inl ⟨rfl, rfl⟩
    · go_enter Try.func50, Try.ntmps50
      go_wp2
      go_ret
      first | exact .inr ⟨by omega, by omega, rfl, rfl⟩ | exact .inr ⟨rfl, rfl⟩ | simp
theorem TG.rooted {w : World} {B n : Nat} {tb : Nat → Nat} {f : Nat → Tc} (h : TG w B n tb f) {x : Nat} (hx : In n x) (r c : Nat) : TG ((w.setCell ⟨tb x, 1, none⟩ (.int .i64 (r : Nat))).setCell ⟨tb x, 2, none⟩ (.int .i64 (c : Nat))) B n tb (upd f x { f x with rt := r, ct := c }) ∧ Fr (PT n tb f) w (PT n tb (upd f x { f x with rt := r, ct := c })) ((w.setCell ⟨tb x, 1, none⟩ (.int .i64 (r : Nat))).setCell ⟨tb x, 2, none⟩ (.int .i64 (c : Nat))) := by
  obtain ⟨a1, b1⟩ := h.cell1 hx 1 (.int .i64 (r : Nat)) { f x with rt := r } rfl rfl rfl rfl rfl
  obtain ⟨a2, b2⟩ := a1.cell1 hx 2 (.int .i64 (c : Nat)) { f x with rt := r, ct := c } (by rw [upd_same]; rfl) (by rw [upd_same]) (by rw [upd_same]) (by rw [upd_same]) (by rw [upd_same])
  rw [upd_upd] at a2 b2
  exact ⟨a2, b1.trans b2⟩
theorem step_append_oneL {α : Type} {S : Sh α} {T : TypeId} {zv : Value} {by' : Nat} (hinfo : (Try.prog.info? T).map (fun i => (i.zero, i.size, i.bytes)) = some (some zv, S.n, by')) (hzc : zv.cells.size = S.n) (hby : by' ≤ 128)
    {w : World} {ops : Array Oper} {o : Oper} {a : Act} {K : Act → World → Prop} {Q : Exit → Act → World → Prop} {E : Prop} (hgd : o.guard = none) (s x : Operand) (t : TypeId)
    (ho : o.op = .call { callee := .builtin .append, args := #[s, x], argTypes := #[t, t] }) (ht : Try.prog.underlying t = some (.slice T)) (B : Nat) (v : Value) (xs : List α) (e : α) (he : S.ok e) (g c : Nat) (hs : a.eval s = v) (hx : a.eval x = .slice (some ⟨g, 0, none⟩) 1 c)
    (hown : OwnG S T w B v xs) (hc : ∀ j, j < S.n → w.cell? ⟨g, j, none⟩ = (S.cs e)[j]?) (hlen : xs.length + 1 ≤ 16777216) (hB : B ≤ w.heap.size)
    (h : ∀ b c' w', OwnG S T w' B (.slice (some ⟨b, 0, none⟩) (xs.length + 1) c') (xs ++ [e]) → w.grownBy w' v.ownBlock → (v.ownBlock = some b ∨ b = w.heap.size) → b < w'.heap.size → K (a.put o.dst (.slice (some ⟨b, 0, none⟩) (xs.length + 1) c')) w') :
    if Region.wanted o (yielded ops a.tmps) = true then Oper.wp Try.prog o a w K Q else E := by
  obtain ⟨i0, hi, hz0, hz1, hz2⟩ := info_parts hinfo
  refine step_append_lies w hgd s x t ho B T i0 zv S.n by' ht hi hz0 hz1 hz2 hzc S.pos v _ _ hs hown.1 ⟨g, 0, none⟩ 1 c (S.cs e) hx (by rw [S.len]; omega) ?_ (fun u hu => S.one e u hu) (by omega) (by unfold maxLen; omega) ?_ hB _ rfl ?_
  · intro j u hj
    have hj' : j < S.n := by
      rcases Nat.lt_or_ge j S.n with h | h
      · exact h
      · rw [List.getElem?_eq_none (by rw [S.len]; exact h)] at hj; cases hj
    have e' : (⟨g, 0, none⟩ : Addr).add j = ⟨g, j, none⟩ := by unfold Addr.add; split <;> simp_all
    rw [e', hc j hj', hj]
  · have : (xs.length + 1) * by' ≤ (xs.length + 1) * 128 := Nat.mul_le_mul_left _ hby
    omega
  · intro b c' w' h1 h2 h3 h4
    exact h b c' w' ⟨by simpa using h1, by simpa using hlen, fun y hy => by
      rcases List.mem_append.1 hy with h | h
      · exact hown.2.2 y h
      · simp at h; subst h; exact he⟩ h2 h3 h4
set_option maxRecDepth 100000 in
set_option maxHeartbeats 1000000 in
theorem tellI_any (B hb am n kd x : Nat) (ew : Value) (tb : Nat → Nat) (f : Nat → Tc) (AL : List Nat) (ev : List (Nat × Nat)) (w : World) (h : TH w B hb am n ew tb f AL ev) (hl : ev.length ≤ 100000) (hk : kd ≤ 3) (hx : In n x) (hn : n ≤ 100000) :
    Calls Try.prog 67 #[.pointer (some ⟨hb, 0, none⟩), .int .i64 (kd : Nat), .pointer (some ⟨tb x, 0, none⟩)] w fun e w' => e = .returned (.tuple #[]) ∧ ∃ ew', TH w' B hb am n ew' tb f AL (ev ++ [(kd, x)]) ∧ Fr (PH hb am n ew tb f) w (PH hb am n ew' tb f) w' := by
  obtain ⟨b0, b1, b2, bf⟩ := h.boxc
  have cx : w.cell? ⟨tb x, 0, none⟩ = some (.int .i64 (x : Nat)) := cell_obj (h.tg.obj x hx) rfl
  have hxn := hx.2
  have al : Below w.heap.size w (w.drew.alloc (.cells #[.int .i64 (kd : Nat), .int .i64 (x : Nat)] 49)) := (Below.refl _ _).drew.alloc (Nat.le_refl _) _
  have hA := h.keep al
  have HA : Hid (TH (w.drew.alloc (.cells #[.int .i64 (kd : Nat), .int .i64 (x : Nat)] 49)) B hb am n ew tb f AL ev) := hA
  have hlow := h.low.1
  have hlt := h.lt
  have hltx := (h.tg.lt hx).1
  have oE := hA.evs
  have hcc : ∀ j, j < shGe.n → (w.drew.alloc (.cells #[.int .i64 (kd : Nat), .int .i64 (x : Nat)] 49)).cell? ⟨w.heap.size, j, none⟩ = (shGe.cs ⟨(kd : Nat), (x : Nat)⟩)[j]? := fun j hj => by
    show (w.drew.alloc (.cells #[.int .i64 (kd : Nat), .int .i64 (x : Nat)] 49)).cell? ⟨w.drew.heap.size, j, none⟩ = _
    rw [World.cell?_alloc_at _ _ _ _ rfl]
    have : j = 0 ∨ j = 1 := by have : j < 2 := hj; omega
    rcases this with rfl | rfl <;> rfl
  have HCC : Hid (∀ j, j < shGe.n → (w.drew.alloc (.cells #[.int .i64 (kd : Nat), .int .i64 (x : Nat)] 49)).cell? ⟨w.heap.size, j, none⟩ = (shGe.cs ⟨(kd : Nat), (x : Nat)⟩)[j]?) := hcc
  have hok : shGe.ok ⟨(kd : Nat), (x : Nat)⟩ := ⟨⟨by show _ ≤ (kd : Int); omega, by show (kd : Int) < _; omega⟩, ⟨by show _ ≤ (x : Int); omega, by show (x : Int) < _; omega⟩⟩
  have HOK : Hid (shGe.ok ⟨(kd : Nat), (x : Nat)⟩) := hok
  have hel := evL_len ev
  have HT : Hid (Fr (PH hb am n ew tb f) w (PH hb am n ew tb f) (w.drew.alloc (.cells #[.int .i64 (kd : Nat), .int .i64 (x : Nat)] 49))) := Fr.below al
  have hsz : (w.drew.alloc (.cells #[.int .i64 (kd : Nat), .int .i64 (x : Nat)] 49)).heap.size = w.heap.size + 1 := by simp
  have HNE : Hid (ew.ownBlock ≠ some hb ∧ ew.ownBlock ≠ some (tb x)) := ⟨h.ev_hb, fun e => h.pt_ev e ⟨x, hx, .inl rfl⟩⟩
  have HNX : Hid (tb x ≠ hb) := fun e => h.pt_hb ⟨x, hx, .inl e⟩
  have b2' : (w.drew.alloc (.cells #[.int .i64 (kd : Nat), .int .i64 (x : Nat)] 49)).cell? ⟨hb, 2, none⟩ = some ew := hA.boxc.2.2.1
  have f2' : (w.drew.alloc (.cells #[.int .i64 (kd : Nat), .int .i64 (x : Nat)] 49)).frozen? ⟨hb, 2, none⟩ = false := hA.boxc.2.2.2 2
  have cx' : (w.drew.alloc (.cells #[.int .i64 (kd : Nat), .int .i64 (x : Nat)] 49)).cell? ⟨tb x, 0, none⟩ = some (.int .i64 (x : Nat)) := cell_obj (hA.tg.obj x hx) rfl
  have HKE : Hid (∀ w', (w.drew.alloc (.cells #[.int .i64 (kd : Nat), .int .i64 (x : Nat)] 49)).grownBy w' ew.ownBlock → w'.cell? ⟨hb, 2, none⟩ = some ew ∧ w'.frozen? ⟨hb, 2, none⟩ = false ∧ w'.cell? ⟨tb x, 0, none⟩ = some (.int .i64 (x : Nat)) ∧ ∀ v, (w'.setCell ⟨hb, 2, none⟩ v).cell? ⟨tb x, 0, none⟩ = some (.int .i64 (x : Nat))) := fun w' hg => by
    have e1 := hg.block hb (by omega) (fun e => HNE.out.1 e.symm)
    have e2 := hg.block (tb x) (by omega) (fun e => HNE.out.2 e.symm)
    exact ⟨(World.cell?_of_block (a := ⟨hb, 2, none⟩) e1).trans b2', (World.frozen?_of_block (a := ⟨hb, 2, none⟩) e1).trans f2', (World.cell?_of_block (a := ⟨tb x, 0, none⟩) e2).trans cx', fun v => (World.cell?_of_block (a := ⟨tb x, 0, none⟩) (Below.heap_setCell _ _ _ _ (fun e => HNX.out e))).trans ((World.cell?_of_block (a := ⟨tb x, 0, none⟩) e2).trans cx')⟩
  have hlen : (evL ev).length + 1 ≤ 16777216 := by omega
  have hBA : B ≤ (w.drew.alloc (.cells #[.int .i64 (kd : Nat), .int .i64 (x : Nat)] 49)).heap.size := by omega
  have f2 := bf 2
  clear hcc hA h hok b0 b1 bf
  go_enter Try.func67, Try.ntmps67
  go_wp2_with fail
  refine wp_region_held_drew (S := (fun W => W.cell? ⟨tb x, 0, none⟩ = some (.int .i64 (x : Nat)))) (by kernel_rfl) ?_ (fun hHeld => ?_)
  · (try dsimp only); go_keep
  refine' wpAnyH_take (i := 0) (oi := _) (v := _) ?hi0 (by kernel_rfl) (by kernel_rfl) (by kernel_rfl) ?hq0 (Or.inl ⟨?hg0, ?hy0⟩) (by assumption) ?rest0
  case hi0 => (rw [List.getElem?_toArray]; exact rfl)
  case hg0 => rfl
  case hy0 => (intro w hSw; (try dsimp only at hSw); go_simp; try with_reducible rfl)
  case hq0 => exact fun _ _ _ h => h
  try simp only [Act.put, List.setIfInBounds_toArray, List.set_cons_zero, List.set_cons_succ]
  refine' wpAnyH_take (i := 1) (oi := _) (v := _) ?hi1 (by kernel_rfl) (by kernel_rfl) (by kernel_rfl) ?hq1 (Or.inl ⟨?hg1, ?hy1⟩) (by assumption) ?rest1
  case hi1 => (rw [List.getElem?_toArray]; exact rfl)
  case hg1 => rfl
  case hy1 => (intro w hSw; (try dsimp only at hSw); go_simp; try with_reducible rfl)
  case hq1 => exact fun _ _ _ h => h
  try simp only [Act.put, List.setIfInBounds_toArray, List.set_cons_zero, List.set_cons_succ]
  refine' wpAnyH_take (i := 2) (oi := _) (v := _) ?hi2 (by kernel_rfl) (by kernel_rfl) (by kernel_rfl) ?hq2 (Or.inl ⟨?hg2, ?hy2⟩) (by assumption) ?rest2
  case hi2 => (rw [List.getElem?_toArray]; exact rfl)
  case hg2 => rfl
  case hy2 => (intro w hSw; (try dsimp only at hSw); go_simp; try with_reducible rfl)
  case hq2 => exact fun _ _ _ h => h
  try simp only [Act.put, List.setIfInBounds_toArray, List.set_cons_zero, List.set_cons_succ]
  refine' wpAnyH_take (i := 3) (oi := _) (v := _) ?hi3 (by kernel_rfl) (by kernel_rfl) (by kernel_rfl) ?hq3 (Or.inl ⟨?hg3, ?hy3⟩) (by assumption) ?rest3
  case hi3 => (rw [List.getElem?_toArray]; exact rfl)
  case hg3 => rfl
  case hy3 => (intro w hSw; (try dsimp only at hSw); go_simp; try with_reducible rfl)
  case hq3 => exact fun _ _ _ h => h
  try simp only [Act.put, List.setIfInBounds_toArray, List.set_cons_zero, List.set_cons_succ]
  refine' wpAnyH_take (i := 5) (oi := _) (v := _) ?hi5 (by kernel_rfl) (by kernel_rfl) (by kernel_rfl) ?hq5 (Or.inl ⟨?hg5, ?hy5⟩) (by assumption) ?rest5
  case hi5 => (rw [List.getElem?_toArray]; exact rfl)
  case hg5 => rfl
  case hy5 => (intro w hSw; (try dsimp only at hSw); go_simp; try with_reducible rfl)
  case hq5 => exact fun _ _ _ h => h
  try simp only [Act.put, List.setIfInBounds_toArray, List.set_cons_zero, List.set_cons_succ]
  refine' wpAnyH_take (i := 6) (oi := _) (v := _) ?hi6 (by kernel_rfl) (by kernel_rfl) (by kernel_rfl) ?hq6 (Or.inl ⟨?hg6, ?hy6⟩) (by assumption) ?rest6
  case hi6 => (rw [List.getElem?_toArray]; exact rfl)
  case hg6 => rfl
  case hy6 => (intro w hSw; (try dsimp only at hSw); go_simp; try with_reducible rfl)
  case hq6 => exact fun _ _ _ h => h
  try simp only [Act.put, List.setIfInBounds_toArray, List.set_cons_zero, List.set_cons_succ]
  refine' wpAnyH_take (i := 7) (oi := _) (v := _) ?hi7 (by kernel_rfl) (by kernel_rfl) (by kernel_rfl) ?hq7 (Or.inl ⟨?hg7, ?hy7⟩) (by assumption) ?rest7
  case hi7 => (rw [List.getElem?_toArray]; exact rfl)
  case hg7 => rfl
  case hy7 => (intro w hSw; (try dsimp only at hSw); go_simp; try with_reducible rfl)
  case hq7 => exact fun _ _ _ h => h
  try simp only [Act.put, List.setIfInBounds_toArray, List.set_cons_zero, List.set_cons_succ]
  refine' wpAnyH_take (i := 8) (oi := _) (v := _) ?hi8 (by kernel_rfl) (by kernel_rfl) (by kernel_rfl) ?hq8 (Or.inl ⟨?hg8, ?hy8⟩) (by assumption) ?rest8
  case hi8 => (rw [List.getElem?_toArray]; exact rfl)
  case hg8 => rfl
  case hy8 => (intro w hSw; (try dsimp only at hSw); go_simp; try with_reducible rfl)
  case hq8 => exact fun _ _ _ h => h
  try simp only [Act.put, List.setIfInBounds_toArray, List.set_cons_zero, List.set_cons_succ]
  refine' wpAnyH_take (i := 9) (oi := _) (v := _) ?hi9 (by kernel_rfl) (by kernel_rfl) (by kernel_rfl) ?hq9 (Or.inl ⟨?hg9, ?hy9⟩) (by assumption) ?rest9
  case hi9 => (rw [List.getElem?_toArray]; exact rfl)
  case hg9 => rfl
  case hy9 => (intro w hSw; (try dsimp only at hSw); go_simp; try with_reducible rfl)
  case hq9 => exact fun _ _ _ h => h
  try simp only [Act.put, List.setIfInBounds_toArray, List.set_cons_zero, List.set_cons_succ]
  refine' wpAnyH_take (i := 10) (oi := _) (v := _) ?hi10 (by kernel_rfl) (by kernel_rfl) (by kernel_rfl) ?hq10 (Or.inl ⟨?hg10, ?hy10⟩) (by assumption) ?rest10
  case hi10 => (rw [List.getElem?_toArray]; exact rfl)
  case hg10 => rfl
  case hy10 => (intro w hSw; (try dsimp only at hSw); go_simp; try with_reducible rfl)
  case hq10 => exact fun _ _ _ h => h
  try simp only [Act.put, List.setIfInBounds_toArray, List.set_cons_zero, List.set_cons_succ]
  refine wpAnyH_ready (rs := [4, 11]) (by kernel_rfl) (by simp) ?_
  refine AllReadyH.cons rfl (fun K hK => ?_) (AllReadyH.cons rfl (fun K hK => ?_) AllReadyH.nil)
  · (go_simp)
    refine hK.out _ _ ?_ (fun hHeld => ?_)
    · ((try dsimp only); go_keep)
    clear hK K
    refine wpAnyH_ready (rs := [11]) (by kernel_rfl) (by simp) ?_
    refine AllReadyH.cons rfl (fun K hK => ?_) AllReadyH.nil
    (go_simp)
    refine hK.out _ _ ?_ (fun hHeld => ?_)
    · ((try dsimp only); go_keep)
    clear hK K
    refine wpAnyH_ready (rs := [12]) (by kernel_rfl) (by simp) ?_
    refine AllReadyH.cons rfl (fun K hK => ?_) AllReadyH.nil
    (refine step_append_oneL (S := shGe) Try.info49 rfl (by omega) rfl (.tmp 10) (.tmp 17) 34 rfl Try.underlying34 B ew (evL ev) ⟨(kd : Nat), (x : Nat)⟩ HOK.out w.heap.size 1 (by simp [Act.eval, Act.put]) (by simp [Act.eval, Act.put]) oE HCC.out hlen hBA ?_; intro b' c' w' oF4 hg4 hl4 hz4; obtain ⟨k1, k2, k3, k4⟩ := HKE.out w' hg4; have k5 := k4 (.slice (some ⟨b', 0, none⟩) ((evL ev).length + 1) c'); rw [hel] at k5)
    refine hK.out _ _ ?_ (fun hHeld => ?_)
    · ((try dsimp only); go_keep)
    clear hK K
    refine wpAnyH_ready (rs := [13]) (by kernel_rfl) (by simp) ?_
    refine AllReadyH.cons rfl (fun K hK => ?_) AllReadyH.nil
    (go_simp)
    refine hK.out _ _ ?_ (fun hHeld => ?_)
    · ((try dsimp only); go_keep)
    clear hK K
    refine wpAnyH_ready (rs := [14]) (by kernel_rfl) (by simp) ?_
    refine AllReadyH.cons rfl (fun K hK => ?_) AllReadyH.nil
    (go_simp)
    refine hK.out _ _ ?_ (fun hHeld => ?_)
    · ((try dsimp only); go_keep)
    clear hK K
    refine wpAnyH_ready (rs := [15]) (by kernel_rfl) (by simp) ?_
    refine AllReadyH.cons rfl (fun K hK => ?_) AllReadyH.nil
    (go_simp)
    refine hK.out _ _ ?_ (fun hHeld => ?_)
    · ((try dsimp only); go_keep)
    clear hK K
    refine wpAnyH_done (by kernel_rfl) ?_ _
    go_end0
    have hT := HA.out.told (ev ++ [(kd, x)]) hg4 (by rw [evL_app]; exact oF4) (fun b e => by
      have e2 : b' = b := Option.some.inj e
      rcases hl4 with h1 | h1
      · exact .inl (by rw [h1, e2])
      · have e3 : b' = w.heap.size + 1 := by simpa using h1
        exact .inr (by rw [hsz]; omega))
    rw [hel] at hT
    exact ⟨rfl, _, hT.1, HT.out.trans hT.2⟩
  · (go_simp)
    refine hK.out _ _ ?_ (fun hHeld => ?_)
    · ((try dsimp only); go_keep)
    clear hK K
    refine wpAnyH_ready (rs := [4]) (by kernel_rfl) (by simp) ?_
    refine AllReadyH.cons rfl (fun K hK => ?_) AllReadyH.nil
    (go_simp)
    refine hK.out _ _ ?_ (fun hHeld => ?_)
    · ((try dsimp only); go_keep)
    clear hK K
    refine wpAnyH_ready (rs := [12]) (by kernel_rfl) (by simp) ?_
    refine AllReadyH.cons rfl (fun K hK => ?_) AllReadyH.nil
    (refine step_append_oneL (S := shGe) Try.info49 rfl (by omega) rfl (.tmp 10) (.tmp 17) 34 rfl Try.underlying34 B ew (evL ev) ⟨(kd : Nat), (x : Nat)⟩ HOK.out w.heap.size 1 (by simp [Act.eval, Act.put]) (by simp [Act.eval, Act.put]) oE HCC.out hlen hBA ?_; intro b' c' w' oF4 hg4 hl4 hz4; obtain ⟨k1, k2, k3, k4⟩ := HKE.out w' hg4; have k5 := k4 (.slice (some ⟨b', 0, none⟩) ((evL ev).length + 1) c'); rw [hel] at k5)
    refine hK.out _ _ ?_ (fun hHeld => ?_)
    · ((try dsimp only); go_keep)
    clear hK K
    refine wpAnyH_ready (rs := [13]) (by kernel_rfl) (by simp) ?_
    refine AllReadyH.cons rfl (fun K hK => ?_) AllReadyH.nil
    (go_simp)
    refine hK.out _ _ ?_ (fun hHeld => ?_)
    · ((try dsimp only); go_keep)
    clear hK K
    refine wpAnyH_ready (rs := [14]) (by kernel_rfl) (by simp) ?_
    refine AllReadyH.cons rfl (fun K hK => ?_) AllReadyH.nil
    (go_simp)
    refine hK.out _ _ ?_ (fun hHeld => ?_)
    · ((try dsimp only); go_keep)
    clear hK K
    refine wpAnyH_ready (rs := [15]) (by kernel_rfl) (by simp) ?_
    refine AllReadyH.cons rfl (fun K hK => ?_) AllReadyH.nil
    (go_simp)
    refine hK.out _ _ ?_ (fun hHeld => ?_)
    · ((try dsimp only); go_keep)
    clear hK K
    refine wpAnyH_done (by kernel_rfl) ?_ _
    go_end0
    have hT := HA.out.told (ev ++ [(kd, x)]) hg4 (by rw [evL_app]; exact oF4) (fun b e => by
      have e2 : b' = b := Option.some.inj e
      rcases hl4 with h1 | h1
      · exact .inl (by rw [h1, e2])
      · have e3 : b' = w.heap.size + 1 := by simpa using h1
        exact .inr (by rw [hsz]; omega))
    rw [hel] at hT
    exact ⟨rfl, _, hT.1, HT.out.trans hT.2⟩
end Go.Proofs.Ytjnalkeopehlbaa
