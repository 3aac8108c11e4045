import Derived.Test.YtjnalkeopehlbaaGmC
namespace Go.Proofs.Ytjnalkeopehlbaa
open Go.RowKit Go.Maps
set_option linter.unusedVariables false
set_option linter.unusedSimpArgs false

theorem RR.left_eq {w : World} {m r : Nat} {ps left : List (Value × Value)} (h : RR w m r ps left) : w.rangeLeft m r = left.length := by
  obtain ⟨es, clock, since, seen, c0, h1, h2, h3, h4, h5, h6, h7, h8, h9⟩ := h
  simp only [World.rangeLeft, h1, h5]
  rw [← h9]
  simp
section
variable (w : World) {ops : Array Oper} {rest : List Oper} {o : Oper} {a : Act} {Q : Exit → Act → World → Prop}
theorem wpList_range_MM (hg : o.guard = none) (m : Operand) (t : TypeId) (hop : o.op = Op.range t m) (k e : TypeId) (ht : Try.prog.underlying t = some (.map k e)) (b : Nat) (ps : List (Value × Value))
    (hm : a.eval m = .map (some b)) (h : MM w b ps)
    (hK : ∀ w', RR w' b w.heap.size ps ps → Below w.heap.size w w' → w'.heap.size = w.heap.size + 1 → wpList Try.prog ops Q rest (a.put o.dst (.pointer (some ⟨w.heap.size, 0, none⟩))) w') :
    wpList Try.prog ops Q (o :: rest) a w := by
  refine wpList_plain hg fun K' hK' => ?_
  obtain ⟨w', hrun, r1, r2, r3⟩ := h.range ht
  unfold Oper.wp
  simp [execOp, hop, hm, hrun, Result.andThen]
  exact hK' _ _ (hK w' r1 r2 r3)
theorem wpList_next_RR (hg : o.guard = none) (it : Operand) (hop : o.op = Op.next it false) (b r : Nat) (ps left : List (Value × Value)) (hit : a.eval it = .pointer (some ⟨r, 0, none⟩)) (h : RR w b r ps left)
    (hDone : left = [] → wpList Try.prog ops Q rest (a.put o.dst (.tuple #[.bool false])) w)
    (hMore : ∀ (l1 : List (Value × Value)) (p : Value × Value) (l2 : List (Value × Value)) (w' : World), left = l1 ++ p :: l2 → RR w' b r ps (l1 ++ l2) → w.grownBy w' (some r) → w'.heap.size = w.heap.size → (Instr.entry (.pointer (some ⟨r, 0, none⟩))).run Try.prog w' = .ok (.tuple #[p.1, p.2]) w' → wpList Try.prog ops Q rest (a.put o.dst (.tuple #[.bool true, p.1, p.2])) w') :
    wpList Try.prog ops Q (o :: rest) a w := by
  refine wpList_plain hg fun K' hK' => ?_
  unfold Oper.wp
  rcases h.next o.type with ⟨h0, hrun⟩ | ⟨l1, p, l2, w', h1, hrun, h2, h3, h4, h5⟩
  · simp [execOp, hop, hit, hrun, Result.andThen]
    exact hK' _ _ (hDone h0)
  · simp [execOp, hop, hit, hrun, Result.andThen]
    exact hK' _ _ (hMore l1 p l2 w' h1 h2 h3 h4 h5)
end
/-- What lies behind does not count. -/
theorem Fr.past {P P' : Nat → Prop} {w wr w1 : World} {r : Nat} (h : Fr P w P' wr) (hg : wr.grownBy w1 (some r)) (hr : w.heap.size ≤ r) : Fr P w P' w1 :=
  ⟨⟨hg.os.trans h.kp.os, hg.tape.trans h.kp.tape, hg.output.trans h.kp.output, Nat.le_trans h.kp.size hg.size, fun b hb hp => (hg.block b (Nat.lt_of_lt_of_le hb h.kp.size) (fun e => by have : b = r := Option.some.inj e; omega)).trans (h.kp.block b hb hp)⟩, h.nw⟩
theorem mpV_split {tb : Nat → Nat} {L : List (Nat × Nat)} {l1 l2 : List (Value × Value)} {p : Value × Value} (h : mpV tb L = l1 ++ p :: l2) : ∃ a q b, L = a ++ q :: b ∧ l1 = mpV tb a ∧ p = (pk (tb q.1), .int .i64 (q.2 : Nat)) ∧ l2 = mpV tb b := by
  unfold mpV at h ⊢
  obtain ⟨a, c, e1, e2, e3⟩ := List.map_eq_append_iff.1 h
  obtain ⟨q, b, e4, e5, e6⟩ := List.map_eq_cons_iff.1 e3
  exact ⟨a, q, b, by rw [e1, e4], e2.symm, e5.symm, e6.symm⟩
theorem tmo_split (a b : List (Nat × Nat)) (q : Nat × Nat) (y : Nat) : tmo (a ++ q :: b) y = tmo (a ++ b) y + if q.1 = y then q.2 else 0 := by
  rw [tmo_app, tmo_app, tmo_cons]; omega
/-- The counts, those of L not yet taken. -/
def ucf (f : Nat → Tc) (mp L : List (Nat × Nat)) (y : Nat) : Tc := { f y with ct := (f y).ct - (tmo mp y - tmo L y) }
theorem ucf_start (f : Nat → Tc) (mp : List (Nat × Nat)) : ucf f mp mp = f := by
  funext y
  unfold ucf
  rw [Nat.sub_self, Nat.sub_zero]
set_option maxRecDepth 100000 in
set_option maxHeartbeats 1000000 in
theorem uncount_any (B n x : Nat) (tb : Nat → Nat) (f : Nat → Tc) (w : World) (h : TG w B n tb f) (hx : In n x) (hle : ∀ y, In n y → tmo (f x).mp y ≤ (f y).ct) (hct : ∀ y, In n y → (f y).ct ≤ 1000000000) (hp : ∀ p ∈ (f x).mp, p.2 ≤ 1000000000) (hBw : B ≤ w.heap.size) :
    Calls Try.prog 68 #[.pointer (some ⟨tb x, 0, none⟩)] w fun e w' => e = .returned (.tuple #[]) ∧ TG w' B n tb (ucf f (f x).mp []) ∧ Fr (PT n tb f) w (PT n tb (ucf f (f x).mp [])) w' := by
  have c6 : w.cell? ⟨tb x, 6, none⟩ = some (.map (some (f x).mb)) := cell_obj (h.obj x hx) rfl
  have hM := h.map x hx
  have H : Hid (TG w B n tb f) := h
  have hml := (h.lt hx).2
  obtain ⟨mp, hmp⟩ : ∃ mp, (f x).mp = mp := ⟨_, rfl⟩
  obtain ⟨mb, hmb⟩ : ∃ mb, (f x).mb = mb := ⟨_, rfl⟩
  have HMB : Hid ((f x).mb = mb) := hmb
  have HMP : Hid ((f x).mp = mp) := hmp
  rw [hmp] at hM hle hp ⊢
  rw [hmb] at hM c6 hml
  clear h hmp hmb
  go_enter Try.func68, Try.ntmps68
  go_wp2_with (first
    | (at_range; refine wpList_range_MM _ rfl _ 76 rfl _ _ Try.underlying76 mb _ rfl hM ?_; intro w0 hR0 hB0 hs0)
    | go_in)
  go_frame
  go_loopw [2, 3] (fun _ _ wr => ∃ L, RR wr mb w.heap.size (mpV tb mp) (mpV tb L) ∧ TG wr B n tb (ucf f mp L) ∧ Fr (PT n tb f) w (PT n tb (ucf f mp L)) wr ∧ (∀ p ∈ L, p ∈ mp) ∧ ∀ y, tmo L y ≤ tmo mp y)
    (fun _ _ wr => wr.rangeLeft mb w.heap.size)
  case atStart => exact ⟨mp, hR0, by rw [ucf_start]; exact H.out.keep hB0, by rw [ucf_start]; exact Fr.below hB0, fun p hp => hp, fun y => Nat.le_refl _⟩
  case round =>
    obtain ⟨L, hR, hT, hF, hsub, htl⟩ := hrel
    have HRl := hR.left_eq
    have HT : Hid (TG wr B n tb (ucf f mp L)) := hT
    have HF : Hid (Fr (PT n tb f) w (PT n tb (ucf f mp L)) wr) := hF
    clear hT hF
    go_wp2_with (first
      | (at_next; refine wpList_next_RR _ rfl _ rfl mb w.heap.size _ _ rfl hR ?_ ?_)
      | go_in)
    · intro hl0
      have e : L = [] := by unfold mpV at hl0; simpa using hl0
      subst e
      go_wp2
      go_end0
      exact ⟨rfl, HT.out, HF.out⟩
    · intro l1 p1 p2 l2 w1 hl hR1 hg1 hs1 hen
      obtain ⟨a, q, b, eL, e1, e2, e3⟩ := mpV_split hl
      have e4 : p1 = .pointer (some ⟨tb q.1, 0, none⟩) := congrArg Prod.fst e2
      have e5 : p2 = .int .i64 (q.2 : Nat) := congrArg Prod.snd e2
      subst e4 e5 e1 e3 eL
      have hqm : q ∈ mp := hsub q (by simp)
      have hq : In n q.1 := H.out.okm x hx q (by rw [HMP.out]; exact hqm)
      have hT1 : TG w1 B n tb (ucf f mp (a ++ q :: b)) := HT.out.same (fun g hg => hg1.block g (HT.out.pt hg).2 (fun e => by
        have := (H.out.pt (b := g) hg).2
        have e2 : g = w.heap.size := Option.some.inj e
        omega))
      have hF1 : Fr (PT n tb f) w (PT n tb (ucf f mp (a ++ q :: b))) w1 := HF.out.past hg1 (Nat.le_refl _)
      have ho := hT1.obj q.1 hq
      have hts := tmo_split a b q q.1
      rw [if_pos rfl] at hts
      have hl2 := htl q.1
      have hl3 := hle q.1 hq
      have hl4 := hct q.1 hq
      have hl5 := hp q hqm
      obtain ⟨C, hC⟩ : ∃ C, (f q.1).ct - (tmo mp q.1 - tmo (a ++ q :: b) q.1) = C := ⟨_, rfl⟩
      have hCb : C ≤ 1000000000 ∧ q.2 ≤ C := by omega
      have hCn : (f q.1).ct - (tmo mp q.1 - tmo (a ++ b) q.1) = C - q.2 := by omega
      have c2 : w1.cell? ⟨tb q.1, 2, none⟩ = some (.int .i64 (C : Nat)) := by rw [← hC]; exact cell_obj ho rfl
      have f2 : w1.frozen? ⟨tb q.1, 2, none⟩ = false := frozen_obj ho
      obtain ⟨hT2, hF2⟩ := hT1.cell1 hq 2 (.int .i64 ((C - q.2 : Nat) : Nat)) { ucf f mp (a ++ q :: b) q.1 with ct := C - q.2 } rfl rfl rfl rfl rfl
      have hue : upd (ucf f mp (a ++ q :: b)) q.1 { ucf f mp (a ++ q :: b) q.1 with ct := C - q.2 } = ucf f mp (a ++ b) := by
        funext y
        by_cases e : y = q.1
        · subst e
          rw [upd_same]
          unfold ucf
          simp only [hCn]
        · rw [upd_ne _ _ e]
          unfold ucf
          rw [tmo_split a b q y, if_neg (fun e2 => e e2.symm), Nat.add_zero]
      rw [hue] at hT2 hF2
      have hci : ((C - q.2 : Nat) : Int) = (C : Int) - (q.2 : Int) := by omega
      rw [hci] at hT2 hF2
      have hwr : IntKind.i64.wrap ((C : Int) - (q.2 : Int)) = (C : Int) - (q.2 : Int) := wrap_small (by omega) (by omega)
      have hmq : mb ≠ tb q.1 := fun e => H.out.tm hq hx (by rw [HMB.out, e])
      have hrq : w.heap.size ≠ tb q.1 := fun e => by have := (H.out.lt hq).1; omega
      have HR2 : Hid (RR (w1.setCell ⟨tb q.1, 2, none⟩ (.int .i64 ((C : Int) - (q.2 : Int)))) mb w.heap.size (mpV tb mp) (mpV tb (a ++ b))) := (show RR _ mb w.heap.size (mpV tb mp) (mpV tb (a ++ b)) from (by
        have : mpV tb (a ++ b) = mpV tb a ++ mpV tb b := by unfold mpV; simp
        rw [this]
        exact hR1.same (Below.heap_setCell _ _ _ _ hmq) (Below.heap_setCell _ _ _ _ hrq)))
      have HT2 : Hid (TG (w1.setCell ⟨tb q.1, 2, none⟩ (.int .i64 ((C : Int) - (q.2 : Int)))) B n tb (ucf f mp (a ++ b))) := hT2
      have HF2 : Hid (Fr (PT n tb f) w (PT n tb (ucf f mp (a ++ b))) (w1.setCell ⟨tb q.1, 2, none⟩ (.int .i64 ((C : Int) - (q.2 : Int))))) := hF1.trans hF2
      have HS2 : Hid (∀ p ∈ a ++ b, p ∈ mp) := fun p hp => hsub p (by simp at hp ⊢; rcases hp with h1 | h1; exact .inl h1; exact .inr (.inr h1))
      have HL2 : Hid (∀ y, tmo (a ++ b) y ≤ tmo mp y) := fun y => by have := htl y; rw [tmo_split a b q y] at this; omega
      have HRq : Hid (wr.rangeLeft mb w.heap.size = (mpV tb (a ++ q :: b)).length) := HRl
      clear hT1 hF1 ho hts hl2 hl3 hl4 hl5 hC hCn hT2 hF2 hue hci hR hR1 hg1 HT HF hsub htl HRl hl e2 hle hct hp hqm hR0 hB0 hM
      go_wp2
      go_roundw
      case rel => exact ⟨a ++ b, HR2.out, HT2.out, HF2.out, HS2.out, HL2.out⟩
      case measure => rw [HR2.out.left_eq, HRq.out]; unfold mpV; simp
end Go.Proofs.Ytjnalkeopehlbaa
