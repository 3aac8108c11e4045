import Derived.Test.YtfoofbcfcekleaaGreatDoorQtE
import Derived.Deep.RegionWith
import Derived.Deep.Cut
import Derived.Deep.RegionHeldLaw
import Derived.Deep.AppendLies
namespace Go.Proofs.YtfoofbcfcekleaaGreatDoor
open Go.RowKit Go.Lib
set_option linter.unusedVariables false
set_option linter.unusedSimpArgs false

def CNc : Prop := ∀ (s : ByteArray) (W : World), (10 : UInt8) ∉ s.data.toList → Calls Tryz.prog 47 #[.string s, .string ⟨#[10]⟩] W fun e w' => e = .returned (.int .i64 0) ∧ w' = W
theorem box3_set {W : World} {b : Nat} {x y z : Value} {t : TypeId} (h : W.heap[b]? = some (.cells #[x, y, z] t (0, 0))) (u v q : Value) : (((W.setCell ⟨b, 0, none⟩ u).setCell ⟨b, 1, none⟩ v).setCell ⟨b, 2, none⟩ q).heap[b]? = some (.cells #[u, v, q] t (0, 0)) := by
  rw [heap_setCell_same _ b 2 _ _ _ (heap_setCell_same _ b 1 _ _ _ (heap_setCell_same W b 0 _ _ _ h))]
  rfl
theorem step_append_oneL {α : Type} {S : Sh α} {T : TypeId} {zv : Value} {by' : Nat} (hinfo : (Tryz.prog.info? T).map (fun i => (i.zero, i.size, i.bytes)) = some (some zv, S.n, by')) (hzc : zv.cells.size = S.n) (hby : by' ≤ 128)
    {w : World} {ops : Array Oper} {o : Oper} {a : Act} {K : Act → World → Prop} {Q : Exit → Act → World → Prop} {E : Prop} (hgd : o.guard = none) (s x : Operand) (t : TypeId)
    (ho : o.op = .call { callee := .builtin .append, args := #[s, x], argTypes := #[t, t] }) (ht : Tryz.prog.underlying t = some (.slice T)) (B : Nat) (v : Value) (xs : List α) (e : α) (he : S.ok e) (g c : Nat) (hs : a.eval s = v) (hx : a.eval x = .slice (some ⟨g, 0, none⟩) 1 c)
    (hown : OwnG S T w B v xs) (hc : ∀ j, j < S.n → w.cell? ⟨g, j, none⟩ = (S.cs e)[j]?) (hlen : xs.length + 1 ≤ 16777216) (hB : B ≤ w.heap.size)
    (h : ∀ b c' w', OwnG S T w' B (.slice (some ⟨b, 0, none⟩) (xs.length + 1) c') (xs ++ [e]) → w.grownBy w' v.ownBlock → (v.ownBlock = some b ∨ b = w.heap.size) → b < w'.heap.size → K (a.put o.dst (.slice (some ⟨b, 0, none⟩) (xs.length + 1) c')) w') :
    if Region.wanted o (yielded ops a.tmps) = true then Oper.wp Tryz.prog o a w K Q else E := by
  obtain ⟨i0, hi, hz0, hz1, hz2⟩ := info_parts hinfo
  refine step_append_lies w hgd s x t ho B T i0 zv S.n by' ht hi hz0 hz1 hz2 hzc S.pos v _ _ hs hown.1 ⟨g, 0, none⟩ 1 c (S.cs e) hx (by rw [S.len]; omega) ?_ (fun u hu => S.one e u hu) (by omega) (by unfold maxLen; omega) ?_ hB _ rfl ?_
  · intro j u hj
    have hj' : j < S.n := by
      rcases Nat.lt_or_ge j S.n with h | h
      · exact h
      · rw [List.getElem?_eq_none (by rw [S.len]; exact h)] at hj; cases hj
    have e' : (⟨g, 0, none⟩ : Addr).add j = ⟨g, j, none⟩ := by unfold Addr.add; split <;> simp_all
    rw [e', hc j hj', hj]
  · have : (xs.length + 1) * by' ≤ (xs.length + 1) * 128 := Nat.mul_le_mul_left _ hby
    omega
  · intro b c' w' h1 h2 h3 h4
    exact h b c' w' ⟨by simpa using h1, by simpa using hlen, fun y hy => by
      rcases List.mem_append.1 hy with h | h
      · exact hown.2.2 y h
      · simp at h; subst h; exact he⟩ h2 h3 h4
set_option maxHeartbeats 4000000 in
set_option maxRecDepth 100000 in
theorem token_any (B sb : Nat) (src T : ByteArray) (Q : Int) (LN : Nat) (w : World) (h : Ts w B sb src 0 0 none 0 []) (hB : B ≤ w.heap.size) (hQ : Qs src Q) (hsz : src.size = LN + 2) (hno : (10 : UInt8) ∉ src.data.toList) (hCN : CNc)
    (hRT : ∀ W, Below w.heap.size w W → Calls Tryz.prog 45 #[.string src] W fun e w' => e = .returned (.tuple #[.agg #[.int .i64 5, .string T, .int .i64 0], .int .i64 ((LN : Int) + 2), .int .i64 0]) ∧ Below W.heap.size W w') :
    Calls Tryz.prog 33 #[.pointer (some ⟨sb, 0, none⟩)] w fun e w' => e = .returned (.int .i64 0) ∧ (∃ ta' tc', Ts w' B sb src (LN + 2) 1 ta' tc' [⟨5, T, 1⟩]) ∧ Below sb w w' ∧ Kb B sb w w' := by
  obtain ⟨c0, c1, c2, c3, c4, c5, c6, cf⟩ := h.sc.cells
  have hE := ext_all src
  rw [hsz] at hE
  have HT : Hid (Ts w B sb src 0 0 none 0 []) := h
  have al : Below w.heap.size w (w.alloc (.cells #[.int .i64 0, .string ⟨#[]⟩, .int .i64 0] 33)).drew := ((Below.refl _ _).alloc (Nat.le_refl _) _).drew
  have hR1 := hRT w.drew (Below.refl _ _).drew
  have hR2 := hRT (w.alloc (.cells #[.int .i64 0, .string ⟨#[]⟩, .int .i64 0] 33)).drew al
  have hsl := h.sc.lt
  have hsz2 : LN + 2 ≤ 16384 := by rw [← hsz]; exact hQ.sz
  have hn0 : ¬ ((src.size : Int) < 0) := by omega
  have HBX : Hid (∀ W1, Below (w.alloc (.cells #[.int .i64 0, .string ⟨#[]⟩, .int .i64 0] 33)).drew.heap.size (w.alloc (.cells #[.int .i64 0, .string ⟨#[]⟩, .int .i64 0] 33)).drew W1 → W1.heap[w.heap.size]? = some (.cells #[.int .i64 0, .string ⟨#[]⟩, .int .i64 0] 33 (0, 0))) := fun W1 b1 => by
    rw [b1.block _ (by show w.heap.size < (w.alloc (.cells #[.int .i64 0, .string ⟨#[]⟩, .int .i64 0] 33)).heap.size; simp)]
    exact (MapKept.heap_alloc w _).1
  clear h hRT hQ
  go_enter Tryz.func33, Tryz.ntmps33
  go_wp2
  go_cut [3, 4, 5] from 6 (fun s3 s4 s5 wc => ∃ tb : Nat, s3 = .pointer (some ⟨tb, 0, none⟩) ∧ s4 = .int .i64 ((LN : Int) + 2) ∧ s5 = .int .i64 0 ∧ Below w.heap.size w wc ∧ w.heap.size ≤ tb ∧ wc.heap[tb]? = some (.cells #[.int .i64 5, .string T, .int .i64 0] 33 (0, 0)))
  case first =>
    go_region_with (go_at_call 45; first | (refine hR1.mono ?_; rintro e W1 ⟨rfl, b1⟩; have HB1 : Hid (Below w.heap.size w W1) := (Below.refl _ _).drew.trans b1; clear b1) | (refine hR2.mono ?_; rintro e W1 ⟨rfl, b1⟩; have hbx := HBX.out W1 b1; have x0 : W1.cell? ⟨w.heap.size, 0, none⟩ = some (.int .i64 0) := cell_obj hbx rfl; have x1 : W1.cell? ⟨w.heap.size, 1, none⟩ = some (.string ⟨#[]⟩) := cell_obj hbx rfl; have x2 : W1.cell? ⟨w.heap.size, 2, none⟩ = some (.int .i64 0) := cell_obj hbx rfl; have xf0 : W1.frozen? ⟨w.heap.size, 0, none⟩ = false := frozen_obj hbx; have xf1 : W1.frozen? ⟨w.heap.size, 1, none⟩ = false := frozen_obj hbx; have xf2 : W1.frozen? ⟨w.heap.size, 2, none⟩ = false := frozen_obj hbx; have HB1 : Hid (Below w.heap.size w W1) := al.trans (b1.mono al.size); have HBW : Hid (W1.heap[w.heap.size]? = some (.cells #[.int .i64 0, .string ⟨#[]⟩, .int .i64 0] 33 (0, 0))) := hbx; clear b1 hbx))
    all_goals go_wp2_with fail
    all_goals go_meet
    all_goals first
      | exact ⟨w.heap.size, rfl, rfl, rfl, ((HB1.out.setCell (Nat.le_refl _) _).setCell (Nat.le_refl _) _).setCell (Nat.le_refl _) _, Nat.le_refl _, box3_set HBW.out _ _ _⟩
      | exact ⟨W1.heap.size, rfl, rfl, rfl, HB1.out.alloc HB1.out.size _, HB1.out.size, (MapKept.heap_alloc W1 _).1⟩
  case rest =>
    obtain ⟨tb, rfl, rfl, rfl, bW, htb, hbx⟩ := hcut
    have hsc := HT.out.keep bW
    obtain ⟨c0, c1, c2, c3, c4, c5, c6, cf⟩ := hsc.sc.cells
    have x0 : wc.cell? ⟨tb, 0, none⟩ = some (.int .i64 5) := cell_obj hbx rfl
    have x1 : wc.cell? ⟨tb, 1, none⟩ = some (.string T) := cell_obj hbx rfl
    have x2 : wc.cell? ⟨tb, 2, none⟩ = some (.int .i64 0) := cell_obj hbx rfl
    have xf2 : wc.frozen? ⟨tb, 2, none⟩ = false := frozen_obj hbx
    obtain ⟨V, hV⟩ : ∃ V, V = wc.setCell ⟨tb, 2, none⟩ (.int .i64 1) := ⟨_, rfl⟩
    have bV : Below w.heap.size w V := by rw [hV]; exact bW.setCell htb _
    have hbv : V.heap[tb]? = some (.cells #[.int .i64 5, .string T, .int .i64 1] 33 (0, 0)) := by rw [hV, heap_setCell_same wc tb 2 _ _ _ hbx]; rfl
    have tV := HT.out.keep bV
    clear HBX hR1 hR2 al
    go_wp2_with fail
    rw [← hV]
    clear hV c0 c1 c2 c3 c4 c5 c6 cf x0 x1 x2 xf2 hsc hbx bW
    obtain ⟨c0, c1, c2, c3, c4, c5, c6, cf⟩ := tV.sc.cells
    have x0 : V.cell? ⟨tb, 0, none⟩ = some (.int .i64 5) := cell_obj hbv rfl
    have x1 : V.cell? ⟨tb, 1, none⟩ = some (.string T) := cell_obj hbv rfl
    have x2 : V.cell? ⟨tb, 2, none⟩ = some (.int .i64 1) := cell_obj hbv rfl
    have htl : tb < V.heap.size := by
      rcases Nat.lt_or_ge tb V.heap.size with k | k
      · exact k
      · rw [Array.getElem?_eq_none k] at hbv; cases hbv
    have alA : Below V.heap.size V (V.drew.alloc (.cells #[.int .i64 5, .string T, .int .i64 1] 33)) := (Below.refl _ _).drew.alloc (Nat.le_refl _) _
    have tA := tV.keep alA
    have oA := tA.row
    have HCC : Hid (∀ q, q < shTk.n → (V.drew.alloc (.cells #[.int .i64 5, .string T, .int .i64 1] 33)).cell? ⟨V.heap.size, q, none⟩ = (shTk.cs ⟨5, T, 1⟩)[q]?) := fun j hj => by
      show (V.drew.alloc (.cells #[.int .i64 5, .string T, .int .i64 1] 33)).cell? ⟨V.drew.heap.size, j, none⟩ = _
      rw [World.cell?_alloc_at _ _ _ _ rfl]; simp [shTk, Tk.cs]
    have hza : (V.drew.alloc (.cells #[.int .i64 5, .string T, .int .i64 1] 33)).heap.size = V.heap.size + 1 := by simp
    have hBV : B ≤ V.heap.size := Nat.le_trans hB bV.size
    have hBA : B ≤ (V.drew.alloc (.cells #[.int .i64 5, .string T, .int .i64 1] 33)).heap.size := by omega
    have hslV := tV.sc.lt
    have hlo := tV.lo
    have hlen : ([] : List Tk).length + 1 ≤ 16777216 := by simp
    have hne : sb ≠ tb := by omega
    have HKE : Hid (∀ w', (V.drew.alloc (.cells #[.int .i64 5, .string T, .int .i64 1] 33)).grownBy w' (Value.slice none 0 0).ownBlock → Below V.heap.size V w' ∧ w'.cell? ⟨sb, 3, none⟩ = some (.slice none 0 0) ∧ w'.frozen? ⟨sb, 3, none⟩ = false ∧ w'.cell? ⟨tb, 0, none⟩ = some (.int .i64 5) ∧ w'.cell? ⟨tb, 1, none⟩ = some (.string T) ∧ w'.cell? ⟨tb, 2, none⟩ = some (.int .i64 1) ∧ ∀ v, (w'.setCell ⟨sb, 3, none⟩ v).cell? ⟨tb, 0, none⟩ = some (.int .i64 5) ∧ (w'.setCell ⟨sb, 3, none⟩ v).cell? ⟨tb, 1, none⟩ = some (.string T) ∧ (w'.setCell ⟨sb, 3, none⟩ v).cell? ⟨tb, 2, none⟩ = some (.int .i64 1)) := fun w' hg => by
      have bb : Below V.heap.size V w' := alA.trans (gb_to hg (fun q hq => by cases hq) (by omega))
      have h3 := (tV.sc.keep bb).cells
      have e2 : w'.heap[tb]? = _ := (bb.block tb htl).trans hbv
      have e3 : ∀ v, (w'.setCell ⟨sb, 3, none⟩ v).heap[tb]? = _ := fun v => (Below.heap_setCell _ _ _ _ (fun e => hne e.symm)).trans e2
      exact ⟨bb, h3.2.2.2.1, h3.2.2.2.2.2.2.2 3, cell_obj e2 rfl, cell_obj e2 rfl, cell_obj e2 rfl, fun v => ⟨cell_obj (e3 v) rfl, cell_obj (e3 v) rfl, cell_obj (e3 v) rfl⟩⟩
    have HTV : Hid (Ts V B sb src 0 0 none 0 []) := tV
    have HBV : Hid (Below w.heap.size w V) := bV
    clear hbv bV alA tA tV c4 c5 c6
    refine wp_region_held_drew (S := (fun W => W.cell? ⟨tb, 0, none⟩ = some (.int .i64 5) ∧ W.cell? ⟨tb, 1, none⟩ = some (.string T) ∧ W.cell? ⟨tb, 2, none⟩ = some (.int .i64 1))) (by kernel_rfl) ?_ (fun hHeld => ?_)
    · (try dsimp only); go_keep
    refine' wpAnyH_take (i := 0) (oi := _) (v := _) ?hi0 (by kernel_rfl) (by kernel_rfl) (by kernel_rfl) ?hq0 (Or.inl ⟨?hg0, ?hy0⟩) (by assumption) ?rest0
    case hi0 => (rw [List.getElem?_toArray]; exact rfl)
    case hg0 => rfl
    case hy0 => (intro w hSw; (try dsimp only at hSw); go_simp; try with_reducible rfl)
    case hq0 => exact fun _ _ _ h => h
    try simp only [Act.put, List.setIfInBounds_toArray, List.set_cons_zero, List.set_cons_succ]
    refine' wpAnyH_take (i := 1) (oi := _) (v := _) ?hi1 (by kernel_rfl) (by kernel_rfl) (by kernel_rfl) ?hq1 (Or.inl ⟨?hg1, ?hy1⟩) (by assumption) ?rest1
    case hi1 => (rw [List.getElem?_toArray]; exact rfl)
    case hg1 => rfl
    case hy1 => (intro w hSw; (try dsimp only at hSw); go_simp; try with_reducible rfl)
    case hq1 => exact fun _ _ _ h => h
    try simp only [Act.put, List.setIfInBounds_toArray, List.set_cons_zero, List.set_cons_succ]
    refine' wpAnyH_take (i := 2) (oi := _) (v := _) ?hi2 (by kernel_rfl) (by kernel_rfl) (by kernel_rfl) ?hq2 (Or.inl ⟨?hg2, ?hy2⟩) (by assumption) ?rest2
    case hi2 => (rw [List.getElem?_toArray]; exact rfl)
    case hg2 => rfl
    case hy2 => (intro w hSw; (try dsimp only at hSw); go_simp; try with_reducible rfl)
    case hq2 => exact fun _ _ _ h => h
    try simp only [Act.put, List.setIfInBounds_toArray, List.set_cons_zero, List.set_cons_succ]
    refine' wpAnyH_take (i := 3) (oi := _) (v := _) ?hi3 (by kernel_rfl) (by kernel_rfl) (by kernel_rfl) ?hq3 (Or.inl ⟨?hg3, ?hy3⟩) (by assumption) ?rest3
    case hi3 => (rw [List.getElem?_toArray]; exact rfl)
    case hg3 => rfl
    case hy3 => (intro w hSw; (try dsimp only at hSw); go_simp; try with_reducible rfl)
    case hq3 => exact fun _ _ _ h => h
    try simp only [Act.put, List.setIfInBounds_toArray, List.set_cons_zero, List.set_cons_succ]
    refine' wpAnyH_take (i := 5) (oi := _) (v := _) ?hi5 (by kernel_rfl) (by kernel_rfl) (by kernel_rfl) ?hq5 (Or.inl ⟨?hg5, ?hy5⟩) (by assumption) ?rest5
    case hi5 => (rw [List.getElem?_toArray]; exact rfl)
    case hg5 => rfl
    case hy5 => (intro w hSw; (try dsimp only at hSw); obtain ⟨s0, s1, s2⟩ := hSw; go_simp; try with_reducible rfl)
    case hq5 => exact fun _ _ _ h => h
    try simp only [Act.put, List.setIfInBounds_toArray, List.set_cons_zero, List.set_cons_succ]
    refine wpAnyH_ready (rs := [4, 6]) (by kernel_rfl) (by simp) ?_
    refine AllReadyH.cons rfl (fun K hK => ?_) (AllReadyH.cons rfl (fun K hK => ?_) AllReadyH.nil)
    · (go_simp)
      refine hK.out _ _ ?_ (fun hHeld => ?_)
      · ((try dsimp only); go_keep)
      clear hK K
      refine wpAnyH_ready (rs := [6]) (by kernel_rfl) (by simp) ?_
      refine AllReadyH.cons rfl (fun K hK => ?_) AllReadyH.nil
      (go_simp)
      refine hK.out _ _ ?_ (fun hHeld => ?_)
      · ((try dsimp only); go_keep)
      clear hK K
      refine wpAnyH_ready (rs := [7]) (by kernel_rfl) (by simp) ?_
      refine AllReadyH.cons rfl (fun K hK => ?_) AllReadyH.nil
      (refine step_append_oneL (S := shTk) Tryz.info33 rfl (by omega) rfl (.tmp 40) (.tmp 42) 27 rfl Tryz.underlying27 B (.slice none 0 0) [] ⟨5, T, 1⟩ trivial V.heap.size 1 (by simp [Act.eval, Act.put]) (by simp [Act.eval, Act.put]) oA HCC.out hlen hBA ?_; intro b' c' w' oF4 hg4 hl4 hz4; obtain ⟨k0, k1, k2, k3, k4, k5, k6⟩ := HKE.out w' hg4; obtain ⟨k7, k8, k9⟩ := k6 (.slice (some ⟨b', 0, none⟩) (([] : List Tk).length + 1) c'))
      refine hK.out _ _ ?_ (fun hHeld => ?_)
      · ((try dsimp only); go_keep)
      clear hK K
      refine wpAnyH_ready (rs := [8]) (by kernel_rfl) (by simp) ?_
      refine AllReadyH.cons rfl (fun K hK => ?_) AllReadyH.nil
      (go_simp)
      refine hK.out _ _ ?_ (fun hHeld => ?_)
      · ((try dsimp only); go_keep)
      clear hK K
      refine wpAnyH_ready (rs := [9]) (by kernel_rfl) (by simp) ?_
      refine AllReadyH.cons rfl (fun K hK => ?_) AllReadyH.nil
      (go_simp)
      refine hK.out _ _ ?_ (fun hHeld => ?_)
      · ((try dsimp only); go_keep)
      clear hK K
      refine wpAnyH_ready (rs := [10]) (by kernel_rfl) (by simp) ?_
      refine AllReadyH.cons rfl (fun K hK => ?_) AllReadyH.nil
      (go_simp)
      refine hK.out _ _ ?_ (fun hHeld => ?_)
      · ((try dsimp only); go_keep)
      clear hK K
      refine wpAnyH_done (by kernel_rfl) ?_ _
      have sc1 : Sc w' sb src 0 (.slice none 0 0) := HTV.out.sc.keep k0
      have oF5 : OwnG shTk 33 w' B (.slice (some ⟨b', 0, none⟩) 1 c') [⟨5, T, 1⟩] := oF4
      have tX : Ts (w'.setCell ⟨sb, 3, none⟩ (.slice (some ⟨b', 0, none⟩) 1 c')) B sb src 0 1 (some ⟨b', 0, none⟩) c' [⟨5, T, 1⟩] := ⟨sc1.store3 _, oF5.but (gb_set w' sb 3 _) (.inr (fun e => by have := (oF5.lt sb e).1; omega)), hlo, rfl, by omega⟩
      have bX : Below sb w (w'.setCell ⟨sb, 3, none⟩ (.slice (some ⟨b', 0, none⟩) 1 c')) := ((HBV.out.mono (Nat.le_of_lt hsl)).trans (k0.mono (Nat.le_of_lt hslV))).setCell (Nat.le_refl _) _
      have kX : Kb B sb w (w'.setCell ⟨sb, 3, none⟩ (.slice (some ⟨b', 0, none⟩) 1 c')) := fun p hp hn => by
        rw [Below.heap_setCell _ _ _ _ (fun e => hn e), k0.block p (by omega)]
        exact HBV.out.block p (by omega)
      clear sc1 oF4 oF5 k0 k1 k2 k3 k4 k5 k6 k7 k8 k9 c0 c1 c2 c3 cf x0 x1 x2 HKE HCC oA hg4 hl4 hz4 hHeld
      try simp only [List.length_nil, Nat.zero_add]
      generalize (w'.setCell ⟨sb, 3, none⟩ (.slice (some ⟨b', 0, none⟩) 1 c')) = X at tX bX kX ⊢
      obtain ⟨c0, c1, c2, c3, c4, c5, c6, cf⟩ := tX.sc.cells
      have cf1 := cf 1
      have cf2 := cf 2
      have hC := fun W => hCN src W hno
      have hwr : IntKind.i64.wrap ((LN : Int) + 2) = (LN : Int) + 2 := by simp [IntKind.wrap, IntKind.bits, IntKind.signed]; omega
      have hn1 : ¬ ((LN : Int) + 2 < 0) := by omega
      have hn2 : (0 : Int) ≤ (LN : Int) + 2 := by omega
      have hn3 : ((LN : Int) + 2).toNat = LN + 2 := by omega
      clear cf
      go_wp2_with fail
      have c1' : X.cell? ⟨sb, 1, none⟩ = some (.int .i64 0) := c1
      obtain ⟨d0, d1, d2, _⟩ := tX.sc.store2.cells
      have hw1 : IntKind.i64.wrap 1 = 1 := by decide
      rw [← hw1] at d0 d1
      have d2' : (X.setCell ⟨sb, 2, none⟩ (.int .i64 (IntKind.i64.wrap 1))).cell? ⟨sb, 2, none⟩ = some (.int .i64 1) := by rw [hw1]; exact d2
      have DD : Hid ((X.setCell ⟨sb, 2, none⟩ (.int .i64 (IntKind.i64.wrap 1))).cell? ⟨sb, 0, none⟩ = some (.string src) ∧ (X.setCell ⟨sb, 2, none⟩ (.int .i64 (IntKind.i64.wrap 1))).cell? ⟨sb, 1, none⟩ = some (.int .i64 0) ∧ (X.setCell ⟨sb, 2, none⟩ (.int .i64 (IntKind.i64.wrap 1))).cell? ⟨sb, 2, none⟩ = some (.int .i64 1)) := ⟨d0, d1, d2'⟩
      clear c1 d0 d1 d2 d2' hw1
      go_region_held3 (fun W => W.cell? ⟨sb, 0, none⟩ = some (.string src) ∧ W.cell? ⟨sb, 1, none⟩ = some (.int .i64 0) ∧ W.cell? ⟨sb, 2, none⟩ = some (.int .i64 1)) (first | exact DD.out | go_keep) (first | (go_at_call 47; refine (hC _).mono ?_; rintro e W1 ⟨rfl, rfl⟩))
      go_wp2_with fail
      go_ret
      have hcast : (Value.int .i64 ((LN : Int) + 2)) = Value.int .i64 ((LN + 2 : Nat) : Int) := by simp
      have tE : Ts ((X.setCell ⟨sb, 2, none⟩ (.int .i64 1)).setCell ⟨sb, 1, none⟩ (.int .i64 ((LN : Int) + 2))) B sb src (LN + 2) 1 (some ⟨b', 0, none⟩) c' [⟨5, T, 1⟩] := by
        rw [hcast]
        exact ⟨(tX.sc.store2).store1 (LN + 2), (tX.row.but (gb_set X sb 2 _) (.inr (fun e => by have := (tX.row.lt sb e).1; omega))).but (gb_set _ sb 1 _) (.inr (fun e => by have := (tX.row.lt sb e).1; omega)), hlo, rfl, by omega⟩
      have bE : Below sb w ((X.setCell ⟨sb, 2, none⟩ (.int .i64 1)).setCell ⟨sb, 1, none⟩ (.int .i64 ((LN : Int) + 2))) := (bX.setCell (Nat.le_refl _) _).setCell (Nat.le_refl _) _
      have kE : Kb B sb w ((X.setCell ⟨sb, 2, none⟩ (.int .i64 1)).setCell ⟨sb, 1, none⟩ (.int .i64 ((LN : Int) + 2))) := fun p hp hn => by
        rw [Below.heap_setCell _ _ _ _ (fun e => hn e), Below.heap_setCell _ _ _ _ (fun e => hn e)]
        exact kX p hp hn
      exact ⟨rfl, ⟨_, _, tE.keep (Below.refl _ _).drew⟩, bE.drew, fun p hp hn => kE p hp hn⟩
    · (go_simp)
      refine hK.out _ _ ?_ (fun hHeld => ?_)
      · ((try dsimp only); go_keep)
      clear hK K
      refine wpAnyH_ready (rs := [4]) (by kernel_rfl) (by simp) ?_
      refine AllReadyH.cons rfl (fun K hK => ?_) AllReadyH.nil
      (go_simp)
      refine hK.out _ _ ?_ (fun hHeld => ?_)
      · ((try dsimp only); go_keep)
      clear hK K
      refine wpAnyH_ready (rs := [7]) (by kernel_rfl) (by simp) ?_
      refine AllReadyH.cons rfl (fun K hK => ?_) AllReadyH.nil
      (refine step_append_oneL (S := shTk) Tryz.info33 rfl (by omega) rfl (.tmp 40) (.tmp 42) 27 rfl Tryz.underlying27 B (.slice none 0 0) [] ⟨5, T, 1⟩ trivial V.heap.size 1 (by simp [Act.eval, Act.put]) (by simp [Act.eval, Act.put]) oA HCC.out hlen hBA ?_; intro b' c' w' oF4 hg4 hl4 hz4; obtain ⟨k0, k1, k2, k3, k4, k5, k6⟩ := HKE.out w' hg4; obtain ⟨k7, k8, k9⟩ := k6 (.slice (some ⟨b', 0, none⟩) (([] : List Tk).length + 1) c'))
      refine hK.out _ _ ?_ (fun hHeld => ?_)
      · ((try dsimp only); go_keep)
      clear hK K
      refine wpAnyH_ready (rs := [8]) (by kernel_rfl) (by simp) ?_
      refine AllReadyH.cons rfl (fun K hK => ?_) AllReadyH.nil
      (go_simp)
      refine hK.out _ _ ?_ (fun hHeld => ?_)
      · ((try dsimp only); go_keep)
      clear hK K
      refine wpAnyH_ready (rs := [9]) (by kernel_rfl) (by simp) ?_
      refine AllReadyH.cons rfl (fun K hK => ?_) AllReadyH.nil
      (go_simp)
      refine hK.out _ _ ?_ (fun hHeld => ?_)
      · ((try dsimp only); go_keep)
      clear hK K
      refine wpAnyH_ready (rs := [10]) (by kernel_rfl) (by simp) ?_
      refine AllReadyH.cons rfl (fun K hK => ?_) AllReadyH.nil
      (go_simp)
      refine hK.out _ _ ?_ (fun hHeld => ?_)
      · ((try dsimp only); go_keep)
      clear hK K
      refine wpAnyH_done (by kernel_rfl) ?_ _
      have sc1 : Sc w' sb src 0 (.slice none 0 0) := HTV.out.sc.keep k0
      have oF5 : OwnG shTk 33 w' B (.slice (some ⟨b', 0, none⟩) 1 c') [⟨5, T, 1⟩] := oF4
      have tX : Ts (w'.setCell ⟨sb, 3, none⟩ (.slice (some ⟨b', 0, none⟩) 1 c')) B sb src 0 1 (some ⟨b', 0, none⟩) c' [⟨5, T, 1⟩] := ⟨sc1.store3 _, oF5.but (gb_set w' sb 3 _) (.inr (fun e => by have := (oF5.lt sb e).1; omega)), hlo, rfl, by omega⟩
      have bX : Below sb w (w'.setCell ⟨sb, 3, none⟩ (.slice (some ⟨b', 0, none⟩) 1 c')) := ((HBV.out.mono (Nat.le_of_lt hsl)).trans (k0.mono (Nat.le_of_lt hslV))).setCell (Nat.le_refl _) _
      have kX : Kb B sb w (w'.setCell ⟨sb, 3, none⟩ (.slice (some ⟨b', 0, none⟩) 1 c')) := fun p hp hn => by
        rw [Below.heap_setCell _ _ _ _ (fun e => hn e), k0.block p (by omega)]
        exact HBV.out.block p (by omega)
      clear sc1 oF4 oF5 k0 k1 k2 k3 k4 k5 k6 k7 k8 k9 c0 c1 c2 c3 cf x0 x1 x2 HKE HCC oA hg4 hl4 hz4 hHeld
      try simp only [List.length_nil, Nat.zero_add]
      generalize (w'.setCell ⟨sb, 3, none⟩ (.slice (some ⟨b', 0, none⟩) 1 c')) = X at tX bX kX ⊢
      obtain ⟨c0, c1, c2, c3, c4, c5, c6, cf⟩ := tX.sc.cells
      have cf1 := cf 1
      have cf2 := cf 2
      have hC := fun W => hCN src W hno
      have hwr : IntKind.i64.wrap ((LN : Int) + 2) = (LN : Int) + 2 := by simp [IntKind.wrap, IntKind.bits, IntKind.signed]; omega
      have hn1 : ¬ ((LN : Int) + 2 < 0) := by omega
      have hn2 : (0 : Int) ≤ (LN : Int) + 2 := by omega
      have hn3 : ((LN : Int) + 2).toNat = LN + 2 := by omega
      clear cf
      go_wp2_with fail
      have c1' : X.cell? ⟨sb, 1, none⟩ = some (.int .i64 0) := c1
      obtain ⟨d0, d1, d2, _⟩ := tX.sc.store2.cells
      have hw1 : IntKind.i64.wrap 1 = 1 := by decide
      rw [← hw1] at d0 d1
      have d2' : (X.setCell ⟨sb, 2, none⟩ (.int .i64 (IntKind.i64.wrap 1))).cell? ⟨sb, 2, none⟩ = some (.int .i64 1) := by rw [hw1]; exact d2
      have DD : Hid ((X.setCell ⟨sb, 2, none⟩ (.int .i64 (IntKind.i64.wrap 1))).cell? ⟨sb, 0, none⟩ = some (.string src) ∧ (X.setCell ⟨sb, 2, none⟩ (.int .i64 (IntKind.i64.wrap 1))).cell? ⟨sb, 1, none⟩ = some (.int .i64 0) ∧ (X.setCell ⟨sb, 2, none⟩ (.int .i64 (IntKind.i64.wrap 1))).cell? ⟨sb, 2, none⟩ = some (.int .i64 1)) := ⟨d0, d1, d2'⟩
      clear c1 d0 d1 d2 d2' hw1
      go_region_held3 (fun W => W.cell? ⟨sb, 0, none⟩ = some (.string src) ∧ W.cell? ⟨sb, 1, none⟩ = some (.int .i64 0) ∧ W.cell? ⟨sb, 2, none⟩ = some (.int .i64 1)) (first | exact DD.out | go_keep) (first | (go_at_call 47; refine (hC _).mono ?_; rintro e W1 ⟨rfl, rfl⟩))
      go_wp2_with fail
      go_ret
      have hcast : (Value.int .i64 ((LN : Int) + 2)) = Value.int .i64 ((LN + 2 : Nat) : Int) := by simp
      have tE : Ts ((X.setCell ⟨sb, 2, none⟩ (.int .i64 1)).setCell ⟨sb, 1, none⟩ (.int .i64 ((LN : Int) + 2))) B sb src (LN + 2) 1 (some ⟨b', 0, none⟩) c' [⟨5, T, 1⟩] := by
        rw [hcast]
        exact ⟨(tX.sc.store2).store1 (LN + 2), (tX.row.but (gb_set X sb 2 _) (.inr (fun e => by have := (tX.row.lt sb e).1; omega))).but (gb_set _ sb 1 _) (.inr (fun e => by have := (tX.row.lt sb e).1; omega)), hlo, rfl, by omega⟩
      have bE : Below sb w ((X.setCell ⟨sb, 2, none⟩ (.int .i64 1)).setCell ⟨sb, 1, none⟩ (.int .i64 ((LN : Int) + 2))) := (bX.setCell (Nat.le_refl _) _).setCell (Nat.le_refl _) _
      have kE : Kb B sb w ((X.setCell ⟨sb, 2, none⟩ (.int .i64 1)).setCell ⟨sb, 1, none⟩ (.int .i64 ((LN : Int) + 2))) := fun p hp hn => by
        rw [Below.heap_setCell _ _ _ _ (fun e => hn e), Below.heap_setCell _ _ _ _ (fun e => hn e)]
        exact kX p hp hn
      exact ⟨rfl, ⟨_, _, tE.keep (Below.refl _ _).drew⟩, bE.drew, fun p hp hn => kE p hp hn⟩
end Go.Proofs.YtfoofbcfcekleaaGreatDoor
