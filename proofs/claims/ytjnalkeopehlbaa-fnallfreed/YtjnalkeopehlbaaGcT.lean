import Derived.Test.YtjnalkeopehlbaaGcS
namespace Go.Proofs.Ytjnalkeopehlbaa
open Go.RowKit Go.Maps
set_option linter.unusedVariables false
set_option linter.unusedSimpArgs false

theorem wpList_append_oneL {α : Type} {S : Sh α} {T : TypeId} {zv : Value} {by' : Nat} (hinfo : (Try.prog.info? T).map (fun i => (i.zero, i.size, i.bytes)) = some (some zv, S.n, by')) (hzc : zv.cells.size = S.n) (hby : by' ≤ 128)
    {w : World} {ops : Array Oper} {rest : List Oper} {o : Oper} {a : Act} {Q : Exit → Act → World → Prop} (hgd : o.guard = none) (s x : Operand) (t : TypeId)
    (ho : o.op = .call { callee := .builtin .append, args := #[s, x], argTypes := #[t, t] }) (ht : Try.prog.underlying t = some (.slice T)) (B : Nat) (v : Value) (xs : List α) (e : α) (he : S.ok e) (g c : Nat) (hs : a.eval s = v) (hx : a.eval x = .slice (some ⟨g, 0, none⟩) 1 c)
    (hown : OwnG S T w B v xs) (hc : ∀ j, j < S.n → w.cell? ⟨g, j, none⟩ = (S.cs e)[j]?) (hlen : xs.length + 1 ≤ 16777216) (hB : B ≤ w.heap.size)
    (h : ∀ b c' w', OwnG S T w' B (.slice (some ⟨b, 0, none⟩) (xs.length + 1) c') (xs ++ [e]) → w.grownBy w' v.ownBlock → (v.ownBlock = some b ∨ b = w.heap.size) → b < w'.heap.size → wpList Try.prog ops Q rest (a.put o.dst (.slice (some ⟨b, 0, none⟩) (xs.length + 1) c')) w') :
    wpList Try.prog ops Q (o :: rest) a w := by
  obtain ⟨i0, hi, hz0, hz1, hz2⟩ := info_parts hinfo
  refine wpList_append_lies w hgd s x t ho B T i0 zv S.n by' ht hi hz0 hz1 hz2 hzc S.pos v _ _ hs hown.1 ⟨g, 0, none⟩ 1 c (S.cs e) hx (by rw [S.len]; omega) ?_ (fun u hu => S.one e u hu) (by omega) (by unfold maxLen; omega) ?_ hB _ rfl ?_
  · intro j u hj
    have hj' : j < S.n := by
      rcases Nat.lt_or_ge j S.n with h | h
      · exact h
      · rw [List.getElem?_eq_none (by rw [S.len]; exact h)] at hj; cases hj
    have e' : (⟨g, 0, none⟩ : Addr).add j = ⟨g, j, none⟩ := by unfold Addr.add; split <;> simp_all
    rw [e', hc j hj', hj]
  · have : (xs.length + 1) * by' ≤ (xs.length + 1) * 128 := Nat.mul_le_mul_left _ hby
    omega
  · intro b c' w' h1 h2 h3 h4
    exact h b c' w' ⟨by simpa using h1, by simpa using hlen, fun y hy => by
      rcases List.mem_append.1 hy with h | h
      · exact hown.2.2 y h
      · simp at h; subst h; exact he⟩ h2 h3 h4
theorem evL_app (l : List (Nat × Nat)) (k x : Nat) : evL (l ++ [(k, x)]) = evL l ++ [⟨(k : Nat), (x : Nat)⟩] := by unfold evL; simp
theorem evL_len (l : List (Nat × Nat)) : (evL l).length = l.length := by unfold evL; simp
set_option maxRecDepth 100000 in
set_option maxHeartbeats 1000000 in
theorem tell_any (B sb kd x : Nat) (ov ew : Value) (S : Gs) (hs ts : Nat → Sl) (w : World) (h : SS w B sb ov ew S hs ts) (hl : S.ev.length ≤ 100000) (hk : kd ≤ 3) (hx : x ≤ 100000) :
    Calls Try.prog 55 #[.pointer (some ⟨sb, 0, none⟩), .int .i64 (kd : Nat), .int .i64 (x : Nat)] w fun e w' => e = .returned (.tuple #[]) ∧ ∃ ew', SS w' B sb ov ew' { S with ev := S.ev ++ [(kd, x)] } hs ts ∧ Tr sb ov w ew w' ew' := by
  obtain ⟨c, b0, b1, b2, bf⟩ := h.boxc
  have al : Below w.heap.size w (w.alloc (.cells #[.int .i64 (kd : Nat), .int .i64 (x : Nat)] 49)) := (Below.refl _ _).alloc (Nat.le_refl _) _
  have hA := h.keep al
  have HA : Hid (SS (w.alloc (.cells #[.int .i64 (kd : Nat), .int .i64 (x : Nat)] 49)) B sb ov ew S hs ts) := hA
  have hlow := h.low
  have hlt := h.lt
  have oE := hA.ev
  have hcc : ∀ j, j < shGe.n → (w.alloc (.cells #[.int .i64 (kd : Nat), .int .i64 (x : Nat)] 49)).cell? ⟨w.heap.size, j, none⟩ = (shGe.cs ⟨(kd : Nat), (x : Nat)⟩)[j]? := fun j hj => by
    rw [World.cell?_alloc_at _ _ _ _ rfl]
    have : j = 0 ∨ j = 1 := by have : j < 2 := hj; omega
    rcases this with rfl | rfl <;> rfl
  have HCC : Hid (∀ j, j < shGe.n → (w.alloc (.cells #[.int .i64 (kd : Nat), .int .i64 (x : Nat)] 49)).cell? ⟨w.heap.size, j, none⟩ = (shGe.cs ⟨(kd : Nat), (x : Nat)⟩)[j]?) := hcc
  have hok : shGe.ok ⟨(kd : Nat), (x : Nat)⟩ := ⟨⟨by show _ ≤ (kd : Int); omega, by show (kd : Int) < _; omega⟩, ⟨by show _ ≤ (x : Int); omega, by show (x : Int) < _; omega⟩⟩
  have HOK : Hid (shGe.ok ⟨(kd : Nat), (x : Nat)⟩) := hok
  have hel := evL_len S.ev
  have HT : Hid (Tr sb ov w ew (w.alloc (.cells #[.int .i64 (kd : Nat), .int .i64 (x : Nat)] 49)) ew) := ⟨Kp.of_below al, fun b e => .inl e⟩
  clear hcc hA h hok
  go_enter Try.func55, Try.ntmps55
  go_wp2_with (at_builtin; refine wpList_append_oneL (S := shGe) Try.info49 rfl (by omega) rfl _ _ 34 rfl Try.underlying34 B ew (evL S.ev) ⟨(kd : Nat), (x : Nat)⟩ HOK.out w.heap.size 1 rfl rfl oE HCC.out (by rw [hel]; omega) (by have := al.size; omega) ?_; intro b' c' w' oF4 hg4 hl4 hz4; have c1 : w'.cell? ⟨sb, 1, none⟩ = some ew := (World.cell?_of_block (a := ⟨sb, 1, none⟩) (hg4.block sb (by have := al.size; omega) (fun e => HA.out.ev_sb e.symm))).trans (HA.out.boxc.choose_spec.2.1); have f1 : w'.frozen? ⟨sb, 1, none⟩ = false := (World.frozen?_of_block (a := ⟨sb, 1, none⟩) (hg4.block sb (by have := al.size; omega) (fun e => HA.out.ev_sb e.symm))).trans (HA.out.boxc.choose_spec.2.2.2 1))
  go_end0
  have hT := HA.out.told (S.ev ++ [(kd, x)]) hg4 (by rw [evL_app]; exact oF4) (fun b e => by
    have e2 : b' = b := Option.some.inj e
    rcases hl4 with h1 | h1
    · exact .inl (by rw [h1, e2])
    · exact .inr (by omega))
  rw [hel] at hT
  exact ⟨rfl, _, hT.1, HT.out.trans hT.2⟩
end Go.Proofs.Ytjnalkeopehlbaa
