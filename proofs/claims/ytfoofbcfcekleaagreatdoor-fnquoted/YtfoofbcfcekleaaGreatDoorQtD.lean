import Derived.Test.YtfoofbcfcekleaaGreatDoorQtC
namespace Go.Proofs.YtfoofbcfcekleaaGreatDoor
open Go.RowKit Go.Lib
set_option linter.unusedVariables false
set_option linter.unusedSimpArgs false

theorem wpList_append_one {α : Type} {S : Sh α} {T : TypeId} {zv : Value} {by' : Nat} (hinfo : (Tryz.prog.info? T).map (fun i => (i.zero, i.size, i.bytes)) = some (some zv, S.n, by')) (hzc : zv.cells.size = S.n) (hby : by' ≤ 64)
    {w : World} {ops : Array Oper} {rest : List Oper} {o : Oper} {a : Act} {Q : Exit → Act → World → Prop} (hgd : o.guard = none) (s x : Operand) (t : TypeId)
    (ho : o.op = .call { callee := .builtin .append, args := #[s, x], argTypes := #[t, t] }) (ht : Tryz.prog.underlying t = some (.slice T)) (B : Nat) (v : Value) (xs : List α) (e : α) (he : S.ok e) (g c : Nat) (hs : a.eval s = v) (hx : a.eval x = .slice (some ⟨g, 0, none⟩) 1 c)
    (hown : OwnG S T w B v xs) (hc : ∀ j, j < S.n → w.cell? ⟨g, j, none⟩ = (S.cs e)[j]?) (hlen : xs.length + 1 ≤ 16777216) (hB : B ≤ w.heap.size)
    (h : ∀ a' c' w', OwnG S T w' B (.slice a' (xs ++ [e]).length c') (xs ++ [e]) → w.grownBy w' v.ownBlock → wpList Tryz.prog ops Q rest (a.put o.dst (.slice a' (xs ++ [e]).length c')) w') :
    wpList Tryz.prog ops Q (o :: rest) a w := by
  obtain ⟨i0, hi, hz0, hz1, hz2⟩ := info_parts hinfo
  refine wpList_append_own w hgd s x t ho B T i0 zv S.n by' ht hi hz0 hz1 hz2 hzc S.pos v _ _ hs hown.1 ⟨g, 0, none⟩ 1 c (S.cs e) hx (by rw [S.len]; omega) ?_ (fun u hu => S.one e u hu) (by unfold maxLen; omega) ?_ hB ?_
  · intro j u hj
    have hj' : j < S.n := by
      rcases Nat.lt_or_ge j S.n with h | h
      · exact h
      · rw [List.getElem?_eq_none (by rw [S.len]; exact h)] at hj; cases hj
    have e' : (⟨g, 0, none⟩ : Addr).add j = ⟨g, j, none⟩ := by unfold Addr.add; split <;> simp_all
    rw [e', hc j hj', hj]
  · have : (xs.length + 1) * by' ≤ (xs.length + 1) * 64 := Nat.mul_le_mul_left _ hby
    omega
  · intro v' w' h1 h2 _
    have hO : OwnG S T w' B v' (xs ++ [e]) := ⟨by simpa using h1, by simpa using hlen, fun y hy => by
      rcases List.mem_append.1 hy with h | h
      · exact hown.2.2 y h
      · simp at h; subst h; exact he⟩
    obtain ⟨a', c', rfl⟩ := hO.form
    exact h a' c' w' hO h2
structure Tk where
  kd : Int
  tx : ByteArray
  ln : Int
def Tk.cs (e : Tk) : List Value := [.int .i64 e.kd, .string e.tx, .int .i64 e.ln]
def shTk : Sh Tk := ⟨3, by decide, Tk.cs, fun _ => True, fun _ => rfl, fun a u hu => by simp [Tk.cs] at hu; rcases hu with rfl | rfl | rfl <;> rfl⟩
theorem Tryz.info33 : (Tryz.prog.info? 33).map (fun i => (i.zero, i.size, i.bytes)) = some (some (.agg #[.int .i64 0, .string ⟨#[]⟩, .int .i64 0]), 3, 32) := by kernel_rfl
theorem set_oth {arr : Array Value} {i j : Nat} {v u : Value} (h : arr[j]? = some u) (hne : i ≠ j) : (arr.setIfInBounds i v)[j]? = some u := by rw [Array.getElem?_setIfInBounds_ne hne]; exact h
theorem set_it {arr : Array Value} {i : Nat} {v : Value} (h : i < arr.size) : (arr.setIfInBounds i v)[i]? = some v := by simp [h]
theorem Sc.store1 {w : World} {sb at' : Nat} {src : ByteArray} {tv : Value} (h : Sc w sb src at' tv) (n : Nat) : Sc (w.setCell ⟨sb, 1, none⟩ (.int .i64 (n : Nat))) sb src n tv := by
  obtain ⟨arr, h1, h2, a0, a1, a2, a3, a4, a5, a6⟩ := h
  exact ⟨_, heap_setCell_same w sb 1 _ _ _ h1, by simp [h2], set_oth a0 (by decide), set_it (by omega), set_oth a2 (by decide), set_oth a3 (by decide), set_oth a4 (by decide), set_oth a5 (by decide), set_oth a6 (by decide)⟩
theorem Sc.store2 {w : World} {sb at' : Nat} {src : ByteArray} {tv : Value} (h : Sc w sb src at' tv) : Sc (w.setCell ⟨sb, 2, none⟩ (.int .i64 1)) sb src at' tv := by
  obtain ⟨arr, h1, h2, a0, a1, a2, a3, a4, a5, a6⟩ := h
  exact ⟨_, heap_setCell_same w sb 2 _ _ _ h1, by simp [h2], set_oth a0 (by decide), set_oth a1 (by decide), set_it (by omega), set_oth a3 (by decide), set_oth a4 (by decide), set_oth a5 (by decide), set_oth a6 (by decide)⟩
theorem Sc.store3 {w : World} {sb at' : Nat} {src : ByteArray} {tv : Value} (h : Sc w sb src at' tv) (v : Value) : Sc (w.setCell ⟨sb, 3, none⟩ v) sb src at' v := by
  obtain ⟨arr, h1, h2, a0, a1, a2, a3, a4, a5, a6⟩ := h
  exact ⟨_, heap_setCell_same w sb 3 _ _ _ h1, by simp [h2], set_oth a0 (by decide), set_oth a1 (by decide), set_oth a2 (by decide), set_it (by omega), set_oth a4 (by decide), set_oth a5 (by decide), set_oth a6 (by decide)⟩
/-- The tokens so far. -/
structure Ts (w : World) (B sb : Nat) (src : ByteArray) (at' n : Nat) (ta : Option Addr) (tc : Nat) (ts : List Tk) : Prop where
  sc : Sc w sb src at' (.slice ta n tc)
  row : OwnG shTk 33 w B (.slice ta n tc) ts
  lo : sb < B
  len : ts.length = n
  few : n ≤ 10
theorem Ts.keep {w w' : World} {B sb : Nat} {src : ByteArray} {at' n : Nat} {ta : Option Addr} {tc : Nat} {ts : List Tk} (h : Ts w B sb src at' n ta tc ts) (hb : Below w.heap.size w w') : Ts w' B sb src at' n ta tc ts := ⟨h.sc.keep hb, h.row.keep hb, h.lo, h.len, h.few⟩
/-- Below B nothing has changed but the scanner. -/
def Kb (B sb : Nat) (w w' : World) : Prop := ∀ p, p < B → p ≠ sb → w'.heap[p]? = w.heap[p]?
theorem Kb.trans {B sb : Nat} {a b c : World} (h : Kb B sb a b) (k : Kb B sb b c) : Kb B sb a c := fun p h1 h2 => (k p h1 h2).trans (h p h1 h2)
theorem Kb.low {B sb : Nat} {a b : World} (h : Below a.heap.size a b) (hB : B ≤ a.heap.size) : Kb B sb a b := fun p h1 _ => h.block p (Nat.lt_of_lt_of_le h1 hB)
set_option maxRecDepth 100000 in
theorem add_any (B sb at' n tc : Nat) (src : ByteArray) (ta : Option Addr) (ts : List Tk) (kd ln : Int) (w : World) (h : Ts w B sb src at' n ta tc ts) (hB : B ≤ w.heap.size) (hn : n ≤ 9) :
    Calls Tryz.prog 34 #[.pointer (some ⟨sb, 0, none⟩), .int .i64 kd, .int .i64 ln] w fun e w' => e = .returned (.tuple #[]) ∧ (∃ ta' tc', Ts w' B sb src at' (n + 1) ta' tc' (ts ++ [⟨kd, ⟨#[]⟩, ln⟩])) ∧ Below sb w w' ∧ Kb B sb w w' := by
  obtain ⟨c0, c1, c2, c3, c4, c5, c6, cf⟩ := h.sc.cells
  have HT : Hid (Ts w B sb src at' n ta tc ts) := h
  have al : Below w.heap.size w (w.alloc (.cells #[.int .i64 kd, .string ⟨#[]⟩, .int .i64 ln] 33)) := (Below.refl _ _).alloc (Nat.le_refl _) _
  have hA := h.keep al
  have HA : Hid (Ts (w.alloc (.cells #[.int .i64 kd, .string ⟨#[]⟩, .int .i64 ln] 33)) B sb src at' n ta tc ts) := hA
  have HCC : Hid (∀ j, j < shTk.n → (w.alloc (.cells #[.int .i64 kd, .string ⟨#[]⟩, .int .i64 ln] 33)).cell? ⟨w.heap.size, j, none⟩ = (shTk.cs ⟨kd, ⟨#[]⟩, ln⟩)[j]?) := fun j hj => by
    rw [World.cell?_alloc_at _ _ _ _ rfl]; simp [shTk, Tk.cs]
  have hsl := h.sc.lt
  have oR := hA.row
  have hlen : ts.length + 1 ≤ 16777216 := by have := h.len; omega
  have hBA : B ≤ (w.alloc (.cells #[.int .i64 kd, .string ⟨#[]⟩, .int .i64 ln] 33)).heap.size := by simp; omega
  have hlo := h.lo
  have HL := h.len
  have HLn : Hid (ts.length = n) := HL
  have HKE : Hid (∀ W, (w.alloc (.cells #[.int .i64 kd, .string ⟨#[]⟩, .int .i64 ln] 33)).grownBy W (Value.slice ta n tc).ownBlock → Sc W sb src at' (.slice ta n tc)) := fun W hg => hA.sc.same (hg.block sb hA.sc.lt (fun e => by have := (hA.row.lt sb e.symm).1; omega))
  clear h hA HL
  go_enter Tryz.func34, Tryz.ntmps34
  go_wp2_with (at_builtin; refine wpList_append_one (S := shTk) Tryz.info33 rfl (by omega) rfl _ _ 27 rfl Tryz.underlying27 B _ ts ⟨kd, ⟨#[]⟩, ln⟩ trivial w.heap.size 1 rfl rfl oR HCC.out hlen hBA ?_; intro a' c' W hO' hg'; obtain ⟨k0, k1, k2, k3, k4, k5, k6, kf⟩ := (HKE.out W hg').cells)
  go_end0
  rw [List.length_append] at hO'
  have hO2 : OwnG shTk 33 W B (.slice a' (n + 1) c') (ts ++ [⟨kd, ⟨#[]⟩, ln⟩]) := by rw [← HLn.out]; exact hO'
  rw [HLn.out]
  have gs := gb_set W sb 3 (.slice a' (n + 1) c')
  refine ⟨rfl, ⟨a', c', ⟨(HKE.out W hg').store3 _, hO2.but gs (.inr (fun e => by have := (hO2.lt sb e).1; omega)), hlo, by simp [HLn.out], by omega⟩⟩, ?_⟩
  have b1 : Below sb w (w.alloc (.cells #[.int .i64 kd, .string ⟨#[]⟩, .int .i64 ln] 33)) := al.mono (by omega)
  have b2 : Below sb w W := b1.trans (gb_to hg' (fun q hq => by have := (oR.lt q hq).1; omega) (by simp; omega))
  refine ⟨b2.setCell (Nat.le_refl _) _, fun p hp hne => ?_⟩
  rw [Below.heap_setCell _ _ _ _ (fun e => hne e), hg'.block p (by omega) (fun e => by have := (oR.lt p e.symm).1; omega)]
  exact al.block p (by omega)
set_option maxRecDepth 100000 in
theorem lastLine_any (B sb at' n tc : Nat) (src : ByteArray) (ta : Option Addr) (ts : List Tk) (t : Tk) (w : World) (h : Ts w B sb src at' (n + 1) ta tc (ts ++ [t])) :
    Calls Tryz.prog 35 #[.pointer (some ⟨sb, 0, none⟩)] w fun e w' => e = .returned (.int .i64 t.ln) ∧ Below w.heap.size w w' := by
  obtain ⟨c0, c1, c2, c3, c4, c5, c6, cf⟩ := h.sc.cells
  have hL := h.len
  have hf := h.few
  obtain ⟨g, hg⟩ : ∃ g, ta = some ⟨g, 0, none⟩ := by
    rcases h.row.shape with ⟨e1, e2⟩ | ⟨g, cp, e1, _, _, e2⟩
    · simp at e2
    · simp only [Value.slice.injEq] at e1
      exact ⟨g, e1.1⟩
  subst hg
  have hlt : n < (ts ++ [t]).length := by omega
  have cl := h.row.cell n hlt 2 (by decide)
  have hget : (ts ++ [t])[n] = t := by
    have : ts.length = n := by simp at hL; omega
    rw [List.getElem_append_right (by omega)]
    simp [this]
  rw [hget] at cl
  have cl2 : w.cell? ⟨g, n * 3 + 2, none⟩ = some (.int .i64 t.ln) := cl
  have hne : (((n : Int) + 1) == 0) = false := by rw [beq_eq_false_iff_ne]; omega
  have hw1 : IntKind.i64.wrap (n : Int) = (n : Int) := by simp [IntKind.wrap, IntKind.bits, IntKind.signed]; omega
  clear h cl hget hlt hL
  go_enter Tryz.func35, Tryz.ntmps35
  go_wp2
  go_region
  go_wp2
  go_ret
  exact ⟨rfl, (Below.refl _ _).drew⟩
/-- strings.IndexByte, Clone, StrValue by their contracts. -/
def IBc : Prop := ∀ (s : ByteArray) (b : Int) (W : World), Calls Tryz.prog 63 #[.string s, .int .u8 b] W fun e w' => e = .returned (.int .i64 (Lib.indexByte s.data.toList b.toNat.toUInt8)) ∧ w' = W
def CLc : Prop := ∀ (s : ByteArray) (W : World), s.size ≤ 20000 → Calls Tryz.prog 76 #[.string s] W fun e w' => e = .returned (.string s) ∧ Below W.heap.size W w'
theorem first_nonempty {s : ByteArray} (h : 0 < s.size) : s.toList.isEmpty = false := by
  rw [Lib.toList_data]
  cases h1 : s.data.toList with
  | nil =>
    have h2 : s.size = s.data.toList.length := by rw [Array.length_toList]; rfl
    rw [h2, h1] at h
    exact absurd h (by decide)
  | cons b t => rfl
set_option maxRecDepth 100000 in
theorem cutNo_any (src : ByteArray) (Q : Int) (w : World) (hQ : Qs src Q) (hIB : IBc) :
    Calls Tryz.prog 74 #[.string src, .string ⟨#[114, 102]⟩] w fun e w' => e = .returned (.tuple #[.string ⟨#[]⟩, .string src]) ∧ w' = w := by
  obtain ⟨h0, ⟨b, hb0, hb1⟩, hq, hnp, hsz⟩ := hQ
  have hemp := first_nonempty h0
  have hI := fun W => hIB ⟨#[114, 102]⟩ Q W
  have hi : Lib.indexByte (⟨#[114, 102]⟩ : ByteArray).data.toList Q.toNat.toUInt8 = -1 := by rcases hq with rfl | rfl <;> decide
  rw [hi] at hI
  clear hnp hi hq
  go_enter Tryz.func74, Tryz.ntmps74
  go_wp2_with (go_at_call 63; refine (hI _).mono ?_; rintro e w' ⟨rfl, rfl⟩)
  go_ret2
  exact ⟨rfl, rfl⟩
set_option maxRecDepth 100000 in
theorem cutQu_any (src : ByteArray) (Q : Int) (w : World) (hQ : Qs src Q) (hIB : IBc) :
    Calls Tryz.prog 74 #[.string src, .string ⟨#[39, 34]⟩] w fun e w' => e = .returned (.tuple #[.string (src.extract 0 1), .string (src.extract 1 src.size)]) ∧ Below w.heap.size w w' := by
  obtain ⟨h0, ⟨b, hb0, hb1⟩, hq, hnp, hsz⟩ := hQ
  have hemp := first_nonempty h0
  have hI := fun W => hIB ⟨#[39, 34]⟩ Q W
  obtain ⟨I, hi, hi0⟩ : ∃ I, Lib.indexByte (⟨#[39, 34]⟩ : ByteArray).data.toList Q.toNat.toUInt8 = I ∧ ¬ I < 0 := by rcases hq with rfl | rfl <;> exact ⟨_, rfl, by decide⟩
  rw [hi] at hI
  have hs1 : (1 : Int) ≤ (src.size : Int) := by omega
  have hs2 : ¬ ((src.size : Int) < 1) := by omega
  clear hnp hi hq
  go_enter Tryz.func74, Tryz.ntmps74
  go_wp2_with (go_at_call 63; refine (hI _).mono ?_; rintro e w' ⟨rfl, rfl⟩)
  go_region
  go_wp2
  go_ret2
  exact ⟨rfl, (Below.refl _ _).drew⟩
set_option maxRecDepth 100000 in
theorem begins_any (src : ByteArray) (Q : Int) (w : World) (hQ : Qs src Q) (hIB : IBc) :
    Calls Tryz.prog 56 #[.string src] w fun e w' => e = .returned (.bool true) ∧ Below w.heap.size w w' := by
  have h1 := cutNo_any src Q w hQ hIB
  have h2 := cutQu_any src Q w hQ hIB
  have hne : (src.extract 0 1).toList.isEmpty = false := first_nonempty (by have := hQ.h0; simp [ByteArray.size_extract]; omega)
  obtain ⟨X, hX⟩ : ∃ X, src.extract 0 1 = X := ⟨_, rfl⟩
  rw [hX] at h2 hne
  clear hQ hX
  go_enter Tryz.func56, Tryz.ntmps56
  go_wp2_with fail
  refine h1.mono ?_
  rintro e w ⟨rfl, rfl⟩
  go_wp2_with fail
  refine h2.mono ?_
  rintro e w' ⟨rfl, b2⟩
  go_wp2
  go_ret
  exact ⟨rfl, b2⟩
end Go.Proofs.YtfoofbcfcekleaaGreatDoor
