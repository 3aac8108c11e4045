import Derived.Test.YtfbibbjiomfncaaMrG
namespace Go.Proofs.Ytfbibbjiomfncaa
open Go.RowKit Go.Maps
set_option linter.unusedVariables false
set_option linter.unusedSimpArgs false

theorem LLn.rl {w : World} {B g n cap : Nat} {Ls : List (List Int)} (h : LLn w B g n cap Ls) : RL w (.slice (some ⟨g, 0, none⟩) n cap) Ls := by
  obtain ⟨sls, h1, h2, h3⟩ := h
  exact ⟨sls, h1.rd, h2, fun k h h' => (h3 k h h').1⟩
theorem LLn.made {w : World} {B g cap : Nat} (h : w.ownsRow B 51 1 (.slice (some ⟨g, 0, none⟩) 0 cap) 0 []) : LLn w B g 0 cap [] :=
  ⟨[], ⟨h, by simp, by simp⟩, rfl, fun k h => by simp at h⟩

set_option maxRecDepth 100000 in
set_option maxHeartbeats 2000000 in
theorem lineI_any (i : Nat) (vb : Value) (bs : List Int) (vl : Value) (prev : List (List Int)) (w : World) (hrb : Rd w vb bs) (hRL : RL w vl prev) (hpl : prev.length = i) (hi : i ≤ 200) (hb : ∀ x ∈ bs, 0 ≤ x ∧ x < (i : Int)) (hbl : bs.length ≤ i) (hok : ∀ k (h : k < prev.length), OkLn k prev[k]) :
    Calls Try.prog 69 #[.int .i64 i, vb, vl] w fun e w' => ∃ u, e = .returned u ∧ Own w' w.heap.size u (lineC i bs prev) ∧ Below w.heap.size w w' := by
  obtain ⟨i0, hi0, hz0, hz1, hz2⟩ := info_parts Try.info51
  obtain ⟨ba, bc, eb⟩ := hrb.form
  subst eb
  obtain ⟨la, lc, el⟩ : ∃ a c, vl = .slice a prev.length c := by obtain ⟨sls, ⟨a, c, e, _⟩, h2, _⟩ := hRL; exact ⟨a, c, by rw [e, h2]⟩
  subst el
  obtain ⟨BN, hBN⟩ : ∃ BN, bs.length = BN := ⟨_, rfl⟩
  have HBN : Hid (bs.length = BN) := hBN
  have HPL : Hid (prev.length = i) := hpl
  rw [hBN] at hbl hrb ⊢
  rw [hpl] at hRL ⊢
  clear hBN hpl
  have hw1 : IntKind.i64.wrap ((BN : Int) + 1) = (BN : Int) + 1 := by rw [IntKind.wrap_i64]; omega
  go_enter Try.func69, Try.ntmps69
  go_wp2_with (at_make; refine wpList_make_own _ rfl _ _ 29 rfl w.heap.size 51 i0 _ 1 Try.underlying29 hi0 hz0 hz1 .i64 .i64 _ (BN + 1) rfl rfl (by push_cast; go_num) (by rw [hz2]; omega) (by unfold maxLen; omega) (by simp) ?_; intro w1 hown hgrow; have hB1 := (Below.refl w.heap.size w).grown hgrow (Nat.le_refl _) (by intro k h; cases h))
  have hL1 : LLn w1 w.heap.size w.heap.size 0 (BN + 1) [] := LLn.made hown
  clear hown hgrow hw1
  go_loopw [7, 18] (fun lv ix wr => ∃ (j g c : Nat), j ≤ BN ∧ ix = .int .i64 j ∧ lv = .slice (some ⟨g, 0, none⟩) j c ∧ LLn wr w.heap.size g j c (baseL prev (bs.take j)) ∧ Hid (NoE (baseL prev (bs.take j))) ∧ Below w.heap.size w wr) (fun _ ix _ => BN - (intOf ix).toNat)
  case atStart => exact ⟨0, _, _, Nat.zero_le _, rfl, rfl, by simpa [baseL] using hL1, (by intro l hl; simp [baseL] at hl), hB1⟩
  case round =>
    obtain ⟨j, g, c, hj, rfl, rfl, hL, HE, hB⟩ := hrel
    clear hL1 hB1
    generalize wr = W1 at *
    have hgz := LL.size hL
    have hz1' := hB.size
    by_cases hjl : j < BN
    · have hji : (j : Int) < (BN : Int) := by omega
      have hjb : j < bs.length := by rw [HBN.out]; exact hjl
      obtain ⟨hb0, hb1⟩ := hb bs[j] (List.getElem_mem hjb)
      have hbt := base_take prev bs j hjb
      obtain ⟨a', c', e, _, _, _, hcK⟩ := hrb.keep hB
      simp only [Value.slice.injEq] at e
      obtain ⟨e1, -, e3⟩ := e
      subst e1 e3
      obtain ⟨sb, so, rfl, hsb, hsc⟩ := hcK (by omega)
      have d1 := hsc j hjb
      have hgd : bs.getD j 0 = bs[j] := by simp [List.getD, hjb]
      rw [hgd] at d1
      obtain ⟨x, hx⟩ : ∃ x : Nat, bs[j] = (x : Int) := ⟨bs[j].toNat, by omega⟩
      have Hxm : Hid (bs[j] = (x : Int)) := hx
      rw [hx] at d1 hb0 hb1 hbt
      have hxk : x < prev.length := by rw [HPL.out]; omega
      have hpx : prev.getD x [] = prev[x] := by simp [List.getD, hxk]
      simp only [Int.toNat_natCast] at hbt
      rw [hpx] at hbt
      obtain ⟨lb, lo, xa, xc, rfl, hlb, d2, hrx⟩ := hRL.at x hxk
      have d2' := (hB.cell (p := ⟨lb, lo + x, none⟩) hlb).trans d2
      have hxl := (hok x hxk).len
      have hXN' : prev[x].length ≤ 201 := by omega
      have Hbt : Hid _ := hbt
      generalize hPX : prev[x] = PX at *
      have HPX : Hid (prev[x] = PX) := hPX
      obtain ⟨XN, hXN⟩ : ∃ XN, PX.length = XN := ⟨_, rfl⟩
      have HXN : Hid (PX.length = XN) := hXN
      rw [hXN] at d2' hrx hXN'
      clear hx hgd hpx hsc d2 hbt hXN hPX hxl
      by_cases hX0 : XN = 0
      · subst hX0
        have hnil : PX = [] := List.length_eq_zero_iff.mp HXN.out
        have hlin : lineC i bs prev = [] := by
          unfold lineC
          rw [if_neg]
          intro h
          apply h PX _ hnil
          unfold baseL
          exact List.mem_map.mpr ⟨bs[j], List.getElem_mem hjb, by rw [Hxm.out, Int.toNat_natCast, ← HPX.out]; simp [List.getD, hxk]⟩
        have Hlin : Hid _ := hlin
        clear hlin
        go_wp2
        go_ret
        exact ⟨_, rfl, by rw [Hlin.out]; exact (Own.empty W1).mono hz1', hB.alloc hz1' _⟩
      · have hX0' : ((XN : Int) == 0) = false := beq_len0 hX0
        have HE2 : Hid (NoE (baseL prev (bs.take (j + 1)))) := by
          rw [Hid, Hbt.out, noE_snoc]
          exact ⟨HE.out, fun h => hX0 (by rw [← HXN.out, h]; rfl)⟩
        have hXin : ∀ b off n c, (Value.slice xa XN xc) = .slice (some ⟨b, off, none⟩) n c → b < w.heap.size := fun b off n c e => by
          obtain ⟨a2, c2, e2, _, _, _, hc2⟩ := hrx
          obtain ⟨b2, off2, e3, hb2, _⟩ := hc2 (by rw [HXN.out]; omega)
          rw [e3] at e2
          rw [e] at e2
          simp only [Value.slice.injEq, Option.some.injEq, Addr.mk.injEq, and_true] at e2
          omega
        have hL3 := LLn.keep hL ((Below.refl _ W1).alloc (Nat.le_refl _) (.cells #[.slice xa XN xc] 51))
        have hX3 : RdX (fun b => b < (W1.alloc (.cells #[.slice xa XN xc] 51)).heap.size ∧ b ≠ g) (W1.alloc (.cells #[.slice xa XN xc] 51)) (.slice xa XN xc) PX := RdX.of ((hrx.keep hB).alloc _) (fun b off n c e => by have := hXin b off n c e; simp; omega)
        have hC3 : (W1.alloc (.cells #[.slice xa XN xc] 51)).cell? ⟨W1.heap.size, 0, none⟩ = some (.slice xa XN xc) := by rw [World.cell?_alloc_at _ _ _ _ rfl]; rfl
        go_wp2_with (at_builtin; refine wpList_append_LL rfl _ _ 29 rfl Try.underlying29 w.heap.size g j c _ rfl hL3 W1.heap.size 1 rfl xa XN xc PX hC3 hX3 (by omega) (by simp; omega) ?_; intro g4 c4 w4 hL4 hg4 hw4)
        have hB4 : Below w.heap.size w w4 := (hB.alloc hz1' _).trans (gb_to hg4 (fun j hj => (by cases hj; exact hgz.1)) (by simp; omega))
        rw [← Hbt.out] at hL4
        go_roundw
        case rel => exact ⟨j + 1, g4, c4, by omega, by go_num, rfl, hL4, HE2, hB4⟩
        case measure => simp [intOf]; omega
    · obtain rfl : BN = j := by omega
      have hji : ¬ (BN : Int) < (BN : Int) := by omega
      have htk : bs.take BN = bs := by rw [← HBN.out, List.take_length]
      rw [htk] at hL HE
      have hbm := base_mem HPL.out hok hb
      have hrb1 := hrb.keep hB
      have hXin : 0 < bs.length → ∀ b off n c, (Value.slice ba BN bc) = .slice (some ⟨b, off, none⟩) n c → b < w.heap.size := fun h0 b off n c e => by
          obtain ⟨a2, c2, e2, _, _, _, hc2⟩ := hrb
          obtain ⟨b2, off2, e3, hb2, _⟩ := hc2 h0
          rw [e3] at e2
          rw [e] at e2
          simp only [Value.slice.injEq, Option.some.injEq, Addr.mk.injEq, and_true] at e2
          omega
      have hL3 := LLn.keep hL ((Below.refl _ W1).alloc (Nat.le_refl _) (.cells #[.slice ba BN bc] 51))
      have hX3 : RdX (fun b => b < (W1.alloc (.cells #[.slice ba BN bc] 51)).heap.size ∧ b ≠ g) (W1.alloc (.cells #[.slice ba BN bc] 51)) (.slice ba BN bc) bs := ⟨hrb1.alloc _, fun h0 b off n c e => by have := hXin h0 b off n c e; simp; omega⟩
      have hC3 : (W1.alloc (.cells #[.slice ba BN bc] 51)).cell? ⟨W1.heap.size, 0, none⟩ = some (.slice ba BN bc) := by rw [World.cell?_alloc_at _ _ _ _ rfl]; rfl
      go_wp2_with (at_builtin; refine wpList_append_LL rfl _ _ 29 rfl Try.underlying29 w.heap.size g BN c _ rfl hL3 W1.heap.size 1 rfl ba BN bc bs hC3 hX3 (by omega) (by simp; omega) ?_; intro g4 c4 w4 hL4 hg4 hw4)
      have hB4 : Below w.heap.size w w4 := (hB.alloc hz1' _).trans (gb_to hg4 (fun j hj => (by cases hj; exact hgz.1)) (by simp; omega))
      have hz4 := hB4.size
      have hll4 : ∀ l ∈ baseL prev bs ++ [bs], l.length ≤ 300 := fun l hl => by
        rcases List.mem_append.mp hl with h | h
        · have := (hbm l hl).2 h; omega
        · simp at h; subst h; have := HBN.out; omega
      have hLn : (baseL prev bs ++ [bs]).length = BN + 1 := by rw [List.length_append, base_len, HBN.out]; rfl
      refine (merged_any _ (baseL prev bs ++ [bs]) i _ (LLn.rl hL4) (by omega) (by omega) hll4 (fun l hl => (hbm l hl).1) (by omega)).mono ?_
      rintro e w5 ⟨ra, rm, rc, rfl, hmO, hB5⟩
      have hB5' := hB4.trans (hB5.mono hz4)
      have hz5 := hB5.size
      have hlC : ∀ m, merge (baseL prev bs ++ [bs]) = m → lineC i bs prev = (match m with | some m => (i : Int) :: m | none => []) := fun m hm => by unfold lineC; rw [if_pos HE.out, hm]; cases m <;> rfl
      have hT : Tk i [] (baseL prev bs ++ [bs]) := Tk.start (fun l hl => (hbm l hl).1)
      have hlx : ∀ xs, merge (baseL prev bs ++ [bs]) = some xs → xs.length ≤ i := fun xs hm => by
        obtain ⟨h1, h2⟩ := hT.ans (by rw [ans_nil]; exact hm)
        exact pigeon i xs h1 h2
      cases hm : merge (baseL prev bs ++ [bs]) with
      | none =>
        have Hlin : Hid _ := hlC none hm
        simp only [Option.isSome_none]
        clear hlC hm hlx hmO
        go_wp2
        go_ret
        exact ⟨_, rfl, by rw [Hlin.out]; exact (Own.empty w5).mono (by omega), hB5'.alloc (by omega) _⟩
      | some xs =>
        have Hlin : Hid _ := hlC (some xs) hm
        have hOx := hmO xs hm
        have hxl := hlx xs hm
        simp only [Option.isSome_some]
        clear hlC hm hlx hmO
        have hOx' := (hOx.mono hz4).alloc (.cells #[.int .i64 i] 2)
        have hvh : (w5.alloc (.cells #[.int .i64 i] 2)).heap[w5.heap.size]? = some (.cells #[.int .i64 i] 2 (0, 0)) := by show (w5.heap.push _)[w5.heap.size]? = _; simp
        go_wp2_with fail
        refine (insertI_any w.heap.size _ xs i w5.heap.size _ hOx' (by omega) (by omega) (fun e => by have := (hOx.lt _ e).2; omega) hvh (by simp; omega)).mono ?_
        rintro e w6 ⟨u, rfl, hO6, hB6⟩
        go_wp2
        go_ret
        exact ⟨_, rfl, by rw [Hlin.out]; exact hO6, (hB5'.alloc (by omega) _).trans hB6⟩
end Go.Proofs.Ytfbibbjiomfncaa
