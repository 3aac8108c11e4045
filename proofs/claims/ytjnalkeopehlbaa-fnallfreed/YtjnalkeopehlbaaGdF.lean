import Derived.Test.YtjnalkeopehlbaaGdE
namespace Go.Proofs.Ytjnalkeopehlbaa
open Go.RowKit Go.Maps
set_option linter.unusedVariables false
set_option linter.unusedSimpArgs false

theorem stepG_any (B sb K : Nat) (ov ew : Value) (S : Gs) (hs ts : Nat → Sl) (e : Gp) (w : World) (h : SS w B sb ov ew S hs ts) (hO : Ok K S) (hK : K ≤ 2400) (hBw : B ≤ w.heap.size) (he : e.ok) :
    Calls Try.prog 33 #[.pointer (some ⟨sb, 0, none⟩), .agg #[.int .i64 e.c, .int .i64 e.a, .int .i64 e.b]] w (StP B sb w ov ew S hs ts (gstep S e).1 (gstep S e).2) := by
  obtain ⟨c, a, b⟩ := e
  obtain ⟨hc, ha, hb⟩ := he
  simp only at hc ha hb
  unfold gstep
  simp only
  by_cases h1 : c = 1
  · subst h1
    rw [if_pos rfl]
    exact step_new B sb K ov ew S hs ts a b w h hO hK hBw
  rw [if_neg h1]
  by_cases h8 : c = 8
  · subst h8
    rw [if_pos rfl]
    exact step_collect B sb K ov ew S hs ts a b w h hO hK hBw
  rw [if_neg h8]
  by_cases h10 : c = 10
  · subst h10
    rw [if_pos rfl]
    exact step_alive B sb K ov ew S hs ts a b w h hO hK hBw
  rw [if_neg h10]
  by_cases hoa : okx S a = false
  · rw [if_pos hoa]
    exact step_bad B sb K ov ew S hs ts c a b w h hO hK hBw h1 h8 h10 hoa ha.1 ha.2
  rw [if_neg hoa]
  obtain ⟨a1, a2, a3⟩ := okx_iff hO.iv (by simpa using hoa)
  obtain ⟨X, rfl⟩ : ∃ X : Nat, a = (X : Int) + 1 := ⟨(a - 1).toNat, by omega⟩
  have hX : X < S.n := by omega
  have hXt : ((X : Int) + 1).toNat = X + 1 := by omega
  rw [hXt] at a3 ⊢
  by_cases h2 : c = 2
  · subst h2
    rw [if_pos rfl]
    by_cases hob : okx S b = false
    · rw [if_pos hob]
      exact step_hold0 B sb K ov ew S hs ts X b w h hO hK hBw hX a3 hob hb.1 hb.2
    · rw [if_neg hob]
      obtain ⟨b1, b2, b3⟩ := okx_iff hO.iv (by simpa using hob)
      obtain ⟨Y, rfl⟩ : ∃ Y : Nat, b = (Y : Int) + 1 := ⟨(b - 1).toNat, by omega⟩
      have hYt : ((Y : Int) + 1).toNat = Y + 1 := by omega
      rw [hYt] at b3 ⊢
      exact step_hold B sb K ov ew S hs ts X Y w h hO hK hBw hX a3 (by omega) b3
  rw [if_neg h2]
  by_cases h3 : c = 3
  · subst h3
    rw [if_pos rfl]
    by_cases hob : okx S b = false
    · rw [if_pos (.inl hob)]
      exact step_drop0 B sb K ov ew S hs ts X b w h hO hK hBw hX a3 hob hb.1 hb.2
    · obtain ⟨b1, b2, b3⟩ := okx_iff hO.iv (by simpa using hob)
      obtain ⟨Y, rfl⟩ : ∃ Y : Nat, b = (Y : Int) + 1 := ⟨(b - 1).toNat, by omega⟩
      have hYt : ((Y : Int) + 1).toNat = Y + 1 := by omega
      rw [hYt] at b3 ⊢
      by_cases hk : Y + 1 ∈ (S.hl (X + 1)).map (·.1)
      · rw [if_neg (by rintro (h5 | h5); exact hob h5; exact h5 hk)]
        exact step_drop B sb K ov ew S hs ts X Y w h hO hK hBw hX a3 (by omega) b3 hk
      · rw [if_pos (.inr hk)]
        exact step_drop1 B sb K ov ew S hs ts X Y w h hO hK hBw hX a3 (by omega) b3 hk
  rw [if_neg h3]
  by_cases h4 : c = 4
  · subst h4
    rw [if_pos rfl]
    exact step_root B sb K ov ew S hs ts X b w h hO hK hBw hX a3
  rw [if_neg h4]
  by_cases h5 : c = 5
  · subst h5
    rw [if_pos rfl]
    by_cases hr : S.rt (X + 1) = 0
    · rw [if_pos hr]
      exact step_unroot0 B sb K ov ew S hs ts X b w h hO hK hBw hX a3 hr
    · rw [if_neg hr]
      exact step_unroot B sb K ov ew S hs ts X b w h hO hK hBw hX a3 hr
  rw [if_neg h5]
  by_cases h6 : c = 6
  · subst h6
    rw [if_pos rfl]
    exact step_weak B sb K ov ew S hs ts X b w h hO hK hBw hX a3
  rw [if_neg h6]
  by_cases h7 : c = 7
  · subst h7
    rw [if_pos rfl]
    by_cases hf : b < 0 ∨ 2 < b
    · rw [if_pos hf]
      exact step_final0 B sb K ov ew S hs ts X b w h hO hK hBw hX a3 hf
    · rw [if_neg hf]
      obtain ⟨f, rfl⟩ : ∃ f : Nat, b = (f : Int) := ⟨b.toNat, by omega⟩
      rw [show ((f : Nat) : Int).toNat = f by omega]
      exact step_final B sb K ov ew S hs ts X f w h hO hK hBw hX a3 (by omega)
  rw [if_neg h7]
  by_cases h9 : c = 9
  · subst h9
    rw [if_pos rfl]
    exact step_count B sb K ov ew S hs ts X b w h hO hK hBw hX a3
  · rw [if_neg h9]
    exact step_other B sb K ov ew S hs ts c X b w h hO hK hBw hX a3 ⟨h1, h2, h3, h4, h5, h6, h7, h8, h9, h10⟩
/-- What an operation answers is small. -/
theorem gans_ok {K : Nat} {S : Gs} (hO : Ok K S) (hK : K ≤ 2400) (e : Gp) : -1 ≤ (gstep S e).2 ∧ (gstep S e).2 ≤ 1000000000 := by
  have hn := hO.iv.n
  have hc : ∀ {K' : Nat} {S' : Gs} (h : Iv K' S') (hk : K' ≤ 2500) (x : Nat), cnt S' x ≤ 100000000 := fun {K' S'} h hk x => by
    have h1 := h.cnt x
    have h2 : S'.n * K' ≤ 2500 * 2500 := Nat.mul_le_mul (by have := h.n; omega) hk
    omega
  have hl : ∀ {K' : Nat} {S' : Gs} (h : Iv K' S') (hk : K' ≤ 2500) (x : Nat), leftS S' x ≤ 100000000 := fun {K' S'} h hk x => by
    unfold leftS
    split
    · exact hc h hk x
    · exact Nat.zero_le _
  unfold gstep
  by_cases h1 : e.c = 1
  · rw [if_pos h1]; exact ⟨by show -1 ≤ ((S.n + 1 : Nat) : Int); omega, by show ((S.n + 1 : Nat) : Int) ≤ _; omega⟩
  rw [if_neg h1]
  by_cases h2 : e.c = 8
  · rw [if_pos h2]
    have h3 := lost_len (S1 S)
    have h4 := (S1_all hO.iv hO.ev).2.2.n
    have h5 : (deadL S).length ≤ S.n := by unfold deadL; omega
    exact ⟨by show -1 ≤ (((deadL S).length : Nat) : Int); omega, by show (((deadL S).length : Nat) : Int) ≤ _; omega⟩
  rw [if_neg h2]
  by_cases h3 : e.c = 10
  · rw [if_pos h3]
    have := alv_le S
    exact ⟨by show -1 ≤ ((alv S : Nat) : Int); omega, by show ((alv S : Nat) : Int) ≤ _; omega⟩
  rw [if_neg h3]
  have hm : (-1 : Int) ≤ -1 ∧ (-1 : Int) ≤ 1000000000 := by decide
  have hn1 : ∀ n : Nat, n ≤ 100000000 → (-1 : Int) ≤ (n : Int) ∧ (n : Int) ≤ 1000000000 := fun n h => by omega
  by_cases h4 : okx S e.a = false
  · rw [if_pos h4]; exact hm
  rw [if_neg h4]
  by_cases h5 : e.c = 2
  · rw [if_pos h5]
    by_cases hb : okx S e.b = false
    · rw [if_pos hb]; exact hm
    · rw [if_neg hb]; exact hn1 _ (hc (hO.hold _ _ (okx_iff hO.iv (by simpa using hb)).2.2).iv (by omega) _)
  rw [if_neg h5]
  by_cases h6 : e.c = 3
  · rw [if_pos h6]
    by_cases hb : okx S e.b = false ∨ e.b.toNat ∉ (S.hl e.a.toNat).map (·.1)
    · rw [if_pos hb]; exact hm
    · rw [if_neg hb]; exact hn1 _ (hl ((hO.drop _ _).look _ _).iv (by omega) _)
  rw [if_neg h6]
  by_cases h7 : e.c = 4
  · rw [if_pos h7]; exact hn1 _ (hc (hO.root _).iv (by omega) _)
  rw [if_neg h7]
  by_cases h8 : e.c = 5
  · rw [if_pos h8]
    by_cases hb : S.rt e.a.toNat = 0
    · rw [if_pos hb]; exact hm
    · rw [if_neg hb]; exact hn1 _ (hl ((hO.unroot _).look _ _).iv (by omega) _)
  rw [if_neg h8]
  by_cases h9 : e.c = 6
  · rw [if_pos h9]; exact hn1 _ (by have := hO.iv.wk e.a.toNat; omega)
  rw [if_neg h9]
  by_cases h10 : e.c = 7
  · rw [if_pos h10]
    by_cases hb : e.b < 0 ∨ 2 < e.b
    · rw [if_pos hb]; exact hm
    · rw [if_neg hb]; show -1 ≤ e.b ∧ e.b ≤ _; omega
  rw [if_neg h10]
  by_cases h11 : e.c = 9
  · rw [if_pos h11]; exact hn1 _ (hc hO.iv (by omega) _)
  · rw [if_neg h11]; exact hm
noncomputable def ansG (es : List Gp) : List Int := if es.length ≤ 2000 then outA es es.length else []
noncomputable def evG (es : List Gp) : List Ge := if es.length ≤ 2000 then evL (stA es es.length).ev else []
theorem outA_len (es : List Gp) (k : Nat) : (outA es k).length = k := by unfold outA; simp
theorem SS.base {w : World} {B sb : Nat} {ov ew : Value} {S : Gs} {hs ts : Nat → Sl} (h : SS w B sb ov ew S hs ts) {b : Nat} (hb : PFh sb ov ew S hs ts b) : B ≤ b ∧ b < w.heap.size := by
  rcases hb with (e | e | e) | ⟨x, hx, e | e⟩
  · subst e; exact ⟨h.low, h.lt⟩
  · exact h.out.lt b e
  · exact h.ev.lt b e
  · exact (h.hr x hx).lt b e
  · exact (h.tr x hx).lt b e
/-- What GcRun leaves. -/
def RnP (w : World) (es : List Gp) (e : Ending) (w' : World) : Prop :=
  ∃ a c a' c', e = .returned (.tuple #[.slice a (ansG es).length c, .slice a' (evG es).length c']) ∧ Own w' w.heap.size (.slice a (ansG es).length c) (ansG es) ∧ OwnG shGe 49 w' w.heap.size (.slice a' (evG es).length c') (evG es) ∧ Below w.heap.size w w'
theorem RnP.mk {w : World} {es : List Gp} {e : Ending} {w' : World} (h : ∃ a c a' c', e = .returned (.tuple #[.slice a (ansG es).length c, .slice a' (evG es).length c']) ∧ Own w' w.heap.size (.slice a (ansG es).length c) (ansG es) ∧ OwnG shGe 49 w' w.heap.size (.slice a' (evG es).length c') (evG es) ∧ Below w.heap.size w w') : RnP w es e w' := h
theorem OwnG.emptyS {α : Type} (S : Sh α) (T : TypeId) (w : World) : OwnG S T (w.alloc (.cells #[] T)) w.heap.size (.slice (some ⟨w.heap.size, 0, none⟩) 0 0) [] :=
  ⟨⟨by simp, .inr ⟨w.heap.size, 0, #[], rfl, Nat.le_refl _, heap_alloc_new w _, Nat.le_refl _, Nat.zero_le _, by simp, by simp⟩⟩, by simp, fun x hx => by cases hx⟩
theorem SS.start {w : World} {B sb eb : Nat} {hs ts : Nat → Sl} (hb : w.heap[sb]? = some (.cells #[.slice none 0 0, .slice (some ⟨eb, 0, none⟩) 0 0, .int .i64 0] 65 (0, 0))) (hl : B ≤ sb) (he : OwnG shGe 49 w B (.slice (some ⟨eb, 0, none⟩) 0 0) []) : SS w B sb (.slice none 0 0) (.slice (some ⟨eb, 0, none⟩) 0 0) gs0 hs ts :=
  ⟨⟨0, hb⟩, hl, OwnG.nil _ _ _ _, he, (fun x hx => by cases hx), (fun x hx => by cases hx), (fun x y hx => by cases hx), (fun x y hx => by cases hx), (fun x y hx => by cases hx)⟩
end Go.Proofs.Ytjnalkeopehlbaa
