import Derived.Test.YtjnalkeopehlbaaMgB
namespace Go.Proofs.Ytjnalkeopehlbaa
open Go.RowKit Go.Maps
set_option linter.unusedVariables false
set_option linter.unusedSimpArgs false

/-- What an operation leaves. -/
def DP (B hb am : Nat) (tb : Nat → Nat) (ew : Value) (f : Nat → Tc) (S S' : Gs) (w w' : World) : Prop := ∃ ew' tb' f' AL', GI w' B hb am ew' tb' f' AL' S' ∧ Fr (PH hb am S.n ew tb f) w (PH hb am S'.n ew' tb' f') w'
theorem GP.dp {B hb am : Nat} {tb : Nat → Nat} {ew : Value} {f : Nat → Tc} {S S' : Gs} {w w1 w' : World} (h : GP B hb am tb ew f S S' w1 w') (hb1 : Below w.heap.size w w1) : DP B hb am tb ew f S S' w w' := by
  obtain ⟨ew', f', AL', h1, h2⟩ := h
  exact ⟨ew', tb, f', AL', h1, (Fr.below hb1).trans h2⟩
section
variable (B hb am K : Nat) (ew : Value) (tb : Nat → Nat) (f : Nat → Tc) (AL : List Nat) (S : Gs) (w : World)
set_option maxRecDepth 100000 in
theorem do1 (x y : Int) (h : GI w B hb am ew tb f AL S) (hO : Ok K S) (hK : K ≤ 2500) (hB : B ≤ w.heap.size) :
    Calls Try.prog 34 #[.pointer (some ⟨hb, 0, none⟩), .agg #[.int .i64 1, .int .i64 x, .int .i64 y]] w fun e w' => e = .returned (.int .i64 ((S.n : Int) + 1)) ∧ DP B hb am tb ew f S (newS S) w w' := by
  have al : Below w.heap.size w (w.alloc (.cells #[.int .i64 1, .int .i64 x, .int .i64 y] 45)) := (Below.refl _ _).alloc (Nat.le_refl _) _
  have hA := addI_any B hb am K ew tb f AL S _ ⟨h.th.keep al, h.gi⟩ hO.iv hK (Nat.le_trans hB al.size)
  have HQ : Hid (Fr (PH hb am S.n ew tb f) w (PH hb am S.n ew tb f) (w.alloc (.cells #[.int .i64 1, .int .i64 x, .int .i64 y] 45))) := Fr.below al
  clear h
  go_enter Try.func34, Try.ntmps34
  go_wp2_with fail
  refine hA.mono ?_
  rintro e W1 ⟨rfl, tb1, f1, AL1, h1, q1⟩
  clear hA
  have HG : Hid (DP B hb am tb ew f S (newS S) w W1) := ⟨ew, tb1, f1, AL1, h1, HQ.out.trans q1⟩
  clear h1 q1
  go_wp2
  go_ret
  exact ⟨rfl, HG.out⟩
set_option maxRecDepth 100000 in
theorem doDead (c x y : Int) (h : GI w B hb am ew tb f AL S) (hO : Ok K S) (hK : K ≤ 2500) (hx : -9223372036854775808 ≤ x ∧ x < 9223372036854775808) (hd : okx S x = false) (h1 : c ≠ 1) (h8 : c ≠ 8) (h10 : c ≠ 10) :
    Calls Try.prog 34 #[.pointer (some ⟨hb, 0, none⟩), .agg #[.int .i64 c, .int .i64 x, .int .i64 y]] w fun e w' => e = .returned (.int .i64 (-1)) ∧ DP B hb am tb ew f S S w w' := by
  have hn := hO.iv.n
  have al : Below w.heap.size w (w.alloc (.cells #[.int .i64 c, .int .i64 x, .int .i64 y] 45)) := (Below.refl _ _).alloc (Nat.le_refl _) _
  have al2 : Below w.heap.size w (w.alloc (.cells #[.int .i64 c, .int .i64 x, .int .i64 y] 45)).drew := al.drew
  have hD := h.th.keep al2
  have hA := h.th.keep al
  have b0 := hA.boxc.1
  have HG : Hid (DP B hb am tb ew f S S w (w.alloc (.cells #[.int .i64 c, .int .i64 x, .int .i64 y] 45)).drew) := ⟨ew, tb, f, AL, ⟨hD, h.gi⟩, Fr.below al2⟩
  have e1 : (c == 1) = false := by rw [beq_eq_false_iff_ne]; exact h1
  have e8 : (c == 8) = false := by rw [beq_eq_false_iff_ne]; exact h8
  have e10 : (c == 10) = false := by rw [beq_eq_false_iff_ne]; exact h10
  have c0 : (w.alloc (.cells #[.int .i64 c, .int .i64 x, .int .i64 y] 45)).cell? ⟨w.heap.size, 0, none⟩ = some (.int .i64 c) := by rw [World.cell?_alloc_at _ _ _ _ rfl]; rfl
  have c1 : (w.alloc (.cells #[.int .i64 c, .int .i64 x, .int .i64 y] 45)).cell? ⟨w.heap.size, 1, none⟩ = some (.int .i64 x) := by rw [World.cell?_alloc_at _ _ _ _ rfl]; rfl
  rcases hD.lookA (by omega) x (wf_i64 hx.1 hx.2) with ⟨_, hlk⟩ | ⟨z, hz, hze, _⟩
  · clear h hD hA
    go_enter Try.func34, Try.ntmps34
    go_wp2_with fail
    go_region_held3 (fun W => W.cell? ⟨hb, 0, none⟩ = some (.map (some am)) ∧ W.cell? ⟨w.heap.size, 1, none⟩ = some (.int .i64 x)) (go_keep) (fail)
    go_wp2
    go_ret
    exact ⟨rfl, HG.out⟩
  · exfalso
    have := (h.gi.al z).1 hz
    unfold okx at hd
    rw [← hze, decide_eq_true (by omega), Int.toNat_natCast, this] at hd
    cases hd
end
end Go.Proofs.Ytjnalkeopehlbaa

namespace Go.Proofs.Ytjnalkeopehlbaa
open Go.RowKit Go.Maps
set_option linter.unusedVariables false
set_option linter.unusedSimpArgs false

section
variable (B hb am K a : Nat) (ew : Value) (tb : Nat → Nat) (f : Nat → Tc) (AL : List Nat) (S : Gs) (w : World)
theorem TH.lookX {w : World} {B hb am n : Nat} {ew : Value} {tb : Nat → Nat} {f : Nat → Tc} {AL : List Nat} {ev : List (Nat × Nat)} (h : TH w B hb am n ew tb f AL ev) (hn : n ≤ 100000) (a : Nat) (ha : a ∈ AL) :
    (Instr.lookup 67 (.map (some am)) (.int .i64 (a : Nat)) true).run Try.prog w = .ok (.tuple #[.pointer (some ⟨tb a, 0, none⟩), .bool true]) w := by
  have hb := (h.alok a ha).2
  rcases h.lookA hn (a : Int) (wf_i64 (by omega) (by omega)) with ⟨h1, _⟩ | ⟨z, hz, e, h2⟩
  · exact absurd rfl (h1 a ha)
  · have : z = a := by omega
    subst this
    exact h2
set_option maxRecDepth 100000 in
theorem doOth (c y : Int) (r : Int) (G : World → Prop) (h : GI w B hb am ew tb f AL S) (hO : Ok K S) (hK : K ≤ 2500) (haa : S.al a = true) (h1 : c ≠ 1) (h8 : c ≠ 8) (h10 : c ≠ 10) (h2 : c ≠ 2) (h3 : c ≠ 3) (h7 : c ≠ 7)
    (hOne : ∀ w1, Below w.heap.size w w1 → GI w1 B hb am ew tb f AL S → Calls Try.prog 51 #[.pointer (some ⟨hb, 0, none⟩), .int .i64 c, .pointer (some ⟨tb a, 0, none⟩)] w1 fun e w' => e = .returned (.int .i64 r) ∧ G w') :
    Calls Try.prog 34 #[.pointer (some ⟨hb, 0, none⟩), .agg #[.int .i64 c, .int .i64 (a : Nat), .int .i64 y]] w fun e w' => e = .returned (.int .i64 r) ∧ G w' := by
  have hn := hO.iv.n
  have al : Below w.heap.size w (w.alloc (.cells #[.int .i64 c, .int .i64 (a : Nat), .int .i64 y] 45)) := (Below.refl _ _).alloc (Nat.le_refl _) _
  have al2 : Below w.heap.size w (w.alloc (.cells #[.int .i64 c, .int .i64 (a : Nat), .int .i64 y] 45)).drew := al.drew
  have hD := h.th.keep al2
  have hA := h.th.keep al
  have b0 := hA.boxc.1
  have e1 : (c == 1) = false := by rw [beq_eq_false_iff_ne]; exact h1
  have e8 : (c == 8) = false := by rw [beq_eq_false_iff_ne]; exact h8
  have e10 : (c == 10) = false := by rw [beq_eq_false_iff_ne]; exact h10
  have e2 : (c == 2) = false := by rw [beq_eq_false_iff_ne]; exact h2
  have e3 : (c == 3) = false := by rw [beq_eq_false_iff_ne]; exact h3
  have e7 : (c == 7) = false := by rw [beq_eq_false_iff_ne]; exact h7
  have c0 : (w.alloc (.cells #[.int .i64 c, .int .i64 (a : Nat), .int .i64 y] 45)).cell? ⟨w.heap.size, 0, none⟩ = some (.int .i64 c) := by rw [World.cell?_alloc_at _ _ _ _ rfl]; rfl
  have c1 : (w.alloc (.cells #[.int .i64 c, .int .i64 (a : Nat), .int .i64 y] 45)).cell? ⟨w.heap.size, 1, none⟩ = some (.int .i64 (a : Nat)) := by rw [World.cell?_alloc_at _ _ _ _ rfl]; rfl
  have hlk := hD.lookX (by omega) a ((h.gi.al a).2 haa)
  have hC := hOne _ al2 ⟨hD, h.gi⟩
  clear h hD hA hOne
  go_enter Try.func34, Try.ntmps34
  go_wp2_with fail
  go_region_held3 (fun W => W.cell? ⟨hb, 0, none⟩ = some (.map (some am)) ∧ W.cell? ⟨w.heap.size, 1, none⟩ = some (.int .i64 (a : Nat))) (go_keep) (fail)
  go_wp2_with fail
  refine hC.mono ?_
  rintro e W1 ⟨rfl, hG⟩
  have HG : Hid (G W1) := hG
  clear hC hG
  go_wp2
  go_ret
  exact ⟨rfl, HG.out⟩
set_option maxRecDepth 100000 in
theorem doB (b : Nat) (c : Int) (r : Int) (G : World → Prop) (h : GI w B hb am ew tb f AL S) (hO : Ok K S) (hK : K ≤ 2500) (haa : S.al a = true) (hbb : S.al b = true) (hc : c = 2 ∨ c = 3)
    (hOne : ∀ w1, Below w.heap.size w w1 → GI w1 B hb am ew tb f AL S → Calls Try.prog 49 #[.pointer (some ⟨hb, 0, none⟩), .int .i64 c, .pointer (some ⟨tb a, 0, none⟩), .pointer (some ⟨tb b, 0, none⟩)] w1 fun e w' => e = .returned (.int .i64 r) ∧ G w') :
    Calls Try.prog 34 #[.pointer (some ⟨hb, 0, none⟩), .agg #[.int .i64 c, .int .i64 (a : Nat), .int .i64 (b : Nat)]] w fun e w' => e = .returned (.int .i64 r) ∧ G w' := by
  have hn := hO.iv.n
  have al : Below w.heap.size w (w.alloc (.cells #[.int .i64 c, .int .i64 (a : Nat), .int .i64 (b : Nat)] 45)) := (Below.refl _ _).alloc (Nat.le_refl _) _
  have al2 : Below w.heap.size w (w.alloc (.cells #[.int .i64 c, .int .i64 (a : Nat), .int .i64 (b : Nat)] 45)).drew := al.drew
  have al3 : Below w.heap.size w (w.alloc (.cells #[.int .i64 c, .int .i64 (a : Nat), .int .i64 (b : Nat)] 45)).drew.drew := al2.drew
  have hD := h.th.keep al2
  have hE := h.th.keep al3
  have hA := h.th.keep al
  have b0 := hA.boxc.1
  have c0 : (w.alloc (.cells #[.int .i64 c, .int .i64 (a : Nat), .int .i64 (b : Nat)] 45)).cell? ⟨w.heap.size, 0, none⟩ = some (.int .i64 c) := by rw [World.cell?_alloc_at _ _ _ _ rfl]; rfl
  have c1 : (w.alloc (.cells #[.int .i64 c, .int .i64 (a : Nat), .int .i64 (b : Nat)] 45)).cell? ⟨w.heap.size, 1, none⟩ = some (.int .i64 (a : Nat)) := by rw [World.cell?_alloc_at _ _ _ _ rfl]; rfl
  have c2 : (w.alloc (.cells #[.int .i64 c, .int .i64 (a : Nat), .int .i64 (b : Nat)] 45)).cell? ⟨w.heap.size, 2, none⟩ = some (.int .i64 (b : Nat)) := by rw [World.cell?_alloc_at _ _ _ _ rfl]; rfl
  have hlk := hD.lookX (by omega) a ((h.gi.al a).2 haa)
  have hlk2 := hE.lookX (by omega) b ((h.gi.al b).2 hbb)
  have hC := hOne _ al3 ⟨hE, h.gi⟩
  clear h hD hA hE hOne
  rcases hc with rfl | rfl
  all_goals
    go_enter Try.func34, Try.ntmps34
    go_wp2_with fail
    go_region_held3 (fun W => W.cell? ⟨hb, 0, none⟩ = some (.map (some am)) ∧ W.cell? ⟨w.heap.size, 1, none⟩ = some (.int .i64 (a : Nat))) (go_keep) (fail)
    go_wp2_with fail
    go_region_held3 (fun W => W.cell? ⟨hb, 0, none⟩ = some (.map (some am)) ∧ W.cell? ⟨w.heap.size, 2, none⟩ = some (.int .i64 (b : Nat))) (go_keep) (fail)
    go_wp2_with fail
    refine hC.mono ?_
    rintro e W1 ⟨rfl, hG⟩
    have HG : Hid (G W1) := hG
    clear hC hG
    go_wp2
    go_ret
    exact ⟨rfl, HG.out⟩
end
end Go.Proofs.Ytjnalkeopehlbaa

namespace Go.Proofs.Ytjnalkeopehlbaa
open Go.RowKit Go.Maps
set_option linter.unusedVariables false
set_option linter.unusedSimpArgs false

theorem len_alv (al : Nat → Bool) : ∀ (n : Nat) (l : List Nat), l.Nodup → (∀ x, x ∈ l ↔ (1 ≤ x ∧ x ≤ n ∧ al x = true)) → l.length = sm n (fun k => if al (k + 1) then 1 else 0)
  | 0, l, hn, h => by
    cases l with
    | nil => rfl
    | cons x r => have := (h x).1 (by simp); omega
  | n + 1, l, hn, h => by
    rw [sm_succ]
    cases e : al (n + 1) with
    | true =>
      have hm : n + 1 ∈ l := (h (n + 1)).2 ⟨by omega, Nat.le_refl _, e⟩
      have ih := len_alv al n (l.erase (n + 1)) (hn.erase _) (fun x => by
        rw [hn.mem_erase_iff, h x]
        constructor
        · rintro ⟨h1, h2, h3, h4⟩; exact ⟨h2, by omega, h4⟩
        · rintro ⟨h2, h3, h4⟩; exact ⟨by omega, h2, by omega, h4⟩)
      rw [List.length_erase_of_mem hm] at ih
      have := List.length_pos_of_mem hm
      simp
      omega
    | false =>
      have ih := len_alv al n l hn (fun x => by
        rw [h x]
        constructor
        · rintro ⟨h2, h3, h4⟩
          refine ⟨h2, ?_, h4⟩
          have : x ≠ n + 1 := fun e2 => by rw [e2, e] at h4; cases h4
          omega
        · rintro ⟨h2, h3, h4⟩; exact ⟨h2, by omega, h4⟩)
      simp
      omega
section
variable (B hb am K a : Nat) (ew : Value) (tb : Nat → Nat) (f : Nat → Tc) (AL : List Nat) (S : Gs) (w : World)
set_option maxRecDepth 100000 in
theorem do10 (x y : Int) (h : GI w B hb am ew tb f AL S) (hO : Ok K S) :
    Calls Try.prog 34 #[.pointer (some ⟨hb, 0, none⟩), .agg #[.int .i64 10, .int .i64 x, .int .i64 y]] w fun e w' => e = .returned (.int .i64 (alv S : Nat)) ∧ DP B hb am tb ew f S S w w' := by
  have al : Below w.heap.size w (w.alloc (.cells #[.int .i64 10, .int .i64 x, .int .i64 y] 45)) := (Below.refl _ _).alloc (Nat.le_refl _) _
  have hA := h.th.keep al
  have b0 := hA.boxc.1
  have hl : AL.length = alv S := len_alv S.al S.n AL h.th.nd (fun x => by
    rw [h.gi.al x]
    exact ⟨fun h1 => ⟨(hO.iv.al x h1).1, (hO.iv.al x h1).2, h1⟩, fun h1 => h1.2.2⟩)
  have hlen := fun ty => hA.alive.len Try.underlying67 ty
  rw [List.length_map, hl] at hlen
  have HG : Hid (DP B hb am tb ew f S S w (w.alloc (.cells #[.int .i64 10, .int .i64 x, .int .i64 y] 45))) := ⟨ew, tb, f, AL, ⟨hA, h.gi⟩, Fr.below al⟩
  clear h hA
  go_enter Try.func34, Try.ntmps34
  go_wp2
  go_ret
  exact ⟨rfl, HG.out⟩
set_option maxRecDepth 100000 in
theorem do7 (y : Int) (h : GI w B hb am ew tb f AL S) (hO : Ok K S) (hK : K ≤ 2500) (haa : S.al a = true) :
    Calls Try.prog 34 #[.pointer (some ⟨hb, 0, none⟩), .agg #[.int .i64 7, .int .i64 (a : Nat), .int .i64 y]] w fun e w' => ((y < 0 ∨ 2 < y) ∧ e = .returned (.int .i64 (-1)) ∧ DP B hb am tb ew f S S w w') ∨ (0 ≤ y ∧ y ≤ 2 ∧ e = .returned (.int .i64 y) ∧ DP B hb am tb ew f S (finalS S a y.toNat) w w') := by
  have hn := hO.iv.n
  have ha : In S.n a := hO.iv.al a haa
  have al : Below w.heap.size w (w.alloc (.cells #[.int .i64 7, .int .i64 (a : Nat), .int .i64 y] 45)) := (Below.refl _ _).alloc (Nat.le_refl _) _
  have al2 : Below w.heap.size w (w.alloc (.cells #[.int .i64 7, .int .i64 (a : Nat), .int .i64 y] 45)).drew := al.drew
  have hD := h.th.keep al2
  have hA := h.th.keep al
  have b0 := hA.boxc.1
  have c0 : (w.alloc (.cells #[.int .i64 7, .int .i64 (a : Nat), .int .i64 y] 45)).cell? ⟨w.heap.size, 0, none⟩ = some (.int .i64 7) := by rw [World.cell?_alloc_at _ _ _ _ rfl]; rfl
  have c1 : (w.alloc (.cells #[.int .i64 7, .int .i64 (a : Nat), .int .i64 y] 45)).cell? ⟨w.heap.size, 1, none⟩ = some (.int .i64 (a : Nat)) := by rw [World.cell?_alloc_at _ _ _ _ rfl]; rfl
  have c2 : (w.alloc (.cells #[.int .i64 7, .int .i64 (a : Nat), .int .i64 y] 45)).cell? ⟨w.heap.size, 2, none⟩ = some (.int .i64 y) := by rw [World.cell?_alloc_at _ _ _ _ rfl]; rfl
  have hlk := hD.lookX (by omega) a ((h.gi.al a).2 haa)
  have hT := take_any (tb a) a _ y _ (hD.tg.obj a ha)
  have H : Hid (GI w B hb am ew tb f AL S) := h
  have HD : Hid (TH (w.alloc (.cells #[.int .i64 7, .int .i64 (a : Nat), .int .i64 y] 45)).drew B hb am S.n ew tb f AL S.ev) := hD
  clear h hD hA
  go_enter Try.func34, Try.ntmps34
  go_wp2_with fail
  go_region_held3 (fun W => W.cell? ⟨hb, 0, none⟩ = some (.map (some am)) ∧ W.cell? ⟨w.heap.size, 1, none⟩ = some (.int .i64 (a : Nat))) (go_keep) (fail)
  go_wp2_with fail
  refine hT.mono ?_
  rintro e W1 (⟨hy, rfl, rfl⟩ | ⟨hy1, hy2, rfl, rfl⟩)
  · clear hT
    have HY : Hid (y < 0 ∨ 2 < y) := hy
    clear hy
    go_wp2
    go_ret
    exact .inl ⟨HY.out, rfl, ⟨ew, tb, f, AL, ⟨HD.out, H.out.gi⟩, Fr.below al2⟩⟩
  · clear hT
    have HY : Hid (0 ≤ y ∧ y ≤ 2) := ⟨hy1, hy2⟩
    clear hy1 hy2
    go_wp2
    go_ret
    refine .inr ⟨HY.out.1, HY.out.2, rfl, ?_⟩
    obtain ⟨t1, q1⟩ := HD.out.tg.cell1 ha 4 (.int .i64 ((y.toNat : Nat) : Int)) { f a with fn := y.toNat } rfl rfl rfl rfl rfl
    obtain ⟨t2, q2⟩ := HD.out.things t1 q1 (upd_mb f a _ rfl)
    rw [Int.toNat_of_nonneg HY.out.1] at t2 q2
    exact ⟨ew, tb, _, AL, ⟨t2, H.out.gi.finaled a ha y.toNat⟩, (Fr.below al2).trans q2⟩
end
end Go.Proofs.Ytjnalkeopehlbaa

namespace Go.Proofs.Ytjnalkeopehlbaa
open Go.RowKit Go.Maps
set_option linter.unusedVariables false
set_option linter.unusedSimpArgs false

section
variable (B hb am K a : Nat) (ew : Value) (tb : Nat → Nat) (f : Nat → Tc) (AL : List Nat) (S : Gs) (w : World)
set_option maxRecDepth 100000 in
theorem doBdead (c y : Int) (h : GI w B hb am ew tb f AL S) (hO : Ok K S) (hK : K ≤ 2500) (haa : S.al a = true) (hy : -9223372036854775808 ≤ y ∧ y < 9223372036854775808) (hd : okx S y = false) (hc : c = 2 ∨ c = 3) :
    Calls Try.prog 34 #[.pointer (some ⟨hb, 0, none⟩), .agg #[.int .i64 c, .int .i64 (a : Nat), .int .i64 y]] w fun e w' => e = .returned (.int .i64 (-1)) ∧ DP B hb am tb ew f S S w w' := by
  have hn := hO.iv.n
  have al : Below w.heap.size w (w.alloc (.cells #[.int .i64 c, .int .i64 (a : Nat), .int .i64 y] 45)) := (Below.refl _ _).alloc (Nat.le_refl _) _
  have al2 : Below w.heap.size w (w.alloc (.cells #[.int .i64 c, .int .i64 (a : Nat), .int .i64 y] 45)).drew := al.drew
  have al3 : Below w.heap.size w (w.alloc (.cells #[.int .i64 c, .int .i64 (a : Nat), .int .i64 y] 45)).drew.drew := al2.drew
  have hD := h.th.keep al2
  have hE := h.th.keep al3
  have hA := h.th.keep al
  have b0 := hA.boxc.1
  have c0 : (w.alloc (.cells #[.int .i64 c, .int .i64 (a : Nat), .int .i64 y] 45)).cell? ⟨w.heap.size, 0, none⟩ = some (.int .i64 c) := by rw [World.cell?_alloc_at _ _ _ _ rfl]; rfl
  have c1 : (w.alloc (.cells #[.int .i64 c, .int .i64 (a : Nat), .int .i64 y] 45)).cell? ⟨w.heap.size, 1, none⟩ = some (.int .i64 (a : Nat)) := by rw [World.cell?_alloc_at _ _ _ _ rfl]; rfl
  have c2 : (w.alloc (.cells #[.int .i64 c, .int .i64 (a : Nat), .int .i64 y] 45)).cell? ⟨w.heap.size, 2, none⟩ = some (.int .i64 y) := by rw [World.cell?_alloc_at _ _ _ _ rfl]; rfl
  have hlk := hD.lookX (by omega) a ((h.gi.al a).2 haa)
  have HG : Hid (DP B hb am tb ew f S S w (w.alloc (.cells #[.int .i64 c, .int .i64 (a : Nat), .int .i64 y] 45)).drew.drew) := ⟨ew, tb, f, AL, ⟨hE, h.gi⟩, Fr.below al3⟩
  rcases hE.lookA (by omega) y (wf_i64 hy.1 hy.2) with ⟨_, hlk2⟩ | ⟨z, hz, hze, _⟩
  · clear h hD hA hE
    rcases hc with rfl | rfl
    all_goals
      go_enter Try.func34, Try.ntmps34
      go_wp2_with fail
      go_region_held3 (fun W => W.cell? ⟨hb, 0, none⟩ = some (.map (some am)) ∧ W.cell? ⟨w.heap.size, 1, none⟩ = some (.int .i64 (a : Nat))) (go_keep) (fail)
      go_wp2_with fail
      go_region_held3 (fun W => W.cell? ⟨hb, 0, none⟩ = some (.map (some am)) ∧ W.cell? ⟨w.heap.size, 2, none⟩ = some (.int .i64 y)) (go_keep) (fail)
      go_wp2
      go_ret
      exact ⟨rfl, HG.out⟩
  · exfalso
    have := (h.gi.al z).1 hz
    unfold okx at hd
    rw [← hze, decide_eq_true (by omega), Int.toNat_natCast, this] at hd
    cases hd
end
end Go.Proofs.Ytjnalkeopehlbaa

namespace Go.Proofs.Ytjnalkeopehlbaa
open Go.RowKit Go.Maps
set_option linter.unusedVariables false
set_option linter.unusedSimpArgs false

section
variable (B hb am K : Nat) (ew : Value) (tb : Nat → Nat) (f : Nat → Tc) (AL : List Nat) (S : Gs) (w : World)
set_option maxRecDepth 100000 in
theorem do8 (x y : Int) (h : GI w B hb am ew tb f AL S)
    (hC : ∀ w1, Below w.heap.size w w1 → GI w1 B hb am ew tb f AL S → Calls Try.prog 48 #[.pointer (some ⟨hb, 0, none⟩)] w1 fun e w' => e = .returned (.int .i64 ((deadL S).length : Nat)) ∧ GP B hb am tb ew f S (coll S) w1 w') :
    Calls Try.prog 34 #[.pointer (some ⟨hb, 0, none⟩), .agg #[.int .i64 8, .int .i64 x, .int .i64 y]] w fun e w' => e = .returned (.int .i64 ((deadL S).length : Nat)) ∧ DP B hb am tb ew f S (coll S) w w' := by
  have al : Below w.heap.size w (w.alloc (.cells #[.int .i64 8, .int .i64 x, .int .i64 y] 45)) := (Below.refl _ _).alloc (Nat.le_refl _) _
  have hA := hC _ al ⟨h.th.keep al, h.gi⟩
  clear h hC
  go_enter Try.func34, Try.ntmps34
  go_wp2_with fail
  refine hA.mono ?_
  rintro e W1 ⟨rfl, h1⟩
  clear hA
  have HG : Hid (DP B hb am tb ew f S (coll S) w W1) := h1.dp al
  clear h1
  go_wp2
  go_ret
  exact ⟨rfl, HG.out⟩
/-- do, by collect's contract. -/
theorem doI_any (e : Gp) (hea : -9223372036854775808 ≤ e.a ∧ e.a < 9223372036854775808) (heb : -9223372036854775808 ≤ e.b ∧ e.b < 9223372036854775808) (h : GI w B hb am ew tb f AL S) (hO : Ok K S) (hK : K ≤ 2500) (hB : B ≤ w.heap.size)
    (hC : ∀ w1, Below w.heap.size w w1 → GI w1 B hb am ew tb f AL S → Calls Try.prog 48 #[.pointer (some ⟨hb, 0, none⟩)] w1 fun e w' => e = .returned (.int .i64 ((deadL S).length : Nat)) ∧ GP B hb am tb ew f S (coll S) w1 w') :
    Calls Try.prog 34 #[.pointer (some ⟨hb, 0, none⟩), .agg #[.int .i64 e.c, .int .i64 e.a, .int .i64 e.b]] w fun r w' => r = .returned (.int .i64 (gstep S e).2) ∧ DP B hb am tb ew f S (gstep S e).1 w w' := by
  unfold gstep
  by_cases h1 : e.c = 1
  · rw [if_pos h1, h1]
    exact do1 B hb am K ew tb f AL S w e.a e.b h hO hK hB
  rw [if_neg h1]
  by_cases h8 : e.c = 8
  · rw [if_pos h8, h8]
    exact do8 B hb am ew tb f AL S w e.a e.b h hC
  rw [if_neg h8]
  by_cases h10 : e.c = 10
  · rw [if_pos h10, h10]
    exact do10 B hb am K ew tb f AL S w e.a e.b h hO
  rw [if_neg h10]
  by_cases hoa : okx S e.a = false
  · rw [if_pos hoa]
    exact doDead B hb am K ew tb f AL S w e.c e.a e.b h hO hK hea hoa h1 h8 h10
  rw [if_neg hoa]
  obtain ⟨a1, a2, haa⟩ := okx_iff hO.iv (x := e.a) (by simpa using hoa)
  obtain ⟨a, ha⟩ : ∃ a : Nat, e.a = (a : Int) := ⟨e.a.toNat, by omega⟩
  rw [ha] at haa ⊢
  rw [Int.toNat_natCast] at haa ⊢
  by_cases h2 : e.c = 2
  · rw [if_pos h2]
    by_cases hob : okx S e.b = false
    · rw [if_pos hob]
      exact doBdead B hb am K a ew tb f AL S w e.c e.b h hO hK haa heb hob (.inl h2)
    · rw [if_neg hob]
      obtain ⟨b1, b2, hbb⟩ := okx_iff hO.iv (x := e.b) (by simpa using hob)
      obtain ⟨b, hb'⟩ : ∃ b : Nat, e.b = (b : Int) := ⟨e.b.toNat, by omega⟩
      rw [hb'] at hbb ⊢
      rw [Int.toNat_natCast] at hbb ⊢
      refine doB B hb am K a ew tb f AL S w b e.c _ _ h hO hK haa hbb (.inl h2) (fun w1 k1 k2 => ?_)
      rw [h2]
      exact (both2 B hb am a b K ew tb f AL S w1 k2 hO hK haa hbb (Nat.le_trans hB k1.size)).mono (fun r w' hr => ⟨hr.1, hr.2.dp k1⟩)
  rw [if_neg h2]
  by_cases h3 : e.c = 3
  · rw [if_pos h3]
    by_cases hob : okx S e.b = false
    · rw [if_pos (.inl hob)]
      exact doBdead B hb am K a ew tb f AL S w e.c e.b h hO hK haa heb hob (.inr h3)
    · obtain ⟨b1, b2, hbb⟩ := okx_iff hO.iv (x := e.b) (by simpa using hob)
      obtain ⟨b, hb'⟩ : ∃ b : Nat, e.b = (b : Int) := ⟨e.b.toNat, by omega⟩
      rw [hb'] at hbb hob ⊢
      rw [Int.toNat_natCast] at hbb ⊢
      by_cases hin : b ∈ (S.hl a).map (·.1)
      · rw [if_neg (by rintro (k | k); exact hob k; exact k hin)]
        refine doB B hb am K a ew tb f AL S w b e.c _ _ h hO hK haa hbb (.inr h3) (fun w1 k1 k2 => ?_)
        rw [h3]
        exact (both3 B hb am a b K ew tb f AL S w1 k2 hO hK haa hbb hin (Nat.le_trans hB k1.size)).mono (fun r w' hr => ⟨hr.1, hr.2.dp k1⟩)
      · rw [if_pos (.inr hin)]
        refine doB B hb am K a ew tb f AL S w b e.c _ _ h hO hK haa hbb (.inr h3) (fun w1 k1 k2 => ?_)
        rw [h3]
        exact (both3n B hb am a b K ew tb f AL S w1 k2 hO haa hbb hin).mono (fun r w' hr => ⟨hr.1, hr.2.dp k1⟩)
  rw [if_neg h3]
  by_cases h7 : e.c = 7
  · rw [if_neg (by omega), if_neg (by omega), if_neg (by omega), if_pos h7, h7]
    refine (do7 B hb am K a ew tb f AL S w e.b h hO hK haa).mono (fun r w' hr => ?_)
    rcases hr with ⟨k1, k2, k3⟩ | ⟨k1, k2, k3, k4⟩
    · rw [if_pos k1]; exact ⟨k2, k3⟩
    · rw [if_neg (by omega)]; exact ⟨k3, k4⟩
  by_cases h4 : e.c = 4
  · rw [if_pos h4]
    refine doOth B hb am K a ew tb f AL S w e.c e.b _ _ h hO hK haa h1 h8 h10 h2 h3 h7 (fun w1 k1 k2 => ?_)
    rw [h4]
    exact (one4 B hb am a K ew tb f AL S w1 k2 hO hK haa).mono (fun r w' hr => ⟨hr.1, hr.2.dp k1⟩)
  rw [if_neg h4]
  by_cases h5 : e.c = 5
  · rw [if_pos h5]
    by_cases hr0 : S.rt a = 0
    · rw [if_pos hr0]
      refine doOth B hb am K a ew tb f AL S w e.c e.b _ _ h hO hK haa h1 h8 h10 h2 h3 h7 (fun w1 k1 k2 => ?_)
      rw [h5]
      exact (one5n B hb am a K ew tb f AL S w1 k2 hO haa hr0).mono (fun r w' hr => ⟨hr.1, hr.2.dp k1⟩)
    · rw [if_neg hr0]
      refine doOth B hb am K a ew tb f AL S w e.c e.b _ _ h hO hK haa h1 h8 h10 h2 h3 h7 (fun w1 k1 k2 => ?_)
      rw [h5]
      exact (one5 B hb am a K ew tb f AL S w1 k2 hO hK haa hr0 (Nat.le_trans hB k1.size)).mono (fun r w' hr => ⟨hr.1, hr.2.dp k1⟩)
  rw [if_neg h5]
  by_cases h6 : e.c = 6
  · rw [if_pos h6]
    refine doOth B hb am K a ew tb f AL S w e.c e.b _ _ h hO hK haa h1 h8 h10 h2 h3 h7 (fun w1 k1 k2 => ?_)
    rw [h6]
    exact (one6 B hb am a K ew tb f AL S w1 k2 hO hK haa).mono (fun r w' hr => ⟨hr.1, hr.2.dp k1⟩)
  rw [if_neg h6, if_neg h7]
  by_cases h9 : e.c = 9
  · rw [if_pos h9]
    refine doOth B hb am K a ew tb f AL S w e.c e.b _ _ h hO hK haa h1 h8 h10 h2 h3 h7 (fun w1 k1 k2 => ?_)
    rw [h9]
    exact (one9 B hb am a K ew tb f AL S w1 k2 hO haa).mono (fun r w' hr => ⟨hr.1, hr.2.dp k1⟩)
  rw [if_neg h9]
  refine doOth B hb am K a ew tb f AL S w e.c e.b _ _ h hO hK haa h1 h8 h10 h2 h3 h7 (fun w1 k1 k2 => ?_)
  exact (one0 B hb am a ew tb f AL S w1 e.c k2 h4 h5 h6 h9).mono (fun r w' hr => ⟨hr.1, hr.2.dp k1⟩)
end
end Go.Proofs.Ytjnalkeopehlbaa
