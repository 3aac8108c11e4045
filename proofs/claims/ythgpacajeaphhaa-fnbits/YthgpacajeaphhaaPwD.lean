import Derived.Test.YthgpacajeaphhaaDgD
import Derived.Test.YthgpacajeaphhaaOf
import Derived.Test.YthgpacajeaphhaaCut
namespace Go.Proofs.Ythgpacajeaphhaa
open Go.RowKit
set_option linter.unusedVariables false
set_option linter.unusedSimpArgs false

theorem tabP (x : Nat) (hx : x < 7) : ∃ y : Int, (#[.int .i64 4095, .int .i64 4096, .int .i64 1099511627776, .int .i64 9223372036854775807, .int .i64 2584, .int .i64 2585, .int .i64 (-9223372036854775808)] : Array Value)[x]? = some (.int .i64 y) ∧ -9223372036854775808 ≤ y ∧ y ≤ 9223372036854775807 := by
  match x, hx with
  | 0, _ => exact ⟨_, rfl, by decide, by decide⟩
  | 1, _ => exact ⟨_, rfl, by decide, by decide⟩
  | 2, _ => exact ⟨_, rfl, by decide, by decide⟩
  | 3, _ => exact ⟨_, rfl, by decide, by decide⟩
  | 4, _ => exact ⟨_, rfl, by decide, by decide⟩
  | 5, _ => exact ⟨_, rfl, by decide, by decide⟩
  | 6, _ => exact ⟨_, rfl, by decide, by decide⟩
def DPw (w : World) (e : Ending) (w' : World) : Prop := ∃ p ad cp xs, ∃ k : Int, e = .returned (.tuple #[.agg #[.bool p, .slice ad xs.length cp], .int .i64 k]) ∧ -9223372036854775808 ≤ k ∧ k ≤ 9223372036854775807 ∧ Own w' w.heap.size (.slice ad xs.length cp) xs ∧ Below w.heap.size w w'
/-- The end of the draw: what is drawn is laid into the result's box. -/
theorem pw_end {w w5 : World} (p : Bool) {ad : Option Addr} {cp : Nat} {xs : List Int} {B : Nat} (hO : Own w5 B (.slice ad xs.length cp) xs) (hB : w.heap.size < B) (hb : Below w.heap.size w w5) :
    Own ((w5.setCell ⟨w.heap.size, 0, none⟩ (.bool p)).setCell ⟨w.heap.size, 1, none⟩ (.slice ad xs.length cp)) w.heap.size (.slice ad xs.length cp) xs ∧ Below w.heap.size w ((w5.setCell ⟨w.heap.size, 0, none⟩ (.bool p)).setCell ⟨w.heap.size, 1, none⟩ (.slice ad xs.length cp)) :=
  ⟨((hO.setBelow (a := ⟨w.heap.size, 0, none⟩) hB (.bool p)).setBelow (a := ⟨w.heap.size, 1, none⟩) hB (.slice ad xs.length cp)).mono (B' := w.heap.size) (by omega),
   (hb.setCell (show w.heap.size ≤ (⟨w.heap.size, 0, none⟩ : Addr).block from Nat.le_refl _) _).setCell (show w.heap.size ≤ (⟨w.heap.size, 1, none⟩ : Addr).block from Nat.le_refl _) _⟩

set_option maxRecDepth 100000 in
set_option maxHeartbeats 1000000 in
theorem drawPow_any (w : World) (a : Option Addr) (n c : Nat) (bs : List Int) (h : Src w a n c bs) :
    Calls Try.prog 24 #[.slice a n c] w fun e w' => DPw w e w' := by
  have hA0 : Below w.heap.size w (w.alloc (Obj.cells #[.bool false, .slice none 0 0] 26)) := (Below.refl _ w).alloc (Nat.le_refl _) _
  have hX0 := Rbx.new w
  have h0 := h.keep hA0
  go_enter Try.func24, Try.ntmps24
  go_wp2_with fail
  refine (open_any _ a n c bs h0).mono ?_
  rintro e w1 ⟨g, rfl, hg, hR, hB1⟩
  have hX1 := hX0.at hB1 hX0.lt
  have hs1 := hB1.size
  simp only [World.size_alloc] at hg hs1
  have b1 : Below w.heap.size w w1 := hA0.trans (hB1.mono (by simp))
  have hgl := hR.lt
  clear h0 hA0 hB1 hX0
  go_wp2_with fail
  refine (drawBig_any w1 g a n c bs hR).mono ?_
  rintro e w2 ⟨p, ad, cp, xs, rfl, hl, hO, hD⟩
  have hX2 := hX1.gb hD.gb (by omega)
  have b2 : Below w.heap.size w w2 := b1.trans (gb_to hD.gb (fun k hk => by cases hk; omega) (by omega))
  have hs2 := hD.gb.size
  have bX := Box.new w2 (.bool p) (.slice ad xs.length cp) 26
  have bal : Below w2.heap.size w2 (w2.alloc (.cells #[.bool p, .slice ad xs.length cp] 26)) := (Below.refl _ _).alloc (Nat.le_refl _) _
  have fX : ∀ o, (w2.alloc (.cells #[.bool p, .slice ad xs.length cp] 26)).frozen? ⟨w2.heap.size, o, none⟩ = false := fun o => World.frozen?_alloc_at _ _ _ _ rfl
  have hR3 := hD.rd.keep bal
  have hX3 := hX2.at bal hX2.lt
  have hO3 := hO.alloc (.cells #[.bool p, .slice ad xs.length cp] 26)
  have b3 := b2.trans (bal.mono (by omega))
  have hs3 : w2.heap.size < (w2.alloc (.cells #[.bool p, .slice ad xs.length cp] 26)).heap.size := by simp
  have D3 := hD.below bal
  clear hX2 hX1 hO b2 b1 bal hD hR3
  generalize hw3 : w2.alloc (.cells #[.bool p, .slice ad xs.length cp] 26) = w3 at bX fX D3 hX3 hO3 b3 hs3
  generalize hXX : w2.heap.size = X at bX fX hs3 hs2
  have HXX : Hid (w2.heap.size = X) := hXX
  go_upto_region 3 with fail
  clear hw3 hXX
  go_wp2_with fail
  refine (below_any w3 g a n c bs 40 (by omega) (by omega) D3.rd).mono ?_
  rintro e w4 ⟨x, rfl, hx, hD4⟩
  have hX4 := hX3.gb hD4.gb (by omega)
  have b4 : Below w.heap.size w w4 := b3.trans (gb_to hD4.gb (fun k hk => by cases hk; omega) (by omega))
  have bX4 := bX.but hD4.gb (by simp; omega)
  have fX4 : ∀ o, w4.frozen? ⟨X, o, none⟩ = false := fun o => gb_frozen hD4.gb (by omega) hs3 (fX o)
  have hO4 := hO3.drawn (by omega) hD4
  have hs4 := hD4.gb.size
  have D4 := D3.trans hD4
  clear hX3 b3 bX fX hO3 D3
  go_wp2_with fail
  refine (once_any w4 g a n c bs 4 (by omega) (by omega) hD4.rd).mono ?_
  rintro e w5 ⟨t, rfl, hD5⟩
  have hX5 := hX4.gb hD5.gb (by omega)
  have b5 : Below w.heap.size w w5 := b4.trans (gb_to hD5.gb (fun k hk => by cases hk; omega) (by omega))
  have bX5 := bX4.but hD5.gb (by simp; omega)
  have fX5 : ∀ o, w5.frozen? ⟨X, o, none⟩ = false := fun o => gb_frozen hD5.gb (by omega) (by omega) (fX4 o)
  have hO5 := hO4.drawn (by omega) hD5
  have hs5 := hD5.gb.size
  have D5 := D4.trans hD5
  clear hX4 b4 bX4 fX4 hO4 hD4 D4
  cases t
  · obtain ⟨lb, c0, c1, f0, f1⟩ := id hX5
    obtain ⟨-, y0, y1⟩ := id bX5
    have hE := pw_end (w := w) p hO5 (by omega) b5
    have hxz : (x : Int) < 40 := by omega
    generalize hXL : xs.length = XL at *
    go_wp2
    refine bodyPost_ret (v := .tuple #[.agg #[.bool p, .slice ad XL cp], .int .i64 ((x : Int) - 1)]) (by simp [results, Try.results24, go_sem, c0, c1, lb, f0, f1]) rfl ⟨p, ad, cp, xs, (x : Int) - 1, by rw [hXL], by omega, by omega, by rw [hXL]; exact hE.1, hE.2⟩
  · go_wp2_with fail
    refine (below_any w5 g a n c bs 7 (by omega) (by omega) hD5.rd).mono ?_
    rintro e w6 ⟨y, rfl, hy, hD6⟩
    have hX6 := hX5.gb hD6.gb (by omega)
    have b6 : Below w.heap.size w w6 := b5.trans (gb_to hD6.gb (fun k hk => by cases hk; omega) (by omega))
    have bX6 := bX5.but hD6.gb (by simp; omega)
    have fX6 : ∀ o, w6.frozen? ⟨X, o, none⟩ = false := fun o => gb_frozen hD6.gb (by omega) (by omega) (fX5 o)
    have hs6 := hD6.gb.size
    have D6 := D5.trans hD6
    clear hX5 b5 bX5 fX5 hO5 hD5 D5
    have hyz : (y : Int) < 7 := by omega
    go_wp2_with fail
    refine (bigOfS_any ((y : Int) - 3) w6 (by omega) (by omega)).mono ?_
    rintro e w7 ⟨a7, c7, rfl, hO7, hB7⟩
    have hX7 := hX6.at hB7 hX6.lt
    have b7 := b6.trans (hB7.mono b6.size)
    have bX7 := bX6.keep hB7
    have fX7 : ∀ o, w7.frozen? ⟨X, o, none⟩ = false := fun o => (hB7.frozen (p := ⟨X, o, none⟩) bX6.1).trans (fX6 o)
    have D7 := D6.below hB7
    have hs7 := hB7.size
    generalize lim ((y : Int) - 3).natAbs = L7 at *
    generalize decide ((y : Int) - 3 < 0) = P7 at *
    clear hX6 b6 bX6 fX6 hB7 hD6 D6
    have gX : w7.grownBy ((w7.setCell ⟨X, 0, none⟩ (.bool P7)).setCell ⟨X, 1, none⟩ (.slice a7 L7.length c7)) (some X) := gb_trans (gb_set _ _ _ _) (gb_set _ _ _ _)
    have hX8 := hX7.gb gX (by omega)
    have bX8 := Box.set bX7 (.bool P7) (.slice a7 L7.length c7)
    have D8 := D7.belowB hR (gb_to gX (fun k hk => by cases hk; omega) (by omega))
    have b8 := b7.trans (gb_to gX (fun k hk => by cases hk; omega) b7.size)
    have hO8 := (hO7.setBelow (a := ⟨X, 0, none⟩) (show X < w6.heap.size by omega) (.bool P7)).setBelow (a := ⟨X, 1, none⟩) (show X < w6.heap.size by omega) (.slice a7 L7.length c7)
    have hs8 := gX.size
    have f0 := fX7 0
    have f1 := fX7 1
    obtain ⟨lX, y0, y1⟩ := id bX7
    generalize hw8 : (w7.setCell ⟨X, 0, none⟩ (.bool P7)).setCell ⟨X, 1, none⟩ (.slice a7 L7.length c7) = w8 at hX8 bX8 D8 b8 hO8 hs8
    clear hX7 bX7 D7 b7 hO7 fX7 gX
    go_upto_region 6 with fail
    clear hw8 f0 f1 y0 y1 lX
    have al : Below w8.heap.size w8 (w8.alloc (.cells #[.int .i64 4095, .int .i64 4096, .int .i64 1099511627776, .int .i64 9223372036854775807, .int .i64 2584, .int .i64 2585, .int .i64 (-9223372036854775808)] 2)) := (Below.refl _ _).alloc (Nat.le_refl _) _
    have D9 := D8.below al
    have hX9 := hX8.at al hX8.lt
    have bX9 := bX8.keep al
    have b9 := b8.trans (al.mono b8.size)
    have hO9 := hO8.keep al
    have hs9 := al.size
    go_wp2_with fail
    refine (below_any _ g a n c bs 7 (by omega) (by omega) D9.rd).mono ?_
    rintro e w10 ⟨z, rfl, hz, hD10⟩
    obtain ⟨K, hK, hK0, hK1⟩ := tabP z hz
    have hcl := lit_cell D8.rd.lt hD10.gb hK
    have hzz : (z : Int) < 7 := by omega
    have hX10 := hX9.gb hD10.gb (by omega)
    have bX10 := bX9.but hD10.gb (by simp; omega)
    have b10 := b9.trans (gb_to hD10.gb (fun k hk => by cases hk; omega) b9.size)
    have hO10 := hO9.drawn (by omega) hD10
    have hE := pw_end (w := w) P7 hO10 (by omega) b10
    obtain ⟨lb, c0, c1, f0, f1⟩ := id hX10
    obtain ⟨-, y0, y1⟩ := id bX10
    clear hX8 bX8 D8 b8 hO8 hX9 bX9 b9 hO9 D9 al hX10 bX10 b10 hO10 hK hD10 hR
    generalize hXL : L7.length = XL at *
    go_wp2
    refine bodyPost_ret (v := .tuple #[.agg #[.bool P7, .slice a7 XL c7], .int .i64 K]) (by simp [results, Try.results24, go_sem, c0, c1, lb, f0, f1]) rfl ⟨P7, a7, c7, L7, K, by rw [hXL], hK0, hK1, by rw [hXL]; exact hE.1, hE.2⟩
end Go.Proofs.Ythgpacajeaphhaa
