import Derived.Test.YtebpaobjonlelaaDoorDrwT
namespace Go.Proofs.YtebpaobjonlelaaDoor
open Go.RowKit
set_option linter.unusedVariables false
set_option linter.unusedSimpArgs false

/-- Bytes that came in. -/
structure Src (w : World) (a : Option Addr) (n c : Nat) (bs : List Int) : Prop where
  nb : n ≤ 1048576
  lim : ∀ k, 0 ≤ bs.getD k 0 ∧ bs.getD k 0 < 256
  by_ : 0 < n → ∃ b off, a = some ⟨b, off, none⟩ ∧ b < w.heap.size ∧ ∀ k, k < n → w.cell? ⟨b, off + k, none⟩ = some (.int .u8 (bs.getD k 0))
theorem Src.keep {w w' : World} {a : Option Addr} {n c : Nat} {bs : List Int} (h : Src w a n c bs) (hb : Below w.heap.size w w') : Src w' a n c bs :=
  ⟨h.nb, h.lim, fun h0 => by
    obtain ⟨b, off, e, hlt, hcs⟩ := h.by_ h0
    exact ⟨b, off, e, Nat.lt_of_lt_of_le hlt hb.size, fun k hk => (hb.cell (p := ⟨b, off + k, none⟩) hlt).trans (hcs k hk)⟩⟩
set_option maxRecDepth 100000 in
theorem open_any (w : World) (a : Option Addr) (n c : Nat) (bs : List Int) (h : Src w a n c bs) :
    Calls Tryd.prog 12 #[.slice a n c] w fun e w' => ∃ g, e = .returned (.pointer (some ⟨g, 0, none⟩)) ∧ w.heap.size ≤ g ∧ Rdr w' g a n c bs ∧ Below w.heap.size w w' := by
  go_enter Tryd.func12, Tryd.ntmps12
  go_wp2
  go_ret
  refine ⟨w.heap.size, rfl, Nat.le_refl _, ⟨by simp, ?_, ⟨0, by omega, ?_⟩, World.frozen?_alloc_at _ _ _ _ (by simp), h.nb, h.lim, fun h0 => ?_⟩, (Below.refl _ _).alloc (Nat.le_refl _) _⟩
  · rw [World.cell?_alloc_at _ _ w.heap.size 0 rfl]; rfl
  · rw [World.cell?_alloc_at _ _ w.heap.size 1 rfl]; rfl
  · obtain ⟨b, off, e, hlt, hcs⟩ := h.by_ h0
    exact ⟨b, off, e, by omega, by simp; omega, fun k hk => (((Below.refl w.heap.size w).alloc (Nat.le_refl _) _).cell (p := ⟨b, off + k, none⟩) hlt).trans (hcs k hk)⟩
set_option maxRecDepth 100000 in
theorem drawTextLen_any (w : World) (a : Option Addr) (n c : Nat) (bs : List Int) (h : Src w a n c bs) :
    Calls Tryd.prog 5 #[.slice a n c] w fun e w' => ∃ s : ByteArray, e = .returned (.string s) ∧ s.size ≤ 20000 ∧ Below w.heap.size w w' := by
  have hO := open_any w a n c bs h
  go_enter Tryd.func5, Tryd.ntmps5
  go_wp2_with fail
  refine hO.mono ?_
  rintro e w1 ⟨g, rfl, hg, hR, hB⟩
  have hT := drawText_any w1 g a n c bs hR
  go_wp2_with fail
  refine hT.mono ?_
  rintro e w2 ⟨s, rfl, hs, hD⟩
  have hB2 := hB.trans (gb_to hD.gb (fun k hk => by cases hk; exact hg) hB.size)
  clear hT hO
  go_wp2
  go_ret
  exact ⟨s, rfl, hs, hB2⟩
theorem tab3 (x : Nat) (hx : x < 3) : ∃ y : Int, (#[.int .i64 (-1), .int .i64 16384, .int .i64 16385] : Array Value)[x]? = some (.int .i64 y) ∧ -1 ≤ y ∧ y ≤ 16385 := by
  match x, hx with
  | 0, _ => exact ⟨_, rfl, by decide, by decide⟩
  | 1, _ => exact ⟨_, rfl, by decide, by decide⟩
  | 2, _ => exact ⟨_, rfl, by decide, by decide⟩
/-- A bound's box that is still as it was made. -/
structure Bx (w : World) (L : Nat) : Prop where
  lt : L < w.heap.size
  c0 : w.cell? ⟨L, 0, none⟩ = some (.bool false)
  c1 : w.cell? ⟨L, 1, none⟩ = some (.int .i64 0)
  f0 : w.frozen? ⟨L, 0, none⟩ = false
  f1 : w.frozen? ⟨L, 1, none⟩ = false
theorem Bx.new (w : World) : Bx (w.alloc (Obj.cells #[.bool false, .int .i64 0] 28)) w.heap.size :=
  ⟨by simp, by rw [World.cell?_alloc_at _ _ w.heap.size 0 rfl]; rfl, by rw [World.cell?_alloc_at _ _ w.heap.size 1 rfl]; rfl, World.frozen?_alloc_at _ _ _ _ (by simp), World.frozen?_alloc_at _ _ _ _ (by simp)⟩
theorem Bx.gb {w w' : World} {L g : Nat} (h : Bx w L) (hgb : w.grownBy w' (some g)) (ne : L ≠ g) : Bx w' L :=
  ⟨Nat.lt_of_lt_of_le h.lt hgb.size, gb_cell hgb ne h.lt h.c0, gb_cell hgb ne h.lt h.c1, gb_frozen hgb ne h.lt h.f0, gb_frozen hgb ne h.lt h.f1⟩
theorem Bx.keep {w w' : World} {L : Nat} (h : Bx w L) (hb : Below w.heap.size w w') : Bx w' L :=
  ⟨Nat.lt_of_lt_of_le h.lt hb.size, (hb.cell (p := ⟨L, 0, none⟩) h.lt).trans h.c0, (hb.cell (p := ⟨L, 1, none⟩) h.lt).trans h.c1, (hb.frozen (p := ⟨L, 0, none⟩) h.lt).trans h.f0, (hb.frozen (p := ⟨L, 1, none⟩) h.lt).trans h.f1⟩
set_option maxHeartbeats 2000000 in
set_option maxRecDepth 100000 in
theorem drawSliceList_any (w : World) (a : Option Addr) (n c : Nat) (bs : List Int) (h : Src w a n c bs) :
    Calls Tryd.prog 9 #[.slice a n c] w fun e w' => ∃ (m : Int) (h1 : Bool) (x1 : Int) (h2 : Bool) (x2 : Int) (h3 : Bool) (x3 : Int), e = .returned (.tuple #[.int .i64 m, .agg #[.bool h1, .int .i64 x1], .agg #[.bool h2, .int .i64 x2], .agg #[.bool h3, .int .i64 x3]]) ∧ (-1 ≤ m ∧ m ≤ 16385) ∧ (-9223372036854775808 ≤ x1 ∧ x1 ≤ 9223372036854775807) ∧ (-9223372036854775808 ≤ x2 ∧ x2 ≤ 9223372036854775807) ∧ (-9223372036854775808 ≤ x3 ∧ x3 ≤ 9223372036854775807) ∧ Below w.heap.size w w' := by
  have hA1 := (Below.refl w.heap.size w).alloc (Nat.le_refl _) (Obj.cells #[.bool false, .int .i64 0] 28)
  have hA2 := hA1.alloc hA1.size (Obj.cells #[.bool false, .int .i64 0] 28)
  have hA3 := hA2.alloc hA2.size (Obj.cells #[.bool false, .int .i64 0] 28)
  have hO := open_any _ a n c bs (h.keep hA3)
  have B1 := ((Bx.new w).keep ((Below.refl _ _).alloc (Nat.le_refl _) (Obj.cells #[.bool false, .int .i64 0] 28))).keep ((Below.refl _ _).alloc (Nat.le_refl _) (Obj.cells #[.bool false, .int .i64 0] 28))
  have B2 := (Bx.new (w.alloc (Obj.cells #[.bool false, .int .i64 0] 28))).keep ((Below.refl _ _).alloc (Nat.le_refl _) (Obj.cells #[.bool false, .int .i64 0] 28))
  have B3 := Bx.new ((w.alloc (Obj.cells #[.bool false, .int .i64 0] 28)).alloc (Obj.cells #[.bool false, .int .i64 0] 28))
  simp only [World.size_alloc] at B2 B3
  go_enter Tryd.func9, Tryd.ntmps9
  go_wp2_with fail
  refine hO.mono ?_
  rintro e wg ⟨g, rfl, hg, hR, hBg⟩
  have hWg := hA3.trans (hBg.mono hA3.size)
  replace B1 := B1.keep hBg
  replace B2 := B2.keep hBg
  replace B3 := B3.keep hBg
  simp only [World.size_alloc] at hg
  have n1 : w.heap.size ≠ g := by omega
  have n2 : w.heap.size + 1 ≠ g := by omega
  have n3 : w.heap.size + 1 + 1 ≠ g := by omega
  have hg2 : w.heap.size ≤ g := by omega
  clear hO hA1 hA2 hA3 hBg h
  have hB14 := fun W h => below_any W g a n c bs 14 (by omega) (by omega) h
  have hO15 := fun W h => once_any W g a n c bs 15 (by omega) (by omega) h
  have hB3 := fun W h => below_any W g a n c bs 3 (by omega) (by omega) h
  have hBd := fun W h => drawBound_any W g a n c bs h
  go_wp2_with fail
  refine (hB14 _ hR).mono ?_
  rintro e w2 ⟨m, rfl, hm, hD2⟩
  clear hB14
  go_wp2_with fail
  refine (hO15 _ hD2.rd).mono ?_
  rintro e w3 ⟨t, rfl, hD3⟩
  have hE3 := hD2.trans hD3
  clear hO15 hD2 hD3
  cases t with
  | true =>
    go_wp2_with fail
    refine (hB3 _ (hE3.rd.keep ((Below.refl _ _).alloc (Nat.le_refl _) _))).mono ?_
    rintro e w4 ⟨x, rfl, hx, hD4⟩
    obtain ⟨y, hy, hy0, hy1⟩ := tab3 x hx
    have hcl := lit_cell hE3.rd.lt hD4.gb hy
    have hxz : (x : Int) < 3 := by omega
    have hE4 := (hE3.below ((Below.refl _ _).alloc (Nat.le_refl _) (Obj.cells #[.int .i64 (-1), .int .i64 16384, .int .i64 16385] 2))).trans hD4
    clear hy hB3 hD4 hE3
    go_wp2_with fail
    refine (hBd _ hE4.rd).mono ?_
    rintro e w5 ⟨h1, x1, rfl, p1, q1, hD5⟩
    have hE5 := hE4.trans hD5
    go_wp2_with fail
    refine (hBd _ hE5.rd).mono ?_
    rintro e w6 ⟨h2, x2, rfl, p2, q2, hD6⟩
    have hE6 := hE5.trans hD6
    go_wp2_with fail
    refine (hBd _ hE6.rd).mono ?_
    rintro e w7 ⟨h3, x3, rfl, p3, q3, hD7⟩
    have hE7 := hE6.trans hD7
    obtain ⟨l1, b10, b11, f10, f11⟩ := B1.gb hE7.gb n1
    obtain ⟨l2, b20, b21, f20, f21⟩ := B2.gb hE7.gb n2
    obtain ⟨l3, b30, b31, f30, f31⟩ := B3.gb hE7.gb n3
    have hW7 := hWg.trans (gb_to hE7.gb (fun k hk => by cases hk; exact hg2) hWg.size)
    clear hBd hD5 hD6 hD7 hE5 hE6
    go_wp2
    refine bodyPost_ret (v := .tuple #[.int .i64 y, .agg #[.bool h1, .int .i64 x1], .agg #[.bool h2, .int .i64 x2], .agg #[.bool h3, .int .i64 x3]]) (by simp [results, Tryd.results9, go_sem, b10, b11, b20, b21, b30, b31, l1, l2, l3, f10, f11, f20, f21, f30, f31]) rfl ?_
    exact ⟨_, h1, x1, h2, x2, h3, x3, rfl, ⟨hy0, hy1⟩, ⟨p1, q1⟩, ⟨p2, q2⟩, ⟨p3, q3⟩, (((((hW7.setCell (by simp) _).setCell (by simp) _).setCell (by simp; try omega) _).setCell (by simp; try omega) _).setCell (by simp; try omega) _).setCell (by simp; try omega) _⟩
  | false =>
    clear hB3
    go_wp2_with fail
    refine (hBd _ hE3.rd).mono ?_
    rintro e w5 ⟨h1, x1, rfl, p1, q1, hD5⟩
    have hE5 := hE3.trans hD5
    go_wp2_with fail
    refine (hBd _ hE5.rd).mono ?_
    rintro e w6 ⟨h2, x2, rfl, p2, q2, hD6⟩
    have hE6 := hE5.trans hD6
    go_wp2_with fail
    refine (hBd _ hE6.rd).mono ?_
    rintro e w7 ⟨h3, x3, rfl, p3, q3, hD7⟩
    have hE7 := hE6.trans hD7
    obtain ⟨l1, b10, b11, f10, f11⟩ := B1.gb hE7.gb n1
    obtain ⟨l2, b20, b21, f20, f21⟩ := B2.gb hE7.gb n2
    obtain ⟨l3, b30, b31, f30, f31⟩ := B3.gb hE7.gb n3
    have hW7 := hWg.trans (gb_to hE7.gb (fun k hk => by cases hk; exact hg2) hWg.size)
    clear hBd hD5 hD6 hD7 hE5 hE6
    go_wp2
    refine bodyPost_ret (v := .tuple #[.int .i64 m, .agg #[.bool h1, .int .i64 x1], .agg #[.bool h2, .int .i64 x2], .agg #[.bool h3, .int .i64 x3]]) (by simp [results, Tryd.results9, go_sem, b10, b11, b20, b21, b30, b31, l1, l2, l3, f10, f11, f20, f21, f30, f31]) rfl ?_
    exact ⟨_, h1, x1, h2, x2, h3, x3, rfl, ⟨by omega, by omega⟩, ⟨p1, q1⟩, ⟨p2, q2⟩, ⟨p3, q3⟩, (((((hW7.setCell (by simp) _).setCell (by simp) _).setCell (by simp; try omega) _).setCell (by simp; try omega) _).setCell (by simp; try omega) _).setCell (by simp; try omega) _⟩
end Go.Proofs.YtebpaobjonlelaaDoor
