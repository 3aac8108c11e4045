import Derived.Test.YthgpacajeaphhaaTwA
import Derived.Laws.MakeOwn
import Derived.Deep.RegionHeld3
namespace Go.Proofs.Ythgpacajeaphhaa
open Go.RowKit
set_option linter.unusedVariables false
set_option linter.unusedSimpArgs false

def zrow : Array Value := madeCells (Value.cells (.int .u32 0)) 128
theorem make128 (w : World) : (Instr.makeSlice 24 (.int .i64 128) (.int .i64 128)).run Try.prog w = .ok (.slice (some ⟨w.heap.size, 0, none⟩) 128 128) (w.alloc (.cells zrow 49)) := by
  obtain ⟨i0, hi, hz0, hz1, hz2⟩ := info_parts Try.info49
  have h := run_make (P := Try.prog) w 24 49 i0 (.int .u32 0) Try.underlying24 hi hz0 .i64 .i64 128 128 (by omega) (by omega) (by rw [hz2]; omega) (by omega)
  rw [hz1] at h
  exact h
theorem own128 (w : World) : Own (w.alloc (.cells zrow 49)) w.heap.size (.slice (some ⟨w.heap.size, 0, none⟩) 128 128) (List.replicate 128 0) := by
  refine Own.made (by omega) ?_
  exact World.ownsRow_lit w _ 128 (Nat.le_refl _) (by decide) (size_madeCells _ _)
set_option maxRecDepth 100000 in
set_option maxHeartbeats 4000000 in
theorem drawDm_any (w : World) (a : Option Addr) (n c : Nat) (bs : List Int) (h : Src w a n c bs) :
    Calls Try.prog 16 #[.slice a n c] w fun e w' => DTwo w e w' := by
  have hA0 : Below w.heap.size w ((w.alloc (Obj.cells #[.bool false, .slice none 0 0] 26)).alloc (Obj.cells #[.bool false, .slice none 0 0] 26)) := ((Below.refl _ w).alloc (Nat.le_refl _) _).alloc (by simp) _
  have X0 := (Rbx.new w).at ((Below.refl _ _).alloc (Nat.le_refl _) (Obj.cells #[.bool false, .slice none 0 0] 26)) (show w.heap.size < _ by simp)
  have Y0 := Rbx.new (w.alloc (Obj.cells #[.bool false, .slice none 0 0] 26))
  have h0 := h.keep hA0
  have s0 : ((w.alloc (Obj.cells #[.bool false, .slice none 0 0] 26)).alloc (Obj.cells #[.bool false, .slice none 0 0] 26)).heap.size = w.heap.size + 2 := by simp
  simp only [World.size_alloc] at Y0
  generalize hW0 : (w.alloc (Obj.cells #[.bool false, .slice none 0 0] 26)).alloc (Obj.cells #[.bool false, .slice none 0 0] 26) = W0 at X0 Y0 h0 s0 hA0
  go_enter Try.func16, Try.ntmps16
  go_upto_region 1 with fail
  clear hW0
  go_wp2_with fail
  refine (open_any W0 a n c bs h0).mono ?_
  rintro e w1 ⟨g, rfl, hg, hR, hB1⟩
  have X1 := X0.at hB1 X0.lt
  have Y1 := Y0.at hB1 Y0.lt
  have V1 := hA0.trans (hB1.mono (by omega))
  have t1 := hB1.size
  have hgl := hR.lt
  clear X0 Y0 hA0 hB1 h0 h
  go_wp2_with fail
  refine (drawTwo_any w1 g a n c bs hR).mono ?_
  rintro e w2 ⟨p, ad, cp, xs, q, ad', cp', ys, rfl, hx, hy, hD⟩
  have t2 := hD.gb.size
  have al : Below w2.heap.size w2 ((w2.alloc (.cells #[.bool p, .slice ad xs.length cp] 26)).alloc (.cells #[.bool q, .slice ad' ys.length cp'] 26)) := ((Below.refl _ _).alloc (Nat.le_refl _) _).alloc (by simp) _
  have bA := (Box.new w2 (.bool p) (.slice ad xs.length cp) 26).alloc (.cells #[.bool q, .slice ad' ys.length cp'] 26)
  have fA := (Unf.new w2 #[.bool p, .slice ad xs.length cp] 26).keep ((Below.refl _ _).alloc (Nat.le_refl _) (.cells #[.bool q, .slice ad' ys.length cp'] 26))
  have bB := Box.new (w2.alloc (.cells #[.bool p, .slice ad xs.length cp] 26)) (.bool q) (.slice ad' ys.length cp') 26
  have fB := Unf.new (w2.alloc (.cells #[.bool p, .slice ad xs.length cp] 26)) #[.bool q, .slice ad' ys.length cp'] 26
  simp only [World.size_alloc] at bB fB
  have X3 := (X1.gb hD.gb (by omega)).at al (X1.gb hD.gb (by omega)).lt
  have Y3 := (Y1.gb hD.gb (by omega)).at al (Y1.gb hD.gb (by omega)).lt
  have D3 := hD.below al
  have V3 := (V1.trans (gb_to hD.gb (fun k hk => by cases hk; omega) (by omega))).trans (al.mono (by omega))
  have O3 := hx.keep al
  have P3 := hy.keep al
  have t3 : ((w2.alloc (.cells #[.bool p, .slice ad xs.length cp] 26)).alloc (.cells #[.bool q, .slice ad' ys.length cp'] 26)).heap.size = w2.heap.size + 2 := by simp
  clear X1 Y1 V1 hx hy hD al
  generalize hw3 : (w2.alloc (.cells #[.bool p, .slice ad xs.length cp] 26)).alloc (.cells #[.bool q, .slice ad' ys.length cp'] 26) = w3 at bA fA bB fB X3 Y3 D3 V3 O3 P3 t3
  generalize hXA : w2.heap.size = XA at bA fA bB fB t2 t3
  go_upto_region 3 with fail
  clear hw3 hXA
  obtain ⟨XB, hXB⟩ : ∃ XB, XA + 1 = XB := ⟨_, rfl⟩
  rw [hXB] at bB fB ⊢
  go_wp2_with fail
  refine (once_any w3 g a n c bs 12 (by omega) (by omega) D3.rd).mono ?_
  rintro e w4 ⟨t, rfl, hD⟩
  have bA4 := bA.but hD.gb (by simp; omega)
  have fA4 := fA.but' hD.gb (by simp; omega)
  have bB4 := bB.but hD.gb (by simp; omega)
  have fB4 := fB.but' hD.gb (by simp; omega)
  have X4 := X3.gb hD.gb (by omega)
  have Y4 := Y3.gb hD.gb (by omega)
  have D4 := D3.trans hD
  have V4 := V3.trans (gb_to hD.gb (fun k hk => by cases hk; omega) (by omega))
  have O4 := O3.drawn (by omega) hD
  have P4 := P3.drawn (by omega) hD
  have t4 := hD.gb.size
  clear bA fA bB fB X3 Y3 D3 V3 O3 P3 hD
  cases t
  · go_upto_region 10 with fail
    have bA6 := bA4
    have bB6 := bB4
    have X6 := X4
    have Y6 := Y4
    have V6 := V4
    have O6 := O4.mono (B' := w.heap.size + 2) (by omega)
    have P6 := P4.mono (B' := w.heap.size + 2) (by omega)
    clear X4 Y4 D4 V4 O4 P4 bA4 bB4 fA4 fB4
    generalize hp : p = p6 at *
    generalize had : ad = ad6 at *
    generalize hcp : cp = cp6 at *
    generalize hxx : xs = xz at *
    generalize hq : q = q6 at *
    generalize ha : ad' = a6 at *
    generalize hc : cp' = c6 at *
    generalize hz : ys = zs at *

    obtain ⟨lA, k0, k1⟩ := id bA6
    obtain ⟨lB, k2, k3⟩ := id bB6
    obtain ⟨lX, c0, c1, f0, f1⟩ := id X6
    obtain ⟨lY, c2, c3, f2, f3⟩ := id Y6
    have hE := fun u0 u1 u2 u3 => dtwo_end (p := p6) (q := q6) u0 u1 u2 u3 V6 O6 P6
    have hE2 := fun u0 u1 u2 u3 => dtwo_end (p := p6) (q := q6) u0 u1 u2 u3 V6.drew O6.drew P6.drew
    have n1 : ¬ (w.heap.size + 1 = w.heap.size) := by omega
    have n2 : ¬ (w.heap.size = w.heap.size + 1) := by omega
    have n3 : ¬ (XA = w.heap.size) := by omega
    have n4 : ¬ (XB = w.heap.size) := by omega
    have n5 : ¬ (XA = w.heap.size + 1) := by omega
    have n6 : ¬ (XB = w.heap.size + 1) := by omega
    have n7 : ¬ (w.heap.size = XA) := by omega
    have n8 : ¬ (w.heap.size = XB) := by omega
    have n9 : ¬ (w.heap.size + 1 = XA) := by omega
    have n10 : ¬ (w.heap.size + 1 = XB) := by omega
    clear bA6 bB6 X6 Y6 V6 O6 P6
    generalize hXL : xz.length = XL at *
    generalize hZL : zs.length = ZL at *
    go_region_held3 (fun W => W.cell? ⟨XA, 0, none⟩ = some (.bool p6) ∧ W.cell? ⟨XA, 1, none⟩ = some (.slice ad6 XL cp6) ∧ W.cell? ⟨XB, 0, none⟩ = some (.bool q6) ∧ W.cell? ⟨XB, 1, none⟩ = some (.slice a6 ZL c6)) (go_keep) (fail)
    all_goals go_wp2
    all_goals refine bodyPost_ret (v := .tuple #[.agg #[.bool p6, .slice ad6 XL cp6], .agg #[.bool q6, .slice a6 ZL c6]]) (by simp [results, Try.results16, go_sem, c0, c1, c2, c3, lX, lY, f0, f1, f2, f3, n1, n2]) rfl ?_
    all_goals first | exact hE _ _ _ _ | exact hE2 _ _ _ _
  · have hmk := fun W => make128 W
    have HO := fun (W : World) (h : Rdr W g a n c bs) => once_any W g a n c bs 2 (by omega) (by omega) h
    have D4d := D4.below (Below.refl _ _).drew
    have D4a := (D4.below ((Below.refl _ _).alloc (Nat.le_refl _) (.cells zrow 49))).below (Below.refl _ _).drew
    obtain ⟨lA, k0, k1⟩ := id bA4
    go_upto_region 4 with fail
    have sd : w4.drew.heap.size = w4.heap.size := rfl
    have sa : (w4.alloc (.cells zrow 49)).drew.heap.size = w4.heap.size + 1 := by simp [World.drew]
    have bAd := bA4.drew
    have bAa := (bA4.alloc (.cells zrow 49)).drew
    have fAd := fA4.drew
    have fAa := (fA4.keep ((Below.refl _ _).alloc (Nat.le_refl _) (.cells zrow 49))).drew
    go_region_held3 (fun W => True) (trivial) (first | (go_at_call 35; refine (HO _ (by first | with_reducible exact D4d.rd | with_reducible exact D4a.rd)).mono ?_; rintro e v5 ⟨p6, rfl, hD⟩; have t5 := hD.gb.size; have bA5 : Box v5 XA (.bool p) (.slice ad xs.length cp) := (by first | exact bAd.but hD.gb (by simp; omega) | exact bAa.but hD.gb (by simp; omega)); have fA5 : Unf v5 XA := (by first | exact fAd.but' hD.gb (by simp; omega) | exact fAa.but' hD.gb (by simp; omega)); obtain ⟨l5, j0, j1⟩ := id bA5; have f0 := fA5.2 0; have f1 := fA5.2 1; have n5 : ¬ (XA = v5.heap.size) := (by omega); have n6 : ¬ (v5.heap.size = XA) := (by omega)))
    · have gX : v5.grownBy ((v5.setCell ⟨XA, 0, none⟩ (.bool p6)).setCell ⟨XA, 1, none⟩ (.slice (some ⟨v5.heap.size, 0, none⟩) 128 128)) (some XA) := gb_trans (gb_set _ _ _ _) (gb_set _ _ _ _)
      have bA6 := (Box.set bA5 (.bool p6) (.slice (some ⟨v5.heap.size, 0, none⟩) 128 128)).alloc (.cells zrow 49)
      have bB6 := ((bB4.drew.but hD.gb (by simp; omega)).but gX (by simp; omega)).alloc (.cells zrow 49)
      have fB6 := ((fB4.drew.but' hD.gb (by simp; omega)).but' gX (by simp; omega)).keep ((Below.refl _ _).alloc (Nat.le_refl _) (.cells zrow 49))
      have X6 := (((X4.at (Below.refl _ _).drew X4.lt).gb hD.gb (by omega)).gb gX (by omega)).at ((Below.refl _ _).alloc (Nat.le_refl _) (.cells zrow 49)) (((X4.at (Below.refl _ _).drew X4.lt).gb hD.gb (by omega)).gb gX (by omega)).lt
      have Y6 := (((Y4.at (Below.refl _ _).drew Y4.lt).gb hD.gb (by omega)).gb gX (by omega)).at ((Below.refl _ _).alloc (Nat.le_refl _) (.cells zrow 49)) (((Y4.at (Below.refl _ _).drew Y4.lt).gb hD.gb (by omega)).gb gX (by omega)).lt
      have D6 := ((D4d.trans hD).belowB hR (gb_to gX (fun k hk => by cases hk; omega) (by omega))).below ((Below.refl _ _).alloc (Nat.le_refl _) (.cells zrow 49))
      have V6 := ((V4.drew.trans (gb_to hD.gb (fun k hk => by cases hk; omega) (by omega))).trans (gb_to gX (fun k hk => by cases hk; omega) (by omega))).alloc (by have := gX.size; omega) (.cells zrow 49)
      have Z6 := (own128 ((v5.setCell ⟨XA, 0, none⟩ (.bool p6)).setCell ⟨XA, 1, none⟩ (.slice (some ⟨v5.heap.size, 0, none⟩) 128 128))).mono (B' := w4.heap.size) (by have := gX.size; omega)
      simp only [World.size_setCell] at Z6
      have hG : w4.heap.size ≤ v5.heap.size := by omega
      generalize hw6 : ((v5.setCell ⟨XA, 0, none⟩ (.bool p6)).setCell ⟨XA, 1, none⟩ (.slice (some ⟨v5.heap.size, 0, none⟩) 128 128)).alloc (.cells zrow 49) = w6 at bA6 bB6 fB6 X6 Y6 D6 V6 Z6
      generalize hGG : v5.heap.size = G at bA6 Z6 hG
      have t6 := D6.gb.size
      clear bAd bAa fAd fAa bA5 fA5 l5 j0 j1 f0 f1 n5 n6 gX hD D4d D4a D4 V4 X4 Y4 bA4 bB4 fA4 fB4 O4 P4 lA k0 k1 HO
      go_upto_region 5 with fail
      clear hw6 hGG hmk
      have hB4 : w.heap.size + 2 ≤ w4.heap.size := by omega
      have hGA : ¬ (G = XA) := by omega
      have hAG : ¬ (XA = G) := by omega
      go_wp2_with fail
      go_loopw [7] (fun i wr => ∃ (k : Nat) (L : List Int), k ≤ 128 ∧ i = .int .i64 k ∧ L.length = 128 ∧ Own wr w4.heap.size (.slice (some ⟨G, 0, none⟩) 128 128) L ∧ w6.grownBy wr (some G)) (fun i _ => 128 - (RowKit.intOf i).toNat)
      case atStart => exact ⟨0, _, by omega, rfl, by simp, Z6, World.grownBy.refl _ _⟩
      case round =>
        obtain ⟨k, L, hk, rfl, hL, hO, hg⟩ := hrel
        have bAr := bA6.but hg (by simp; omega)
        obtain ⟨lA, k0, k1⟩ := id bAr
        by_cases hlt : k < 128
        · have hkz : (k : Int) < 128 := by omega
          have hcell := hO.cell k (by omega)
          have hfz := hO.frozen k
          have hst := hO.store k (z := 4294967295) (by omega) (by omega)
          generalize L.getD k 0 = zz at hcell
          go_wp2_with fail
          go_roundw
          case rel => exact ⟨k + 1, _, by omega, by go_num, by simpa using hL, hst, gb_trans hg (gb_set _ _ _ _)⟩
          case measure => simp [RowKit.intOf]; omega
        · obtain rfl : k = 128 := by omega
          have X7 := X6.gb hg (by omega)
          have Y7 := Y6.gb hg (by omega)
          have bB7 := bB6.but hg (by simp; omega)
          have fB7 := fB6.but' hg (by simp; omega)
          have D7 := D6.belowB hR (gb_to hg (fun k hk => by cases hk; omega) (by omega))
          have V7 := V6.trans (gb_to hg (fun k hk => by cases hk; omega) (by have := V6.size; omega))
          have t7 := hg.size
          clear X6 Y6 bB6 fB6 D6 V6 Z6 hg bA6
          go_wp2_with fail
          refine (below_any _ g a n c bs 5 (by omega) (by omega) D7.rd).mono ?_
          rintro e w8 ⟨x, rfl, hx5, hD⟩
          have hx5z : (x : Int) < 5 := by omega
          have X8 := X7.gb hD.gb (by omega)
          have Y8 := Y7.gb hD.gb (by omega)
          have bA8 := bAr.but hD.gb (by simp; omega)
          have bB8 := bB7.but hD.gb (by simp; omega)
          have fB8 := fB7.but' hD.gb (by simp; omega)
          have V8 := V7.trans (gb_to hD.gb (fun k hk => by cases hk; omega) (by omega))
          have Z8 := hO.drawn (by omega) hD
          have t8 := hD.gb.size
          have lt8 := bB8.1
          clear X7 Y7 bAr bB7 fB7 D7 V7 hO hD lA k0 k1
          go_wp2_with fail
          refine (bigOfS_any ((x : Int) - 2) w8 (by omega) (by omega)).mono ?_
          rintro e v9 ⟨a6, c6, rfl, hO6, hB9⟩
          generalize lim ((x : Int) - 2).natAbs = zs at *
          generalize decide ((x : Int) - 2 < 0) = q6 at *
          have t9 := hB9.size
          have b6 : Box v9 XB (.bool q) (.slice ad' ys.length cp') := bB8.keep hB9
          have f6 := (fB8.keep hB9).2
          have gX : v9.grownBy ((v9.setCell ⟨XB, 0, none⟩ (.bool q6)).setCell ⟨XB, 1, none⟩ (.slice a6 zs.length c6)) (some XB) := gb_trans (gb_set _ _ _ _) (gb_set _ _ _ _)
          have bB6 := Box.set b6 (.bool q6) (.slice a6 zs.length c6)
          have bA6 := (bA8.keep hB9).but gX (by simp; omega)
          have X6 := (X8.at hB9 X8.lt).gb gX (by omega)
          have Y6 := (Y8.at hB9 Y8.lt).gb gX (by omega)
          have V6 := (V8.trans (hB9.mono V8.size)).trans (gb_to gX (fun k hk => by cases hk; omega) (by omega))
          have O6 := ((Z8.keep hB9).but gX (own_ne_gt ((Z8.keep hB9).lt) (by omega))).mono (B' := w.heap.size + 2) (by omega)
          have P6 := (hO6.but gX (own_ne_gt (hO6.lt) (by omega))).mono (B' := w.heap.size + 2) (by omega)
          obtain ⟨lB, j0, j1⟩ := id b6
          have g0 := f6 0
          have g1 := f6 1
          generalize hw7 : (v9.setCell ⟨XB, 0, none⟩ (.bool q6)).setCell ⟨XB, 1, none⟩ (.slice a6 zs.length c6) = w10 at bB6 bA6 X6 Y6 V6 O6 P6
          clear X8 Y8 V8 Z8 bA8 bB8 fB8 gX hO6 hB9 b6 f6
          obtain ⟨zl, hzl⟩ : ∃ zl, zs.length = zl := ⟨_, rfl⟩
          have HZL : Hid (zs.length = zl) := hzl
          rw [hzl] at hw7 bB6 P6 ⊢
          clear hzl
          go_upto_region 10 with fail
          clear hw7 j0 j1 g0 g1 lB
          rw [← HZL.out] at bB6 P6 ⊢
          clear HZL

          obtain ⟨lA, k0, k1⟩ := id bA6
          obtain ⟨lB, k2, k3⟩ := id bB6
          obtain ⟨lX, c0, c1, f0, f1⟩ := id X6
          obtain ⟨lY, c2, c3, f2, f3⟩ := id Y6
          have O6' : Own w10 (w.heap.size + 2) (.slice (some ⟨G, 0, none⟩) L.length 128) L := by rw [hL]; exact O6
          have hE := fun u0 u1 u2 u3 => dtwo_end (p := p6) (q := q6) u0 u1 u2 u3 V6 O6' P6
          have hE2 := fun u0 u1 u2 u3 => dtwo_end (p := p6) (q := q6) u0 u1 u2 u3 V6.drew O6'.drew P6.drew
          rw [hL] at O6'
          simp only [hL] at hE hE2
          have n1 : ¬ (w.heap.size + 1 = w.heap.size) := by omega
          have n2 : ¬ (w.heap.size = w.heap.size + 1) := by omega
          have n3 : ¬ (XA = w.heap.size) := by omega
          have n4 : ¬ (XB = w.heap.size) := by omega
          have n5 : ¬ (XA = w.heap.size + 1) := by omega
          have n6 : ¬ (XB = w.heap.size + 1) := by omega
          have n7 : ¬ (w.heap.size = XA) := by omega
          have n8 : ¬ (w.heap.size = XB) := by omega
          have n9 : ¬ (w.heap.size + 1 = XA) := by omega
          have n10 : ¬ (w.heap.size + 1 = XB) := by omega
          clear bA6 bB6 X6 Y6 V6 O6 P6
          skip
          generalize hZL : zs.length = ZL at *
          go_region_held3 (fun W => W.cell? ⟨XA, 0, none⟩ = some (.bool p6) ∧ W.cell? ⟨XA, 1, none⟩ = some (.slice (some ⟨G, 0, none⟩) 128 128) ∧ W.cell? ⟨XB, 0, none⟩ = some (.bool q6) ∧ W.cell? ⟨XB, 1, none⟩ = some (.slice a6 ZL c6)) (go_keep) (fail)
          all_goals go_wp2
          all_goals refine bodyPost_ret (v := .tuple #[.agg #[.bool p6, .slice (some ⟨G, 0, none⟩) 128 128], .agg #[.bool q6, .slice a6 ZL c6]]) (by simp [results, Try.results16, go_sem, c0, c1, c2, c3, lX, lY, f0, f1, f2, f3, n1, n2]) rfl ?_
          all_goals first | exact hE _ _ _ _ | exact hE2 _ _ _ _

    · have gX : v5.grownBy ((v5.setCell ⟨XA, 0, none⟩ (.bool p6)).setCell ⟨XA, 1, none⟩ (.slice (some ⟨w4.heap.size, 0, none⟩) 128 128)) (some XA) := gb_trans (gb_set _ _ _ _) (gb_set _ _ _ _)
      have bA6 := Box.set bA5 (.bool p6) (.slice (some ⟨w4.heap.size, 0, none⟩) 128 128)
      have bB6 := ((bB4.alloc (.cells zrow 49)).drew.but hD.gb (by simp; omega)).but gX (by simp; omega)
      have fB6 := ((fB4.keep ((Below.refl _ _).alloc (Nat.le_refl _) (.cells zrow 49))).drew.but' hD.gb (by simp; omega)).but' gX (by simp; omega)
      have ald : Below w4.heap.size w4 (w4.alloc (.cells zrow 49)).drew := ((Below.refl _ _).alloc (Nat.le_refl _) (.cells zrow 49)).drew
      have X6 := ((X4.at ald X4.lt).gb hD.gb (by omega)).gb gX (by omega)
      have Y6 := ((Y4.at ald Y4.lt).gb hD.gb (by omega)).gb gX (by omega)
      have D6 := (D4a.trans hD).belowB hR (gb_to gX (fun k hk => by cases hk; omega) (by omega))
      have V6 := (((V4.trans (ald.mono (by omega)))).trans (gb_to hD.gb (fun k hk => by cases hk; omega) (by omega))).trans (gb_to gX (fun k hk => by cases hk; omega) (by omega))
      have Z6 := (((own128 w4).drew.drawn (by omega) hD).setBelow (a := ⟨XA, 0, none⟩) (show XA < w4.heap.size by omega) (.bool p6)).setBelow (a := ⟨XA, 1, none⟩) (show XA < w4.heap.size by omega) (.slice (some ⟨w4.heap.size, 0, none⟩) 128 128)
      obtain ⟨G, hGG⟩ : ∃ G, w4.heap.size = G := ⟨_, rfl⟩
      have Z6' : Own ((v5.setCell ⟨XA, 0, none⟩ (.bool p6)).setCell ⟨XA, 1, none⟩ (.slice (some ⟨w4.heap.size, 0, none⟩) 128 128)) w4.heap.size (.slice (some ⟨G, 0, none⟩) 128 128) (List.replicate 128 0) := hGG ▸ Z6
      have bA6' : Box ((v5.setCell ⟨XA, 0, none⟩ (.bool p6)).setCell ⟨XA, 1, none⟩ (.slice (some ⟨w4.heap.size, 0, none⟩) 128 128)) XA (.bool p6) (.slice (some ⟨G, 0, none⟩) 128 128) := by rw [← hGG]; exact bA6
      have hG : w4.heap.size ≤ G := by omega
      clear Z6 bA6
      have Z6 := Z6'
      have bA6 := bA6'
      clear Z6' bA6'
      generalize hw6 : (v5.setCell ⟨XA, 0, none⟩ (.bool p6)).setCell ⟨XA, 1, none⟩ (.slice (some ⟨w4.heap.size, 0, none⟩) 128 128) = w6 at bA6 bB6 fB6 X6 Y6 D6 V6 Z6
      have t6 := D6.gb.size
      clear bAd bAa fAd fAa bA5 fA5 l5 j0 j1 f0 f1 n5 n6 gX hD D4d D4a D4 V4 X4 Y4 bA4 bB4 fA4 fB4 O4 P4 lA k0 k1 HO
      go_upto_region 5 with fail
      clear hw6 hmk
      have hB4 : w.heap.size + 2 ≤ w4.heap.size := by omega
      have hGA : ¬ (G = XA) := by omega
      have hAG : ¬ (XA = G) := by omega
      go_wp2_with fail
      go_loopw [7] (fun i wr => ∃ (k : Nat) (L : List Int), k ≤ 128 ∧ i = .int .i64 k ∧ L.length = 128 ∧ Own wr w4.heap.size (.slice (some ⟨G, 0, none⟩) 128 128) L ∧ w6.grownBy wr (some G)) (fun i _ => 128 - (RowKit.intOf i).toNat)
      case atStart => exact ⟨0, _, by omega, rfl, by simp, Z6, World.grownBy.refl _ _⟩
      case round =>
        obtain ⟨k, L, hk, rfl, hL, hO, hg⟩ := hrel
        have bAr := bA6.but hg (by simp; omega)
        obtain ⟨lA, k0, k1⟩ := id bAr
        by_cases hlt : k < 128
        · have hkz : (k : Int) < 128 := by omega
          have hcell := hO.cell k (by omega)
          have hfz := hO.frozen k
          have hst := hO.store k (z := 4294967295) (by omega) (by omega)
          generalize L.getD k 0 = zz at hcell
          go_wp2_with fail
          go_roundw
          case rel => exact ⟨k + 1, _, by omega, by go_num, by simpa using hL, hst, gb_trans hg (gb_set _ _ _ _)⟩
          case measure => simp [RowKit.intOf]; omega
        · obtain rfl : k = 128 := by omega
          have X7 := X6.gb hg (by omega)
          have Y7 := Y6.gb hg (by omega)
          have bB7 := bB6.but hg (by simp; omega)
          have fB7 := fB6.but' hg (by simp; omega)
          have D7 := D6.belowB hR (gb_to hg (fun k hk => by cases hk; omega) (by omega))
          have V7 := V6.trans (gb_to hg (fun k hk => by cases hk; omega) (by have := V6.size; omega))
          have t7 := hg.size
          clear X6 Y6 bB6 fB6 D6 V6 Z6 hg bA6
          go_wp2_with fail
          refine (below_any _ g a n c bs 5 (by omega) (by omega) D7.rd).mono ?_
          rintro e w8 ⟨x, rfl, hx5, hD⟩
          have hx5z : (x : Int) < 5 := by omega
          have X8 := X7.gb hD.gb (by omega)
          have Y8 := Y7.gb hD.gb (by omega)
          have bA8 := bAr.but hD.gb (by simp; omega)
          have bB8 := bB7.but hD.gb (by simp; omega)
          have fB8 := fB7.but' hD.gb (by simp; omega)
          have V8 := V7.trans (gb_to hD.gb (fun k hk => by cases hk; omega) (by omega))
          have Z8 := hO.drawn (by omega) hD
          have t8 := hD.gb.size
          have lt8 := bB8.1
          clear X7 Y7 bAr bB7 fB7 D7 V7 hO hD lA k0 k1
          go_wp2_with fail
          refine (bigOfS_any ((x : Int) - 2) w8 (by omega) (by omega)).mono ?_
          rintro e v9 ⟨a6, c6, rfl, hO6, hB9⟩
          generalize lim ((x : Int) - 2).natAbs = zs at *
          generalize decide ((x : Int) - 2 < 0) = q6 at *
          have t9 := hB9.size
          have b6 : Box v9 XB (.bool q) (.slice ad' ys.length cp') := bB8.keep hB9
          have f6 := (fB8.keep hB9).2
          have gX : v9.grownBy ((v9.setCell ⟨XB, 0, none⟩ (.bool q6)).setCell ⟨XB, 1, none⟩ (.slice a6 zs.length c6)) (some XB) := gb_trans (gb_set _ _ _ _) (gb_set _ _ _ _)
          have bB6 := Box.set b6 (.bool q6) (.slice a6 zs.length c6)
          have bA6 := (bA8.keep hB9).but gX (by simp; omega)
          have X6 := (X8.at hB9 X8.lt).gb gX (by omega)
          have Y6 := (Y8.at hB9 Y8.lt).gb gX (by omega)
          have V6 := (V8.trans (hB9.mono V8.size)).trans (gb_to gX (fun k hk => by cases hk; omega) (by omega))
          have O6 := ((Z8.keep hB9).but gX (own_ne_gt ((Z8.keep hB9).lt) (by omega))).mono (B' := w.heap.size + 2) (by omega)
          have P6 := (hO6.but gX (own_ne_gt (hO6.lt) (by omega))).mono (B' := w.heap.size + 2) (by omega)
          obtain ⟨lB, j0, j1⟩ := id b6
          have g0 := f6 0
          have g1 := f6 1
          generalize hw7 : (v9.setCell ⟨XB, 0, none⟩ (.bool q6)).setCell ⟨XB, 1, none⟩ (.slice a6 zs.length c6) = w10 at bB6 bA6 X6 Y6 V6 O6 P6
          clear X8 Y8 V8 Z8 bA8 bB8 fB8 gX hO6 hB9 b6 f6
          obtain ⟨zl, hzl⟩ : ∃ zl, zs.length = zl := ⟨_, rfl⟩
          have HZL : Hid (zs.length = zl) := hzl
          rw [hzl] at hw7 bB6 P6 ⊢
          clear hzl
          go_upto_region 10 with fail
          clear hw7 j0 j1 g0 g1 lB
          rw [← HZL.out] at bB6 P6 ⊢
          clear HZL

          obtain ⟨lA, k0, k1⟩ := id bA6
          obtain ⟨lB, k2, k3⟩ := id bB6
          obtain ⟨lX, c0, c1, f0, f1⟩ := id X6
          obtain ⟨lY, c2, c3, f2, f3⟩ := id Y6
          have O6' : Own w10 (w.heap.size + 2) (.slice (some ⟨G, 0, none⟩) L.length 128) L := by rw [hL]; exact O6
          have hE := fun u0 u1 u2 u3 => dtwo_end (p := p6) (q := q6) u0 u1 u2 u3 V6 O6' P6
          have hE2 := fun u0 u1 u2 u3 => dtwo_end (p := p6) (q := q6) u0 u1 u2 u3 V6.drew O6'.drew P6.drew
          rw [hL] at O6'
          simp only [hL] at hE hE2
          have n1 : ¬ (w.heap.size + 1 = w.heap.size) := by omega
          have n2 : ¬ (w.heap.size = w.heap.size + 1) := by omega
          have n3 : ¬ (XA = w.heap.size) := by omega
          have n4 : ¬ (XB = w.heap.size) := by omega
          have n5 : ¬ (XA = w.heap.size + 1) := by omega
          have n6 : ¬ (XB = w.heap.size + 1) := by omega
          have n7 : ¬ (w.heap.size = XA) := by omega
          have n8 : ¬ (w.heap.size = XB) := by omega
          have n9 : ¬ (w.heap.size + 1 = XA) := by omega
          have n10 : ¬ (w.heap.size + 1 = XB) := by omega
          clear bA6 bB6 X6 Y6 V6 O6 P6
          skip
          generalize hZL : zs.length = ZL at *
          go_region_held3 (fun W => W.cell? ⟨XA, 0, none⟩ = some (.bool p6) ∧ W.cell? ⟨XA, 1, none⟩ = some (.slice (some ⟨G, 0, none⟩) 128 128) ∧ W.cell? ⟨XB, 0, none⟩ = some (.bool q6) ∧ W.cell? ⟨XB, 1, none⟩ = some (.slice a6 ZL c6)) (go_keep) (fail)
          all_goals go_wp2
          all_goals refine bodyPost_ret (v := .tuple #[.agg #[.bool p6, .slice (some ⟨G, 0, none⟩) 128 128], .agg #[.bool q6, .slice a6 ZL c6]]) (by simp [results, Try.results16, go_sem, c0, c1, c2, c3, lX, lY, f0, f1, f2, f3, n1, n2]) rfl ?_
          all_goals first | exact hE _ _ _ _ | exact hE2 _ _ _ _


end Go.Proofs.Ythgpacajeaphhaa
