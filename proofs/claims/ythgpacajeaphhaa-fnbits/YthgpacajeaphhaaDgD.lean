import Derived.Test.YthgpacajeaphhaaDrwQ
import Derived.Test.YthgpacajeaphhaaOfB
import Derived.Test.YthgpacajeaphhaaBrdS
import Derived.Deep.Cut
namespace Go.Proofs.Ythgpacajeaphhaa
open Go.RowKit
set_option linter.unusedVariables false
set_option linter.unusedSimpArgs false

theorem Own.drawn {w w' : World} {B g : Nat} {a : Option Addr} {n c : Nat} {bs : List Int} {v : Value} {xs : List Int} (h : Own w B v xs) (hB : g < B) (hD : Drawn w w' g a n c bs) : Own w' B v xs :=
  h.but hD.gb (.inr (fun e => by have := (h.lt _ e).1; omega))
/-- A step of our own beside the reader. -/
theorem Drawn.belowB {w w1 w2 : World} {g : Nat} {a : Option Addr} {n c : Nat} {bs : List Int} (h : Drawn w w1 g a n c bs) (hR : Rdr w g a n c bs) (k : Below w.heap.size w1 w2) : Drawn w w2 g a n c bs := by
  have hs := h.gb.size
  have hl := hR.lt
  refine ⟨⟨Nat.lt_of_lt_of_le h.rd.lt k.size, (k.cell (p := ⟨g, 0, none⟩) hl).trans h.rd.c0, ?_, ?_, h.rd.nb, h.rd.lim, fun h0 => ?_⟩, ?_⟩
  · obtain ⟨p, hp, hc⟩ := h.rd.c1; exact ⟨p, hp, (k.cell (p := ⟨g, 1, none⟩) hl).trans hc⟩
  · exact (k.frozen (p := ⟨g, 1, none⟩) hl).trans h.rd.fz
  · obtain ⟨b, off, e, hne, hlt, hcs⟩ := h.rd.by_ h0
    obtain ⟨b', off', e', _, hlt', _⟩ := hR.by_ h0
    rw [e] at e'
    simp only [Option.some.injEq, Addr.mk.injEq, and_true] at e'
    obtain ⟨rfl, rfl⟩ := e'
    exact ⟨b, off, e, hne, Nat.lt_of_lt_of_le hlt k.size, fun j hj => (k.cell (p := ⟨b, off + j, none⟩) hlt').trans (hcs j hj)⟩
  · exact ⟨k.os.trans h.gb.os, k.tape.trans h.gb.tape, k.output.trans h.gb.output, Nat.le_trans h.gb.size k.size, fun i hi hne2 => (k.block i hi).trans (h.gb.block i hi hne2)⟩
theorem tabQ (x : Nat) (hx : x < 4) : ∃ y : Int, (#[.int .u32 0, .int .u32 1, .int .u32 4294967295, .int .u32 2147483648] : Array Value)[x]? = some (.int .u32 y) ∧ 0 ≤ y ∧ y < 4294967296 := by
  match x, hx with
  | 0, _ => exact ⟨_, rfl, by decide, by decide⟩
  | 1, _ => exact ⟨_, rfl, by decide, by decide⟩
  | 2, _ => exact ⟨_, rfl, by decide, by decide⟩
  | 3, _ => exact ⟨_, rfl, by decide, by decide⟩

theorem Rbx.gb {w w' : World} {L g : Nat} (h : Rbx w L) (hgb : w.grownBy w' (some g)) (ne : L ≠ g) : Rbx w' L :=
  ⟨Nat.lt_of_lt_of_le h.lt hgb.size, gb_cell hgb ne h.lt h.c0, gb_cell hgb ne h.lt h.c1, gb_frozen hgb ne h.lt h.f0, gb_frozen hgb ne h.lt h.f1⟩
theorem dig_end {w w3 : World} {g : Nat} {a : Option Addr} {n c : Nat} {bs : List Int} {ad : Option Addr} {cp : Nat} {xs : List Int} (hR : Rdr w g a n c bs) (hD : Drawn w w3 g a n c bs) (p : Bool) (u0 u1 : Value) (hO : Own w3 (w.heap.size + 1) (.slice ad xs.length cp) xs) (hl : xs.length ≤ 129) :
    ∃ p' ad' cp' xs', Ending.returned (.agg #[.bool p, .slice ad xs.length cp]) = .returned (.agg #[.bool p', .slice ad' xs'.length cp']) ∧ xs'.length ≤ 129 ∧ Own ((w3.setCell ⟨w.heap.size, 0, none⟩ u0).setCell ⟨w.heap.size, 1, none⟩ u1) w.heap.size (.slice ad' xs'.length cp') xs' ∧ Drawn w ((w3.setCell ⟨w.heap.size, 0, none⟩ u0).setCell ⟨w.heap.size, 1, none⟩ u1) g a n c bs := by
  refine ⟨p, ad, cp, xs, rfl, hl, ((hO.setBelow (a := ⟨w.heap.size, 0, none⟩) (Nat.lt_succ_self _) u0).setBelow (a := ⟨w.heap.size, 1, none⟩) (Nat.lt_succ_self _) u1).mono (by omega), hD.belowB hR ?_⟩
  have h1 : Below w.heap.size w3 (w3.setCell ⟨w.heap.size, 0, none⟩ u0) := (Below.refl _ w3).setCell (show w.heap.size ≤ (⟨w.heap.size, 0, none⟩ : Addr).block from Nat.le_refl _) u0
  exact h1.setCell (show w.heap.size ≤ (⟨w.heap.size, 1, none⟩ : Addr).block from Nat.le_refl _) u1

set_option maxRecDepth 100000 in
set_option maxHeartbeats 2000000 in
theorem drawBig_any (w : World) (g : Nat) (a : Option Addr) (n c : Nat) (bs : List Int) (hR : Rdr w g a n c bs) :
    Calls Try.prog 55 #[.pointer (some ⟨g, 0, none⟩)] w fun e w' => ∃ p ad cp xs, e = .returned (.agg #[.bool p, .slice ad xs.length cp]) ∧ xs.length ≤ 129 ∧ Own w' w.heap.size (.slice ad xs.length cp) xs ∧ Drawn w w' g a n c bs := by
  have hB12 := fun W h => below_any W g a n c bs 12 (by omega) (by omega) h
  have hB4 := fun W h => below_any W g a n c bs 4 (by omega) (by omega) h
  have hB3 := fun W h => below_any W g a n c bs 3 (by omega) (by omega) h
  have hB60 := fun W h => below_any W g a n c bs 60 (by omega) (by omega) h
  have hI := fun W h => drawInt_any W g a n c bs h
  have hW := fun W h => word_any W g a n c bs h
  have hO4 := fun W h => once_any W g a n c bs 4 (by omega) (by omega) h
  have hO2 := fun W h => once_any W g a n c bs 2 (by omega) (by omega) h
  have hgl := hR.lt
  go_enter Try.func55, Try.ntmps55
  have hA0 : Below w.heap.size w (w.alloc (Obj.cells #[.bool false, .slice none 0 0] 26)) := (Below.refl _ w).alloc (Nat.le_refl _) _
  have hX0 := Rbx.new w
  have hD0 := (Drawn.refl hR).below hA0
  have hz0 : (w.alloc (Obj.cells #[.bool false, .slice none 0 0] 26)).heap.size = w.heap.size + 1 := by simp
  go_wp2_with fail
  generalize hW0 : w.alloc (Obj.cells #[.bool false, .slice none 0 0] 26) = W0 at *
  clear hW0
  refine (hB12 _ hD0.rd).mono ?_
  rintro e w1 ⟨k, rfl, hk, hD1⟩
  have hs1 := hD1.gb.size
  have hX1 := hX0.gb hD1.gb (by omega)
  have hDA := hD0.trans hD1
  clear hX0 hD0 hD1 hA0 hB12
  by_cases k4 : k < 4
  · have k4i : (k : Int) < 4 := by omega
    go_wp2_with fail
    refine (hI _ hDA.rd).mono ?_
    rintro e w2 ⟨x, rfl, hx0, hx1, hD2⟩
    have hD := hDA.trans hD2
    have hX2 := hX1.gb hD2.gb (by omega)
    have hs2 := hD2.gb.size
    go_wp2_with fail
    refine (bigOfS_any x _ hx0 hx1).mono ?_
    rintro e w3 ⟨ad, cp, rfl, hO, hB⟩
    obtain ⟨lb, c0, c1, f0, f1⟩ := hX2.at hB hX2.lt
    have hl : (lim x.natAbs).length ≤ 2 := lim_length_le (show x.natAbs < 4294967296 ^ 2 by omega)
    go_wp2
    refine bodyPost_ret (v := .agg #[.bool (decide (x < 0)), .slice ad (lim x.natAbs).length cp]) (by simp [results, Try.results55, go_sem, c0, c1, lb, f0, f1]) rfl (dig_end hR (hD.below hB) _ _ _ (hO.mono (by omega)) (by omega))
  · have k4i : ¬ (k : Int) < 4 := by omega
    go_wp2_with fail
    refine (hB4 _ hDA.rd).mono ?_
    rintro e w2 ⟨x, rfl, hx, hD2⟩
    have hD := hDA.trans hD2
    have hX2 := hX1.gb hD2.gb (by omega)
    have hs2 := hD2.gb.size
    clear hX1 hDA hD2
    go_upto_if 19 with fail
    go_cut [4] from 8 (fun v wc => ∃ N : Nat, v = .int .i64 N ∧ 1 ≤ N ∧ N ≤ 129 ∧ Drawn w wc g a n c bs ∧ Rbx wc w.heap.size ∧ w.heap.size + 1 ≤ wc.heap.size)
    case first =>
      by_cases e4 : k = 4
      · subst e4
        go_wp2_with fail
        refine (hB3 _ hD.rd).mono ?_
        rintro e w3 ⟨y, rfl, hy, hD3⟩
        have hs3 := hD3.gb.size
        go_wp2_with fail
        go_meet
        case rel => exact ⟨127 + y, by go_num, by omega, by omega, hD.trans hD3, hX2.gb hD3.gb (by omega), by omega⟩
      · have f4 : ((k : Int) == 4) = false := by rw [beq_eq_false_iff_ne]; omega
        by_cases e5 : k = 5
        · subst e5
          go_wp2_with fail
          refine (hB60 _ hD.rd).mono ?_
          rintro e w3 ⟨y, rfl, hy, hD3⟩
          have hs3 := hD3.gb.size
          go_wp2_with fail
          go_meet
          case rel => exact ⟨20 + y, by go_num, by omega, by omega, hD.trans hD3, hX2.gb hD3.gb (by omega), by omega⟩
        · have f5 : ((k : Int) == 5) = false := by rw [beq_eq_false_iff_ne]; omega
          go_wp2_with fail
          go_meet
          case rel => exact ⟨1 + x, by go_num, by omega, by omega, hD, hX2, by omega⟩
    case rest =>
      obtain ⟨N, rfl, hN1, hN2, hDc, hXc, hzc⟩ := hcut
      clear hD hX2 hs2 hB60 hB3 hI
      have bE : Below w.heap.size wc (wc.alloc (.cells #[] 49)) := (Below.refl _ wc).alloc (by omega) _
      have bE' : Below wc.heap.size wc (wc.alloc (.cells #[] 49)) := (Below.refl _ wc).alloc (Nat.le_refl _) _
      have oE : Own (wc.alloc (.cells #[] 49)) (w.heap.size + 1) (.slice (some ⟨wc.heap.size, 0, none⟩) 0 0) [] := (Own.empty wc).mono hzc
      go_wp2_with fail
      go_loopw [5, 6] (fun v i wr => ∃ (j : Nat) (xs : List Int), i = .int .i64 j ∧ j ≤ N ∧ xs.length = j ∧ Own wr (w.heap.size + 1) v xs ∧ Drawn w wr g a n c bs ∧ Rbx wr w.heap.size ∧ w.heap.size + 1 ≤ wr.heap.size) (fun _ i _ => N - (RowKit.intOf i).toNat)
      case atStart => exact ⟨0, [], rfl, Nat.zero_le _, rfl, oE, hDc.below bE', hXc.at bE' hXc.lt, by have := bE'.size; omega⟩
      case round =>
        obtain ⟨j, xs, rfl, hj, hxl, hO, hD, hX, hz⟩ := hrel
        clear hDc hXc bE bE' oE hzc
        obtain ⟨va, vc, hv⟩ := hO.form
        have HL : Hid (xs.length = j) := hxl
        rw [hxl] at hv
        subst hv
        by_cases hlt : j < N
        · have hlti : (j : Int) < (N : Int) := by omega
          clear hxl
          go_wp2_with fail
          refine (hW _ hD.rd).mono ?_
          rintro e w3 ⟨y, rfl, hy0, hy1, hD3⟩
          have hs3 := hD3.gb.size
          have hO3 := hO.drawn (by omega) hD3
          have hX3 := hX.gb hD3.gb (by omega)
          have hDD := hD.trans hD3
          clear hO hD hD3 hX
          go_wp2_with fail
          refine (hO4 _ hDD.rd).mono ?_
          rintro e w4 ⟨t, rfl, hD4⟩
          have hs4 := hD4.gb.size
          have hO4' := hO3.drawn (by omega) hD4
          have hX4 := hX3.gb hD4.gb (by omega)
          have hDE := hDD.trans hD4
          clear hO3 hDD hD4 hX3
          cases t
          · have hq0 : 0 ≤ y % 4294967296 := by omega
            have hq1 : y % 4294967296 < 4294967296 := by omega
            have bL : Below w4.heap.size w4 (w4.alloc (.cells #[.int .u32 (y % 4294967296)] 49)) := (Below.refl _ w4).alloc (Nat.le_refl _) _
            go_wp2_with (at_builtin; refine wpList_append_rd rfl _ _ 24 rfl Try.underlying24 (w.heap.size + 1) _ _ xs [y % 4294967296] rfl rfl (hO4'.alloc _) (Rd.one w4 w4.heap.size rfl 49 hq0 hq1) (by have := HL.out; simp; omega) (by simp; omega) ?_; intro a1 c1 w5 hO5 hB5)
            go_roundw
            case rel => exact ⟨j + 1, xs ++ [y % 4294967296], by go_num, by omega, by have := HL.out; simp; omega, by simpa using hO5, (hDE.below bL).belowB hR (hB5.mono (by omega)), (hX4.at bL hX4.lt).at hB5 (Nat.lt_succ_self _), by have := hB5.size; simp at this; omega⟩
            case measure => simp [RowKit.intOf]; omega
          · have bL : Below w4.heap.size w4 (w4.alloc (.cells #[.int .u32 0, .int .u32 1, .int .u32 4294967295, .int .u32 2147483648] 49)) := (Below.refl _ w4).alloc (Nat.le_refl _) _
            have hO6 := hO4'.alloc (.cells #[.int .u32 0, .int .u32 1, .int .u32 4294967295, .int .u32 2147483648] 49)
            have hD6 := hDE.below bL
            have hX6 := hX4.at bL hX4.lt
            go_wp2_with fail
            refine (hB4 _ hD6.rd).mono ?_
            rintro e w5 ⟨x, rfl, hx, hD7⟩
            obtain ⟨z, hz', hz0, hz1⟩ := tabQ x hx
            have hcl := lit_cell hDE.rd.lt hD7.gb hz'
            have hxz : (x : Int) < 4 := by omega
            have hO7 := hO6.drawn (by omega) hD7
            have hX7 := hX6.gb hD7.gb (by omega)
            have hD8 := hD6.trans hD7
            have hs7 := hD7.gb.size
            simp only [World.size_alloc] at hs7
            have bM : Below w5.heap.size w5 (w5.alloc (.cells #[.int .u32 z] 49)) := (Below.refl _ w5).alloc (Nat.le_refl _) _
            clear hz' hO6 hD6 hX6 bL hO4' hDE hX4 hD7
            go_wp2_with (at_builtin; refine wpList_append_rd rfl _ _ 24 rfl Try.underlying24 (w.heap.size + 1) _ _ xs [z] rfl rfl (hO7.alloc _) (Rd.one w5 w5.heap.size rfl 49 hz0 hz1) (by have := HL.out; simp; omega) (by simp; omega) ?_; intro a1 c1 w6 hO5 hB5)
            go_roundw
            case rel => exact ⟨j + 1, xs ++ [z], by go_num, by omega, by have := HL.out; simp; omega, by simpa using hO5, (hD8.below bM).belowB hR (hB5.mono (by omega)), (hX7.at bM hX7.lt).at hB5 (Nat.lt_succ_self _), by have := hB5.size; simp at this; omega⟩
            case measure => simp [RowKit.intOf]; omega
        · obtain rfl : N = j := by omega
          clear hxl
          by_cases e6 : k = 6
          · subst e6
            go_wp2_with fail
            refine (hO2 _ hD.rd).mono ?_
            rintro e w3 ⟨t, rfl, hD3⟩
            have hs3 := hD3.gb.size
            obtain ⟨lb, c0, c1, f0, f1⟩ := hX.gb hD3.gb (by omega)
            have hO3 := hO.drawn (by omega) hD3
            have hE := dig_end (xs := xs) hR (hD.trans hD3) t (.bool t) (.slice va N vc) (by rw [HL.out]; exact hO3) (by rw [HL.out]; omega)
            rw [HL.out] at hE
            go_wp2
            refine bodyPost_ret (v := .agg #[.bool t, .slice va N vc]) (by simp [results, Try.results55, go_sem, c0, c1, lb, f0, f1]) rfl hE
          · have f6 : ((k : Int) == 6) = false := by rw [beq_eq_false_iff_ne]; omega
            obtain ⟨e1, e2⟩ | ⟨b, bc, e1, hbB, hbz, hbl⟩ := hO.shape
            · exact absurd HL.out (by rw [e2]; simp; omega)
            simp only [Value.slice.injEq] at e1
            obtain ⟨e1, -, e3⟩ := e1
            subst e1 e3
            obtain ⟨P, rfl⟩ : ∃ P, N = P + 1 := ⟨N - 1, by omega⟩
            have hPl : P < xs.length := by rw [HL.out]; omega
            have hcP := hO.cell P hPl
            have hfP := hO.frozen P
            have hPi : (P : Int) < (P : Int) + 1 := by omega
            have hP0 : (0 : Int) ≤ (P : Int) := by omega
            have hPw : IntKind.i64.wrap ((P : Int) + 1 - 1) = (P : Int) := by simp [IntKind.wrap, IntKind.bits, IntKind.signed]; omega
            have hPn : ((P : Int) + 1 - 1) = (P : Int) := by omega
            generalize hzP : xs.getD P 0 = z at hcP
            clear hzP
            have o1 := hO.store P (z := 1) (by omega) (by omega)
            by_cases hz1 : z = 0
            · subst hz1
              have bS : Below (w.heap.size + 1) wr (wr.setCell ⟨b, P, none⟩ (.int .u32 1)) := (Below.refl _ wr).setCell (show w.heap.size + 1 ≤ (⟨b, P, none⟩ : Addr).block from hbB) _
              have hDs := hD.belowB hR (bS.mono (by omega))
              have hXs := hX.at bS (Nat.lt_succ_self _)
              go_wp2_with fail
              refine (hO2 _ hDs.rd).mono ?_
              rintro e w3 ⟨t, rfl, hD3⟩
              obtain ⟨lb, c0, c1, f0, f1⟩ := hXs.gb hD3.gb (by omega)
              have hO3 := o1.drawn (by omega) hD3
              have hE := dig_end (xs := xs.set P 1) hR (hDs.trans hD3) t (.bool t) (.slice (some ⟨b, 0, none⟩) (P + 1) vc) (by rw [List.length_set, HL.out]; exact hO3) (by rw [List.length_set, HL.out]; omega)
              rw [List.length_set, HL.out] at hE
              go_wp2
              refine bodyPost_ret (v := .agg #[.bool t, .slice (some ⟨b, 0, none⟩) (P + 1) vc]) (by simp [results, Try.results55, go_sem, c0, c1, lb, f0, f1]) rfl hE
            · have hz2 : (z == 0) = false := by rw [beq_eq_false_iff_ne]; exact hz1
              clear hz1 o1
              go_wp2_with fail
              refine (hO2 _ hD.rd).mono ?_
              rintro e w3 ⟨t, rfl, hD3⟩
              obtain ⟨lb, c0, c1, f0, f1⟩ := hX.gb hD3.gb (by omega)
              have hO3 := hO.drawn (by omega) hD3
              have hE := dig_end (xs := xs) hR (hD.trans hD3) t (.bool t) (.slice (some ⟨b, 0, none⟩) (P + 1) vc) (by rw [HL.out]; exact hO3) (by rw [HL.out]; omega)
              rw [HL.out] at hE
              go_wp2
              refine bodyPost_ret (v := .agg #[.bool t, .slice (some ⟨b, 0, none⟩) (P + 1) vc]) (by simp [results, Try.results55, go_sem, c0, c1, lb, f0, f1]) rfl hE

end Go.Proofs.Ythgpacajeaphhaa
