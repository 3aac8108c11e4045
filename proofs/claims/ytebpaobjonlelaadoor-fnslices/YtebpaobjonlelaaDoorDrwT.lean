import Derived.Test.YtebpaobjonlelaaDoorDrwS
import Derived.Maps.Range
namespace Go.Proofs.YtebpaobjonlelaaDoor
open Go.RowKit
set_option linter.unusedVariables false
set_option linter.unusedSimpArgs false

theorem Drawn.side {w w3 : World} {g : Nat} {a : Option Addr} {n c : Nat} {bs : List Int} (hR : Rdr w g a n c bs) (h : Drawn w w3 g a n c bs) (L o : Nat) (v : Value) (hL : w.heap.size ≤ L) : Drawn w (w3.setCell ⟨L, o, none⟩ v) g a n c bs := by
  have hLg : L ≠ g := by have := hR.lt; omega
  obtain ⟨p, hp, hc⟩ := h.rd.c1
  refine ⟨⟨by simp [h.rd.lt], ?_, ⟨p, hp, ?_⟩, by simp [h.rd.fz], h.rd.nb, h.rd.lim, fun h0 => ?_⟩, h.gb.andThen (gb_set _ _ _ _) (fun j hj => .inl (by cases hj; exact hL))⟩
  · rw [World.cell?_setCell_far _ _ _ _ (by simpa using hLg)]; exact h.rd.c0
  · rw [World.cell?_setCell_far _ _ _ _ (by simpa using hLg)]; exact hc
  · obtain ⟨b, off, e, hne, hlt, hcs⟩ := h.rd.by_ h0
    obtain ⟨b', off', e', _, hlt', _⟩ := hR.by_ h0
    rw [e] at e'
    simp at e'
    obtain ⟨rfl, rfl⟩ := e'
    exact ⟨b, off, e, hne, by simp [hlt], fun k hk => by rw [World.cell?_setCell_far _ _ _ _ (by simp; omega)]; exact hcs k hk⟩
set_option maxHeartbeats 1000000 in
set_option maxRecDepth 100000 in
theorem drawBound_any (w : World) (g : Nat) (a : Option Addr) (n c : Nat) (bs : List Int) (hR : Rdr w g a n c bs) :
    Calls Tryd.prog 22 #[.pointer (some ⟨g, 0, none⟩)] w fun e w' => ∃ (h : Bool) (x : Int), e = .returned (.agg #[.bool h, .int .i64 x]) ∧ -9223372036854775808 ≤ x ∧ x ≤ 9223372036854775807 ∧ Drawn w w' g a n c bs := by
  have hO := fun W h => once_any W g a n c bs 3 (by omega) (by omega) h
  have hO2 := fun W h => once_any W g a n c bs 10 (by omega) (by omega) h
  have hB := fun W h => below_any W g a n c bs 18 (by omega) (by omega) h
  have hI := fun W h => drawInt_any W g a n c bs h
  have hA0 : Below w.heap.size w (w.alloc (Obj.cells #[.bool false, .int .i64 0] 28)) := (Below.refl _ _).alloc (Nat.le_refl _) _
  have hR1 := hR.keep hA0
  have hng : w.heap.size ≠ g := by have := hR.lt; omega
  have b0 : (w.alloc (Obj.cells #[.bool false, .int .i64 0] 28)).cell? ⟨w.heap.size, 0, none⟩ = some (.bool false) := by rw [World.cell?_alloc_at _ _ w.heap.size 0 rfl]; rfl
  have b1 : (w.alloc (Obj.cells #[.bool false, .int .i64 0] 28)).cell? ⟨w.heap.size, 1, none⟩ = some (.int .i64 0) := by rw [World.cell?_alloc_at _ _ w.heap.size 1 rfl]; rfl
  have f0 : (w.alloc (Obj.cells #[.bool false, .int .i64 0] 28)).frozen? ⟨w.heap.size, 0, none⟩ = false := World.frozen?_alloc_at _ _ _ _ (by simp)
  have f1 : (w.alloc (Obj.cells #[.bool false, .int .i64 0] 28)).frozen? ⟨w.heap.size, 1, none⟩ = false := World.frozen?_alloc_at _ _ _ _ (by simp)
  have hl0 : w.heap.size < (w.alloc (Obj.cells #[.bool false, .int .i64 0] 28)).heap.size := by simp
  have hDA := (Drawn.refl hR).below hA0
  generalize hw0 : w.alloc (Obj.cells #[.bool false, .int .i64 0] 28) = w0 at hA0 hR1 b0 b1 f0 f1 hl0 hDA
  go_enter Tryd.func22, Tryd.ntmps22
  go_wp2_with fail
  refine (hO _ hR1).mono ?_
  rintro e w1 ⟨t, rfl, hD1⟩
  have b01 := gb_cell hD1.gb hng hl0 b0
  have b11 := gb_cell hD1.gb hng hl0 b1
  have f01 := gb_frozen hD1.gb hng hl0 f0
  have f11 := gb_frozen hD1.gb hng hl0 f1
  have hl1 := Nat.lt_of_lt_of_le hl0 hD1.gb.size
  have hDB := hDA.trans hD1
  clear hO hw0 b0 b1 f0 f1 hD1
  cases t with
  | true =>
    go_wp2
    refine bodyPost_ret (v := .agg #[.bool false, .int .i64 0]) (by simp [results, Tryd.results22, go_sem, b01, b11, hl1]) rfl ?_
    exact ⟨false, 0, rfl, by omega, by omega, Drawn.side hR (Drawn.side hR hDB _ _ _ (Nat.le_refl _)) _ _ _ (Nat.le_refl _)⟩
  | false =>
    go_wp2_with fail
    refine (hO2 _ hDB.rd).mono ?_
    rintro e w2 ⟨t, rfl, hD2⟩
    have b02 := gb_cell hD2.gb hng hl1 b01
    have b12 := gb_cell hD2.gb hng hl1 b11
    have f02 := gb_frozen hD2.gb hng hl1 f01
    have f12 := gb_frozen hD2.gb hng hl1 f11
    have hl2 := Nat.lt_of_lt_of_le hl1 hD2.gb.size
    have hDC := hDB.trans hD2
    clear hO2 b01 b11 f01 f11 hD2 hDB
    cases t with
    | true =>
      go_wp2_with fail
      refine (hI _ hDC.rd).mono ?_
      rintro e w3 ⟨x, rfl, hx0, hx1, hD3⟩
      have b03 := gb_cell hD3.gb hng hl2 b02
      have b13 := gb_cell hD3.gb hng hl2 b12
      have f03 := gb_frozen hD3.gb hng hl2 f02
      have f13 := gb_frozen hD3.gb hng hl2 f12
      have hl3 := Nat.lt_of_lt_of_le hl2 hD3.gb.size
      have hDD := hDC.trans hD3
      clear hI b02 b12 f02 f12 hD3 hDC
      go_wp2
      refine bodyPost_ret (v := .agg #[.bool true, .int .i64 x]) (by simp [results, Tryd.results22, go_sem, b03, b13, hl3]) rfl ?_
      exact ⟨true, x, rfl, hx0, hx1, Drawn.side hR (Drawn.side hR hDD _ _ _ (Nat.le_refl _)) _ _ _ (Nat.le_refl _)⟩
    | false =>
      go_wp2_with fail
      refine (hB _ hDC.rd).mono ?_
      rintro e w3 ⟨x, rfl, hx, hD3⟩
      have b03 := gb_cell hD3.gb hng hl2 b02
      have b13 := gb_cell hD3.gb hng hl2 b12
      have f03 := gb_frozen hD3.gb hng hl2 f02
      have f13 := gb_frozen hD3.gb hng hl2 f12
      have hl3 := Nat.lt_of_lt_of_le hl2 hD3.gb.size
      have hDD := hDC.trans hD3
      have hw9 : wrap64 ((x : Int) - 9) = (x : Int) - 9 := by unfold wrap64; omega
      clear hB b02 b12 f02 f12 hD3 hDC
      go_wp2
      refine bodyPost_ret (v := .agg #[.bool true, .int .i64 ((x : Int) - 9)]) (by simp [results, Tryd.results22, go_sem, b03, b13, hl3]) rfl ?_
      exact ⟨true, (x : Int) - 9, rfl, by omega, by omega, Drawn.side hR (Drawn.side hR hDD _ _ _ (Nat.le_refl _)) _ _ _ (Nat.le_refl _)⟩
/-- The bytes of a text. -/
def strSz : Value → Nat
  | .string b => b.size
  | _ => 0
set_option maxHeartbeats 2000000 in
set_option maxRecDepth 100000 in
theorem drawText_any (w : World) (g : Nat) (a : Option Addr) (n c : Nat) (bs : List Int) (hR : Rdr w g a n c bs) :
    Calls Tryd.prog 11 #[.pointer (some ⟨g, 0, none⟩)] w fun e w' => ∃ s : ByteArray, e = .returned (.string s) ∧ s.size ≤ 20000 ∧ Drawn w w' g a n c bs := by
  have hB12 := fun W h => below_any W g a n c bs 12 (by omega) (by omega) h
  have hP := fun W h => drawPiece_any W g a n c bs h
  have hO25 := fun W h => once_any W g a n c bs 25 (by omega) (by omega) h
  have hB6 := fun W h => below_any W g a n c bs 6 (by omega) (by omega) h
  have hO40 := fun W h => once_any W g a n c bs 40 (by omega) (by omega) h
  have hB3 := fun W h => below_any W g a n c bs 3 (by omega) (by omega) h
  go_enter Tryd.func11, Tryd.ntmps11
  go_wp2_with fail
  refine (hB12 _ hR).mono ?_
  rintro e w1 ⟨m, rfl, hm, hD1⟩
  clear hB12
  go_wp2
  go_loopw [4, 5] (fun s i wr => ∃ (k : Nat) (t : ByteArray), k ≤ m ∧ i = .int .i64 k ∧ s = .string t ∧ t.size ≤ 4 * k ∧ Drawn w wr g a n c bs) (fun _ i _ => m - (RowKit.intOf i).toNat)
  case atStart => exact ⟨0, ⟨#[]⟩, by omega, rfl, rfl, by decide, hD1⟩
  case round =>
    obtain ⟨k, t, hk, rfl, rfl, ht, hD⟩ := hrel
    clear hD1
    by_cases hlt : k < m
    · have hltz : (k : Int) < (m : Int) := by omega
      go_wp2_with fail
      refine (hP _ hD.rd).mono ?_
      rintro e w2 ⟨s, rfl, hs, hD2⟩
      have hDD := hD.trans hD2
      have htb : t.size ≤ 1000 := by omega
      have hsz : (t ++ s).size ≤ 4 * (k + 1) := by rw [ByteArray.size_append]; omega
      clear hP hO25 hB6 hO40 hB3
      go_wp2
      go_roundw
      case rel => exact ⟨k + 1, t ++ s, by omega, by go_num, rfl, hsz, hDD⟩
      case measure => first | (simp [RowKit.intOf]; done) | (simp [RowKit.intOf]; omega)
    · have hltz : ¬ (k : Int) < (m : Int) := by omega
      have htb : t.size ≤ 48 := by omega
      clear hP ht
      go_wp2_with fail
      refine (hO25 _ hD.rd).mono ?_
      rintro e w2 ⟨t2, rfl, hD2⟩
      have hDB := hD.trans hD2
      clear hO25 hD2 hD
      cases t2 with
      | true =>
        go_wp2_with fail
        refine (hB6 _ (hDB.rd.keep ((Below.refl _ _).alloc (Nat.le_refl _) _))).mono ?_
        rintro e w3 ⟨x, rfl, hx, hD3⟩
        obtain ⟨y, hy, hy0⟩ := tabB x hx
        have hcl := lit_cell hDB.rd.lt hD3.gb hy
        have hxz : (x : Int) < 6 := by omega
        have hDC := (hDB.below ((Below.refl _ _).alloc (Nat.le_refl _) (Obj.cells #[.string ⟨#[255]⟩, .string ⟨#[195]⟩, .string ⟨#[237, 160, 128]⟩, .string ⟨#[192, 128]⟩, .string ⟨#[244, 144, 128, 128]⟩, .string ⟨#[226, 130]⟩] 9))).trans hD3
        have hty : (t ++ y).size ≤ 60 := by rw [ByteArray.size_append]; omega
        clear hy hB6 hD3 hDB
        go_wp2_with fail
        refine (hO40 _ hDC.rd).mono ?_
        rintro e w5 ⟨t5, rfl, hD5⟩
        have hDE := hDC.trans hD5
        clear hO40 hD5
        cases t5 with
        | true =>
          go_wp2
          go_loopw [4] (fun s wr => ∃ t : ByteArray, s = .string t ∧ t.size ≤ 16386 ∧ Drawn w wr g a n c bs) (fun s _ => 16387 - strSz s)
          case atStart => exact ⟨(t ++ y), rfl, by omega, hDE⟩
          case round =>
            obtain ⟨t, rfl, ht, hD⟩ := hrel
            clear hDE
            go_wp2_with fail
            refine (hB3 _ hD.rd).mono ?_
            rintro e w7 ⟨x, rfl, hx, hD7⟩
            have hDD := hD.trans hD7
            clear hB3 hD7
            by_cases hc : (t.size : Int) < 16384 + (x : Int) - 1
            · have hsz : (t ++ ⟨#[97]⟩).size = t.size + 1 := by rw [ByteArray.size_append]; rfl
              go_wp2
              go_roundw
              case rel => exact ⟨t ++ ⟨#[97]⟩, rfl, by omega, hDD⟩
              case measure => show 16387 - (t ++ ⟨#[97]⟩).size < 16387 - t.size; omega
            · go_wp2
              go_ret
              exact ⟨t, rfl, by omega, hDD⟩
        | false =>
          go_wp2
          go_ret
          exact ⟨(t ++ y), rfl, by omega, hDE⟩
      | false =>
        go_wp2_with fail
        refine (hO40 _ hDB.rd).mono ?_
        rintro e w5 ⟨t5, rfl, hD5⟩
        have hDE := hDB.trans hD5
        clear hO40 hD5
        cases t5 with
        | true =>
          go_wp2
          go_loopw [4] (fun s wr => ∃ t : ByteArray, s = .string t ∧ t.size ≤ 16386 ∧ Drawn w wr g a n c bs) (fun s _ => 16387 - strSz s)
          case atStart => exact ⟨t, rfl, by omega, hDE⟩
          case round =>
            obtain ⟨t, rfl, ht, hD⟩ := hrel
            clear hDE
            go_wp2_with fail
            refine (hB3 _ hD.rd).mono ?_
            rintro e w7 ⟨x, rfl, hx, hD7⟩
            have hDD := hD.trans hD7
            clear hB3 hD7
            by_cases hc : (t.size : Int) < 16384 + (x : Int) - 1
            · have hsz : (t ++ ⟨#[97]⟩).size = t.size + 1 := by rw [ByteArray.size_append]; rfl
              go_wp2
              go_roundw
              case rel => exact ⟨t ++ ⟨#[97]⟩, rfl, by omega, hDD⟩
              case measure => show 16387 - (t ++ ⟨#[97]⟩).size < 16387 - t.size; omega
            · go_wp2
              go_ret
              exact ⟨t, rfl, by omega, hDD⟩
        | false =>
          go_wp2
          go_ret
          exact ⟨t, rfl, by omega, hDE⟩
end Go.Proofs.YtebpaobjonlelaaDoor
