import Derived.Test.YtfoofbcfcekleaaGreatDoorDrwS
import Derived.Maps.Range
namespace Go.Proofs.YtfoofbcfcekleaaGreatDoor
open Go.RowKit
set_option linter.unusedVariables false
set_option linter.unusedSimpArgs false

theorem Drawn.side {w w3 : World} {g : Nat} {a : Option Addr} {n c : Nat} {bs : List Int} (hR : Rdr w g a n c bs) (h : Drawn w w3 g a n c bs) (L o : Nat) (v : Value) (hL : w.heap.size ≤ L) : Drawn w (w3.setCell ⟨L, o, none⟩ v) g a n c bs := by
  have hLg : L ≠ g := by have := hR.lt; omega
  obtain ⟨p, hp, hc⟩ := h.rd.c1
  refine ⟨⟨by simp [h.rd.lt], ?_, ⟨p, hp, ?_⟩, by simp [h.rd.fz], h.rd.nb, h.rd.lim, fun h0 => ?_⟩, h.gb.andThen (gb_set _ _ _ _) (fun j hj => .inl (by cases hj; exact hL))⟩
  · rw [World.cell?_setCell_far _ _ _ _ (by simpa using hLg)]; exact h.rd.c0
  · rw [World.cell?_setCell_far _ _ _ _ (by simpa using hLg)]; exact hc
  · obtain ⟨b, off, e, hne, hlt, hcs⟩ := h.rd.by_ h0
    obtain ⟨b', off', e', _, hlt', _⟩ := hR.by_ h0
    rw [e] at e'
    simp at e'
    obtain ⟨rfl, rfl⟩ := e'
    exact ⟨b, off, e, hne, by simp [hlt], fun k hk => by rw [World.cell?_setCell_far _ _ _ _ (by simp; omega)]; exact hcs k hk⟩
/-- The bytes of a text. -/
def strSz : Value → Nat
  | .string b => b.size
  | _ => 0
set_option maxHeartbeats 2000000 in
set_option maxRecDepth 100000 in
theorem drawText_any (w : World) (g : Nat) (a : Option Addr) (n c : Nat) (bs : List Int) (hR : Rdr w g a n c bs) :
    Calls Tryz.prog 10 #[.pointer (some ⟨g, 0, none⟩)] w fun e w' => ∃ s : ByteArray, e = .returned (.string s) ∧ s.size ≤ 20000 ∧ Drawn w w' g a n c bs := by
  have hB12 := fun W h => below_any W g a n c bs 12 (by omega) (by omega) h
  have hP := fun W h => drawPiece_any W g a n c bs h
  have hO25 := fun W h => once_any W g a n c bs 25 (by omega) (by omega) h
  have hB6 := fun W h => below_any W g a n c bs 6 (by omega) (by omega) h
  have hO40 := fun W h => once_any W g a n c bs 40 (by omega) (by omega) h
  have hB3 := fun W h => below_any W g a n c bs 3 (by omega) (by omega) h
  go_enter Tryz.func10, Tryz.ntmps10
  go_wp2_with fail
  refine (hB12 _ hR).mono ?_
  rintro e w1 ⟨m, rfl, hm, hD1⟩
  clear hB12
  go_wp2
  go_loopw [4, 5] (fun s i wr => ∃ (k : Nat) (t : ByteArray), k ≤ m ∧ i = .int .i64 k ∧ s = .string t ∧ t.size ≤ 4 * k ∧ Drawn w wr g a n c bs) (fun _ i _ => m - (RowKit.intOf i).toNat)
  case atStart => exact ⟨0, ⟨#[]⟩, by omega, rfl, rfl, by decide, hD1⟩
  case round =>
    obtain ⟨k, t, hk, rfl, rfl, ht, hD⟩ := hrel
    clear hD1
    by_cases hlt : k < m
    · have hltz : (k : Int) < (m : Int) := by omega
      go_wp2_with fail
      refine (hP _ hD.rd).mono ?_
      rintro e w2 ⟨s, rfl, hs, hD2⟩
      have hDD := hD.trans hD2
      have htb : t.size ≤ 1000 := by omega
      have hsz : (t ++ s).size ≤ 4 * (k + 1) := by rw [ByteArray.size_append]; omega
      clear hP hO25 hB6 hO40 hB3
      go_wp2
      go_roundw
      case rel => exact ⟨k + 1, t ++ s, by omega, by go_num, rfl, hsz, hDD⟩
      case measure => first | (simp [RowKit.intOf]; done) | (simp [RowKit.intOf]; omega)
    · have hltz : ¬ (k : Int) < (m : Int) := by omega
      have htb : t.size ≤ 48 := by omega
      clear hP ht
      go_wp2_with fail
      refine (hO25 _ hD.rd).mono ?_
      rintro e w2 ⟨t2, rfl, hD2⟩
      have hDB := hD.trans hD2
      clear hO25 hD2 hD
      cases t2 with
      | true =>
        go_wp2_with fail
        refine (hB6 _ (hDB.rd.keep ((Below.refl _ _).alloc (Nat.le_refl _) _))).mono ?_
        rintro e w3 ⟨x, rfl, hx, hD3⟩
        obtain ⟨y, hy, hy0⟩ := tabB x hx
        have hcl := lit_cell hDB.rd.lt hD3.gb hy
        have hxz : (x : Int) < 6 := by omega
        have hDC := (hDB.below ((Below.refl _ _).alloc (Nat.le_refl _) (Obj.cells #[.string ⟨#[255]⟩, .string ⟨#[195]⟩, .string ⟨#[237, 160, 128]⟩, .string ⟨#[192, 128]⟩, .string ⟨#[244, 144, 128, 128]⟩, .string ⟨#[226, 130]⟩] 9))).trans hD3
        have hty : (t ++ y).size ≤ 60 := by rw [ByteArray.size_append]; omega
        clear hy hB6 hD3 hDB
        go_wp2_with fail
        refine (hO40 _ hDC.rd).mono ?_
        rintro e w5 ⟨t5, rfl, hD5⟩
        have hDE := hDC.trans hD5
        clear hO40 hD5
        cases t5 with
        | true =>
          go_wp2
          go_loopw [4] (fun s wr => ∃ t : ByteArray, s = .string t ∧ t.size ≤ 16386 ∧ Drawn w wr g a n c bs) (fun s _ => 16387 - strSz s)
          case atStart => exact ⟨(t ++ y), rfl, by omega, hDE⟩
          case round =>
            obtain ⟨t, rfl, ht, hD⟩ := hrel
            clear hDE
            go_wp2_with fail
            refine (hB3 _ hD.rd).mono ?_
            rintro e w7 ⟨x, rfl, hx, hD7⟩
            have hDD := hD.trans hD7
            clear hB3 hD7
            by_cases hc : (t.size : Int) < 16384 + (x : Int) - 1
            · have hsz : (t ++ ⟨#[97]⟩).size = t.size + 1 := by rw [ByteArray.size_append]; rfl
              go_wp2
              go_roundw
              case rel => exact ⟨t ++ ⟨#[97]⟩, rfl, by omega, hDD⟩
              case measure => show 16387 - (t ++ ⟨#[97]⟩).size < 16387 - t.size; omega
            · go_wp2
              go_ret
              exact ⟨t, rfl, by omega, hDD⟩
        | false =>
          go_wp2
          go_ret
          exact ⟨(t ++ y), rfl, by omega, hDE⟩
      | false =>
        go_wp2_with fail
        refine (hO40 _ hDB.rd).mono ?_
        rintro e w5 ⟨t5, rfl, hD5⟩
        have hDE := hDB.trans hD5
        clear hO40 hD5
        cases t5 with
        | true =>
          go_wp2
          go_loopw [4] (fun s wr => ∃ t : ByteArray, s = .string t ∧ t.size ≤ 16386 ∧ Drawn w wr g a n c bs) (fun s _ => 16387 - strSz s)
          case atStart => exact ⟨t, rfl, by omega, hDE⟩
          case round =>
            obtain ⟨t, rfl, ht, hD⟩ := hrel
            clear hDE
            go_wp2_with fail
            refine (hB3 _ hD.rd).mono ?_
            rintro e w7 ⟨x, rfl, hx, hD7⟩
            have hDD := hD.trans hD7
            clear hB3 hD7
            by_cases hc : (t.size : Int) < 16384 + (x : Int) - 1
            · have hsz : (t ++ ⟨#[97]⟩).size = t.size + 1 := by rw [ByteArray.size_append]; rfl
              go_wp2
              go_roundw
              case rel => exact ⟨t ++ ⟨#[97]⟩, rfl, by omega, hDD⟩
              case measure => show 16387 - (t ++ ⟨#[97]⟩).size < 16387 - t.size; omega
            · go_wp2
              go_ret
              exact ⟨t, rfl, by omega, hDD⟩
        | false =>
          go_wp2
          go_ret
          exact ⟨t, rfl, by omega, hDE⟩
end Go.Proofs.YtfoofbcfcekleaaGreatDoor
