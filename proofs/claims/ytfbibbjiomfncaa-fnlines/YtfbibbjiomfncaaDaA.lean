import Derived.Test.YtfbibbjiomfncaaAtN
import Derived.Test.YtfbibbjiomfncaaDrwC
import Derived.Test.YtfbibbjiomfncaaClT
import Derived.Laws.IdiomStrings
namespace Go.Proofs.Ytfbibbjiomfncaa
open Go.RowKit Go.Lib
set_option linter.unusedVariables false
set_option linter.unusedSimpArgs false

theorem OwnG.emptyD {α : Type} (S : Sh α) (T : TypeId) (w : World) : OwnG S T (w.alloc (.cells #[] T)) w.heap.size (.slice (some ⟨w.heap.size, 0, none⟩) 0 0) [] :=
  ⟨World.ownsRow_lit w #[] 0 (Nat.le_refl _) (Nat.zero_le _) (by simp), by simp, by simp⟩
theorem OwnG.drawn {α : Type} {S : Sh α} {T : TypeId} {w w' : World} {B g : Nat} {a : Option Addr} {n c : Nat} {bs : List Int} {v : Value} {xs : List α} (h : OwnG S T w B v xs) (hB : g < B) (hD : Drawn w w' g a n c bs) : OwnG S T w' B v xs :=
  h.but hD.gb (.inr (fun e => by have := (h.lt _ e).1; omega))
theorem Own.drawn {w w' : World} {B g : Nat} {a : Option Addr} {n c : Nat} {bs : List Int} {v : Value} {xs : List Int} (h : Own w B v xs) (hB : g < B) (hD : Drawn w w' g a n c bs) : Own w' B v xs :=
  h.but hD.gb (.inr (fun e => by have := (h.lt _ e).1; omega))
/-- A step of our own beside the reader. -/
theorem Drawn.grown {w w1 w2 : World} {g : Nat} {a : Option Addr} {n c : Nat} {bs : List Int} (h : Drawn w w1 g a n c bs) {row : Option Nat} (k : w1.grownBy w2 row) (hr : ∀ j, row = some j → w.heap.size ≤ j) (hg : g < w.heap.size) (hbz : ∀ b off, 0 < n → a = some ⟨b, off, none⟩ → b < w.heap.size) : Drawn w w2 g a n c bs := by
  have hne : some g ≠ row := fun e => by have := hr g e.symm; omega
  refine ⟨⟨Nat.lt_of_lt_of_le h.rd.lt k.size, k.cell h.rd.c0 hne, ?_, ?_, h.rd.nb, h.rd.lim, fun h0 => ?_⟩, ?_⟩
  · obtain ⟨p, hp, hc⟩ := h.rd.c1; exact ⟨p, hp, k.cell hc hne⟩
  · have := k.block g h.rd.lt hne
    unfold World.frozen?; simp only; rw [this]; exact h.rd.fz
  · obtain ⟨b, off, e, hne2, hlt, hcs⟩ := h.rd.by_ h0
    have hb := hbz b off h0 e
    exact ⟨b, off, e, hne2, Nat.lt_of_lt_of_le hlt k.size, fun j hj => k.cell (hcs j hj) (fun e => by have := hr b e.symm; omega)⟩
  · exact ⟨k.os.trans h.gb.os, k.tape.trans h.gb.tape, k.output.trans h.gb.output, Nat.le_trans h.gb.size k.size, fun i hi hne2 => (k.block i (Nat.lt_of_lt_of_le hi h.gb.size) (fun e => by have := hr i e.symm; omega)).trans (h.gb.block i hi hne2)⟩
theorem at_new (w : World) (x : At) (t : TypeId) (g : Nat) (hg : g = w.heap.size) : ∀ j, j < shA.n → (w.alloc (.cells #[.string x.n, .int .i64 x.k, .int .i64 x.v] t)).cell? ⟨g, j, none⟩ = (shA.cs x)[j]? := by
  intro j _; rw [World.cell?_alloc_at _ _ _ _ hg]; simp [shA, At.cs]
/-- A letter's text. -/
theorem letter (w : World) (x : Nat) (hx : x < 5) : ∃ s : ByteArray, s.size ≤ maxLen ∧ (convert 48 9 (.slice (some ⟨w.heap.size, 0, none⟩) 1 1)).run Try.prog (w.alloc (.cells #[.int .u8 (97 + (x : Int))] 5)) = .ok (.string s) (w.alloc (.cells #[.int .u8 (97 + (x : Int))] 5)) := by
  refine ⟨⟨[(97 + x).toUInt8].toArray⟩, by unfold maxLen; show 1 ≤ _; omega, ?_⟩
  refine run_convert_bytes_back _ 48 9 5 ⟨w.heap.size, 0, none⟩ 1 [(97 + x).toUInt8] Try.underlying48 Try.underlying5 Try.underlying9 (fun j hj => ?_)
  have : j = 0 := by simp at hj; exact hj
  subst this
  rw [Addr.add_lit, World.cell?_alloc_at _ _ _ _ rfl]
  simp [Nat.toUInt8, UInt8.toNat_ofNat']
  omega

/-- What l9DrawAttrs leaves. -/
def DAp (w : World) (g : Nat) (a : Option Addr) (n c : Nat) (bs : List Int) (e : Ending) (w' : World) : Prop := ∃ u xs, e = .returned u ∧ xs.length ≤ 4 ∧ OwnA w' w.heap.size u xs ∧ Drawn w w' g a n c bs

set_option maxRecDepth 100000 in
set_option maxHeartbeats 1000000 in
theorem drawAttrs_any (w : World) (g : Nat) (a : Option Addr) (n c : Nat) (bs : List Int) (hR : Rdr w g a n c bs) (hbz : ∀ b off, 0 < n → a = some ⟨b, off, none⟩ → b < w.heap.size) :
    Calls Try.prog 63 #[.pointer (some ⟨g, 0, none⟩)] w (DAp w g a n c bs) := by
  have hB4 := fun W h => dr_below_any W g a n c bs 4 (by omega) (by omega) h
  have hB5 := fun W h => dr_below_any W g a n c bs 5 (by omega) (by omega) h
  have hB3 := fun W h => dr_below_any W g a n c bs 3 (by omega) (by omega) h
  have hN := fun W h => dr_next_any W g a n c bs h
  have hO40 := fun W h => dr_once_any W g a n c bs 40 (by omega) (by omega) h
  have hglt := hR.lt
  have oE := OwnG.emptyD shA 58 w
  have DE := (Drawn.refl hR).below ((Below.refl _ w).alloc (Nat.le_refl _) (.cells #[] 58))
  go_enter Try.func63, Try.ntmps63
  go_wp2_with fail
  refine (hB4 _ DE.rd).mono ?_
  rintro e w1 ⟨N, rfl, hN4, hD1⟩
  have D1 := DE.trans hD1
  have o1 := oE.drawn hglt hD1
  clear oE DE hD1 hB4
  go_wp2_with fail
  go_loopw [3, 5] (fun v i wr => ∃ (k : Nat) (xs : List At), k ≤ N ∧ xs.length ≤ k ∧ i = .int .i64 k ∧ OwnA wr w.heap.size v xs ∧ Drawn w wr g a n c bs) (fun _ i _ => N - (RowKit.intOf i).toNat)
  case atStart => exact ⟨0, [], Nat.zero_le _, by simp, rfl, o1, D1⟩
  case round =>
    obtain ⟨k, xs, hk, hxk, rfl, hO, hD⟩ := hrel
    clear o1 D1
    generalize wr = W1 at *
    obtain ⟨va, vc, ev⟩ := hO.form
    subst ev
    by_cases hlt : k < N
    · have hlti : (k : Int) < (N : Int) := by omega
      go_wp2_with fail
      refine (hB5 _ hD.rd).mono ?_
      rintro e w2 ⟨x, rfl, hx, hD2⟩
      have D2 := hD.trans hD2
      have O2 := hO.drawn hglt hD2
      obtain ⟨s, hs, hcv⟩ := letter w2 x hx
      have ud : IntKind.u8.wrap (97 + (x : Int)) = 97 + (x : Int) := by simp [IntKind.wrap, IntKind.bits, IntKind.signed]; omega
      have bL : Below w2.heap.size w2 (w2.alloc (.cells #[.int .u8 (97 + (x : Int))] 5)) := (Below.refl _ w2).alloc (Nat.le_refl _) _
      have D3 := D2.below bL
      have O3 := O2.keep bL
      have O3r := O3.rd
      clear hO hD hD2 D2 O2
      go_wp2_with fail
      refine (named_any _ xs s _ O3r).mono ?_
      rintro e w4 ⟨r, rfl, hNm, hw4⟩
      have hw4' := hw4.symm
      subst hw4'
      rcases hNm with ⟨rfl, -⟩ | ⟨i, hi, rfl, -, -⟩
      · clear O3r
        go_wp2_with fail
        refine (hB3 _ D3.rd).mono ?_
        rintro e wB3 ⟨y, rfl, hy, hDB⟩
        have DB := D3.trans hDB
        have OB := O3.drawn hglt hDB
        go_wp2_with fail
        refine (hN _ DB.rd).mono ?_
        rintro e wC3 ⟨z, rfl, hz0, hz1, hDC⟩
        have DC := DB.trans hDC
        have OC := OB.drawn hglt hDC
        have bM : Below wC3.heap.size wC3 (wC3.alloc (.cells #[.string s, .int .i64 (y : Int), .int .i64 z] 58)) := (Below.refl _ wC3).alloc (Nat.le_refl _) _
        have DE := DC.below bM
        have OE := OC.keep bM
        have hszE := DE.gb.size
        have hok : shA.ok (⟨s, (y : Int), z⟩ : At) := ⟨hs, ⟨by show -9223372036854775808 ≤ (y : Int); omega, by show (y : Int) < _; omega⟩, ⟨by show -9223372036854775808 ≤ z; omega, by show z < _; omega⟩⟩
        go_wp2_with (at_builtin; refine wpList_append_one (S := shA) Try.info58 rfl (by omega) rfl _ _ 43 rfl Try.underlying43 w.heap.size _ xs ⟨s, (y : Int), z⟩ hok wC3.heap.size 1 rfl rfl OE (at_new _ ⟨s, (y : Int), z⟩ _ _ rfl) (by omega) hszE ?_; intro a' c' w' hO' hg')
        have DF := DE.grown hg' (fun j hj => (OE.lt j hj).1) hglt hbz
        simp only [List.length_append, List.length_singleton] at hO'
        go_roundw
        case rel => exact ⟨k + 1, xs ++ [⟨s, (y : Int), z⟩], by omega, by simp; omega, by go_num, hO', DF⟩
        case measure => simp [RowKit.intOf]; omega
      · have hi0 : (0 : Int) ≤ (i : Int) := by omega
        go_wp2_with fail
        refine (hO40 _ D3.rd).mono ?_
        rintro e w5 ⟨b, rfl, hD5⟩
        have D5 := D3.trans hD5
        have O5 := O3.drawn hglt hD5
        clear D3 O3 O3r hD5
        cases b
        · go_wp2_with fail
          go_roundw
          case rel => exact ⟨k + 1, xs, by omega, by omega, by go_num, O5, D5⟩
          case measure => simp [RowKit.intOf]; omega
        · skip
          go_wp2_with fail
          refine (hB3 _ D5.rd).mono ?_
          rintro e wB5 ⟨y, rfl, hy, hDB⟩
          have DB := D5.trans hDB
          have OB := O5.drawn hglt hDB
          go_wp2_with fail
          refine (hN _ DB.rd).mono ?_
          rintro e wC5 ⟨z, rfl, hz0, hz1, hDC⟩
          have DC := DB.trans hDC
          have OC := OB.drawn hglt hDC
          have bM : Below wC5.heap.size wC5 (wC5.alloc (.cells #[.string s, .int .i64 (y : Int), .int .i64 z] 58)) := (Below.refl _ wC5).alloc (Nat.le_refl _) _
          have DE := DC.below bM
          have OE := OC.keep bM
          have hszE := DE.gb.size
          have hok : shA.ok (⟨s, (y : Int), z⟩ : At) := ⟨hs, ⟨by show -9223372036854775808 ≤ (y : Int); omega, by show (y : Int) < _; omega⟩, ⟨by show -9223372036854775808 ≤ z; omega, by show z < _; omega⟩⟩
          go_wp2_with (at_builtin; refine wpList_append_one (S := shA) Try.info58 rfl (by omega) rfl _ _ 43 rfl Try.underlying43 w.heap.size _ xs ⟨s, (y : Int), z⟩ hok wC5.heap.size 1 rfl rfl OE (at_new _ ⟨s, (y : Int), z⟩ _ _ rfl) (by omega) hszE ?_; intro a' c' w' hO' hg')
          have DF := DE.grown hg' (fun j hj => (OE.lt j hj).1) hglt hbz
          simp only [List.length_append, List.length_singleton] at hO'
          go_roundw
          case rel => exact ⟨k + 1, xs ++ [⟨s, (y : Int), z⟩], by omega, by simp; omega, by go_num, hO', DF⟩
          case measure => simp [RowKit.intOf]; omega
    · obtain rfl : k = N := by omega
      have hlti : ¬ (k : Int) < (k : Int) := by omega
      go_wp2_with fail
      go_ret
      exact ⟨_, xs, rfl, by omega, hO, hD⟩
end Go.Proofs.Ytfbibbjiomfncaa
