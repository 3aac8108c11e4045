import Derived.Test.YtnpjlmnhailipaaHelO
import Derived.Test.YtnpjlmnhailipaaDrwZ
namespace Go.Proofs.Ytnpjlmnhailipaa
open Go.RowKit Go.Maps
set_option linter.unusedVariables false
set_option linter.unusedSimpArgs false

theorem tabK10 (x : Nat) (hx : x < 10) : ∃ y : Int, (#[.int .i64 1, .int .i64 1, .int .i64 1, .int .i64 1, .int .i64 2, .int .i64 3, .int .i64 3, .int .i64 4, .int .i64 5, .int .i64 6] : Array Value)[x]? = some (.int .i64 y) ∧ 1 ≤ y ∧ y ≤ 6 := by
  match x, hx with
  | 0, _ => exact ⟨_, rfl, by decide, by decide⟩
  | 1, _ => exact ⟨_, rfl, by decide, by decide⟩
  | 2, _ => exact ⟨_, rfl, by decide, by decide⟩
  | 3, _ => exact ⟨_, rfl, by decide, by decide⟩
  | 4, _ => exact ⟨_, rfl, by decide, by decide⟩
  | 5, _ => exact ⟨_, rfl, by decide, by decide⟩
  | 6, _ => exact ⟨_, rfl, by decide, by decide⟩
  | 7, _ => exact ⟨_, rfl, by decide, by decide⟩
  | 8, _ => exact ⟨_, rfl, by decide, by decide⟩
  | 9, _ => exact ⟨_, rfl, by decide, by decide⟩
theorem OwnG.emptyD {α : Type} (S : Sh α) (T : TypeId) (w : World) : OwnG S T (w.alloc (.cells #[] T)) w.heap.size (.slice (some ⟨w.heap.size, 0, none⟩) 0 0) [] :=
  ⟨World.ownsRow_lit w #[] 0 (Nat.le_refl _) (Nat.zero_le _) (by simp), by simp, by simp⟩
theorem op_new (w : World) (x : Op) (t : TypeId) (g : Nat) (hg : g = w.heap.size) : ∀ j, j < shO.n → (w.alloc (.cells #[.int .i64 x.c, .int .u64 x.h, .int .i64 x.k, .int .i64 x.v] t)).cell? ⟨g, j, none⟩ = (shO.cs x)[j]? := by
  intro j _; rw [World.cell?_alloc_at _ _ _ _ hg]; simp [shO, Op.cs]
theorem OwnG.drawn {α : Type} {S : Sh α} {T : TypeId} {w w' : World} {B g : Nat} {a : Option Addr} {n c : Nat} {bs : List Int} {v : Value} {xs : List α} (h : OwnG S T w B v xs) (hB : g < B) (hD : Drawn w w' g a n c bs) : OwnG S T w' B v xs :=
  h.but hD.gb (.inr (fun e => by have := (h.lt _ e).1; omega))
theorem Own.drawn {w w' : World} {B g : Nat} {a : Option Addr} {n c : Nat} {bs : List Int} {v : Value} {xs : List Int} (h : Own w B v xs) (hB : g < B) (hD : Drawn w w' g a n c bs) : Own w' B v xs :=
  h.but hD.gb (.inr (fun e => by have := (h.lt _ e).1; omega))
/-- A step of our own beside the reader. -/
theorem Drawn.grown {w w1 w2 : World} {g : Nat} {a : Option Addr} {n c : Nat} {bs : List Int} (h : Drawn w w1 g a n c bs) {row : Option Nat} (k : w1.grownBy w2 row) (hr : ∀ j, row = some j → w.heap.size ≤ j) (hg : g < w.heap.size) (hbz : ∀ b off, 0 < n → a = some ⟨b, off, none⟩ → b < w.heap.size) : Drawn w w2 g a n c bs := by
  have hne : some g ≠ row := fun e => by have := hr g e.symm; omega
  refine ⟨⟨Nat.lt_of_lt_of_le h.rd.lt k.size, k.cell h.rd.c0 hne, ?_, ?_, h.rd.nb, h.rd.lim, fun h0 => ?_⟩, ?_⟩
  · obtain ⟨p, hp, hc⟩ := h.rd.c1; exact ⟨p, hp, k.cell hc hne⟩
  · have := k.block g h.rd.lt hne
    unfold World.frozen?; simp only; rw [this]; exact h.rd.fz
  · obtain ⟨b, off, e, hne2, hlt, hcs⟩ := h.rd.by_ h0
    have hb := hbz b off h0 e
    exact ⟨b, off, e, hne2, Nat.lt_of_lt_of_le hlt k.size, fun j hj => k.cell (hcs j hj) (fun e => by have := hr b e.symm; omega)⟩
  · exact ⟨k.os.trans h.gb.os, k.tape.trans h.gb.tape, k.output.trans h.gb.output, Nat.le_trans h.gb.size k.size, fun i hi hne2 => (k.block i (Nat.lt_of_lt_of_le hi h.gb.size) (fun e => by have := hr i e.symm; omega)).trans (h.gb.block i hi hne2)⟩

set_option maxRecDepth 100000 in
set_option maxHeartbeats 1000000 in
theorem drawOps_any (w : World) (g : Nat) (a : Option Addr) (n c : Nat) (bs : List Int) (m : Nat) (hm : 1 ≤ m) (hm2 : m ≤ 256) (hR : Rdr w g a n c bs) (hbz : ∀ b off, 0 < n → a = some ⟨b, off, none⟩ → b < w.heap.size) :
    Calls Try.prog 62 #[.pointer (some ⟨g, 0, none⟩), .int .i64 m] w fun e w' => ∃ ad cp ops, e = .returned (.slice ad ops.length cp) ∧ ops.length ≤ m ∧ OwnO 59 w' w.heap.size (.slice ad ops.length cp) ops ∧ Drawn w w' g a n c bs := by
  have hS := dr_size_any w g a n c bs 6 m (by omega) (by omega) hm hm2 hR
  have hB10 := fun W h => dr_below_any W g a n c bs 10 (by omega) (by omega) h
  have hB30 := fun W h => dr_below_any W g a n c bs 30 (by omega) (by omega) h
  have hO3 := fun W h => dr_once_any W g a n c bs 3 (by omega) (by omega) h
  have hglt := hR.lt
  go_enter Try.func62, Try.ntmps62
  go_wp2_with fail
  refine hS.mono ?_
  rintro e w1 ⟨N, rfl, hN1, hN2, hD1⟩
  have hsz1 := hD1.gb.size
  have hO0 := OwnG.emptyD shO 59 w1
  have hDa := hD1.below ((Below.refl _ w1).alloc (Nat.le_refl _) (.cells #[] 59))
  clear hS
  go_wp2
  go_loopw [6, 7] (fun v i wr => ∃ (k : Nat) (ops : List Op), k ≤ N ∧ ops.length = k ∧ i = .int .i64 k ∧ OwnO 59 wr w.heap.size v ops ∧ Drawn w wr g a n c bs) (fun _ i _ => N - (RowKit.intOf i).toNat)
  case atStart => exact ⟨0, [], Nat.zero_le _, rfl, rfl, hO0.mono hsz1, hDa⟩
  case round =>
    obtain ⟨k, ops, hk, hlen, rfl, hO, hD⟩ := hrel
    clear hO0 hDa
    obtain ⟨va, vc, hv⟩ := hO.form
    subst hv
    have HL : Hid (ops.length = k) := hlen
    have hopl : ops.length ≤ 256 := by omega
    by_cases hlt : k < N
    · clear hlen
      have hO1 := hO.alloc (.cells #[.int .i64 1, .int .i64 1, .int .i64 1, .int .i64 1, .int .i64 2, .int .i64 3, .int .i64 3, .int .i64 4, .int .i64 5, .int .i64 6] 2)
      have hDA := hD.below ((Below.refl _ _).alloc (Nat.le_refl _) (.cells #[.int .i64 1, .int .i64 1, .int .i64 1, .int .i64 1, .int .i64 2, .int .i64 3, .int .i64 3, .int .i64 4, .int .i64 5, .int .i64 6] 2))
      go_wp2_with fail
      refine (hB10 _ hDA.rd).mono ?_
      rintro e w2 ⟨x, rfl, hx, hD2⟩
      obtain ⟨y, hy, hy0, hy1⟩ := tabK10 x hx
      have hcl := dr_lit_cell hD.rd.lt hD2.gb hy
      have hxz : (x : Int) < 10 := by omega
      have hO2 := hO1.drawn hglt hD2
      have hDB := hDA.trans hD2
      clear hy hO1 hDA hD2 hO hD
      go_wp2_with fail
      refine (hB30 _ hDB.rd).mono ?_
      rintro e w3 ⟨z, rfl, hz, hD3⟩
      have hO3' := hO2.drawn hglt hD3
      have hDC := hDB.trans hD3
      obtain ⟨q, hq⟩ : ∃ q : Nat, z % 7 = q := ⟨_, rfl⟩
      have hmd : Int.tmod (z : Int) 7 = (q : Int) := by rw [← hq, show (7 : Int) = ((7 : Nat) : Int) from rfl, ← Int.ofNat_tmod]
      have hqb : q < 7 := by omega
      clear hq hO2 hDB hD3 hcl
      go_wp2_with fail
      refine (hO3 _ hDC.rd).mono ?_
      rintro e w4 ⟨b, rfl, hD4⟩
      have hO4 := hO3'.drawn hglt hD4
      have hDD := hDC.trans hD4
      have hsz4 := hDD.gb.size
      clear hO3' hDC hD4 hB10 hB30 hO3 hmd
      have hfin : ∀ (H : Int), 0 ≤ H → H < 18446744073709551616 → ∀ a' c' w', OwnG shO 59 w' w.heap.size (.slice a' (ops ++ [(⟨y, H, (z : Int), (k : Int)⟩ : Op)]).length c') (ops ++ [(⟨y, H, (z : Int), (k : Int)⟩ : Op)]) → (w4.alloc (.cells #[.int .i64 y, .int .u64 H, .int .i64 z, .int .i64 k] 59)).grownBy w' (Value.slice va ops.length vc).ownBlock → ∃ (k' : Nat) (ops' : List Op), k' ≤ N ∧ ops'.length = k' ∧ Value.int .i64 ((k : Int) + 1) = .int .i64 (k' : Int) ∧ OwnO 59 w' w.heap.size (.slice a' (ops.length + 1) c') ops' ∧ Drawn w w' g a n c bs := by
        intro H h0 h1 a' c' w' hO' hg'
        refine ⟨k + 1, ops ++ [(⟨y, H, (z : Int), (k : Int)⟩ : Op)], by omega, by simp [HL.out], by simp, by simpa using hO', ?_⟩
        exact (hDD.below ((Below.refl _ _).alloc (Nat.le_refl _) _)).grown hg' (fun j hj => (hO4.lt j hj).1) hglt hbz
      have Hfin : Hid _ := hfin
      clear hfin
      have hyb : -9223372036854775808 ≤ y ∧ y < 9223372036854775808 := by omega
      cases b
      · obtain ⟨H, hH, hH0, hH1⟩ : ∃ H : Int, IntKind.u64.wrap ((z : Int) * 11400714819323198485) = H ∧ 0 ≤ H ∧ H < 18446744073709551616 := ⟨_, rfl, by simp [IntKind.wrap, IntKind.bits, IntKind.signed]; omega, by simp [IntKind.wrap, IntKind.bits, IntKind.signed]; omega⟩
        go_wp2_with (at_builtin; refine wpList_append_one (S := shO) Try.info59 rfl (by omega) rfl _ _ 48 rfl Try.underlying48 w.heap.size _ ops ⟨y, H, z, k⟩ ⟨hyb, ⟨hH0, hH1⟩, ⟨by show -9223372036854775808 ≤ (z : Int); omega, by show (z : Int) < _; omega⟩, ⟨by show -9223372036854775808 ≤ (k : Int); omega, by show (k : Int) < _; omega⟩⟩ w4.heap.size 1 rfl rfl (hO4.alloc _) (op_new _ ⟨y, H, z, k⟩ _ _ (by simp)) (by omega) (by simp; omega) ?_; intro a' c' w' hO' hg')
        go_roundw
        case rel => exact Hfin.out H hH0 hH1 _ _ _ hO' hg'
        case measure => simp [RowKit.intOf]; omega
      · go_wp2_with (at_builtin; refine wpList_append_one (S := shO) Try.info59 rfl (by omega) rfl _ _ 48 rfl Try.underlying48 w.heap.size _ ops (⟨y, (q : Int), z, k⟩ : Op) ⟨hyb, ⟨by show 0 ≤ (q : Int); omega, by show (q : Int) < _; omega⟩, ⟨by show -9223372036854775808 ≤ (z : Int); omega, by show (z : Int) < _; omega⟩, ⟨by show -9223372036854775808 ≤ (k : Int); omega, by show (k : Int) < _; omega⟩⟩ w4.heap.size 1 rfl rfl (hO4.alloc _) (op_new _ (⟨y, (q : Int), z, k⟩ : Op) _ _ (by simp)) (by omega) (by simp; omega) ?_; intro a' c' w' hO' hg')
        go_roundw
        case rel => exact Hfin.out (q : Int) (by omega) (by omega) _ _ _ hO' hg'
        case measure => simp [RowKit.intOf]; omega
    · obtain rfl : k = N := by omega
      go_wp2
      go_ret
      exact ⟨_, _, ops, rfl, by omega, hO, hD⟩
end Go.Proofs.Ytnpjlmnhailipaa
