import Derived.Test.YtlnekedehalbdaaPsO
import Derived.Test.YtlnekedehalbdaaDrwC
namespace Go.Proofs.Ytlnekedehalbdaa
open Go.RowKit
set_option linter.unusedVariables false
set_option linter.unusedSimpArgs false

theorem Own.drawn {w w' : World} {B g : Nat} {a : Option Addr} {n c : Nat} {bs : List Int} {v : Value} {xs : List Int} (h : Own w B v xs) (hB : g < B) (hD : Drawn w w' g a n c bs) : Own w' B v xs :=
  h.but hD.gb (.inr (fun e => by have := (h.lt _ e).1; omega))
/-- A step of our own beside the reader. -/
theorem Drawn.grown {w w1 w2 : World} {g : Nat} {a : Option Addr} {n c : Nat} {bs : List Int} (h : Drawn w w1 g a n c bs) {row : Option Nat} (k : w1.grownBy w2 row) (hr : ∀ j, row = some j → w.heap.size ≤ j) (hg : g < w.heap.size) (hbz : ∀ b off, 0 < n → a = some ⟨b, off, none⟩ → b < w.heap.size) : Drawn w w2 g a n c bs := by
  have hne : some g ≠ row := fun e => by have := hr g e.symm; omega
  refine ⟨⟨Nat.lt_of_lt_of_le h.rd.lt k.size, k.cell h.rd.c0 hne, ?_, ?_, h.rd.nb, h.rd.lim, fun h0 => ?_⟩, ?_⟩
  · obtain ⟨p, hp, hc⟩ := h.rd.c1; exact ⟨p, hp, k.cell hc hne⟩
  · have := k.block g h.rd.lt hne
    unfold World.frozen?; simp only; rw [this]; exact h.rd.fz
  · obtain ⟨b, off, e, hne2, hlt, hcs⟩ := h.rd.by_ h0
    have hb := hbz b off h0 e
    exact ⟨b, off, e, hne2, Nat.lt_of_lt_of_le hlt k.size, fun j hj => k.cell (hcs j hj) (fun e => by have := hr b e.symm; omega)⟩
  · exact ⟨k.os.trans h.gb.os, k.tape.trans h.gb.tape, k.output.trans h.gb.output, Nat.le_trans h.gb.size k.size, fun i hi hne2 => (k.block i (Nat.lt_of_lt_of_le hi h.gb.size) (fun e => by have := hr i e.symm; omega)).trans (h.gb.block i hi hne2)⟩

def KB (L : List Int) : Prop := ∀ x ∈ L, 0 ≤ x ∧ x ≤ 1000
theorem KB.set {L : List Int} (h : KB L) (k : Nat) {z : Int} (h0 : 0 ≤ z) (h1 : z ≤ 1000) : KB (L.set k z) := fun x hx => by
  rcases List.mem_or_eq_of_mem_set hx with h2 | h2
  · exact h x h2
  · omega
theorem KB.get {L : List Int} (h : KB L) {k : Nat} (hk : k < L.length) : ∃ X : Nat, L.getD k 0 = (X : Int) ∧ X ≤ 1000 := by
  have e : L.getD k 0 = L[k] := by simp [List.getD, hk]
  have := h _ (List.getElem_mem hk)
  exact ⟨(L[k]).toNat, by omega, by omega⟩
set_option maxRecDepth 100000 in
set_option maxHeartbeats 1000000 in
theorem drawKeys_any (w : World) (g : Nat) (a : Option Addr) (n c : Nat) (bs : List Int) (m : Nat) (hm : 1 ≤ m) (hm2 : m ≤ 256) (hR : Rdr w g a n c bs) (hbz : ∀ b off, 0 < n → a = some ⟨b, off, none⟩ → b < w.heap.size) :
    Calls Try.prog 32 #[.pointer (some ⟨g, 0, none⟩), .int .i64 m] w fun e w' => ∃ v L, e = .returned v ∧ L.length ≤ m ∧ Own w' w.heap.size v L ∧ Drawn w w' g a n c bs := by
  have hS := dr_size_any w g a n c bs 3 m (by omega) (by omega) hm hm2 hR
  have hB20 := fun W h => dr_below_any W g a n c bs 20 (by omega) (by omega) h
  have hO4 := fun W h => dr_once_any W g a n c bs 4 (by omega) (by omega) h
  have hglt := hR.lt
  go_enter Try.func32, Try.ntmps32
  go_wp2_with fail
  refine hS.mono ?_
  rintro e w1 ⟨N, rfl, hN1, hN2, hD1⟩
  have hsz1 := hD1.gb.size
  have hO0 := Own.empty w1
  have hDa := hD1.below ((Below.refl _ w1).alloc (Nat.le_refl _) (.cells #[] 2))
  clear hS
  go_wp2
  go_loopw [6, 7] (fun v i wr => ∃ (k : Nat) (L : List Int), k ≤ N ∧ L.length = k ∧ KB L ∧ i = .int .i64 k ∧ Own wr w.heap.size v L ∧ Drawn w wr g a n c bs) (fun _ i _ => N - (RowKit.intOf i).toNat)
  case atStart => exact ⟨0, [], Nat.zero_le _, rfl, (fun x hx => by cases hx), rfl, hO0.mono hsz1, hDa⟩
  case round =>
    obtain ⟨k, L, hk, hlen, hKB, rfl, hO, hD⟩ := hrel
    clear hO0 hDa hR hD1
    obtain ⟨va, vc, hv⟩ := hO.form
    subst hv
    have HL : Hid (L.length = k) := hlen
    rw [hlen] at hO ⊢
    by_cases hlt : k < N
    · clear hlen
      go_wp2_with fail
      refine (hB20 _ hD.rd).mono ?_
      rintro e w2 ⟨x, rfl, hx, hD2⟩
      have hO2 := hO.drawn hglt hD2
      have hDB := hD.trans hD2
      have hsz2 := hDB.gb.size
      clear hO hD hD2
      have hxR : -9223372036854775808 ≤ (x : Int) ∧ (x : Int) < 9223372036854775808 := by omega
      go_wp2_with (at_builtin; refine wpList_append_gb rfl _ _ 22 rfl Try.underlying22 w.heap.size _ _ L [(x : Int)] (k + 1) (by simp [HL.out]) rfl rfl (hO2.alloc _) (Rd.one w2 w2.heap.size rfl 2 hxR.1 hxR.2) (by simp) (by omega) (by simp; omega) ?_; intro a5 c5 w5 hO5 hg5)
      go_roundw
      case rel => exact ⟨k + 1, L ++ [(x : Int)], by omega, by simp [HL.out], (fun y hy => by rcases List.mem_append.mp hy with h | h; exact hKB y h; simp at h; omega), by go_num, hO5, (hDB.below ((Below.refl _ _).alloc (Nat.le_refl _) _)).grown hg5 (fun j hj => (hO2.lt j hj).1) hglt hbz⟩
      case measure => simp [RowKit.intOf]; omega
    · obtain rfl : k = N := by omega
      have hpos : 0 < L.length := by omega
      obtain ⟨G, rfl, hG⟩ : ∃ G, va = some ⟨G, 0, none⟩ ∧ w.heap.size ≤ G := by
        rcases hO.shape with ⟨_, e⟩ | ⟨G, cap, e, h1, _⟩
        · subst e; simp at hpos
        · simp only [Value.slice.injEq] at e; exact ⟨G, e.1, h1⟩
      clear hpos hlen
      go_wp2_with fail
      refine (hO4 _ hD.rd).mono ?_
      rintro e w2 ⟨x, rfl, hD2⟩
      have hO2 := hO.drawn hglt hD2
      have hDB := hD.trans hD2
      clear hO hD hD2
      cases x
      · go_wp2_with fail
        refine (hO4 _ hDB.rd).mono ?_
        rintro e w3 ⟨x, rfl, hD3⟩
        have hO3 := hO2.drawn hglt hD3
        have hDC := hDB.trans hD3
        clear hO2 hDB hD3
        cases x
        · go_wp2
          go_ret
          exact ⟨_, L, rfl, by have := HL.out; omega, hO3, hDC⟩
        · go_wp2
          go_loopw [9] (fun i wr => ∃ (j : Nat) (M : List Int), j ≤ k ∧ M.length = k ∧ KB M ∧ i = .int .i64 j ∧ Own wr w.heap.size (.slice (some ⟨G, 0, none⟩) k vc) M ∧ Drawn w wr g a n c bs) (fun i _ => k - (RowKit.intOf i).toNat)
          case atStart => exact ⟨0, L, Nat.zero_le _, HL.out, hKB, rfl, hO3, hDC⟩
          case round =>
            obtain ⟨j, M, hj, hlm, hKM, rfl, hO, hD⟩ := hrel
            clear hO3 hDC
            by_cases hjl : j < k
            · obtain ⟨X, hX, hX1⟩ := hKM.get (k := j) (by omega)
              have hce := hO.cell j (by omega)
              have hfz := hO.frozen j
              rw [hX] at hce
              obtain ⟨q, hq⟩ : ∃ q : Nat, X / 9 = q := ⟨_, rfl⟩
              have hqd : Int.tdiv (X : Int) 9 = (q : Int) := by rw [← hq]; exact (Int.ofNat_tdiv X 9).symm
              have hqb : q ≤ 1000 := by omega
              obtain ⟨d, hd⟩ : ∃ d : Nat, k = j + d := ⟨k - j, by omega⟩
              have hdz : (k : Int) - (j : Int) = (d : Int) := by omega
              have hsb : (d : Int) + (q : Int) ≤ 1000 := by omega
              have hkz : (j : Int) < (k : Int) := by omega
              have hS1 := hO.store j (z := (d : Int) + (q : Int)) (by omega) (by omega)
              have hD1 : Drawn w (wr.setCell ⟨G, j, none⟩ (.int .i64 ((d : Int) + (q : Int)))) g a n c bs := hD.grown (gb_set _ _ _ _) (fun i hi => by cases hi; exact hG) hglt hbz
              have hf : ∃ (j' : Nat) (M' : List Int), j' ≤ k ∧ M'.length = k ∧ KB M' ∧ Value.int .i64 ((j : Int) + 1) = .int .i64 j' ∧ Own (wr.setCell ⟨G, j, none⟩ (.int .i64 ((d : Int) + (q : Int)))) w.heap.size (.slice (some ⟨G, 0, none⟩) k vc) M' ∧ Drawn w (wr.setCell ⟨G, j, none⟩ (.int .i64 ((d : Int) + (q : Int)))) g a n c bs := ⟨j + 1, M.set j ((d : Int) + (q : Int)), by omega, by simp [hlm], hKM.set j (by omega) hsb, by simp, hS1, hD1⟩
              have Hf : Hid _ := hf
              clear hf hq hd hS1 hD1
              go_wp2
              go_roundw
              case rel => exact Hf.out
              case measure => simp [RowKit.intOf]; omega
            · go_wp2
              go_ret
              exact ⟨_, M, rfl, by omega, hO, hD⟩
      · go_wp2
        go_loopw [8] (fun i wr => ∃ (j : Nat) (M : List Int), j ≤ k ∧ M.length = k ∧ KB M ∧ i = .int .i64 j ∧ Own wr w.heap.size (.slice (some ⟨G, 0, none⟩) k vc) M ∧ Drawn w wr g a n c bs) (fun i _ => k - (RowKit.intOf i).toNat)
        case atStart => exact ⟨0, L, Nat.zero_le _, HL.out, hKB, rfl, hO2, hDB⟩
        case round =>
          obtain ⟨j, M, hj, hlm, hKM, rfl, hO, hD⟩ := hrel
          clear hO2 hDB
          by_cases hjl : j < k
          · obtain ⟨X, hX, hX1⟩ := hKM.get (k := j) (by omega)
            have hce := hO.cell j (by omega)
            have hfz := hO.frozen j
            rw [hX] at hce
            obtain ⟨q, hq⟩ : ∃ q : Nat, X / 7 = q := ⟨_, rfl⟩
            have hqd : Int.tdiv (X : Int) 7 = (q : Int) := by rw [← hq]; exact (Int.ofNat_tdiv X 7).symm
            have hqb : q ≤ 150 := by omega
            have hsb : (j : Int) + (q : Int) ≤ 1000 := by omega
            have hkz : (j : Int) < (k : Int) := by omega
            have hS1 := hO.store j (z := (j : Int) + (q : Int)) (by omega) (by omega)
            have hD1 : Drawn w (wr.setCell ⟨G, j, none⟩ (.int .i64 ((j : Int) + (q : Int)))) g a n c bs := hD.grown (gb_set _ _ _ _) (fun i hi => by cases hi; exact hG) hglt hbz
            have hf : ∃ (j' : Nat) (M' : List Int), j' ≤ k ∧ M'.length = k ∧ KB M' ∧ Value.int .i64 ((j : Int) + 1) = .int .i64 j' ∧ Own (wr.setCell ⟨G, j, none⟩ (.int .i64 ((j : Int) + (q : Int)))) w.heap.size (.slice (some ⟨G, 0, none⟩) k vc) M' ∧ Drawn w (wr.setCell ⟨G, j, none⟩ (.int .i64 ((j : Int) + (q : Int)))) g a n c bs := ⟨j + 1, M.set j ((j : Int) + (q : Int)), by omega, by simp [hlm], hKM.set j (by omega) hsb, by simp, hS1, hD1⟩
            have Hf : Hid _ := hf
            clear hf hq hS1 hD1
            go_wp2
            go_roundw
            case rel => exact Hf.out
            case measure => simp [RowKit.intOf]; omega
          · go_wp2
            go_ret
            exact ⟨_, M, rfl, by omega, hO, hD⟩
end Go.Proofs.Ytlnekedehalbdaa
