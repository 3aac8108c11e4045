import Derived.Test.YtfoofbcfcekleaaGreatDoorQtD
namespace Go.Proofs.YtfoofbcfcekleaaGreatDoor
open Go.RowKit Go.Lib
set_option linter.unusedVariables false
set_option linter.unusedSimpArgs false

/-- StrValue, at what stands between the quotes. -/
def SVc (w : World) (ins : List UInt8) (T : ByteArray) : Prop := ∀ W, Below w.heap.size w W → Calls Tryz.prog 9 #[.string (bz' ins)] W fun e w' => e = .returned (.tuple #[.string T, .bool true]) ∧ Below W.heap.size W w'
set_option maxHeartbeats 2000000 in
set_option maxRecDepth 100000 in
theorem readString_any (q : UInt8) (ins : List UInt8) (T : ByteArray) (Q : Int) (w : World) (hQ : Qs (bz' (q :: ins ++ [q])) Q) (hq : q ≠ 92) (hq10 : q ≠ 10) (hg : Gd q ins) (hl : ins.length ≤ 20000) (hHP : HPc) (hRP : RPc) (hIB : IBc) (hCL : CLc) (hSV : SVc w ins T) :
    Calls Tryz.prog 57 #[.string (bz' (q :: ins ++ [q]))] w fun e w' => e = .returned (.tuple #[.agg #[.int .i64 5, .string T, .int .i64 0], .int .i64 ((ins.length : Int) + 2), .int .i64 0]) ∧ Below w.heap.size w w' := by
  have al : Below w.heap.size w (w.alloc (.cells #[.int .i64 0, .string ⟨#[]⟩, .int .i64 0] 33)) := (Below.refl _ _).alloc (Nat.le_refl _) _
  have h1 := cutNo_any (bz' (q :: ins ++ [q])) Q (w.alloc (.cells #[.int .i64 0, .string ⟨#[]⟩, .int .i64 0] 33)) hQ hIB
  have h2 := fun W => cutQuoted_any q ins W hq hq10 hg hl hHP hRP
  have h3 := fun W => hCL (bz' ins) W (by rw [bz_size]; exact hl)
  have hsz : (bz' (q :: ins ++ [q])).size = ins.length + 2 := by rw [bz_size]; simp
  obtain ⟨S, hS⟩ : ∃ S, bz' (q :: ins ++ [q]) = S := ⟨_, rfl⟩
  obtain ⟨I, hI⟩ : ∃ I, bz' ins = I := ⟨_, rfl⟩
  obtain ⟨E, hE⟩ : ∃ E, bz' [] = E := ⟨_, rfl⟩
  have hes : E.size = 0 := by rw [← hE, bz_size]; rfl
  unfold SVc at hSV
  simp only [hS, hI, hE] at h1 h2 h3 hSV hsz ⊢
  obtain ⟨LN, hLN⟩ : ∃ LN, ins.length = LN := ⟨_, rfl⟩
  rw [hLN] at hsz hl ⊢
  have hwr : IntKind.i64.wrap ((LN : Int) + 2) = (LN : Int) + 2 := by simp [IntKind.wrap, IntKind.bits, IntKind.signed]; omega
  clear hQ hg hS hI hE hLN
  go_enter Tryz.func57, Tryz.ntmps57
  go_wp2_with fail
  refine h1.mono ?_
  rintro e W1 ⟨rfl, rfl⟩
  clear h1
  go_wp2_with fail
  refine (h2 _).mono ?_
  rintro e W2 ⟨rfl, b2⟩
  clear h2
  go_wp2_with fail
  refine (h3 _).mono ?_
  rintro e W3 ⟨rfl, b3⟩
  clear h3
  have b3' := al.trans ((b2.mono al.size).trans (b3.mono (Nat.le_trans al.size b2.size)))
  go_wp2_with fail
  refine (hSV _ b3').mono ?_
  rintro e W4 ⟨rfl, b4⟩
  clear hSV
  have hbx : W4.heap[w.heap.size]? = some (.cells #[.int .i64 0, .string ⟨#[]⟩, .int .i64 0] 33 (0, 0)) := by
    have a1 : w.heap.size < (w.alloc (.cells #[.int .i64 0, .string ⟨#[]⟩, .int .i64 0] 33)).heap.size := by simp
    rw [b4.block _ (Nat.lt_of_lt_of_le (Nat.lt_of_lt_of_le a1 b2.size) b3.size), b3.block _ (Nat.lt_of_lt_of_le a1 b2.size), b2.block _ a1]
    exact (MapKept.heap_alloc w _).1
  have b4' := b3'.trans (b4.mono b3'.size)
  have x0 : W4.cell? ⟨w.heap.size, 0, none⟩ = some (.int .i64 0) := cell_obj hbx rfl
  have x1 : W4.cell? ⟨w.heap.size, 1, none⟩ = some (.string ⟨#[]⟩) := cell_obj hbx rfl
  have x2 : W4.cell? ⟨w.heap.size, 2, none⟩ = some (.int .i64 0) := cell_obj hbx rfl
  have xf : ∀ o, W4.frozen? ⟨w.heap.size, o, none⟩ = false := fun o => frozen_obj hbx
  have xf0 := xf 0
  have xf1 := xf 1
  have xf2 := xf 2
  clear b2 b3 b4 xf hbx b3'
  go_wp2_with fail
  refine bodyPost_ret (v := .tuple #[.agg #[.int .i64 5, .string T, .int .i64 0], .int .i64 ((LN : Int) + 2), .int .i64 0]) (by simp [results, Tryz.results57, go_sem, x0, x1, x2]) rfl ⟨rfl, ?_⟩
  exact ((b4'.setCell (Nat.le_refl _) _).setCell (Nat.le_refl _) _).setCell (Nat.le_refl _) _
set_option maxHeartbeats 2000000 in
set_option maxRecDepth 100000 in
theorem readToken_any (q : UInt8) (ins : List UInt8) (T : ByteArray) (Q : Int) (w : World) (hQ : Qs (bz' (q :: ins ++ [q])) Q) (hq : q ≠ 92) (hq10 : q ≠ 10) (hg : Gd q ins) (hl : ins.length ≤ 20000) (hHP : HPc) (hRP : RPc) (hIB : IBc) (hCL : CLc) (hSV : SVc w ins T) :
    Calls Tryz.prog 45 #[.string (bz' (q :: ins ++ [q]))] w fun e w' => e = .returned (.tuple #[.agg #[.int .i64 5, .string T, .int .i64 0], .int .i64 ((ins.length : Int) + 2), .int .i64 0]) ∧ Below w.heap.size w w' := by
  have al : Below w.heap.size w (w.alloc (.cells #[.int .i64 0, .string ⟨#[]⟩, .int .i64 0] 33)) := (Below.refl _ _).alloc (Nat.le_refl _) _
  have h1 := begins_any (bz' (q :: ins ++ [q])) Q (w.alloc (.cells #[.int .i64 0, .string ⟨#[]⟩, .int .i64 0] 33)) hQ hIB
  have h2 := fun W (hb : Below w.heap.size w W) => readString_any q ins T Q W hQ hq hq10 hg hl hHP hRP hIB hCL (fun W2 hb2 => hSV W2 (hb.trans (hb2.mono hb.size)))
  obtain ⟨S, hS⟩ : ∃ S, bz' (q :: ins ++ [q]) = S := ⟨_, rfl⟩
  obtain ⟨LN, hLN⟩ : ∃ LN, ins.length = LN := ⟨_, rfl⟩
  simp only [hS, hLN] at h1 h2 ⊢
  clear hQ hg hS hLN hSV
  go_enter Tryz.func45, Tryz.ntmps45
  go_wp2_with fail
  refine h1.mono ?_
  rintro e W1 ⟨rfl, b1⟩
  clear h1
  have b1' := al.trans (b1.mono al.size)
  go_wp2_with fail
  refine (h2 _ b1').mono ?_
  rintro e W4 ⟨rfl, b4⟩
  clear h2
  have hbx : W4.heap[w.heap.size]? = some (.cells #[.int .i64 0, .string ⟨#[]⟩, .int .i64 0] 33 (0, 0)) := by
    have a1 : w.heap.size < (w.alloc (.cells #[.int .i64 0, .string ⟨#[]⟩, .int .i64 0] 33)).heap.size := by simp
    rw [b4.block _ (Nat.lt_of_lt_of_le a1 b1.size), b1.block _ a1]
    exact (MapKept.heap_alloc w _).1
  have b4' := b1'.trans (b4.mono b1'.size)
  have x0 : W4.cell? ⟨w.heap.size, 0, none⟩ = some (.int .i64 0) := cell_obj hbx rfl
  have x1 : W4.cell? ⟨w.heap.size, 1, none⟩ = some (.string ⟨#[]⟩) := cell_obj hbx rfl
  have x2 : W4.cell? ⟨w.heap.size, 2, none⟩ = some (.int .i64 0) := cell_obj hbx rfl
  have xf0 : W4.frozen? ⟨w.heap.size, 0, none⟩ = false := frozen_obj hbx
  have xf1 : W4.frozen? ⟨w.heap.size, 1, none⟩ = false := frozen_obj hbx
  have xf2 : W4.frozen? ⟨w.heap.size, 2, none⟩ = false := frozen_obj hbx
  clear b1 b4 hbx b1'
  go_wp2_with fail
  refine bodyPost_ret (v := .tuple #[.agg #[.int .i64 5, .string T, .int .i64 0], .int .i64 ((LN : Int) + 2), .int .i64 0]) (by simp [results, Tryz.results45, go_sem, x0, x1, x2]) rfl ⟨rfl, ?_⟩
  exact ((b4'.setCell (Nat.le_refl _) _).setCell (Nat.le_refl _) _).setCell (Nat.le_refl _) _
end Go.Proofs.YtfoofbcfcekleaaGreatDoor
