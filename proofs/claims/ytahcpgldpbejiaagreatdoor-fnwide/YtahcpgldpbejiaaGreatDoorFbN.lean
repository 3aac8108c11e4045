import Derived.Test.YtahcpgldpbejiaaGreatDoorFbB
import Derived.Test.YtahcpgldpbejiaaGreatDoorFbW
import Derived.Test.YtahcpgldpbejiaaGreatDoorLaidFm
namespace Go.Proofs.YtahcpgldpbejiaaGreatDoor
open Go.RowKit Go.Lib Go.Shelf
set_option linter.unusedVariables false
set_option linter.unusedSimpArgs false

/-- The sign, as the program has it. -/
def sgP (s : ByteArray) (neg : Bool) : ByteArray := if neg then ⟨#[45]⟩ else if s = ⟨#[45]⟩ then ⟨#[]⟩ else s
def bdP (c B : ByteArray) : ByteArray := if c.toList.isEmpty then B else ⟨(cmT B.data.toList).toArray⟩
set_option maxRecDepth 100000 in
theorem trimMinus_any (s : ByteArray) (w : World) (hs : s = ⟨#[]⟩ ∨ s = ⟨#[43]⟩ ∨ s = ⟨#[45]⟩ ∨ s = ⟨#[32]⟩) :
    Calls Tryz.prog 81 #[.string s, .string ⟨#[45]⟩] w fun e w' => e = .returned (.string (sgP s false)) ∧ Below w.heap.size w w' := by
  have h := Any.strings_TrimPrefix Tryz.laysTP s ⟨#[45]⟩ w
  refine h.mono ?_
  rintro e w' ⟨rfl, rfl⟩
  refine ⟨congrArg (fun x => Ending.returned (.string x)) ?_, Below.refl _ _⟩
  rcases hs with rfl | rfl | rfl | rfl
  all_goals first | rfl | decide
set_option maxHeartbeats 1500000 in
set_option maxRecDepth 100000 in
theorem numP_any (q : Pt) (neg : Bool) (B : ByteArray) (V1 V2 : Value) (w : World) (aA aZ aL : Addr) (hs : q.s = ⟨#[]⟩ ∨ q.s = ⟨#[43]⟩ ∨ q.s = ⟨#[45]⟩ ∨ q.s = ⟨#[32]⟩) (hB : B.size ≤ 16384) (hd : q.c.toList.isEmpty = false → dgs B.data.toList) (hE : Errs w aA aZ aL) (hEf : ErrF w)
    (hF : ∀ W, Errs W aA aZ aL → ErrF W → Calls Tryz.prog 53 #[ptV q, .string (sgP q.s neg), .string (bdP q.c B), .string ⟨#[62]⟩] W fun e w' => e = .returned (.tuple #[V1, V2]) ∧ Below W.heap.size W w') :
    Calls Tryz.prog 58 #[ptV q, .bool neg, .string B] w fun e w' => e = .returned (.tuple #[V1, V2]) ∧ Below w.heap.size w w' := by
  obtain ⟨qf, qa, qs, qz, qw, qc, qp, qk⟩ := q
  simp only at hs hd hF
  have hTr := fun W => trimMinus_any qs W hs
  have hCm := fun W h => withCommas_any B W hB (hd h)
  have hP0 := Bx.new w (ptC ⟨qf, qa, qs, qz, qw, qc, qp, qk⟩) 83
  have hB0 : Below w.heap.size w (w.alloc (.cells (ptC ⟨qf, qa, qs, qz, qw, qc, qp, qk⟩).toArray 83)) := (Below.refl _ w).alloc (Nat.le_refl _) _
  unfold ptV ptC at hF
  unfold ptC at hP0 hB0
  unfold ptV ptC
  obtain ⟨S, hS⟩ : ∃ S, sgP qs neg = S := ⟨_, rfl⟩
  have HS : Hid (sgP qs neg = S) := hS
  obtain ⟨Y, hY⟩ : ∃ Y, bdP qc B = Y := ⟨_, rfl⟩
  have HY : Hid (bdP qc B = Y) := hY
  rw [hS, hY] at hF
  obtain ⟨S0, hS0⟩ : ∃ S0, sgP qs false = S0 := ⟨_, rfl⟩
  have HS0 : Hid (sgP qs false = S0) := hS0
  rw [hS0] at hTr
  clear hS hY hS0 hs hd
  go_enter Tryz.func58, Tryz.ntmps58
  go_upto_region 1 with fail
  generalize w.alloc _ = W0 at *
  have c2 := hP0.cell 2 (by simp)
  simp only [List.getElem_cons_zero, List.getElem_cons_succ] at c2
  go_wp2_with fail
  refine (hTr W0).mono ?_
  rintro e W1 ⟨rfl, hB1⟩
  have hP1 := hP0.keep hB1
  have hB01 := hB0.trans (hB1.mono hB0.size)
  clear hTr hP0 hB0 hB1 c2
  have d5 := hP1.cell 5 (by simp)
  simp only [List.getElem_cons_zero, List.getElem_cons_succ] at d5
  have hcs : (neg = true ∧ (⟨#[45]⟩ : ByteArray) = S) ∨ (neg = false ∧ S0 = S) := by
    cases neg with
    | true => exact .inl ⟨rfl, HS.out⟩
    | false => exact .inr ⟨rfl, HS0.out.symm.trans HS.out⟩
  clear HS HS0
  rcases hcs with ⟨rfl, rfl⟩ | ⟨rfl, rfl⟩
  all_goals
    cases e0 : qc.toList.isEmpty with
    | true =>
      obtain rfl : B = Y := by have := HY.out; unfold bdP at this; rw [e0] at this; exact this
      have hF1 := hF W1 (hE.below hB01) (hEf.below hB01)
      have g0 := hP1.cell 0 (by simp)
      have g1 := hP1.cell 1 (by simp)
      have g2 := hP1.cell 2 (by simp)
      have g3 := hP1.cell 3 (by simp)
      have g4 := hP1.cell 4 (by simp)
      have g6 := hP1.cell 6 (by simp)
      have g7 := hP1.cell 7 (by simp)
      simp only [List.getElem_cons_zero, List.getElem_cons_succ] at g0 g1 g2 g3 g4 g6 g7
      clear hF hCm HY
      go_wp2_with fail
      refine hF1.mono ?_
      rintro e W2 ⟨rfl, hB2⟩
      clear hF1
      go_wp2
      refine bodyPost_ret (v := .tuple #[V1, V2]) (by simp [results, Tryz.results58, go_sem, Act.put]) rfl ?_
      exact ⟨rfl, hB01.trans (hB2.mono hB01.size)⟩
    | false =>
      obtain rfl : (⟨(cmT B.data.toList).toArray⟩ : ByteArray) = Y := by have := HY.out; unfold bdP at this; rw [e0] at this; exact this
      have hC1 := hCm W1 e0
      clear hCm HY
      generalize (⟨(cmT B.data.toList).toArray⟩ : ByteArray) = Y at *
      go_wp2_with fail
      refine hC1.mono ?_
      rintro e W2 ⟨rfl, hB2⟩
      have hP2 := hP1.keep hB2
      have hB02 := hB01.trans (hB2.mono hB01.size)
      have hF1 := hF W2 (hE.below hB02) (hEf.below hB02)
      clear hC1 hB2 hP1 d5
      have g0 := hP2.cell 0 (by simp)
      have g1 := hP2.cell 1 (by simp)
      have g2 := hP2.cell 2 (by simp)
      have g3 := hP2.cell 3 (by simp)
      have g4 := hP2.cell 4 (by simp)
      have g5 := hP2.cell 5 (by simp)
      have g6 := hP2.cell 6 (by simp)
      have g7 := hP2.cell 7 (by simp)
      simp only [List.getElem_cons_zero, List.getElem_cons_succ] at g0 g1 g2 g3 g4 g5 g6 g7
      clear hF hP2
      go_wp2_with fail
      refine hF1.mono ?_
      rintro e W3 ⟨rfl, hB3⟩
      clear hF1
      go_wp2
      refine bodyPost_ret (v := .tuple #[V1, V2]) (by simp [results, Tryz.results58, go_sem, Act.put]) rfl ?_
      exact ⟨rfl, hB02.trans (hB3.mono hB02.size)⟩
end Go.Proofs.YtahcpgldpbejiaaGreatDoor
