import Derived.Test.YtahcpgldpbejiaaGreatDoorFmE
import Derived.Test.YtahcpgldpbejiaaGreatDoorFmF
namespace Go.Proofs.YtahcpgldpbejiaaGreatDoor
open Go.RowKit Go.Lib
set_option linter.unusedVariables false
set_option linter.unusedSimpArgs false

/-- The base that a kind asks for; 0: none. -/
def bsN (k : List UInt8) : Nat := if k.isEmpty || k == [100] then 10 else if k == [98] then 2 else if k == [111] then 8 else if k == [120] then 16 else 0
def bsBad (q : Pt) : Bool := bsN q.k.toList == 0 || !q.p.toList.isEmpty || (!q.c.toList.isEmpty && bsN q.k.toList != 10)
def bsT : ByteArray := ⟨#[97, 110, 32, 105, 110, 116, 101, 103, 101, 114, 39, 115, 32, 115, 112, 101, 99]⟩
def bsV (aA : Addr) (q : Pt) : Value := if bsBad q then .tuple #[.int .u32 0, .iface 87 (.agg #[.string bsT, errAt aA])] else .tuple #[.int .u32 (bsN q.k.toList : Nat), .nilIface]
set_option maxHeartbeats 1500000 in
set_option maxRecDepth 100000 in
theorem base_any (q : Pt) (w : World) (aA aZ aL : Addr) (hE : Errs w aA aZ aL) :
    Calls Tryz.prog 57 #[ptV q] w fun e w' => e = .returned (bsV aA q) ∧ Below w.heap.size w w' := by
  obtain ⟨qf, qa, qs, qz, qw, qc, qp, qk⟩ := q
  obtain ⟨RX, RY, hRR⟩ : ∃ x y, bsV aA ⟨qf, qa, qs, qz, qw, qc, qp, qk⟩ = .tuple #[x, y] := by
    unfold bsV; split <;> exact ⟨_, _, rfl⟩
  rw [hRR]
  have HRR : Hid (bsV aA ⟨qf, qa, qs, qz, qw, qc, qp, qk⟩ = .tuple #[RX, RY]) := hRR
  clear hRR
  have hP0 := Bx.new w (ptC ⟨qf, qa, qs, qz, qw, qc, qp, qk⟩) 83
  have hB0 : Below w.heap.size w (w.alloc (.cells (ptC ⟨qf, qa, qs, qz, qw, qc, qp, qk⟩).toArray 83)) := (Below.refl _ w).alloc (Nat.le_refl _) _
  unfold ptC at hP0 hB0
  unfold ptV ptC
  go_enter Tryz.func57, Tryz.ntmps57
  go_upto_region 2 with fail
  generalize w.alloc _ = W0 at *
  have c5 := hP0.cell 5 (by simp)
  have c6 := hP0.cell 6 (by simp)
  have c7 := hP0.cell 7 (by simp)
  simp only [List.getElem_cons_zero, List.getElem_cons_succ] at c5 c6 c7
  have hg := (hE.below hB0).1.1
  obtain ⟨N, hN⟩ : ∃ N, bsN qk.toList = N := ⟨_, rfl⟩
  have HN : Hid (bsN qk.toList = N) := hN
  clear hN hP0
  go_upto_block 0 with fail
  go_cut [4] from 7 to 15 (fun s4 wc => s4 = .int .u32 (N : Int) ∧ wc = W0)
  case first =>
    have hN := HN.out
    unfold bsN at hN
    cases e0 : qk.toList.isEmpty with
    | true =>
      rw [e0] at hN
      simp only [Bool.true_or, if_true] at hN
      subst hN
      clear HN HRR
      go_wp2
      go_meet
      exact ⟨rfl, rfl⟩
    | false =>
      rw [e0] at hN
      simp only [Bool.false_or] at hN
      clear HN HRR
      cases e1 : (qk.toList == [100]) with
      | true =>
        rw [e1] at hN; simp only [if_true] at hN; subst hN
        go_wp2
        go_meet
        exact ⟨rfl, rfl⟩
      | false =>
        rw [e1] at hN; simp only [Bool.false_eq_true, if_false] at hN
        cases e2 : (qk.toList == [98]) with
        | true =>
          rw [e2] at hN; simp only [if_true] at hN; subst hN
          go_wp2
          go_meet
          exact ⟨rfl, rfl⟩
        | false =>
          rw [e2] at hN; simp only [Bool.false_eq_true, if_false] at hN
          cases e3 : (qk.toList == [111]) with
          | true =>
            rw [e3] at hN; simp only [if_true] at hN; subst hN
            go_wp2
            go_meet
            exact ⟨rfl, rfl⟩
          | false =>
            rw [e3] at hN; simp only [Bool.false_eq_true, if_false] at hN
            cases e4 : (qk.toList == [120]) with
            | true =>
              rw [e4] at hN; simp only [if_true] at hN; subst hN
              go_wp2
              go_meet
              exact ⟨rfl, rfl⟩
            | false =>
              rw [e4] at hN; simp only [Bool.false_eq_true, if_false] at hN; subst hN
              go_wp2
              go_meet
              exact ⟨rfl, rfl⟩
  case rest =>
    obtain ⟨rfl, rfl⟩ := hcut
    obtain ⟨b, hb⟩ : ∃ b, bsBad ⟨qf, qa, qs, qz, qw, qc, qp, qk⟩ = b := ⟨_, rfl⟩
    have hb2 := hb
    unfold bsBad at hb2
    simp only [HN.out] at hb2
    have hR := HRR.out
    unfold bsV at hR
    rw [hb] at hR
    simp only [HN.out] at hR
    have HR : Hid _ := hR
    have HB : Hid _ := hb2
    clear hR hb2 hb HRR HN
    go_upto_region 12 with fail
    go_cut [31] from 16 to 31 (fun s wc' => s = .bool b ∧ wc' = wc)
    case first =>
      have hb := HB.out
      clear HR HB
      by_cases n0 : N = 0
      · subst n0
        simp only [beq_self_eq_true, Bool.true_or] at hb
        subst hb
        go_wp2
        go_meet
        exact ⟨rfl, rfl⟩
      · have m0 : ((N : Int) == 0) = false := by rw [beq_eq_false_iff_ne]; omega
        rw [show (N == 0) = false by simp [n0]] at hb
        simp only [Bool.false_or] at hb
        cases e1 : qp.toList.isEmpty with
        | false =>
          rw [e1] at hb
          simp only [Bool.not_false, Bool.true_or] at hb
          subst hb
          go_wp2
          go_meet
          exact ⟨rfl, rfl⟩
        | true =>
          rw [e1] at hb
          simp only [Bool.not_true, Bool.false_or] at hb
          cases e2 : qc.toList.isEmpty with
          | true =>
            rw [e2] at hb
            simp only [Bool.not_true, Bool.false_and] at hb
            subst hb
            go_wp2
            go_meet
            exact ⟨rfl, rfl⟩
          | false =>
            rw [e2] at hb
            simp only [Bool.not_false, Bool.true_and] at hb
            by_cases n1 : N = 10
            · subst n1
              obtain rfl : b = false := by rw [← hb]; rfl
              go_wp2
              go_meet
              exact ⟨rfl, rfl⟩
            · have m1 : ((N : Int) == 10) = false := by rw [beq_eq_false_iff_ne]; omega
              obtain rfl : b = true := by rw [← hb]; simp [n1]
              have HV : Hid (((N : Int) != 10) = true) := by show _ = _; unfold bne; rw [m1]; rfl
              go_wp2
              go_meet
              exact ⟨congrArg Value.bool HV.out, rfl⟩
    case rest =>
      obtain ⟨rfl, hw2⟩ := hcut
      obtain rfl := hw2
      cases b with
      | true =>
        have hR := HR.out
        rw [if_pos rfl] at hR
        injection hR with hR
        injection hR with hR
        injection hR with h1 hR
        injection hR with h2 _
        subst h1 h2
        clear HR HB
        go_upto_region 13 with fail
        go_region_with fail
        all_goals try go_wp2
        all_goals refine bodyPost_ret (v := .tuple #[.int .u32 0, .iface 87 (.agg #[.string bsT, errAt aA])]) (by simp [results, Tryz.results57, go_sem, Act.put, bsT]) rfl ?_
        all_goals exact ⟨rfl, hB0.drew⟩
      | false =>
        have hR := HR.out
        rw [if_neg (by decide)] at hR
        injection hR with hR
        injection hR with hR
        injection hR with h1 hR
        injection hR with h2 _
        subst h1 h2
        clear HR HB
        go_wp2
        refine bodyPost_ret (v := .tuple #[.int .u32 (N : Int), .nilIface]) (by simp [results, Tryz.results57, go_sem, Act.put]) rfl ?_
        exact ⟨rfl, hB0⟩
end Go.Proofs.YtahcpgldpbejiaaGreatDoor
