import Derived.Test.YtfbibbjiomfncaaAtA
import Derived.Test.YtfbibbjiomfncaaAtH
import Derived.Test.YtfbibbjiomfncaaMrF
namespace Go.Proofs.Ytfbibbjiomfncaa
open Go.RowKit
set_option linter.unusedVariables false
set_option linter.unusedSimpArgs false

/-- The first of a name along a line, or none. -/
def fstO (cs : List Cl) (s : ByteArray) : List Int → Option At
  | [] => none
  | y :: r => match ((cs.getD y.toNat ⟨[], []⟩).a).find? (fun x => decide (x.n = s)) with
    | some x => some x
    | none => fstO cs s r
theorem frst_eq (cs : List Cl) (s : ByteArray) : ∀ l, frst cs s l = (fstO cs s l).getD ⟨⟨#[]⟩, -1, 0⟩
  | [] => rfl
  | y :: r => by
    simp only [frst, fstO]
    cases ((cs.getD y.toNat ⟨[], []⟩).a).find? (fun x => decide (x.n = s)) with
    | some x => rfl
    | none => exact frst_eq cs s r
theorem lns_take (cs : List Cl) (m : Nat) : ∀ j, j ≤ m → m ≤ cs.length → lnsC (cs.take m) j = lnsC cs j
  | 0, _, _ => rfl
  | j + 1, hj, hm => by
    have h1 : (cs.take m).getD j ⟨[], []⟩ = cs.getD j ⟨[], []⟩ := by simp [List.getD, List.getElem?_take, show j < m by omega]
    simp only [lnsC]
    rw [lns_take cs m j (by omega) hm, h1]
theorem lns_pre (cs : List Cl) (k : Nat) : ∀ n, k < n → (lnsC cs n).getD k [] = (lnsC cs (k + 1)).getD k []
  | 0, h => by omega
  | n + 1, h => by
    by_cases e : k = n
    · subst e; rfl
    · have := lns_pre cs k n (by omega)
      rw [← this]
      have hl := lns_len cs n
      simp only [lnsC]
      simp only [List.getD]
      rw [List.getElem?_append_left (by omega)]
theorem RdC.upto {w : World} {a : Option Addr} {n cap : Nat} {cs : List Cl} (h : RdC w (.slice a n cap) cs) (m : Nat) (hm : m ≤ cs.length) : RdC w (.slice a m cap) (cs.take m) := by
  obtain ⟨ps, ⟨a', c', e, hl, hz, hn0, hc⟩, hpl, hK⟩ := h
  simp only [Value.slice.injEq] at e
  obtain ⟨rfl, -, rfl⟩ := e
  have hml : (ps.take m).length = m := by simp; omega
  refine ⟨ps.take m, ⟨a, cap, by rw [hml], by omega, fun x hx => hz x (List.mem_of_mem_take hx), ⟨by omega, hn0.2⟩, fun h0 => ?_⟩, by rw [hml]; simp; omega, fun k h h' => ?_⟩
  · obtain ⟨b, off, rfl, hb, hcell⟩ := hc (by omega)
    exact ⟨b, off, rfl, hb, fun k hk j hj => by rw [hcell k (by omega) j hj, List.getElem_take]⟩
  · rw [List.getElem_take, List.getElem_take]
    exact hK k (by omega) (by simp at h'; omega)
theorem OkCs.take {cs : List Cl} (h : OkCs cs) (m : Nat) : OkCs (cs.take m) :=
  ⟨Nat.le_trans (by simp; omega) h.1, fun k hk => by rw [List.getElem_take]; exact h.2 k (by simp at hk; omega)⟩
set_option maxRecDepth 100000 in
theorem neq_fd (o : Option At) (w : World) : (binOp .neq 78 (FdV o) (FdV none)).run Try.prog w = .ok (.bool o.isSome) w := by
  cases o with
  | none =>
    simp only [FdV]
    rw [run_neq_struct, run_equalIn_struct w 9999 78 _ _ (by kernel_rfl) (by kernel_rfl)]
    simp [Program.fieldsOf, Try.underlying78, Op.eqFields, part, Try.underlying4, go_sem]
  | some x =>
    simp only [FdV]
    rw [run_neq_struct, run_equalIn_struct w 9999 78 _ _ (by kernel_rfl) (by kernel_rfl)]
    simp [Program.fieldsOf, Try.underlying78, Op.eqFields, part, Try.underlying4, go_sem]

set_option maxRecDepth 100000 in
theorem isF_any (o : Option At) (k : Int) (w : World) : Calls Try.prog 57 #[FdV o, .int .i64 k] w fun e w' => e = .returned (.bool (decide (o.map At.k = some k))) ∧ Below w.heap.size w w' := by
  cases o with
  | none =>
    simp only [FdV]
    go_enter Try.func57, Try.ntmps57
    go_wp2
    go_ret
    exact ⟨rfl, (Below.refl _ w).alloc (Nat.le_refl _) _⟩
  | some x =>
    obtain ⟨n, xk, xv⟩ := x
    simp only [FdV]
    by_cases hk : xk = k
    · subst hk
      go_enter Try.func57, Try.ntmps57
      go_wp2
      go_ret
      exact ⟨by simp, (Below.refl _ w).alloc (Nat.le_refl _) _⟩
    · have hkb : (xk == k) = false := by simp [hk]
      go_enter Try.func57, Try.ntmps57
      go_wp2
      go_ret
      exact ⟨by simp [hk], (Below.refl _ w).alloc (Nat.le_refl _) _⟩
end Go.Proofs.Ytfbibbjiomfncaa
