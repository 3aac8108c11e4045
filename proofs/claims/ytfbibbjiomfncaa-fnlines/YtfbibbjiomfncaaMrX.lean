import Derived.Test.YtfbibbjiomfncaaMrW
import Derived.Test.YtfbibbjiomfncaaCpG
namespace Go.Proofs.Ytfbibbjiomfncaa
open Go.RowKit Go.Maps
set_option linter.unusedVariables false
set_option linter.unusedSimpArgs false

set_option maxRecDepth 100000 in
theorem cloneL_any (v : Value) (Ls : List (List Int)) (w : World) (hr : RL w v Ls) (h0 : 0 < Ls.length) :
    Calls Try.prog 76 #[v] w fun e w' => ∃ g c, e = .returned (.slice (some ⟨g, 0, none⟩) Ls.length c) ∧ LL (fun b => b < w.heap.size) w' w.heap.size g Ls.length c Ls ∧ Below w.heap.size w w' := by
  obtain ⟨sls, hG, hsl, hR⟩ := hr
  have hG' := hG
  obtain ⟨a, cap, rfl, hlx, hzx, hnx, hcx⟩ := hG'
  obtain ⟨b, off, rfl, hb, hcell⟩ := hcx (by omega)
  have bE : Below w.heap.size w (w.alloc (.cells #[] 51)) := (Below.refl _ w).alloc (Nat.le_refl _) _
  have oE := OwnG.empty shL 51 w w.heap.size rfl w.heap.size (Nat.le_refl _)
  have hG2 := hG.keep bE
  obtain ⟨SN, hSN⟩ : ∃ SN, sls.length = SN := ⟨_, rfl⟩
  have HSN : Hid (sls.length = SN) := hSN
  rw [hSN] at hG2 ⊢
  clear hSN hcell
  have hq : (binOp .eql 29 (.slice (some ⟨b, off, none⟩) SN cap) (.slice none 0 0)).run Try.prog w = .ok (.bool false) w := by first | rfl | kernel_rfl | simp [binOp, go_sem]
  go_enter Try.func76, Try.ntmps76
  go_wp2_with (at_builtin; refine wpList_append_rdG (S := shL) Try.info51 rfl (by omega) rfl _ _ 29 rfl Try.underlying29 w.heap.size _ _ [] sls rfl rfl oE hG2 (by simp; omega) (by simp) ?_; intro a' c' w' hO' hg'; rw [List.nil_append, HSN.out] at hO' ⊢)
  have hB : Below w.heap.size w w' := bE.trans (gb_to hg' (fun k hk => by cases hk; exact Nat.le_refl _) bE.size)
  obtain ⟨e1, e2⟩ | ⟨g, gc, e1, hgB, hgz, hgl⟩ := hO'.shape
  · exfalso; rw [e2] at hsl; simp at hsl; omega
  simp only [Value.slice.injEq] at e1
  obtain ⟨e1, -, e3⟩ := e1
  subst e1 e3
  obtain rfl : SN = Ls.length := by rw [← HSN.out]; exact hsl
  go_ret
  refine ⟨g, c', rfl, ⟨sls, hO', hsl, fun k h h' => ⟨(hR k h h').keep hB, fun hp b' off' n' c'' e => ?_⟩⟩, hB⟩
  obtain ⟨a2, c2, e4, _, _, _, hc2⟩ := hR k h h'
  obtain ⟨b2, off2, e5, hb2, _⟩ := hc2 hp
  rw [e, e5] at e4
  simp only [Value.slice.injEq, Option.some.injEq, Addr.mk.injEq, and_true] at e4
  have := hB.size
  omega
end Go.Proofs.Ytfbibbjiomfncaa
