import Derived.Test.YtfoofbcfcekleaaGreatDoorFrameS
import Derived.Test.YtfoofbcfcekleaaGreatDoorQtL
import Derived.Stop.LaidTwo
import Derived.LaidSub
import Derived.OpenVars
import Derived.ProofKit
import Derived.OpenShut
import Derived.ShutString
import Derived.ChangeOld
import Derived.Below
import Derived.ChangeSlices
import Derived.Lib.SmallJoins
namespace Go.Proofs.YtfoofbcfcekleaaGreatDoor
open Go.ChangeShapes Go.WideShapes Go.ChangeAt Go.RowKit Go.Joins
set_option linter.unusedVariables false
set_option linter.unusedSimpArgs false

theorem laidOutE : laidOutB Tryz.prog = true := by kernel_rfl
theorem vars3 {H : Type} {enc : TypeId × Value → H} {P : Program} {w : World} {sp : Nat → Bool} {n0 n1 n2 : String} {gs : List (DataW H)} {ps : List MemPlace} (h : DataW.TrodVars enc P w sp [n0, n1, n2] gs ps) : ∃ a b c, gs = [a, b, c] := by
  cases gs with
  | nil => exact h.elim
  | cons a l =>
    obtain ⟨_, _, _, _, _, _, _, _, _, _, h, _⟩ := h
    cases l with
    | nil => exact h.elim
    | cons b l =>
      obtain ⟨_, _, _, _, _, _, _, _, _, _, h, _⟩ := h
      cases l with
      | nil => exact h.elim
      | cons c l =>
        obtain ⟨_, _, _, _, _, _, _, _, _, _, h, _⟩ := h
        cases l with
        | nil => exact ⟨a, b, c, rfl⟩
        | cons d l => exact h.elim
/-- The name of an error's type, as the rows have it. -/
def nmS : String := match (Rows.laid_strconv_ErrSyntax (H := Unit)) with
  | .iface n _ => n
  | _ => ""
def nameAt (l : List (String × DataW Unit)) (i : Nat) : String := ((l.drop i).head?.map (·.1)).getD nmS
theorem cellsE : Tryz.prog.cellsOf 172 = 1 := by kernel_rfl
theorem cellsS : Tryz.prog.cellsOf 9 = 1 := by kernel_rfl
theorem allE : ((List.range Tryz.prog.types.size).all fun u => Tryz.prog.typeName? 3 u != some nmS || u == 170) = true := by kernel_rfl
set_option maxRecDepth 100000 in
theorem rowS (u : TypeId) (h : Tryz.prog.typeName? 3 u = some nmS) : u = 170 := by
  have hs : ∀ x : String, x = nmS → ((List.range Tryz.prog.types.size).all fun u => Tryz.prog.typeName? 3 u != some x || u == 170) = true ∧ (Tryz.prog.typeName? 3 u = some x) := fun x hx => by rw [hx]; exact ⟨allE, h⟩
  refine typeName_ptr_named (P := Tryz.prog) (nm := "errors.errorString") (tp := 170) ?_ (by kernel_rfl) (by decide) u ?_
  · exact (hs _ (by decide)).1
  · exact (hs _ (by decide)).2
theorem errS_of {W : World} {n0 n1 : String} {t0 t1 : List UInt8} {r1 : List (String × DataW Unit)} {g0 g1 : Nat}
    (h1 : laidMet Tryz.prog ((n0, .iface nmS (.ptr (.agg [.lit (.string t0)]))) :: (n1, .iface nmS (.ptr (.agg [.lit (.string t1)]))) :: r1) W)
    (e0 : Tryz.prog.globalNamed n0 = some g0) (e1 : Tryz.prog.globalNamed n1 = some g1) (eg : g1 = Tryz.laysToE_ren.g 15)
    (y0 : (Tryz.prog.globals[g0]?).map (·.type) = some 44) (y1 : (Tryz.prog.globals[g1]?).map (·.type) = some 44) : ErrS W := by
  obtain ⟨a0, a1, s0, s1, c0, c1, u0, u1, v0, v1, _⟩ := laid_sentinels2 h1 e0 y0 e1 y1 Tryz.underlying44 rowS Tryz.underlying170 Tryz.underlying172 rfl rfl Tryz.underlying9 cellsE cellsS
  have h := World.var?_cell e1 v1 0
  rw [eg] at h
  exact ⟨_, h, .inr ⟨_, _, rfl⟩⟩
theorem errS_laid {W : World} (h : laidMetH Tryz.prog Rows.fnQuotedRow.laid W) : ErrS W := by
  rw [MakeChecks.laidMetH_plain _ _ _ (by kernel_rfl)] at h
  have h1 := laidMet.filter (fun x => x.1 == nameAt Rows.fnQuotedRow.laid 10 || x.1 == nameAt Rows.fnQuotedRow.laid 11) h
  rw [show Rows.fnQuotedRow.laid.filter (fun x => x.1 == nameAt Rows.fnQuotedRow.laid 10 || x.1 == nameAt Rows.fnQuotedRow.laid 11) = ((Rows.fnQuotedRow.laid.drop 10).take 1 ++ (Rows.fnQuotedRow.laid.drop 11).take 1) by kernel_rfl] at h1
  exact errS_of (r1 := []) (g0 := 6) (g1 := 5) h1 (by kernel_rfl) (by kernel_rfl) (by kernel_rfl) (by kernel_rfl) (by kernel_rfl)
theorem maxK_shaped {W : World} (h : W.ShapedOpen Tryz.prog) : MaxK W := Go.Proofs.cell_of_shapedOpen_int (zero := #[.int .i64 0]) (t := 3) h (of_decide_eq_true (by kernel_rfl)) (by kernel_rfl) rfl (by kernel_rfl) (by kernel_rfl) Tryz.underlying3
theorem cellsY : Tryz.prog.cellsOf 5 = 1 := by kernel_rfl
theorem rowY : 22 < Tryz.prog.types.size := of_decide_eq_true (by kernel_rfl)
theorem readY : Tryz.prog.readableRec 22 = true := by kernel_rfl
theorem u8_bounds {n : Int} (h : (Lit.int .u8 n).wf = true) : 0 ≤ n ∧ n < 256 := by
  simp [Lit.wf, IntKind.min, IntKind.max, IntKind.signed, IntKind.bits] at h
  omega
set_option maxRecDepth 100000 in
/-- Bytes that came in, opened. -/
theorem open_byt {H : Type} {enc : TypeId × Value → H} {W : World} {base : Nat} {v : Value} {d : DataW H} {p : List MemPlace} (hv : Value.okWide Tryz.prog W .any base 22 v)
    (h : DataW.Trod enc Tryz.prog W 0 (fun _ => true) true 22 v d p) :
    ∃ (a : Option Addr) (cap : Nat) (zs : List Int), v = .slice a zs.length cap ∧ zs.length ≤ 9223372036854775807 ∧ (zs.length ≤ 1048576 → Src W a zs.length cap zs) := by
  have hlt : ∀ x ∈ p, x.block < W.heap.size := by obtain ⟨m, hm⟩ := h; exact DataW.trod_lt m _ _ _ hm
  obtain ⟨a0, len, cap, rfl⟩ := okWide_slice Tryz.underlying22 hv
  obtain ⟨fuel, hf⟩ := h
  rcases open_ints Tryz.underlying22 Tryz.underlying5 cellsY hf with ⟨hcs, hx⟩ | ⟨x, l, c, ss, hcs, _, hl, hm, hz, hx, hcell, hwz⟩
  · have hcs' : [Value.slice a0 len cap] = [Value.slice none 0 0] := hcs
    simp only [List.cons.injEq, Value.slice.injEq, and_true] at hcs'
    obtain ⟨rfl, rfl, rfl⟩ := hcs'
    exact ⟨none, 0, [], rfl, by simp, fun _ => ⟨by simp, fun k => by simp, fun h => by simp at h⟩⟩
  · have hcs' : [Value.slice a0 len cap] = [Value.slice (some x) l c] := hcs
    simp only [List.cons.injEq, Value.slice.injEq, and_true] at hcs'
    obtain ⟨rfl, rfl, rfl⟩ := hcs'
    have hz' : ss.length = cap := by simpa using hz
    have hlen : (ss.take len).length = len := by simp; omega
    unfold maxLen at hm
    refine ⟨some x, cap, ss.take len, by rw [hlen], by omega, fun hb => ⟨by omega, fun k => ?_, fun h0 => ?_⟩⟩
    · by_cases hk : k < (ss.take len).length
      · have : (ss.take len).getD k 0 = (ss.take len)[k] := by rw [List.getD, List.getElem?_eq_getElem hk]; rfl
        rw [this]
        exact u8_bounds (hwz _ (List.mem_of_mem_take (List.getElem_mem hk)))
      · have : (ss.take len).getD k 0 = 0 := by rw [List.getD, List.getElem?_eq_none (by omega)]; rfl
        rw [this]; omega
    obtain ⟨b, off, spot⟩ := x
    have hc0 := hcell 0 (by omega)
    have hspot : spot = none := by simpa [Addr.add] using World.cell?_spot hc0
    subst hspot
    have hb : b < W.heap.size := by
      have : (MemPlace.cell b off) ∈ p := by
        have hp : p = MemPlace.row ⟨b, off, none⟩ ss.length := by simpa using congrArg Prod.snd hx
        rw [hp]; simp [MemPlace.row, Addr.add]; omega
      exact hlt (MemPlace.cell b off) this
    refine ⟨b, off, rfl, hb, fun k hk => ?_⟩
    have hk' : k < len := by omega
    have := hcell k (by omega)
    have e : (⟨b, off, none⟩ : Addr).add k = ⟨b, off + k, none⟩ := by unfold Addr.add; split <;> simp_all
    rw [e] at this
    rw [this]
    simp [List.getD, List.getElem?_take, hk']
end Go.Proofs.YtfoofbcfcekleaaGreatDoor
