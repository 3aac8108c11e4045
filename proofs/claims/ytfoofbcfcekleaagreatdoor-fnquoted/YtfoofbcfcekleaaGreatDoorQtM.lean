import Derived.Test.YtfoofbcfcekleaaGreatDoorQtK
import Derived.Test.YtfoofbcfcekleaaGreatDoorQtP
import Derived.Test.YtfoofbcfcekleaaGreatDoorSvJ
import Derived.Test.YtfoofbcfcekleaaGreatDoorReprJ
import Derived.Test.YtfoofbcfcekleaaGreatDoorDrwV
namespace Go.Proofs.YtfoofbcfcekleaaGreatDoor
open Go.RowKit Go.Lib Go.Shelf
set_option linter.unusedVariables false
set_option linter.unusedSimpArgs false

theorem hpc : HPc := fun s p W => Any.strings_HasPrefix Tryz.laysHP s p W
theorem ibc : IBc := fun s b W => Any.strings_IndexByte Tryz.laysIB s b W
theorem Tryz.extra105 : Builder.Extra Tryz.prog Tryz.laysRepeat_ren := {
  sizeBuilder := by kernel_rfl
  liesBuilder := by kernel_rfl
  t5 := Tryz.underlying5
  a5 := Tryz.isAgg5
  z5 := Tryz.sizeOf5
  v5 := Tryz.zeroValue5
  infoByte := by kernel_rfl
  cellsByte := by kernel_rfl
  sizeByte := by kernel_rfl
  neB5 := by decide }
theorem rpc : RPc := fun c W => (Any.strings_Repeat Tryz.laysRepeat Tryz.extra105 (bz' [c]) 3 W (by omega) (by rw [bz_size]; simp)).mono (fun e w' ⟨h1, h2⟩ => ⟨by rw [h1, bz_data]; rfl, h2⟩)
set_option maxRecDepth 100000 in
theorem clc : CLc := fun s w hlim => by
  have hC : Calls Tryz.prog 92 #[.string s] w _ := Any.stringslite_Clone Tryz.laysClone s w (by omega)
  go_enter Tryz.func76, Tryz.ntmps76
  go_wp2_with fail
  refine hC.mono ?_
  rintro e w1 ⟨rfl, hB1⟩
  go_wp2
  go_ret
  exact ⟨rfl, hB1⟩
/-- A text as it is written: its quote, what stands between. -/
structure Wr (s : ByteArray) (rs : List Nat) (q : Nat) (ins : List UInt8) : Prop where
  hrs : textOf s = some rs
  hq : q = 39 ∨ q = 34
  he : ins = rs.flatMap (reprR q)
theorem Wr.enc {s : ByteArray} {rs : List Nat} {q : Nat} {ins : List UInt8} (h : Wr s rs q ins) : ins = encs (rs.flatMap (rprN q)) := by
  have hq := h.hq
  rw [h.he, rpr_encs q (by omega)]
theorem Wr.gd {s : ByteArray} {rs : List Nat} {q : Nat} {ins : List UInt8} (h : Wr s rs q ins) : Gd q.toUInt8 ins := by
  rw [h.he]
  exact gd_all q h.hq rs (text_scalars h.hrs).2.2
theorem Wr.no {s : ByteArray} {rs : List Nat} {q : Nat} {ins : List UInt8} (h : Wr s rs q ins) : ∀ b ∈ ins, b ≠ 10 ∧ b ≠ 13 := by
  intro b hb
  rw [h.he] at hb
  obtain ⟨r, hr, hb⟩ := List.mem_flatMap.1 hb
  exact repr_no q r h.hq ((text_scalars h.hrs).2.2 r hr) b hb
theorem Wr.q {s : ByteArray} {rs : List Nat} {q : Nat} {ins : List UInt8} (h : Wr s rs q ins) : q.toUInt8 ≠ 92 ∧ q.toUInt8 ≠ 10 ∧ q.toUInt8 ≠ 13 ∧ (q.toUInt8.toNat : Int) = q := by
  rcases h.hq with rfl | rfl <;> exact ⟨by decide, by decide, by decide, by decide⟩
theorem Wr.out_no {s : ByteArray} {rs : List Nat} {q : Nat} {ins : List UInt8} (h : Wr s rs q ins) : ∀ b ∈ q.toUInt8 :: ins ++ [q.toUInt8], b ≠ 10 ∧ b ≠ 13 := by
  intro b hb
  obtain ⟨_, h1, h2, _⟩ := h.q
  simp only [List.cons_append, List.mem_cons, List.mem_append, List.not_mem_nil, or_false] at hb
  rcases hb with rfl | hb | rfl
  · exact ⟨h1, h2⟩
  · exact h.no b hb
  · exact ⟨h1, h2⟩
theorem Wr.text {s : ByteArray} {rs : List Nat} {q : Nat} {ins : List UInt8} (h : Wr s rs q ins) (hl : ins.length + 2 ≤ 16384) : textOf (bz' (q.toUInt8 :: ins ++ [q.toUInt8])) = some (q :: rs.flatMap (rprN q) ++ [q]) := by
  have hq := h.hq
  refine text_iff.2 ⟨by rw [bz_size]; simp; omega, ?_, ?_⟩
  · rw [bz_data, h.enc, List.cons_append, List.cons_append, encs_one q (by omega)]
    rw [show encs (rs.flatMap (rprN q) ++ [q]) = encs (rs.flatMap (rprN q)) ++ encs [q] by simp [encs], encs_one q (by omega)]
    rfl
  · intro r hr
    simp only [List.cons_append, List.mem_cons, List.mem_append, List.not_mem_nil, or_false] at hr
    rcases hr with rfl | hr | rfl
    · unfold Scalar; omega
    · exact rpr_scalar q (by omega) rs (text_scalars h.hrs).2.2 r hr
    · unfold Scalar; omega
theorem Wr.back {s : ByteArray} {rs : List Nat} {q : Nat} {ins : List UInt8} (h : Wr s rs q ins) (hl : ins.length + 2 ≤ 16384) : svO (bz' ins) = some rs ∧ svT (some rs) = s := by
  have hq := h.hq
  have h1 : textOf (bz' ins) = some (rs.flatMap (rprN q)) := text_iff.2 ⟨by rw [bz_size]; omega, by rw [bz_data]; exact h.enc, rpr_scalar q (by omega) rs (text_scalars h.hrs).2.2⟩
  refine ⟨?_, (mk_list (text_scalars h.hrs).2.1).symm⟩
  unfold svO
  rw [h1]
  exact sv_rpr q hq rs
theorem Wr.qs {s : ByteArray} {rs : List Nat} {q : Nat} {ins : List UInt8} (h : Wr s rs q ins) (hl : ins.length + 2 ≤ 16384) : Qs (bz' (q.toUInt8 :: ins ++ [q.toUInt8])) (q : Int) := by
  have hq := h.hq
  obtain ⟨h1, h2, h3, h4⟩ := h.q
  have hsz : (bz' (q.toUInt8 :: ins ++ [q.toUInt8])).size = ins.length + 2 := by rw [bz_size]; simp
  refine ⟨by omega, ⟨q.toUInt8, rfl, h4⟩, by omega, ?_, by omega⟩
  rw [bz_data]
  have hb : ((92 : UInt8) == q.toUInt8) = false := by rw [beq_eq_false_iff_ne]; exact fun e => h1 e.symm
  simp only [Lib.hasPrefix, List.cons_append, List.isPrefixOf, hb, Bool.false_and]
theorem Wr.sv {s : ByteArray} {rs : List Nat} {q : Nat} {ins : List UInt8} (h : Wr s rs q ins) (hl : ins.length + 2 ≤ 16384) (w : World) (hT : Tabs w) (hM : MaxK w) (hE : ErrS w) : SVc w ins s := fun W hb => by
  have hk := strValue_any (bz' ins) W (by rw [bz_size]; omega) (hT.below hb) (hM.below hb) (hE.below hb)
  obtain ⟨h1, h2⟩ := h.back hl
  rw [h1, h2] at hk
  exact hk
theorem Wr.ext {s : ByteArray} {rs : List Nat} {q : Nat} {ins : List UInt8} (h : Wr s rs q ins) : (bz' (q.toUInt8 :: ins ++ [q.toUInt8])).extract 1 (ins.length + 1) = bz' ins := by
  rw [← Lib.mk_data (ByteArray.extract _ _ _), Lib.extract_data, bz_data]
  show bz' _ = _
  congr 1
  simp
/-- TextRepr, in these words. -/
theorem reprQ_any (s : ByteArray) (rs : List Nat) (w : World) (hrs : textOf s = some rs) (hT : Tabs w) : ∃ q, (q = 39 ∨ q = 34) ∧ Calls Tryz.prog 6 #[.string s] w fun e w' => e = .returned (.string (bz' (q.toUInt8 :: rs.flatMap (reprR q) ++ [q.toUInt8]))) ∧ Below w.heap.size w w' := by
  have hs := (text_scalars hrs).1
  have hK := textOk_any s w (by omega) hT
  rw [hrs, show (some rs).isSome = true from rfl] at hK
  cases h39 : s.data.toList.contains 39 with
  | false => exact ⟨39, .inl rfl, reprI_a s rs w hrs hK h39⟩
  | true =>
    cases h34 : s.data.toList.contains 34 with
    | true => exact ⟨39, .inl rfl, reprI_b s rs w hrs hK h39 h34⟩
    | false => exact ⟨34, .inr rfl, reprI_c s rs w hrs hK h39 h34⟩
set_option maxRecDepth 100000 in
theorem reprNo_any (s : ByteArray) (w : World) (hm : s.size ≤ 20000) (hn : textOf s = none) (hT : Tabs w) : Calls Tryz.prog 6 #[.string s] w fun e w' => e = .returned (.string ⟨#[]⟩) ∧ Below w.heap.size w w' := by
  have hK := textOk_any s w (by omega) hT
  rw [hn, show (none : Option (List Nat)).isSome = false from rfl] at hK
  go_enter Tryz.func6, Tryz.ntmps6
  go_wp2_with fail
  refine hK.mono ?_
  rintro e w0 ⟨rfl, hB0⟩
  go_wp2
  go_ret
  exact ⟨rfl, hB0⟩
end Go.Proofs.YtfoofbcfcekleaaGreatDoor
