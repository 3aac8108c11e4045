import Derived.Test.YtahcpgldpbejiaaGreatDoorProg
import Derived.WalkKit
import Derived.LaidEql
import Derived.Stop.Asserts
import Derived.RowKitTokens
import Derived.Shelf.Strings.BuilderK
namespace Go.Proofs.YtahcpgldpbejiaaGreatDoor
open Go.RowKit Go.Extern.Stop Go.Stop Go.Extern
set_option linter.unusedVariables false
set_option linter.unusedSimpArgs false

theorem Tryz.isTypeOf (v : Value) (w : World) : (Extern.ReflectliteType.typeOf #[.iface 189 v]).run Tryz.prog w = .ok (.iface 155 (.agg #[.pointer (some ⟨12, 189, none⟩)])) w := by kernel_rfl
/-- What the model says of that method. -/
noncomputable def cmpE : Array Value → Sem Value := (Extern.find Tryz.f167).getD fun _ => pure .nilIface
theorem Tryz.isComparable (w : World) : (cmpE #[.agg #[.pointer (some ⟨12, 189, none⟩)]]).run Tryz.prog w = .ok (.bool true) w := by kernel_rfl
theorem Tryz.cmpCall (args : Array Value) (w : World) : (callFunc 167 args).run Tryz.prog w = ((cmpE args).run Tryz.prog w).andThen fun v w' => .ok (.value v) w' :=
  @run_callFunc_extern Tryz.prog 167 _ cmpE Tryz.func167 (by kernel_rfl) (by kernel_rfl) (by kernel_rfl) (by kernel_rfl) args w
theorem Tryz.isMethodComparable (v : Value) (w : World) : (Go.method 336 155 v "Comparable").run Tryz.prog w = .ok (167, v) w := by kernel_rfl
theorem Tryz.isComp : (Tryz.prog.info? 189).map (·.comparable) = some true := by kernel_rfl
theorem Tryz.isSize : (Tryz.prog.info? 191).map (·.size) = some 1 := by kernel_rfl
theorem Tryz.noIsE (v : Value) (xT : TypeId) (w : World) : (Instr.typeAssert (.iface 189 v) xT 157 true).run Tryz.prog w = .ok (.tuple #[.nilIface, .bool false]) w := run_typeAssert_lacksB Tryz.underlying157 (by kernel_rfl) (by kernel_rfl) v xT w
theorem Tryz.noUnwrapE (v : Value) (xT : TypeId) (w : World) : (Instr.typeAssert (.iface 189 v) xT 160 true).run Tryz.prog w = .ok (.tuple #[.nilIface, .bool false]) w := run_typeAssert_lacksB Tryz.underlying160 (by kernel_rfl) (by kernel_rfl) v xT w
theorem Tryz.noUnwrapsE (v : Value) (xT : TypeId) (w : World) : (Instr.typeAssert (.iface 189 v) xT 162 true).run Tryz.prog w = .ok (.tuple #[.nilIface, .bool false]) w := run_typeAssert_lacksB Tryz.underlying162 (by kernel_rfl) (by kernel_rfl) v xT w
theorem Tryz.noIsW (v : Value) (xT : TypeId) (w : World) : (Instr.typeAssert (.iface 87 v) xT 157 true).run Tryz.prog w = .ok (.tuple #[.nilIface, .bool false]) w := run_typeAssert_lacksB Tryz.underlying157 (by kernel_rfl) (by kernel_rfl) v xT w
theorem Tryz.hasUnwrapW (v : Value) (xT : TypeId) (w : World) : (Instr.typeAssert (.iface 87 v) xT 160 true).run Tryz.prog w = .ok (.tuple #[.iface 87 v, .bool true]) w := run_typeAssert_hasB Tryz.underlying160 (by kernel_rfl) v xT w
theorem Tryz.methodUnwrap (v : Value) (w : World) : (Go.method 336 87 v "Unwrap").run Tryz.prog w = .ok (162, v) w := by kernel_rfl

/-- An error that errors.New made, at a place. -/
abbrev errAt (a : Addr) : Value := .iface 189 (.pointer (some a))
/-- It lies in a block of its own. -/
def ErrCell (w : World) (a : Addr) : Prop := ∃ ca ta, w.heap[a.block]? = some (.cells ca ta (0, 0))
set_option maxRecDepth 100000 in
theorem is_same (a : Addr) (w : World) :
    Calls Tryz.prog 55 #[errAt a, errAt a] w fun e w' => e = .returned (.bool true) ∧ w' = w := by
  obtain ⟨i, hi, hcmp⟩ := Option.map_eq_some_iff.1 Tryz.isComp
  obtain ⟨j, hj, hjs⟩ := Option.map_eq_some_iff.1 Tryz.isSize
  have h8 := @run_callFunc_extern Tryz.prog 79 _ Extern.ReflectliteType.typeOf Tryz.func79 (by kernel_rfl) (by kernel_rfl) (by kernel_rfl) (by kernel_rfl)
  have h32 := Tryz.cmpCall
  have tT := Tryz.isTypeOf
  have cT := Tryz.isComparable
  have mR := Tryz.isMethodComparable
  have heq := run_eql_iface_ptr_same (P := Tryz.prog) w a Tryz.underlying54 Tryz.underlying189 hi hcmp hj
  go_enter Tryz.func55, Tryz.ntmps55
  go_wp2
  refine wp_loop_rounds 1 ?_
  rw [rounds_succ]
  go_wp2
  go_ret
  exact ⟨rfl, rfl⟩
set_option maxRecDepth 100000 in
theorem is_other (a b : Addr) (w : World) (hne : a ≠ b) (ha : ErrCell w a) (hb : ErrCell w b) :
    Calls Tryz.prog 55 #[errAt a, errAt b] w fun e w' => e = .returned (.bool false) ∧ w' = w := by
  obtain ⟨ca, ta, ha⟩ := ha
  obtain ⟨cb, tb, hb⟩ := hb
  obtain ⟨i, hi, hcmp⟩ := Option.map_eq_some_iff.1 Tryz.isComp
  obtain ⟨j, hj, hjs⟩ := Option.map_eq_some_iff.1 Tryz.isSize
  have h8 := @run_callFunc_extern Tryz.prog 79 _ Extern.ReflectliteType.typeOf Tryz.func79 (by kernel_rfl) (by kernel_rfl) (by kernel_rfl) (by kernel_rfl)
  have h32 := Tryz.cmpCall
  have tT := Tryz.isTypeOf
  have cT := Tryz.isComparable
  have mR := Tryz.isMethodComparable
  have nE := Tryz.noIsE
  have uE := Tryz.noUnwrapE
  have vE := Tryz.noUnwrapsE
  have heq := run_eql_iface_ptr_other (P := Tryz.prog) w Tryz.underlying54 Tryz.underlying189 hi hcmp hj (by rw [hjs]; decide) hne ha hb
  go_enter Tryz.func55, Tryz.ntmps55
  go_wp2
  refine wp_loop_rounds 1 ?_
  rw [rounds_succ]
  go_wp2
  go_ret
  exact ⟨rfl, rfl⟩
set_option maxRecDepth 100000 in
theorem is_wrap_same (t : ByteArray) (b : Addr) (w : World) :
    Calls Tryz.prog 55 #[.iface 87 (.agg #[.string t, errAt b]), errAt b] w fun e w' => e = .returned (.bool true) ∧ Below w.heap.size w w' := by
  obtain ⟨i, hi, hcmp⟩ := Option.map_eq_some_iff.1 Tryz.isComp
  obtain ⟨j, hj, hjs⟩ := Option.map_eq_some_iff.1 Tryz.isSize
  have h8 := @run_callFunc_extern Tryz.prog 79 _ Extern.ReflectliteType.typeOf Tryz.func79 (by kernel_rfl) (by kernel_rfl) (by kernel_rfl) (by kernel_rfl)
  have h32 := Tryz.cmpCall
  have tT := Tryz.isTypeOf
  have cT := Tryz.isComparable
  have mR := Tryz.isMethodComparable
  have nW := Tryz.noIsW
  have uW := Tryz.hasUnwrapW
  have mU := Tryz.methodUnwrap
  have heq := fun w => run_eql_iface_ptr_same (P := Tryz.prog) w b Tryz.underlying54 Tryz.underlying189 hi hcmp hj
  have hty := run_eql_iface_types (P := Tryz.prog) 87 189 (.agg #[.string t, errAt b]) (.pointer (some b)) Tryz.underlying54 (by decide) w
  go_enter Tryz.func55, Tryz.ntmps55
  go_wp2
  refine wp_loop_rounds 2 ?_
  rw [rounds_succ]
  go_wp2
  rw [rounds_succ]
  go_wp2
  go_ret
  first | exact ⟨rfl, Below.refl _ _⟩ | exact ⟨rfl, (Below.refl _ _).alloc (Nat.le_refl _) _⟩
set_option maxRecDepth 100000 in
theorem is_wrap_other (t : ByteArray) (a b : Addr) (w : World) (hne : a ≠ b) (ha : ErrCell w a) (hb : ErrCell w b) :
    Calls Tryz.prog 55 #[.iface 87 (.agg #[.string t, errAt a]), errAt b] w fun e w' => e = .returned (.bool false) ∧ Below w.heap.size w w' := by
  obtain ⟨ca, ta, ha⟩ := ha
  obtain ⟨cb, tb, hb⟩ := hb
  obtain ⟨i, hi, hcmp⟩ := Option.map_eq_some_iff.1 Tryz.isComp
  obtain ⟨j, hj, hjs⟩ := Option.map_eq_some_iff.1 Tryz.isSize
  have h8 := @run_callFunc_extern Tryz.prog 79 _ Extern.ReflectliteType.typeOf Tryz.func79 (by kernel_rfl) (by kernel_rfl) (by kernel_rfl) (by kernel_rfl)
  have h32 := Tryz.cmpCall
  have tT := Tryz.isTypeOf
  have cT := Tryz.isComparable
  have mR := Tryz.isMethodComparable
  have nE := Tryz.noIsE
  have uE := Tryz.noUnwrapE
  have vE := Tryz.noUnwrapsE
  have nW := Tryz.noIsW
  have uW := Tryz.hasUnwrapW
  have mU := Tryz.methodUnwrap
  have la : a.block < w.heap.size := by
    rcases Nat.lt_or_ge a.block w.heap.size with h' | h'
    · exact h'
    · rw [Array.getElem?_eq_none h'] at ha; cases ha
  have lb : b.block < w.heap.size := by
    rcases Nat.lt_or_ge b.block w.heap.size with h' | h'
    · exact h'
    · rw [Array.getElem?_eq_none h'] at hb; cases hb
  have heq := fun o => run_eql_iface_ptr_other (P := Tryz.prog) (w.alloc o) Tryz.underlying54 Tryz.underlying189 hi hcmp hj (by rw [hjs]; decide) hne (by rw [Lib.alloc_old w o _ la]; exact ha) (by rw [Lib.alloc_old w o _ lb]; exact hb)
  have hty := run_eql_iface_types (P := Tryz.prog) 87 189 (.agg #[.string t, errAt a]) (.pointer (some b)) Tryz.underlying54 (by decide) w
  go_enter Tryz.func55, Tryz.ntmps55
  go_wp2
  refine wp_loop_rounds 2 ?_
  rw [rounds_succ]
  go_wp2
  rw [rounds_succ]
  go_wp2
  go_ret
  first | exact ⟨rfl, Below.refl _ _⟩ | exact ⟨rfl, (Below.refl _ _).alloc (Nat.le_refl _) _⟩
end Go.Proofs.YtahcpgldpbejiaaGreatDoor

namespace Go.Proofs.YtahcpgldpbejiaaGreatDoor
open Go.RowKit Go.Lib
set_option linter.unusedVariables false
set_option linter.unusedSimpArgs false

/-- The three errors of the program, each at a place of its own. -/
def Errs (w : World) (aA aZ aL : Addr) : Prop :=
  (w.cell? ⟨0, 0, none⟩ = some (errAt aA) ∧ w.cell? ⟨1, 0, none⟩ = some (errAt aZ) ∧ w.cell? ⟨2, 0, none⟩ = some (errAt aL)) ∧
  (ErrCell w aA ∧ ErrCell w aZ ∧ ErrCell w aL) ∧ aA ≠ aZ ∧ aA ≠ aL ∧ aZ ≠ aL
theorem cell_lt {w : World} {b o : Nat} {v : Value} (h : w.cell? ⟨b, o, none⟩ = some v) : b < w.heap.size := by
  rcases Nat.lt_or_ge b w.heap.size with h' | h'
  · exact h'
  · exfalso
    unfold World.cell? at h
    simp [Array.getElem?_eq_none h'] at h
theorem ErrCell.below {w w' : World} {a : Addr} (h : ErrCell w a) (hb : Below w.heap.size w w') : ErrCell w' a := by
  obtain ⟨c, t, hc⟩ := h
  have hlt : a.block < w.heap.size := by
    rcases Nat.lt_or_ge a.block w.heap.size with h' | h'
    · exact h'
    · rw [Array.getElem?_eq_none h'] at hc; cases hc
  exact ⟨c, t, by rw [hb.block _ hlt]; exact hc⟩
theorem Errs.below {w w' : World} {aA aZ aL : Addr} (h : Errs w aA aZ aL) (hb : Below w.heap.size w w') : Errs w' aA aZ aL := by
  obtain ⟨⟨h1, h2, h3⟩, ⟨e1, e2, e3⟩, hn⟩ := h
  exact ⟨⟨(hb.cell (p := ⟨_, 0, none⟩) (cell_lt h1)).trans h1, (hb.cell (p := ⟨_, 0, none⟩) (cell_lt h2)).trans h2, (hb.cell (p := ⟨_, 0, none⟩) (cell_lt h3)).trans h3⟩, ⟨e1.below hb, e2.below hb, e3.below hb⟩, hn⟩
/-- What a refusal says, in a code. -/
def IsErr (aA aZ aL : Addr) (v : Value) (c : Int) : Prop :=
  (v = .nilIface ∧ c = 0) ∨ (v = errAt aA ∧ c = 1) ∨ (v = errAt aZ ∧ c = 2) ∨ (v = errAt aL ∧ c = 3) ∨
  (∃ t, v = .iface 87 (.agg #[.string t, errAt aA]) ∧ c = 1) ∨ (∃ t, v = .iface 87 (.agg #[.string t, errAt aZ]) ∧ c = 2) ∨ (∃ t, v = .iface 87 (.agg #[.string t, errAt aL]) ∧ c = 3)
set_option maxRecDepth 100000 in
theorem codeOf_any (aA aZ aL : Addr) (v : Value) (c : Int) (w : World) (hE : Errs w aA aZ aL) (hv : IsErr aA aZ aL v c) :
    Calls Tryz.prog 27 #[v] w fun e w' => e = .returned (.int .i64 c) ∧ Below w.heap.size w w' := by
  obtain ⟨⟨g1, g2, g3⟩, ⟨e1, e2, e3⟩, n1, n2, n3⟩ := hE
  rcases hv with ⟨rfl, rfl⟩ | ⟨rfl, rfl⟩ | ⟨rfl, rfl⟩ | ⟨rfl, rfl⟩ | ⟨t, rfl, rfl⟩ | ⟨t, rfl, rfl⟩ | ⟨t, rfl, rfl⟩
  · go_enter Tryz.func27, Tryz.ntmps27
    go_wp2
    go_ret
    exact ⟨rfl, Below.refl _ _⟩
  · have k1 := is_other aA aZ w n1 e1 e2
    have k2 := is_other aA aL w n2 e1 e3
    go_enter Tryz.func27, Tryz.ntmps27
    go_wp2_with fail
    refine k1.mono ?_
    rintro e w1 ⟨rfl, rfl⟩
    go_wp2_with fail
    refine k2.mono ?_
    rintro e w1 ⟨rfl, rfl⟩
    go_wp2
    go_ret
    exact ⟨rfl, Below.refl _ _⟩
  · have k1 := is_same aZ w
    go_enter Tryz.func27, Tryz.ntmps27
    go_wp2_with fail
    refine k1.mono ?_
    rintro e w1 ⟨rfl, rfl⟩
    go_wp2
    go_ret
    exact ⟨rfl, Below.refl _ _⟩
  · have k1 := is_other aL aZ w (Ne.symm n3) e3 e2
    have k2 := is_same aL w
    go_enter Tryz.func27, Tryz.ntmps27
    go_wp2_with fail
    refine k1.mono ?_
    rintro e w1 ⟨rfl, rfl⟩
    go_wp2_with fail
    refine k2.mono ?_
    rintro e w1 ⟨rfl, rfl⟩
    go_wp2
    go_ret
    exact ⟨rfl, Below.refl _ _⟩
  · have k1 := is_wrap_other t aA aZ w n1 e1 e2
    have k2 := fun W h1 h2 => is_wrap_other t aA aL W n2 h1 h2
    go_enter Tryz.func27, Tryz.ntmps27
    go_wp2_with fail
    refine k1.mono ?_
    rintro e w1 ⟨rfl, hb⟩
    have g3' := (hb.cell (p := ⟨_, 0, none⟩) (cell_lt g3)).trans g3
    go_wp2_with fail
    refine (k2 _ (e1.below hb) (e3.below hb)).mono ?_
    rintro e w2 ⟨rfl, hb2⟩
    go_wp2
    go_ret
    exact ⟨rfl, hb.trans (hb2.mono hb.size)⟩
  · have k1 := is_wrap_same t aZ w
    go_enter Tryz.func27, Tryz.ntmps27
    go_wp2_with fail
    refine k1.mono ?_
    rintro e w1 ⟨rfl, hb⟩
    go_wp2
    go_ret
    exact ⟨rfl, hb⟩
  · have k1 := is_wrap_other t aL aZ w (Ne.symm n3) e3 e2
    have k2 := fun W => is_wrap_same t aL W
    go_enter Tryz.func27, Tryz.ntmps27
    go_wp2_with fail
    refine k1.mono ?_
    rintro e w1 ⟨rfl, hb⟩
    have g3' := (hb.cell (p := ⟨_, 0, none⟩) (cell_lt g3)).trans g3
    go_wp2_with fail
    refine (k2 _).mono ?_
    rintro e w2 ⟨rfl, hb2⟩
    go_wp2
    go_ret
    exact ⟨rfl, hb.trans (hb2.mono hb.size)⟩
end Go.Proofs.YtahcpgldpbejiaaGreatDoor
