import Derived.Test.YtahcpgldpbejiaaGreatDoorFmN
import Derived.Deep.DeepCutAuto
import Derived.Deep.Cut
import Derived.Deep.CutRange
namespace Go.Proofs.YtahcpgldpbejiaaGreatDoor
open Go.RowKit Go.Lib
set_option linter.unusedVariables false
set_option linter.unusedSimpArgs false

/-- A spec that was read, field by field. -/
structure Sv where
  f : Int
  a : Nat
  s : Nat
  z : Bool
  wd : Nat
  cm : Bool
  dt : Bool
  pr : Nat
  kd : Nat
def spC (v : Sv) : List Value := [.int .i64 v.f, .int .u8 v.a, .int .u8 v.s, .bool v.z, .int .i64 v.wd, .bool v.cm, .bool v.dt, .int .i64 v.pr, .int .u8 v.kd]
def spV (v : Sv) : Value := .agg (spC v).toArray
def sv0 : Sv := ⟨-1, 0, 0, false, 0, false, false, 0, 0⟩
def sz0 : Sv := ⟨0, 0, 0, false, 0, false, false, 0, 0⟩
/-- The head is one of these. -/
def hd (p : Nat → Bool) : List Nat → Bool
  | [] => false
  | x :: _ => p x
theorem hd_true {p : Nat → Bool} {l : List Nat} (h : hd p l = true) : ∃ x t, l = x :: t ∧ p x = true := by
  cases l with
  | nil => cases h
  | cons x t => exact ⟨x, t, rfl, h⟩
theorem sh2 (l : List Nat) : l = [] ∨ (∃ x, l = [x]) ∨ ∃ x y t, l = x :: y :: t := by
  cases l with
  | nil => exact .inl rfl
  | cons x t => cases t with
    | nil => exact .inr (.inl ⟨x, rfl⟩)
    | cons y t => exact .inr (.inr ⟨x, y, t, rfl⟩)
def al2 : List Nat → Bool
  | _ :: b :: _ => isAl b
  | _ => false
def is19 (x : Nat) : Bool := decide (49 ≤ x) && decide (x ≤ 57)
/-- What the specification makes of a spec, one thing behind the other. -/
def q1 (c : List Nat) : List Nat := if al2 c then c.drop 2 else if hd isAl c then c.drop 1 else c
def w1 (c : List Nat) : Sv := if al2 c then { sv0 with f := (c.getD 0 0 : Nat), a := c.getD 1 0 } else if hd isAl c then { sv0 with a := c.getD 0 0 } else sv0
def q2 (c : List Nat) : List Nat := if hd isSg (q1 c) then (q1 c).drop 1 else q1 c
def w2 (c : List Nat) : Sv := if hd isSg (q1 c) then { w1 c with s := (q1 c).getD 0 0 } else w1 c
def q3 (c : List Nat) : List Nat := if hd (· == 48) (q2 c) then (q2 c).drop 1 else q2 c
def w3 (c : List Nat) : Sv := if hd (· == 48) (q2 c) then { w2 c with z := true } else w2 c
def q4 (c : List Nat) : List Nat := if hd is19 (q3 c) then (q3 c).drop (cutD 4 (q3 c)).1.length else q3 c
def w4 (c : List Nat) : Sv := if hd is19 (q3 c) then { w3 c with wd := nv (cutD 4 (q3 c)).1 } else w3 c
def q5 (c : List Nat) : List Nat := if hd (· == 44) (q4 c) then (q4 c).drop 1 else q4 c
def w5 (c : List Nat) : Sv := if hd (· == 44) (q4 c) then { w4 c with cm := true } else w4 c
def noDg (c : List Nat) : Bool := hd (· == 46) (q5 c) && (cutD 3 ((q5 c).drop 1)).1.isEmpty
def q6 (c : List Nat) : List Nat := if hd (· == 46) (q5 c) then ((q5 c).drop 1).drop (cutD 3 ((q5 c).drop 1)).1.length else q5 c
def w6 (c : List Nat) : Sv := if hd (· == 46) (q5 c) then { w5 c with dt := true, pr := nv (cutD 3 ((q5 c).drop 1)).1 } else w5 c
def q7 (c : List Nat) : List Nat := if hd isLt (q6 c) then (q6 c).drop 1 else q6 c
def w7 (c : List Nat) : Sv := if hd isLt (q6 c) then { w6 c with kd := (q6 c).getD 0 0 } else w6 c
def okQ (c : List Nat) : Bool := !noDg c && (q7 c).isEmpty
/-- The memory while a spec is read. -/
structure St (w wc : World) (a1 : Option Addr) (c1 : Nat) (rs : List Nat) (v : Sv) : Prop where
  own : Own wc (w.heap.size + 1 + 1) (.slice a1 rs.length c1) (rs.map fun (n : Nat) => (n : Int))
  x : Bx wc w.heap.size (spC sz0)
  p : Bx wc (w.heap.size + 1) (spC v)
  b : Below w.heap.size w wc
theorem St.at {w wc : World} {a1 : Option Addr} {c1 : Nat} {rs : List Nat} {v : Sv} (h : St w wc a1 c1 rs v) {k x : Nat} {t : List Nat} (hk : rs.drop k = x :: t) :
    k < rs.length ∧ rs.drop (k + 1) = t ∧ ∃ b off, a1 = some ⟨b, off, none⟩ ∧ wc.cell? ⟨b, off + k, none⟩ = some (.int .i64 x) := by
  have hl : k < rs.length := by
    have := congrArg List.length hk
    rw [List.length_drop, List.length_cons] at this; omega
  have h1 := hk
  rw [List.drop_eq_getElem_cons hl] at h1
  injection h1 with h2 h3
  refine ⟨hl, h3, ?_⟩
  obtain ⟨a2, cap2, e2, _, _, hn0, hcc⟩ := h.own.rd
  simp only [Value.slice.injEq, List.length_map] at e2
  obtain ⟨rfl, _, rfl⟩ := e2
  obtain ⟨b, off, rfl, hb, hcell0⟩ := hcc (by simp; omega)
  refine ⟨b, off, rfl, ?_⟩
  have := hcell0 k (by simpa using hl)
  rw [this]
  simp [List.getD, hl, h2]
theorem St.put {w wc : World} {a1 : Option Addr} {c1 : Nat} {rs : List Nat} {v : Sv} (h : St w wc a1 c1 rs v) (j : Nat) (hj : j < 9) (u : Value) (v' : Sv) (hv : (spC v).set j u = spC v') :
    St w (wc.setCell ⟨w.heap.size + 1, j, none⟩ u) a1 c1 rs v' := by
  refine ⟨h.own.setBelow (by show w.heap.size + 1 < _; omega) u, h.x.far (by omega) u, ?_, h.b.setCell (p := ⟨w.heap.size + 1, j, none⟩) (by show w.heap.size ≤ w.heap.size + 1; omega) u⟩
  rw [← hv]; exact h.p.set j (by simp [spC]; omega) u
theorem St.cell {w wc : World} {a1 : Option Addr} {c1 : Nat} {rs : List Nat} {v : Sv} (h : St w wc a1 c1 rs v) (j : Nat) (hj : j < 9) : (∃ u, wc.cell? ⟨w.heap.size + 1, j, none⟩ = some u) ∧ wc.frozen? ⟨w.heap.size + 1, j, none⟩ = false :=
  ⟨⟨_, h.p.cell j (by simp [spC]; omega)⟩, h.p.fr j⟩
theorem St.set0 {w wc : World} {a1 : Option Addr} {c1 : Nat} {rs : List Nat} {v : Sv} (h : St w wc a1 c1 rs v) (x : Int) : St w (wc.setCell ⟨w.heap.size + 1, 0, none⟩ (.int .i64 x)) a1 c1 rs { v with f := x } := h.put 0 (by omega) _ _ rfl
theorem St.set1 {w wc : World} {a1 : Option Addr} {c1 : Nat} {rs : List Nat} {v : Sv} (h : St w wc a1 c1 rs v) (x : Nat) : St w (wc.setCell ⟨w.heap.size + 1, 1, none⟩ (.int .u8 x)) a1 c1 rs { v with a := x } := h.put 1 (by omega) _ _ rfl
theorem St.set2 {w wc : World} {a1 : Option Addr} {c1 : Nat} {rs : List Nat} {v : Sv} (h : St w wc a1 c1 rs v) (x : Nat) : St w (wc.setCell ⟨w.heap.size + 1, 2, none⟩ (.int .u8 x)) a1 c1 rs { v with s := x } := h.put 2 (by omega) _ _ rfl
theorem St.set3 {w wc : World} {a1 : Option Addr} {c1 : Nat} {rs : List Nat} {v : Sv} (h : St w wc a1 c1 rs v) (x : Bool) : St w (wc.setCell ⟨w.heap.size + 1, 3, none⟩ (.bool x)) a1 c1 rs { v with z := x } := h.put 3 (by omega) _ _ rfl
theorem St.set4 {w wc : World} {a1 : Option Addr} {c1 : Nat} {rs : List Nat} {v : Sv} (h : St w wc a1 c1 rs v) (x : Nat) : St w (wc.setCell ⟨w.heap.size + 1, 4, none⟩ (.int .i64 x)) a1 c1 rs { v with wd := x } := h.put 4 (by omega) _ _ rfl
theorem St.set5 {w wc : World} {a1 : Option Addr} {c1 : Nat} {rs : List Nat} {v : Sv} (h : St w wc a1 c1 rs v) (x : Bool) : St w (wc.setCell ⟨w.heap.size + 1, 5, none⟩ (.bool x)) a1 c1 rs { v with cm := x } := h.put 5 (by omega) _ _ rfl
theorem St.set6 {w wc : World} {a1 : Option Addr} {c1 : Nat} {rs : List Nat} {v : Sv} (h : St w wc a1 c1 rs v) (x : Bool) : St w (wc.setCell ⟨w.heap.size + 1, 6, none⟩ (.bool x)) a1 c1 rs { v with dt := x } := h.put 6 (by omega) _ _ rfl
theorem St.set7 {w wc : World} {a1 : Option Addr} {c1 : Nat} {rs : List Nat} {v : Sv} (h : St w wc a1 c1 rs v) (x : Nat) : St w (wc.setCell ⟨w.heap.size + 1, 7, none⟩ (.int .i64 x)) a1 c1 rs { v with pr := x } := h.put 7 (by omega) _ _ rfl
theorem St.set8 {w wc : World} {a1 : Option Addr} {c1 : Nat} {rs : List Nat} {v : Sv} (h : St w wc a1 c1 rs v) (x : Nat) : St w (wc.setCell ⟨w.heap.size + 1, 8, none⟩ (.int .u8 x)) a1 c1 rs { v with kd := x } := h.put 8 (by omega) _ _ rfl
theorem set9 {w w' : World} (h : Below w.heap.size w w') (u0 u1 u2 u3 u4 u5 u6 u7 u8 : Value) : Below w.heap.size w (((((((((w'.setCell ⟨w.heap.size, 0, none⟩ u0).setCell ⟨w.heap.size, 1, none⟩ u1).setCell ⟨w.heap.size, 2, none⟩ u2).setCell ⟨w.heap.size, 3, none⟩ u3).setCell ⟨w.heap.size, 4, none⟩ u4).setCell ⟨w.heap.size, 5, none⟩ u5).setCell ⟨w.heap.size, 6, none⟩ u6).setCell ⟨w.heap.size, 7, none⟩ u7).setCell ⟨w.heap.size, 8, none⟩ u8) := (((((((((h.setCell (show w.heap.size ≤ (⟨w.heap.size, 0, none⟩ : Addr).block from Nat.le_refl _) u0).setCell (show w.heap.size ≤ (⟨w.heap.size, 1, none⟩ : Addr).block from Nat.le_refl _) u1).setCell (show w.heap.size ≤ (⟨w.heap.size, 2, none⟩ : Addr).block from Nat.le_refl _) u2).setCell (show w.heap.size ≤ (⟨w.heap.size, 3, none⟩ : Addr).block from Nat.le_refl _) u3).setCell (show w.heap.size ≤ (⟨w.heap.size, 4, none⟩ : Addr).block from Nat.le_refl _) u4).setCell (show w.heap.size ≤ (⟨w.heap.size, 5, none⟩ : Addr).block from Nat.le_refl _) u5).setCell (show w.heap.size ≤ (⟨w.heap.size, 6, none⟩ : Addr).block from Nat.le_refl _) u6).setCell (show w.heap.size ≤ (⟨w.heap.size, 7, none⟩ : Addr).block from Nat.le_refl _) u7).setCell (show w.heap.size ≤ (⟨w.heap.size, 8, none⟩ : Addr).block from Nat.le_refl _) u8)
def RsP (rs : List Nat) (w : World) (e : Ending) (w' : World) : Prop := ∃ v ok, e = .returned (.tuple #[spV v, .bool ok]) ∧ (ok = okQ rs ∧ (ok = true → v = w7 rs)) ∧ Below w.heap.size w w'
theorem RsP.mk {rs : List Nat} {w : World} {e : Ending} {w' : World} (h : ∃ v ok, e = .returned (.tuple #[spV v, .bool ok]) ∧ (ok = okQ rs ∧ (ok = true → v = w7 rs)) ∧ Below w.heap.size w w') : RsP rs w e w' := h
/-- What l3ReadSpec answers. -/
def RsA (s : ByteArray) (v : Sv) (ok : Bool) : Prop := match textOf s with
  | none => ok = false
  | some rs => ok = okQ rs ∧ (ok = true → v = w7 rs)
theorem drop_nil {rs : List Nat} {k : Nat} (h : rs.drop k = []) (hk : k ≤ rs.length) : k = rs.length := by
  have := congrArg List.length h
  rw [List.length_drop, List.length_nil] at this; omega
theorem u8w {a : Int} (h0 : 0 ≤ a) (h1 : a < 256) : IntKind.u8.wrap a = a := by
  simp [IntKind.wrap, IntKind.bits, IntKind.signed]; omega
set_option maxHeartbeats 4000000 in
set_option maxRecDepth 100000 in
theorem readSpecS_some (s : ByteArray) (rs : List Nat) (w : World) (hA : textOf s = some rs) (hrl : rs.length ≤ 16384) (hs : s.size ≤ 16777216) :
    Calls Tryz.prog 21 #[.string s] w fun e w' => RsP rs w e w' := by
  have hR := fun W => l3Runes_any s W (by omega)
  rw [hA] at hR
  rw [show (ansL (some rs)).length = rs.length by simp [ansL], show (some rs).isSome = true from rfl] at hR
  have hX := (Bx.new w (spC sz0) 45)
  have hX1 : Bx ((w.alloc (.cells (spC sz0).toArray 45)).alloc (.cells (spC sv0).toArray 45)) w.heap.size (spC sz0) := hX.keep ((Below.refl _ _).alloc (Nat.le_refl _) _)
  have hP1 : Bx ((w.alloc (.cells (spC sz0).toArray 45)).alloc (.cells (spC sv0).toArray 45)) (w.heap.size + 1) (spC sv0) := by
    have := Bx.new (w.alloc (.cells (spC sz0).toArray 45)) (spC sv0) 45
    simpa using this
  have hB1 : Below w.heap.size w ((w.alloc (.cells (spC sz0).toArray 45)).alloc (.cells (spC sv0).toArray 45)) := ((Below.refl _ w).alloc (Nat.le_refl _) _).alloc (by simp) _
  have hsz1 : ((w.alloc (.cells (spC sz0).toArray 45)).alloc (.cells (spC sv0).toArray 45)).heap.size = w.heap.size + 1 + 1 := by simp
  have hR1 := hR ((w.alloc (.cells (spC sz0).toArray 45)).alloc (.cells (spC sv0).toArray 45))
  rw [hsz1] at hR1
  clear hR hX hA
  go_enter Tryz.func21, Tryz.ntmps21
  go_wp2_with fail
  refine hR1.mono ?_
  rintro e W1 ⟨a1, c1, rfl, hO1, hB2⟩
  have hS0 : St w W1 a1 c1 rs sv0 := ⟨hO1, hX1.keep (by rw [hsz1]; exact hB2), hP1.keep (by rw [hsz1]; exact hB2), hB1.trans (hB2.mono (by omega))⟩
  clear hR1 hX1 hP1 hB1 hsz1 hO1 hB2
  go_upto_region 6 with fail
  go_cut [29] from 21 to 29 (fun b wc => b = .bool (al2 rs) ∧ wc = W1)
  case first =>
    rcases sh2 rs with h | ⟨x, h⟩ | ⟨x, y, t, h⟩
    · have hl : rs.length = 0 := by rw [h]; rfl
      have HB : Hid (al2 rs = false) := by rw [h]; rfl
      have hlz : ¬ (1 : Int) < (rs.length : Int) := by omega
      clear h hl
      go_wp2
      go_meet
      exact ⟨by rw [HB.out], rfl⟩
    · have hl : rs.length = 1 := by rw [h]; rfl
      have HB : Hid (al2 rs = false) := by rw [h]; rfl
      have hlz : ¬ (1 : Int) < (rs.length : Int) := by omega
      clear h hl
      go_wp2
      go_meet
      exact ⟨by rw [HB.out], rfl⟩
    · obtain ⟨hk, _, b, off, e1, hcell⟩ := hS0.at (k := 1) (x := y) (t := t) (by rw [h]; rfl)
      subst e1
      have HB : Hid (al2 rs = isAl y) := by rw [h]; rfl
      have hlz : (1 : Int) < (rs.length : Int) := by omega
      have hIA := fun W => isAlign_any y W
      clear h
      go_wp2_with (go_at_call 44; refine (hIA _).mono ?_; rintro e w' ⟨rfl, rfl⟩)
      go_meet
      exact ⟨by rw [HB.out], rfl⟩
  case rest =>
    obtain ⟨rfl, hw⟩ := hcut
    obtain rfl : W1 = wc := hw.symm
    go_upto_if 29 with fail
    go_cut [7] from 29 to 52 (fun i wc => ∃ k : Nat, i = .int .i64 k ∧ k ≤ rs.length ∧ Hid (rs.drop k = q1 rs) ∧ St w wc a1 c1 rs (w1 rs))
    case first =>
      cases hb : al2 rs with
      | true =>
        obtain ⟨x, y, t, h, hy⟩ : ∃ x y t, rs = x :: y :: t ∧ isAl y = true := by
          rcases sh2 rs with h | ⟨x, h⟩ | ⟨x, y, t, h⟩
          · rw [h] at hb; cases hb
          · rw [h] at hb; cases hb
          · rw [h] at hb; exact ⟨x, y, t, h, hb⟩
        obtain ⟨_, _, b, off, e1, hcell0⟩ := hS0.at (k := 0) (x := x) (t := y :: t) (by rw [h]; rfl)
        subst e1
        rw [Nat.add_zero] at hcell0
        obtain ⟨hl1, _, b', off', e1, hcell1⟩ := hS0.at (k := 1) (x := y) (t := t) (by rw [h]; rfl)
        have hy2 : y < 256 := by unfold isAl at hy; simp at hy; omega
        have hwy := u8w (a := (y : Int)) (by omega) (by omega)
        have hS1 := hS0.set0 x
        have hS2 := hS1.set1 y
        have HS2 : Hid (St w ((W1.setCell ⟨w.heap.size + 1, 0, none⟩ (.int .i64 x)).setCell ⟨w.heap.size + 1, 1, none⟩ (.int .u8 y)) (some ⟨b, off, none⟩) c1 rs (w1 rs)) := by
          show St _ _ _ _ _ _
          have : w1 rs = { sv0 with f := x, a := y } := by unfold w1; rw [if_pos hb, h]; rfl
          rw [this]; exact hS2
        have HQ : Hid (rs.drop 2 = q1 rs) := by show _ = _; unfold q1; rw [if_pos hb]
        have hc1b : (W1.setCell ⟨w.heap.size + 1, 0, none⟩ (.int .i64 x)).cell? ⟨b, off + 1, none⟩ = some (.int .i64 y) := by
          obtain ⟨_, _, b', off', e1, hc⟩ := hS1.at (k := 1) (x := y) (t := t) (by rw [h]; rfl)
          simp only [Option.some.injEq, Addr.mk.injEq] at e1
          obtain ⟨rfl, rfl, _⟩ := e1
          exact hc
        obtain ⟨⟨u0, hu0⟩, hf0⟩ := hS0.cell 0 (by omega)
        obtain ⟨⟨u1, hu1⟩, hf1⟩ := hS1.cell 1 (by omega)
        have hlz : (1 : Int) < (rs.length : Int) := by omega
        have hlz0 : (0 : Int) < (rs.length : Int) := by omega
        clear hb hS0 hS1 hS2 hy h hcell1 e1
        go_wp2
        go_meet
        exact ⟨2, rfl, by omega, HQ, HS2.out⟩
      | false =>
        cases hx : hd isAl rs with
        | true =>
          obtain ⟨x, t, h, hxa⟩ := hd_true hx
          obtain ⟨hl0, _, b, off, e1, hcell0⟩ := hS0.at (k := 0) (x := x) (t := t) (by rw [h]; rfl)
          subst e1
          rw [Nat.add_zero] at hcell0
          have hIA := fun W => isAlign_any x W
          rw [hxa] at hIA
          have hlz0 : (0 : Int) < (rs.length : Int) := by omega
          have hx2 : x < 256 := by unfold isAl at hxa; simp at hxa; omega
          have hwx := u8w (a := (x : Int)) (by omega) (by omega)
          have hS1 := hS0.set1 x
          have HS1 : Hid (St w (W1.setCell ⟨w.heap.size + 1, 1, none⟩ (.int .u8 x)) (some ⟨b, off, none⟩) c1 rs (w1 rs)) := by
            show St _ _ _ _ _ _
            have : w1 rs = { sv0 with a := x } := by unfold w1; rw [if_neg (by rw [hb]; decide), if_pos hx, h]; rfl
            rw [this]; exact hS1
          have HQ : Hid (rs.drop 1 = q1 rs) := by show _ = _; unfold q1; rw [if_neg (by rw [hb]; decide), if_pos hx]
          obtain ⟨⟨u1, hu1⟩, hf1⟩ := hS0.cell 1 (by omega)
          clear hb hS0 hS1 hx hxa h
          go_wp2_with (go_at_call 44; refine (hIA _).mono ?_; rintro e w' ⟨rfl, rfl⟩)
          go_meet
          exact ⟨1, rfl, by omega, HQ, HS1.out⟩
        | false =>
          have HS1 : Hid (St w W1 a1 c1 rs (w1 rs)) := by
            show St _ _ _ _ _ _
            have : w1 rs = sv0 := by unfold w1; rw [if_neg (by rw [hb]; decide), if_neg (by rw [hx]; decide)]
            rw [this]; exact hS0
          have HQ : Hid (rs.drop 0 = q1 rs) := by show _ = _; unfold q1; rw [if_neg (by rw [hb]; decide), if_neg (by rw [hx]; decide)]; rfl
          rcases Nat.eq_zero_or_pos rs.length with hl | hl
          · have hlz0 : ¬ (0 : Int) < (rs.length : Int) := by omega
            clear hb hS0 hx hl
            go_wp2
            go_meet
            exact ⟨0, rfl, Nat.zero_le _, HQ, HS1.out⟩
          · obtain ⟨x, t, h⟩ : ∃ x t, rs = x :: t := by
              cases rs with
              | nil => simp at hl
              | cons x t => exact ⟨x, t, rfl⟩
            obtain ⟨_, _, b, off, e1, hcell0⟩ := hS0.at (k := 0) (x := x) (t := t) (by rw [h]; rfl)
            subst e1
            rw [Nat.add_zero] at hcell0
            have hIA := fun W => isAlign_any x W
            rw [show isAl x = false by rw [h] at hx; exact hx] at hIA
            have hlz0 : (0 : Int) < (rs.length : Int) := by omega
            clear hb hS0 hx h hl
            go_wp2_with (go_at_call 44; refine (hIA _).mono ?_; rintro e w' ⟨rfl, rfl⟩)
            go_meet
            exact ⟨0, rfl, Nat.zero_le _, HQ, HS1.out⟩
    case rest =>
      obtain ⟨k1, rfl, hk1, HK1, hSt1⟩ := hcut
      clear hS0
      generalize W1 = Wold at *
      generalize wc = W1 at *
      go_upto_region 13 with fail
      go_cut [77] from 53 to 77 (fun b wc => b = .bool (hd isSg (q1 rs)) ∧ wc = W1)
      case first =>
        rcases hq : q1 rs with _ | ⟨x, t⟩
        · have HKq : Hid (rs.drop k1 = []) := by rw [← hq]; exact HK1
          have hkl := drop_nil HKq.out hk1
          have hlz : ¬ (k1 : Int) < (rs.length : Int) := by omega
          have HB : Hid (hd isSg (q1 rs) = false) := by show hd isSg (q1 rs) = false; rw [hq]; rfl
          clear HKq hkl hq HK1
          go_wp2
          go_meet
          exact ⟨by rw [HB.out], rfl⟩
        · have HKq : Hid (rs.drop k1 = x :: t) := by rw [← hq]; exact HK1
          obtain ⟨hkl, _, b, off, e1, hcell⟩ := hSt1.at HKq.out
          subst e1
          have hlz : (k1 : Int) < (rs.length : Int) := by omega
          obtain ⟨X, hX⟩ : ∃ X : Int, (x : Int) = X := ⟨_, rfl⟩
          rw [hX] at hcell
          have HX : Hid ((x : Int) = X) := hX
          have HQ0 : Hid (q1 rs = x :: t) := hq
          clear HKq hX hq HK1
          by_cases h43 : X = 43
          · subst h43
            have HB : Hid (hd isSg (q1 rs) = true) := by
              have hX := HX.out
              show hd isSg (q1 rs) = true
              rw [HQ0.out]
              show isSg x = true
              unfold isSg; rw [show x = 43 by omega]; rfl
            clear HX HQ0
            go_wp2
            go_meet
            exact ⟨by rw [HB.out], rfl⟩
          · have e43 : (X == 43) = false := by rw [beq_eq_false_iff_ne]; exact h43
            by_cases h32 : X = 32
            · subst h32
              have HB : Hid (hd isSg (q1 rs) = true) := by
                have hX := HX.out
                show hd isSg (q1 rs) = true
                rw [HQ0.out]
                show isSg x = true
                unfold isSg; rw [show x = 32 by omega]; rfl
              clear HX HQ0
              go_wp2
              go_meet
              exact ⟨by rw [HB.out], rfl⟩
            · have e32 : (X == 32) = false := by rw [beq_eq_false_iff_ne]; exact h32
              by_cases h45 : X = 45
              · subst h45
                have HB : Hid (hd isSg (q1 rs) = true) := by
                  have hX := HX.out
                  show hd isSg (q1 rs) = true
                  rw [HQ0.out]
                  show isSg x = true
                  unfold isSg; rw [show x = 45 by omega]; rfl
                clear HX HQ0
                go_wp2
                go_meet
                exact ⟨by rw [HB.out], rfl⟩
              · have e45 : (X == 45) = false := by rw [beq_eq_false_iff_ne]; exact h45
                have HB : Hid (hd isSg (q1 rs) = false) := by
                  have hX := HX.out
                  show hd isSg (q1 rs) = false
                  rw [HQ0.out]
                  show isSg x = false
                  unfold isSg; simp only [Bool.or_eq_false_iff, beq_eq_false_iff_ne]; omega
                clear HX HQ0
                go_wp2
                go_meet
                exact ⟨by rw [HB.out], rfl⟩
      case rest =>
        obtain ⟨rfl, hw⟩ := hcut
        obtain rfl : W1 = wc := hw.symm
        go_upto_if 77 with fail
        go_cut [7] from 77 to 85 (fun s7 wc => ∃ k : Nat, s7 = .int .i64 k ∧ k ≤ rs.length ∧ Hid (rs.drop k = q2 rs) ∧ St w wc a1 c1 rs (w2 rs))
        case first =>
          cases hb : hd isSg (q1 rs) with
          | false =>
            have HQ : Hid (rs.drop k1 = q2 rs) := by show _ = _; unfold q2; rw [if_neg (by rw [hb]; decide)]; exact HK1.out
            have HS : Hid (St w W1 a1 c1 rs (w2 rs)) := by
              show St _ _ _ _ _ _
              unfold w2
              rw [if_neg (by rw [hb]; decide)]
              exact hSt1
            skip
            clear hb hSt1 HK1
            go_wp2
            go_meet
            exact ⟨k1, rfl, hk1, HQ, HS.out⟩
          | true =>
            obtain ⟨x, t, hq, hxp⟩ := hd_true hb
            have HKq : Hid (rs.drop k1 = x :: t) := by rw [← hq]; exact HK1
            obtain ⟨hkl, hdr, b, off, e1, hcell⟩ := hSt1.at HKq.out
            have hlz : (k1 : Int) < (rs.length : Int) := by omega
            have hwk := wrap0 (a := (k1 : Int) + 1) (by omega) (by omega)
            have hx2 : x < 256 := by unfold isSg at hxp; simp at hxp; omega
            have hwx := u8w (a := (x : Int)) (by omega) (by omega)
            subst e1
            have hS2 := hSt1.set2 (x)
            have HS : Hid (St w (W1.setCell ⟨w.heap.size + 1, 2, none⟩ (.int .u8 x)) (some ⟨b, off, none⟩) c1 rs (w2 rs)) := by
              show St _ _ _ _ _ _
              have : w2 rs = { w1 rs with s := x } := by unfold w2; rw [if_pos hb, hq]; rfl
              rw [this]; exact hS2
            have HQ : Hid (rs.drop (k1 + 1) = q2 rs) := by show _ = _; unfold q2; rw [if_pos hb, hq]; exact hdr
            obtain ⟨⟨u, hu⟩, hf⟩ := hSt1.cell 2 (by omega)
            clear hb hSt1 hS2 hq hxp hdr HKq HK1
            go_wp2
            go_meet
            exact ⟨k1 + 1, by go_num, by omega, HQ, HS.out⟩
        case rest =>
          obtain ⟨k2, rfl, hk2, HK2, hSt2⟩ := hcut
          generalize wc = W2 at *
          clear hk1 HK1 hSt1
          go_upto_region 16 with fail
          go_cut [96] from 86 to 96 (fun b wc => b = .bool (hd (· == 48) (q2 rs)) ∧ wc = W2)
          case first =>
            rcases hq : q2 rs with _ | ⟨x, t⟩
            · have HKq : Hid (rs.drop k2 = []) := by rw [← hq]; exact HK2
              have hkl := drop_nil HKq.out hk2
              have hlz : ¬ (k2 : Int) < (rs.length : Int) := by omega
              have HB : Hid (hd (· == 48) (q2 rs) = false) := by show hd (· == 48) (q2 rs) = false; rw [hq]; rfl
              clear HKq hkl hq HK2
              go_wp2
              go_meet
              exact ⟨by rw [HB.out], rfl⟩
            · have HKq : Hid (rs.drop k2 = x :: t) := by rw [← hq]; exact HK2
              obtain ⟨hkl, _, b, off, e1, hcell⟩ := hSt2.at HKq.out
              subst e1
              have hlz : (k2 : Int) < (rs.length : Int) := by omega
              obtain ⟨X, hX⟩ : ∃ X : Int, (x : Int) = X := ⟨_, rfl⟩
              rw [hX] at hcell
              have HX : Hid ((x : Int) = X) := hX
              have HQ0 : Hid (q2 rs = x :: t) := hq
              clear HKq hX hq HK2
              by_cases h48 : X = 48
              · subst h48
                have HB : Hid (hd (· == 48) (q2 rs) = true) := by
                  have hX := HX.out
                  show hd (· == 48) (q2 rs) = true
                  rw [HQ0.out]
                  show (x == 48) = true
                  rw [beq_iff_eq]; omega
                clear HX HQ0
                go_wp2
                go_meet
                exact ⟨by rw [HB.out], rfl⟩
              · have e48 : (X == 48) = false := by rw [beq_eq_false_iff_ne]; exact h48
                have HB : Hid (hd (· == 48) (q2 rs) = false) := by
                  have hX := HX.out
                  show hd (· == 48) (q2 rs) = false
                  rw [HQ0.out]
                  show (x == 48) = false
                  rw [beq_eq_false_iff_ne]; omega
                clear HX HQ0
                go_wp2
                go_meet
                exact ⟨by rw [HB.out], rfl⟩
          case rest =>
            obtain ⟨rfl, hw⟩ := hcut
            obtain rfl : W2 = wc := hw.symm
            go_upto_if 96 with fail
            go_cut [7] from 96 to 99 (fun s7 wc => ∃ k : Nat, s7 = .int .i64 k ∧ k ≤ rs.length ∧ Hid (rs.drop k = q3 rs) ∧ St w wc a1 c1 rs (w3 rs))
            case first =>
              cases hb : hd (· == 48) (q2 rs) with
              | false =>
                have HQ : Hid (rs.drop k2 = q3 rs) := by show _ = _; unfold q3; rw [if_neg (by rw [hb]; decide)]; exact HK2.out
                have HS : Hid (St w W2 a1 c1 rs (w3 rs)) := by
                  show St _ _ _ _ _ _
                  unfold w3
                  rw [if_neg (by rw [hb]; decide)]
                  exact hSt2
                skip
                clear hb hSt2 HK2
                go_wp2
                go_meet
                exact ⟨k2, rfl, hk2, HQ, HS.out⟩
              | true =>
                obtain ⟨x, t, hq, hxp⟩ := hd_true hb
                have HKq : Hid (rs.drop k2 = x :: t) := by rw [← hq]; exact HK2
                obtain ⟨hkl, hdr, b, off, e1, hcell⟩ := hSt2.at HKq.out
                have hlz : (k2 : Int) < (rs.length : Int) := by omega
                have hwk := wrap0 (a := (k2 : Int) + 1) (by omega) (by omega)
                skip
                subst e1
                have hS2 := hSt2.set3 (true)
                have HS : Hid (St w (W2.setCell ⟨w.heap.size + 1, 3, none⟩ (.bool true)) (some ⟨b, off, none⟩) c1 rs (w3 rs)) := by
                  show St _ _ _ _ _ _
                  have : w3 rs = { w2 rs with z := true } := by unfold w3; rw [if_pos hb]
                  rw [this]; exact hS2
                have HQ : Hid (rs.drop (k2 + 1) = q3 rs) := by show _ = _; unfold q3; rw [if_pos hb, hq]; exact hdr
                obtain ⟨⟨u, hu⟩, hf⟩ := hSt2.cell 3 (by omega)
                clear hb hSt2 hS2 hq hxp hdr HKq HK2
                go_wp2
                go_meet
                exact ⟨k2 + 1, by go_num, by omega, HQ, HS.out⟩
            case rest =>
              obtain ⟨k3, rfl, hk3, HK3, hSt3⟩ := hcut
              generalize wc = W3 at *
              clear hk2 HK2 hSt2
              go_upto_region 19 with fail
              go_cut [117] from 100 to 117 (fun b wc => b = .bool (hd is19 (q3 rs)) ∧ wc = W3)
              case first =>
                rcases hq : q3 rs with _ | ⟨x, t⟩
                · have HKq : Hid (rs.drop k3 = []) := by rw [← hq]; exact HK3
                  have hkl := drop_nil HKq.out hk3
                  have hlz : ¬ (k3 : Int) < (rs.length : Int) := by omega
                  have HB : Hid (hd is19 (q3 rs) = false) := by show hd is19 (q3 rs) = false; rw [hq]; rfl
                  clear HKq hkl hq HK3
                  go_wp2
                  go_meet
                  exact ⟨by rw [HB.out], rfl⟩
                · have HKq : Hid (rs.drop k3 = x :: t) := by rw [← hq]; exact HK3
                  obtain ⟨hkl, _, b, off, e1, hcell⟩ := hSt3.at HKq.out
                  subst e1
                  have hlz : (k3 : Int) < (rs.length : Int) := by omega
                  obtain ⟨X, hX⟩ : ∃ X : Int, (x : Int) = X := ⟨_, rfl⟩
                  rw [hX] at hcell
                  have HX : Hid ((x : Int) = X) := hX
                  have HQ0 : Hid (q3 rs = x :: t) := hq
                  clear HKq hX hq HK3
                  by_cases h1 : (49 : Int) ≤ X
                  · by_cases h2 : X ≤ 57
                    · skip
                      have HB : Hid (hd is19 (q3 rs) = true) := by
                        have hX := HX.out
                        show hd is19 (q3 rs) = true
                        rw [HQ0.out]
                        show is19 x = true
                        unfold is19; simp only [Bool.and_eq_true, decide_eq_true_eq]; omega
                      clear HX HQ0
                      go_wp2
                      go_meet
                      exact ⟨by rw [HB.out], rfl⟩
                    · skip
                      have HB : Hid (hd is19 (q3 rs) = false) := by
                        have hX := HX.out
                        show hd is19 (q3 rs) = false
                        rw [HQ0.out]
                        show is19 x = false
                        unfold is19; simp only [Bool.and_eq_false_iff, decide_eq_false_iff_not]; omega
                      clear HX HQ0
                      go_wp2
                      go_meet
                      exact ⟨by rw [HB.out], rfl⟩
                  · skip
                    have HB : Hid (hd is19 (q3 rs) = false) := by
                      have hX := HX.out
                      show hd is19 (q3 rs) = false
                      rw [HQ0.out]
                      show is19 x = false
                      unfold is19; simp only [Bool.and_eq_false_iff, decide_eq_false_iff_not]; omega
                    clear HX HQ0
                    go_wp2
                    go_meet
                    exact ⟨by rw [HB.out], rfl⟩
              case rest =>
                obtain ⟨rfl, hw⟩ := hcut
                obtain rfl : W3 = wc := hw.symm
                go_upto_if 117 with fail
                go_cut [7, 8, 9] from 117 to 126 (fun s7 s8 s9 wc => ∃ k : Nat, s7 = .int .i64 k ∧ k ≤ rs.length ∧ Hid (rs.drop k = q4 rs) ∧ St w wc a1 c1 rs (w4 rs))
                case first =>
                  cases hb : hd is19 (q3 rs) with
                  | false =>
                    have HQ : Hid (rs.drop k3 = q4 rs) := by show _ = _; unfold q4; rw [if_neg (by rw [hb]; decide)]; exact HK3.out
                    have HS : Hid (St w W3 a1 c1 rs (w4 rs)) := by
                      show St _ _ _ _ _ _
                      unfold w4
                      rw [if_neg (by rw [hb]; decide)]
                      exact hSt3
                    skip
                    clear hb hSt3 HK3
                    go_wp2
                    go_meet
                    exact ⟨k3, rfl, hk3, HQ, HS.out⟩
                  | true =>
                    obtain ⟨x, t, hq, hxp⟩ := hd_true hb
                    have HKq : Hid (rs.drop k3 = x :: t) := by rw [← hq]; exact HK3
                    obtain ⟨hkl, hdr, b, off, e1, hcell⟩ := hSt3.at HKq.out
                    have hlz : (k3 : Int) < (rs.length : Int) := by omega
                    have hwk := wrap0 (a := (k3 : Int) + 1) (by omega) (by omega)
                    have hNm := number_any a1 c1 rs k3 4 W3 hSt3.own.rd hk3 hrl (by omega)
                    have hdk : rs.drop k3 = q3 rs := HK3.out
                    rw [hdk] at hNm
                    obtain ⟨k', hk'⟩ : ∃ k' : Nat, k3 + (cutD 4 (q3 rs)).1.length = k' := ⟨_, rfl⟩
                    rw [hk'] at hNm
                    have hS2 := hSt3.set4 (nv (cutD 4 (q3 rs)).1)
                    have HS : Hid (St w (W3.setCell ⟨w.heap.size + 1, 4, none⟩ (.int .i64 (nv (cutD 4 (q3 rs)).1 : Nat))) a1 c1 rs (w4 rs)) := by
                      show St _ _ _ _ _ _
                      have : w4 rs = { w3 rs with wd := nv (cutD 4 (q3 rs)).1 } := by unfold w4; rw [if_pos hb]
                      rw [this]; exact hS2
                    have HQ : Hid (rs.drop k' = q4 rs) := by show _ = _; unfold q4; rw [if_pos hb, ← hk', ← List.drop_drop, hdk]
                    have hkb : k' ≤ rs.length := by
                      have h1 := congrArg List.length (cutD_app 4 (q3 rs))
                      have h2 := congrArg List.length hdk
                      rw [List.length_append] at h1
                      rw [List.length_drop] at h2
                      omega
                    obtain ⟨⟨u, hu⟩, hf⟩ := hSt3.cell 4 (by omega)
                    generalize nv (cutD 4 (q3 rs)).1 = VW at *
                    clear hb hSt3 hS2 hq hxp hdr HKq HK3 hdk hk' e1 hcell
                    go_wp2_with (go_at_call 45; refine hNm.mono ?_; rintro e w' ⟨rfl, rfl⟩)
                    go_meet
                    exact ⟨k', rfl, hkb, HQ, HS.out⟩
                case rest =>
                  obtain ⟨k4, rfl, hk4, HK4, hSt4⟩ := hcut
                  generalize wc = W4 at *
                  clear hk3 HK3 hSt3
                  go_upto_region 23 with fail
                  go_cut [137] from 127 to 137 (fun b wc => b = .bool (hd (· == 44) (q4 rs)) ∧ wc = W4)
                  case first =>
                    rcases hq : q4 rs with _ | ⟨x, t⟩
                    · have HKq : Hid (rs.drop k4 = []) := by rw [← hq]; exact HK4
                      have hkl := drop_nil HKq.out hk4
                      have hlz : ¬ (k4 : Int) < (rs.length : Int) := by omega
                      have HB : Hid (hd (· == 44) (q4 rs) = false) := by show hd (· == 44) (q4 rs) = false; rw [hq]; rfl
                      clear HKq hkl hq HK4
                      go_wp2
                      go_meet
                      exact ⟨by rw [HB.out], rfl⟩
                    · have HKq : Hid (rs.drop k4 = x :: t) := by rw [← hq]; exact HK4
                      obtain ⟨hkl, _, b, off, e1, hcell⟩ := hSt4.at HKq.out
                      subst e1
                      have hlz : (k4 : Int) < (rs.length : Int) := by omega
                      obtain ⟨X, hX⟩ : ∃ X : Int, (x : Int) = X := ⟨_, rfl⟩
                      rw [hX] at hcell
                      have HX : Hid ((x : Int) = X) := hX
                      have HQ0 : Hid (q4 rs = x :: t) := hq
                      clear HKq hX hq HK4
                      by_cases h44 : X = 44
                      · subst h44
                        have HB : Hid (hd (· == 44) (q4 rs) = true) := by
                          have hX := HX.out
                          show hd (· == 44) (q4 rs) = true
                          rw [HQ0.out]
                          show (x == 44) = true
                          rw [beq_iff_eq]; omega
                        clear HX HQ0
                        go_wp2
                        go_meet
                        exact ⟨by rw [HB.out], rfl⟩
                      · have e44 : (X == 44) = false := by rw [beq_eq_false_iff_ne]; exact h44
                        have HB : Hid (hd (· == 44) (q4 rs) = false) := by
                          have hX := HX.out
                          show hd (· == 44) (q4 rs) = false
                          rw [HQ0.out]
                          show (x == 44) = false
                          rw [beq_eq_false_iff_ne]; omega
                        clear HX HQ0
                        go_wp2
                        go_meet
                        exact ⟨by rw [HB.out], rfl⟩
                  case rest =>
                    obtain ⟨rfl, hw⟩ := hcut
                    obtain rfl : W4 = wc := hw.symm
                    go_upto_if 137 with fail
                    go_cut [7] from 137 to 140 (fun s7 wc => ∃ k : Nat, s7 = .int .i64 k ∧ k ≤ rs.length ∧ Hid (rs.drop k = q5 rs) ∧ St w wc a1 c1 rs (w5 rs))
                    case first =>
                      cases hb : hd (· == 44) (q4 rs) with
                      | false =>
                        have HQ : Hid (rs.drop k4 = q5 rs) := by show _ = _; unfold q5; rw [if_neg (by rw [hb]; decide)]; exact HK4.out
                        have HS : Hid (St w W4 a1 c1 rs (w5 rs)) := by
                          show St _ _ _ _ _ _
                          unfold w5
                          rw [if_neg (by rw [hb]; decide)]
                          exact hSt4
                        skip
                        clear hb hSt4 HK4
                        go_wp2
                        go_meet
                        exact ⟨k4, rfl, hk4, HQ, HS.out⟩
                      | true =>
                        obtain ⟨x, t, hq, hxp⟩ := hd_true hb
                        have HKq : Hid (rs.drop k4 = x :: t) := by rw [← hq]; exact HK4
                        obtain ⟨hkl, hdr, b, off, e1, hcell⟩ := hSt4.at HKq.out
                        have hlz : (k4 : Int) < (rs.length : Int) := by omega
                        have hwk := wrap0 (a := (k4 : Int) + 1) (by omega) (by omega)
                        skip
                        subst e1
                        have hS2 := hSt4.set5 (true)
                        have HS : Hid (St w (W4.setCell ⟨w.heap.size + 1, 5, none⟩ (.bool true)) (some ⟨b, off, none⟩) c1 rs (w5 rs)) := by
                          show St _ _ _ _ _ _
                          have : w5 rs = { w4 rs with cm := true } := by unfold w5; rw [if_pos hb]
                          rw [this]; exact hS2
                        have HQ : Hid (rs.drop (k4 + 1) = q5 rs) := by show _ = _; unfold q5; rw [if_pos hb, hq]; exact hdr
                        obtain ⟨⟨u, hu⟩, hf⟩ := hSt4.cell 5 (by omega)
                        clear hb hSt4 hS2 hq hxp hdr HKq HK4
                        go_wp2
                        go_meet
                        exact ⟨k4 + 1, by go_num, by omega, HQ, HS.out⟩
                    case rest =>
                      obtain ⟨k5, rfl, hk5, HK5, hSt5⟩ := hcut
                      generalize wc = W5 at *
                      clear hk4 HK4 hSt4
                      go_upto_region 26 with fail
                      go_cut [151] from 141 to 151 (fun b wc => b = .bool (hd (· == 46) (q5 rs)) ∧ wc = W5)
                      case first =>
                        rcases hq : q5 rs with _ | ⟨x, t⟩
                        · have HKq : Hid (rs.drop k5 = []) := by rw [← hq]; exact HK5
                          have hkl := drop_nil HKq.out hk5
                          have hlz : ¬ (k5 : Int) < (rs.length : Int) := by omega
                          have HB : Hid (hd (· == 46) (q5 rs) = false) := by show hd (· == 46) (q5 rs) = false; rw [hq]; rfl
                          clear HKq hkl hq HK5
                          go_wp2
                          go_meet
                          exact ⟨by rw [HB.out], rfl⟩
                        · have HKq : Hid (rs.drop k5 = x :: t) := by rw [← hq]; exact HK5
                          obtain ⟨hkl, _, b, off, e1, hcell⟩ := hSt5.at HKq.out
                          subst e1
                          have hlz : (k5 : Int) < (rs.length : Int) := by omega
                          obtain ⟨X, hX⟩ : ∃ X : Int, (x : Int) = X := ⟨_, rfl⟩
                          rw [hX] at hcell
                          have HX : Hid ((x : Int) = X) := hX
                          have HQ0 : Hid (q5 rs = x :: t) := hq
                          clear HKq hX hq HK5
                          by_cases h46 : X = 46
                          · subst h46
                            have HB : Hid (hd (· == 46) (q5 rs) = true) := by
                              have hX := HX.out
                              show hd (· == 46) (q5 rs) = true
                              rw [HQ0.out]
                              show (x == 46) = true
                              rw [beq_iff_eq]; omega
                            clear HX HQ0
                            go_wp2
                            go_meet
                            exact ⟨by rw [HB.out], rfl⟩
                          · have e46 : (X == 46) = false := by rw [beq_eq_false_iff_ne]; exact h46
                            have HB : Hid (hd (· == 46) (q5 rs) = false) := by
                              have hX := HX.out
                              show hd (· == 46) (q5 rs) = false
                              rw [HQ0.out]
                              show (x == 46) = false
                              rw [beq_eq_false_iff_ne]; omega
                            clear HX HQ0
                            go_wp2
                            go_meet
                            exact ⟨by rw [HB.out], rfl⟩
                      case rest =>
                        obtain ⟨rfl, hw⟩ := hcut
                        obtain rfl : W5 = wc := hw.symm
                        go_upto_if 151 with fail
                        go_cut [7, 10, 11] from 151 to 167 (fun s7 s10 s11 wc => ∃ k : Nat, s7 = .int .i64 k ∧ k ≤ rs.length ∧ Hid (rs.drop k = q6 rs) ∧ noDg rs = false ∧ St w wc a1 c1 rs (w6 rs))
                        case first =>
                          cases hb : hd (· == 46) (q5 rs) with
                          | false =>
                            have HQ : Hid (rs.drop k5 = q6 rs) := by show _ = _; unfold q6; rw [if_neg (by rw [hb]; decide)]; exact HK5.out
                            have HS : Hid (St w W5 a1 c1 rs (w6 rs)) := by
                              show St _ _ _ _ _ _
                              unfold w6
                              rw [if_neg (by rw [hb]; decide)]
                              exact hSt5
                            have HX : Hid (noDg rs = false) := by show _ = _; unfold noDg; rw [hb]; rfl
                            clear hb hSt5 HK5
                            go_wp2
                            go_meet
                            exact ⟨k5, rfl, hk5, HQ, HX.out, HS.out⟩
                          | true =>
                            obtain ⟨x, t, hq, hxp⟩ := hd_true hb
                            have HKq : Hid (rs.drop k5 = x :: t) := by rw [← hq]; exact HK5
                            obtain ⟨hkl, hdr, b, off, e1, hcell⟩ := hSt5.at HKq.out
                            have hlz : (k5 : Int) < (rs.length : Int) := by omega
                            have hwk := wrap0 (a := (k5 : Int) + 1) (by omega) (by omega)
                            have hS2 := hSt5.set6 true
                            obtain ⟨kk, hkk⟩ : ∃ kk : Nat, k5 + 1 = kk := ⟨_, rfl⟩
                            have hwk2 : IntKind.i64.wrap ((k5 : Int) + 1) = (kk : Int) := by rw [hwk]; omega
                            have hNm := number_any a1 c1 rs kk 3 (W5.setCell ⟨w.heap.size + 1, 6, none⟩ (.bool true)) hS2.own.rd (by omega) hrl (by omega)
                            have hdk : rs.drop kk = (q5 rs).drop 1 := by rw [hq, ← hkk]; exact hdr
                            rw [hdk] at hNm
                            obtain ⟨k', hk'⟩ : ∃ k' : Nat, kk + (cutD 3 ((q5 rs).drop 1)).1.length = k' := ⟨_, rfl⟩
                            rw [hk'] at hNm
                            have hkb : k' ≤ rs.length := by
                              have h1 := congrArg List.length (cutD_app 3 ((q5 rs).drop 1))
                              have h2 := congrArg List.length hdk
                              rw [List.length_append] at h1
                              rw [List.length_drop] at h2
                              omega
                            obtain ⟨⟨u, hu⟩, hf⟩ := hSt5.cell 6 (by omega)
                            obtain ⟨⟨u2, hu2⟩, hf2⟩ := hS2.cell 7 (by omega)
                            by_cases hno : (cutD 3 ((q5 rs).drop 1)).1.length = 0
                            · have hkq : ((k' : Int) == (kk : Int)) = true := by rw [beq_iff_eq]; omega
                              obtain rfl : kk = k' := by omega
                              have HOK : Hid (okQ rs = false) := by
                                show _ = _
                                unfold okQ noDg
                                rw [hb, List.eq_nil_of_length_eq_zero hno]; rfl
                              have HBB : Hid (Below w.heap.size w (W5.setCell ⟨w.heap.size + 1, 6, none⟩ (.bool true))) := hS2.b
                              have HX0 : Bx (W5.setCell ⟨w.heap.size + 1, 6, none⟩ (.bool true)) w.heap.size (spC sz0) := hS2.x
                              have HP0 : Bx (W5.setCell ⟨w.heap.size + 1, 6, none⟩ (.bool true)) (w.heap.size + 1) (spC ({ w5 rs with dt := true })) := hS2.p
                              obtain ⟨V, hV⟩ : ∃ V : Sv, { w5 rs with dt := true } = V := ⟨_, rfl⟩
                              rw [hV] at HP0
                              have HV : Hid ({ w5 rs with dt := true } = V) := hV
                              clear hV
                              have p0 : ((W5.setCell ⟨w.heap.size + 1, 6, none⟩ (.bool true))).cell? ⟨w.heap.size + 1, 0, none⟩ = some (.int .i64 V.f) := HP0.cell 0 (by simp [spC])
                              have x0 : ((W5.setCell ⟨w.heap.size + 1, 6, none⟩ (.bool true))).cell? ⟨w.heap.size, 0, none⟩ = some (.int .i64 0) := HX0.cell 0 (by simp [spC])
                              have f0 := HX0.fr 0
                              have p1 : ((W5.setCell ⟨w.heap.size + 1, 6, none⟩ (.bool true))).cell? ⟨w.heap.size + 1, 1, none⟩ = some (.int .u8 V.a) := HP0.cell 1 (by simp [spC])
                              have x1 : ((W5.setCell ⟨w.heap.size + 1, 6, none⟩ (.bool true))).cell? ⟨w.heap.size, 1, none⟩ = some (.int .u8 0) := HX0.cell 1 (by simp [spC])
                              have f1 := HX0.fr 1
                              have p2 : ((W5.setCell ⟨w.heap.size + 1, 6, none⟩ (.bool true))).cell? ⟨w.heap.size + 1, 2, none⟩ = some (.int .u8 V.s) := HP0.cell 2 (by simp [spC])
                              have x2 : ((W5.setCell ⟨w.heap.size + 1, 6, none⟩ (.bool true))).cell? ⟨w.heap.size, 2, none⟩ = some (.int .u8 0) := HX0.cell 2 (by simp [spC])
                              have f2 := HX0.fr 2
                              have p3 : ((W5.setCell ⟨w.heap.size + 1, 6, none⟩ (.bool true))).cell? ⟨w.heap.size + 1, 3, none⟩ = some (.bool V.z) := HP0.cell 3 (by simp [spC])
                              have x3 : ((W5.setCell ⟨w.heap.size + 1, 6, none⟩ (.bool true))).cell? ⟨w.heap.size, 3, none⟩ = some (.bool false) := HX0.cell 3 (by simp [spC])
                              have f3 := HX0.fr 3
                              have p4 : ((W5.setCell ⟨w.heap.size + 1, 6, none⟩ (.bool true))).cell? ⟨w.heap.size + 1, 4, none⟩ = some (.int .i64 V.wd) := HP0.cell 4 (by simp [spC])
                              have x4 : ((W5.setCell ⟨w.heap.size + 1, 6, none⟩ (.bool true))).cell? ⟨w.heap.size, 4, none⟩ = some (.int .i64 0) := HX0.cell 4 (by simp [spC])
                              have f4 := HX0.fr 4
                              have p5 : ((W5.setCell ⟨w.heap.size + 1, 6, none⟩ (.bool true))).cell? ⟨w.heap.size + 1, 5, none⟩ = some (.bool V.cm) := HP0.cell 5 (by simp [spC])
                              have x5 : ((W5.setCell ⟨w.heap.size + 1, 6, none⟩ (.bool true))).cell? ⟨w.heap.size, 5, none⟩ = some (.bool false) := HX0.cell 5 (by simp [spC])
                              have f5 := HX0.fr 5
                              have p6 : ((W5.setCell ⟨w.heap.size + 1, 6, none⟩ (.bool true))).cell? ⟨w.heap.size + 1, 6, none⟩ = some (.bool V.dt) := HP0.cell 6 (by simp [spC])
                              have x6 : ((W5.setCell ⟨w.heap.size + 1, 6, none⟩ (.bool true))).cell? ⟨w.heap.size, 6, none⟩ = some (.bool false) := HX0.cell 6 (by simp [spC])
                              have f6 := HX0.fr 6
                              have p7 : ((W5.setCell ⟨w.heap.size + 1, 6, none⟩ (.bool true))).cell? ⟨w.heap.size + 1, 7, none⟩ = some (.int .i64 V.pr) := HP0.cell 7 (by simp [spC])
                              have x7 : ((W5.setCell ⟨w.heap.size + 1, 6, none⟩ (.bool true))).cell? ⟨w.heap.size, 7, none⟩ = some (.int .i64 0) := HX0.cell 7 (by simp [spC])
                              have f7 := HX0.fr 7
                              have p8 : ((W5.setCell ⟨w.heap.size + 1, 6, none⟩ (.bool true))).cell? ⟨w.heap.size + 1, 8, none⟩ = some (.int .u8 V.kd) := HP0.cell 8 (by simp [spC])
                              have x8 : ((W5.setCell ⟨w.heap.size + 1, 6, none⟩ (.bool true))).cell? ⟨w.heap.size, 8, none⟩ = some (.int .u8 0) := HX0.cell 8 (by simp [spC])
                              have f8 := HX0.fr 8
                              have hXl := HX0.lt
                              clear HX0 HP0
                              generalize nv (cutD 3 ((q5 rs).drop 1)).1 = VW at *
                              clear hb hSt5 hS2 hq hxp hdr HKq HK5 hdk hk' e1 hcell hno hwk hkk
                              go_wp2_with fail
                              refine hNm.mono ?_
                              rintro e w' ⟨rfl, hw'⟩
                              rw [← hw'] at p0 x0 f0 p1 x1 f1 p2 x2 f2 p3 x3 f3 p4 x4 f4 p5 x5 f5 p6 x6 f6 p7 x7 f7 p8 x8 f8 hXl HBB
                              clear hNm hw' hu hf hu2 hf2
                              go_wp2
                              exact bodyPost_ret (v := .tuple #[spV V, .bool false]) (by simp [spV, spC, results, Tryz.results21, go_sem, p0, p1, p2, p3, p4, p5, p6, p7, p8, x0, x1, x2, x3, x4, x5, x6, x7, x8, f0, f1, f2, f3, f4, f5, f6, f7, f8, hXl]) rfl (RsP.mk ⟨V, false, rfl, ⟨HOK.out.symm, fun h => by cases h⟩, set9 HBB.out _ _ _ _ _ _ _ _ _⟩)
                            · have hkq : ((k' : Int) == (kk : Int)) = false := by rw [beq_eq_false_iff_ne]; omega
                              have hS3 := hS2.set7 (nv (cutD 3 ((q5 rs).drop 1)).1)
                              have HS : Hid (St w ((W5.setCell ⟨w.heap.size + 1, 6, none⟩ (.bool true)).setCell ⟨w.heap.size + 1, 7, none⟩ (.int .i64 (nv (cutD 3 ((q5 rs).drop 1)).1 : Nat))) a1 c1 rs (w6 rs)) := by
                                show St _ _ _ _ _ _
                                have : w6 rs = { w5 rs with dt := true, pr := nv (cutD 3 ((q5 rs).drop 1)).1 } := by unfold w6; rw [if_pos hb]
                                rw [this]; exact hS3
                              have HQ : Hid (rs.drop k' = q6 rs) := by show _ = _; unfold q6; rw [if_pos hb, ← hk', ← List.drop_drop, hdk]
                              have HX : Hid (noDg rs = false) := by
                                show _ = _
                                unfold noDg
                                rw [hb, Bool.true_and]
                                cases hc : (cutD 3 ((q5 rs).drop 1)).1 with
                                | nil => rw [hc] at hno; simp at hno
                                | cons _ _ => rfl
                              generalize nv (cutD 3 ((q5 rs).drop 1)).1 = VW at *
                              clear hb hSt5 hS2 hS3 hq hxp hdr HKq HK5 hdk hk' e1 hcell hno hwk hkk
                              go_wp2_with (go_at_call 45; refine hNm.mono ?_; rintro e w' ⟨rfl, rfl⟩)
                              go_meet
                              exact ⟨k', rfl, hkb, HQ, HX.out, HS.out⟩
                        case rest =>
                          obtain ⟨k6, rfl, hk6, HK6, hX6, hSt6⟩ := hcut
                          generalize wc = W6 at *
                          clear hk5 HK5 hSt5
                          go_upto_region 33 with fail
                          go_cut [199] from 168 to 199 (fun b wc => b = .bool (hd isLt (q6 rs)) ∧ wc = W6)
                          case first =>
                            rcases hq : q6 rs with _ | ⟨x, t⟩
                            · have HKq : Hid (rs.drop k6 = []) := by rw [← hq]; exact HK6
                              have hkl := drop_nil HKq.out hk6
                              have hlz : ¬ (k6 : Int) < (rs.length : Int) := by omega
                              have HB : Hid (hd isLt (q6 rs) = false) := by show hd isLt (q6 rs) = false; rw [hq]; rfl
                              clear HKq hkl hq HK6
                              go_wp2
                              go_meet
                              exact ⟨by rw [HB.out], rfl⟩
                            · have HKq : Hid (rs.drop k6 = x :: t) := by rw [← hq]; exact HK6
                              obtain ⟨hkl, _, b, off, e1, hcell⟩ := hSt6.at HKq.out
                              subst e1
                              have hlz : (k6 : Int) < (rs.length : Int) := by omega
                              obtain ⟨X, hX⟩ : ∃ X : Int, (x : Int) = X := ⟨_, rfl⟩
                              rw [hX] at hcell
                              have HX : Hid ((x : Int) = X) := hX
                              have HQ0 : Hid (q6 rs = x :: t) := hq
                              clear HKq hX hq HK6
                              by_cases h1 : (97 : Int) ≤ X
                              · by_cases h2 : X ≤ 122
                                · skip
                                  have HB : Hid (hd isLt (q6 rs) = true) := by
                                    have hX := HX.out
                                    show hd isLt (q6 rs) = true
                                    rw [HQ0.out]
                                    show isLt x = true
                                    unfold isLt; simp only [Bool.or_eq_true, Bool.and_eq_true, decide_eq_true_eq]; omega
                                  clear HX HQ0
                                  go_wp2
                                  go_meet
                                  exact ⟨by rw [HB.out], rfl⟩
                                · have h3 : (65 : Int) ≤ X := by omega
                                  have h4 : ¬ X ≤ 90 := by omega
                                  have HB : Hid (hd isLt (q6 rs) = false) := by
                                    have hX := HX.out
                                    show hd isLt (q6 rs) = false
                                    rw [HQ0.out]
                                    show isLt x = false
                                    unfold isLt; simp only [Bool.or_eq_false_iff, Bool.and_eq_false_iff, decide_eq_false_iff_not]; omega
                                  clear HX HQ0
                                  go_wp2
                                  go_meet
                                  exact ⟨by rw [HB.out], rfl⟩
                              · by_cases h3 : (65 : Int) ≤ X
                                · by_cases h4 : X ≤ 90
                                  · skip
                                    have HB : Hid (hd isLt (q6 rs) = true) := by
                                      have hX := HX.out
                                      show hd isLt (q6 rs) = true
                                      rw [HQ0.out]
                                      show isLt x = true
                                      unfold isLt; simp only [Bool.or_eq_true, Bool.and_eq_true, decide_eq_true_eq]; omega
                                    clear HX HQ0
                                    go_wp2
                                    go_meet
                                    exact ⟨by rw [HB.out], rfl⟩
                                  · skip
                                    have HB : Hid (hd isLt (q6 rs) = false) := by
                                      have hX := HX.out
                                      show hd isLt (q6 rs) = false
                                      rw [HQ0.out]
                                      show isLt x = false
                                      unfold isLt; simp only [Bool.or_eq_false_iff, Bool.and_eq_false_iff, decide_eq_false_iff_not]; omega
                                    clear HX HQ0
                                    go_wp2
                                    go_meet
                                    exact ⟨by rw [HB.out], rfl⟩
                                · skip
                                  have HB : Hid (hd isLt (q6 rs) = false) := by
                                    have hX := HX.out
                                    show hd isLt (q6 rs) = false
                                    rw [HQ0.out]
                                    show isLt x = false
                                    unfold isLt; simp only [Bool.or_eq_false_iff, Bool.and_eq_false_iff, decide_eq_false_iff_not]; omega
                                  clear HX HQ0
                                  go_wp2
                                  go_meet
                                  exact ⟨by rw [HB.out], rfl⟩
                          case rest =>
                            obtain ⟨rfl, hw⟩ := hcut
                            obtain rfl : W6 = wc := hw.symm
                            go_upto_if 199 with fail
                            go_cut [7] from 199 to 207 (fun s7 wc => ∃ k : Nat, s7 = .int .i64 k ∧ k ≤ rs.length ∧ Hid (rs.drop k = q7 rs) ∧ St w wc a1 c1 rs (w7 rs))
                            case first =>
                              cases hb : hd isLt (q6 rs) with
                              | false =>
                                have HQ : Hid (rs.drop k6 = q7 rs) := by show _ = _; unfold q7; rw [if_neg (by rw [hb]; decide)]; exact HK6.out
                                have HS : Hid (St w W6 a1 c1 rs (w7 rs)) := by
                                  show St _ _ _ _ _ _
                                  unfold w7
                                  rw [if_neg (by rw [hb]; decide)]
                                  exact hSt6
                                skip
                                clear hb hSt6 HK6
                                go_wp2
                                go_meet
                                exact ⟨k6, rfl, hk6, HQ, HS.out⟩
                              | true =>
                                obtain ⟨x, t, hq, hxp⟩ := hd_true hb
                                have HKq : Hid (rs.drop k6 = x :: t) := by rw [← hq]; exact HK6
                                obtain ⟨hkl, hdr, b, off, e1, hcell⟩ := hSt6.at HKq.out
                                have hlz : (k6 : Int) < (rs.length : Int) := by omega
                                have hwk := wrap0 (a := (k6 : Int) + 1) (by omega) (by omega)
                                have hx2 : x < 256 := by unfold isLt at hxp; simp at hxp; omega
                                have hwx := u8w (a := (x : Int)) (by omega) (by omega)
                                subst e1
                                have hS2 := hSt6.set8 (x)
                                have HS : Hid (St w (W6.setCell ⟨w.heap.size + 1, 8, none⟩ (.int .u8 x)) (some ⟨b, off, none⟩) c1 rs (w7 rs)) := by
                                  show St _ _ _ _ _ _
                                  have : w7 rs = { w6 rs with kd := x } := by unfold w7; rw [if_pos hb, hq]; rfl
                                  rw [this]; exact hS2
                                have HQ : Hid (rs.drop (k6 + 1) = q7 rs) := by show _ = _; unfold q7; rw [if_pos hb, hq]; exact hdr
                                obtain ⟨⟨u, hu⟩, hf⟩ := hSt6.cell 8 (by omega)
                                clear hb hSt6 hS2 hq hxp hdr HKq HK6
                                go_wp2
                                go_meet
                                exact ⟨k6 + 1, by go_num, by omega, HQ, HS.out⟩
                            case rest =>
                              obtain ⟨k7, rfl, hk7, HK7, hSt7⟩ := hcut
                              generalize wc = W7 at *
                              clear hk6 HK6 hSt6
                              have HOK : Hid (okQ rs = ((k7 : Int) == (rs.length : Int))) := by
                                show _ = _
                                unfold okQ
                                rw [hX6, ← HK7.out, Bool.eq_iff_iff]
                                simp only [Bool.not_false, Bool.true_and, List.isEmpty_iff, beq_iff_eq]
                                rw [List.drop_eq_nil_iff]; omega
                              have HBB : Hid (Below w.heap.size w W7) := hSt7.b
                              have HX0 : Bx W7 w.heap.size (spC sz0) := hSt7.x
                              have HP0 : Bx W7 (w.heap.size + 1) (spC (w7 rs)) := hSt7.p
                              obtain ⟨V, hV⟩ : ∃ V : Sv, w7 rs = V := ⟨_, rfl⟩
                              rw [hV] at HP0
                              have HV : Hid (w7 rs = V) := hV
                              clear hV
                              have p0 : (W7).cell? ⟨w.heap.size + 1, 0, none⟩ = some (.int .i64 V.f) := HP0.cell 0 (by simp [spC])
                              have x0 : (W7).cell? ⟨w.heap.size, 0, none⟩ = some (.int .i64 0) := HX0.cell 0 (by simp [spC])
                              have f0 := HX0.fr 0
                              have p1 : (W7).cell? ⟨w.heap.size + 1, 1, none⟩ = some (.int .u8 V.a) := HP0.cell 1 (by simp [spC])
                              have x1 : (W7).cell? ⟨w.heap.size, 1, none⟩ = some (.int .u8 0) := HX0.cell 1 (by simp [spC])
                              have f1 := HX0.fr 1
                              have p2 : (W7).cell? ⟨w.heap.size + 1, 2, none⟩ = some (.int .u8 V.s) := HP0.cell 2 (by simp [spC])
                              have x2 : (W7).cell? ⟨w.heap.size, 2, none⟩ = some (.int .u8 0) := HX0.cell 2 (by simp [spC])
                              have f2 := HX0.fr 2
                              have p3 : (W7).cell? ⟨w.heap.size + 1, 3, none⟩ = some (.bool V.z) := HP0.cell 3 (by simp [spC])
                              have x3 : (W7).cell? ⟨w.heap.size, 3, none⟩ = some (.bool false) := HX0.cell 3 (by simp [spC])
                              have f3 := HX0.fr 3
                              have p4 : (W7).cell? ⟨w.heap.size + 1, 4, none⟩ = some (.int .i64 V.wd) := HP0.cell 4 (by simp [spC])
                              have x4 : (W7).cell? ⟨w.heap.size, 4, none⟩ = some (.int .i64 0) := HX0.cell 4 (by simp [spC])
                              have f4 := HX0.fr 4
                              have p5 : (W7).cell? ⟨w.heap.size + 1, 5, none⟩ = some (.bool V.cm) := HP0.cell 5 (by simp [spC])
                              have x5 : (W7).cell? ⟨w.heap.size, 5, none⟩ = some (.bool false) := HX0.cell 5 (by simp [spC])
                              have f5 := HX0.fr 5
                              have p6 : (W7).cell? ⟨w.heap.size + 1, 6, none⟩ = some (.bool V.dt) := HP0.cell 6 (by simp [spC])
                              have x6 : (W7).cell? ⟨w.heap.size, 6, none⟩ = some (.bool false) := HX0.cell 6 (by simp [spC])
                              have f6 := HX0.fr 6
                              have p7 : (W7).cell? ⟨w.heap.size + 1, 7, none⟩ = some (.int .i64 V.pr) := HP0.cell 7 (by simp [spC])
                              have x7 : (W7).cell? ⟨w.heap.size, 7, none⟩ = some (.int .i64 0) := HX0.cell 7 (by simp [spC])
                              have f7 := HX0.fr 7
                              have p8 : (W7).cell? ⟨w.heap.size + 1, 8, none⟩ = some (.int .u8 V.kd) := HP0.cell 8 (by simp [spC])
                              have x8 : (W7).cell? ⟨w.heap.size, 8, none⟩ = some (.int .u8 0) := HX0.cell 8 (by simp [spC])
                              have f8 := HX0.fr 8
                              have hXl := HX0.lt
                              clear HX0 HP0
                              clear hSt7 HK7
                              go_wp2
                              exact bodyPost_ret (v := .tuple #[spV V, .bool ((k7 : Int) == (rs.length : Int))]) (by simp [spV, spC, results, Tryz.results21, go_sem, p0, p1, p2, p3, p4, p5, p6, p7, p8, x0, x1, x2, x3, x4, x5, x6, x7, x8, f0, f1, f2, f3, f4, f5, f6, f7, f8, hXl]) rfl (RsP.mk ⟨V, _, rfl, ⟨HOK.out.symm, fun _ => HV.out.symm⟩, set9 HBB.out _ _ _ _ _ _ _ _ _⟩)
end Go.Proofs.YtahcpgldpbejiaaGreatDoor
