import Derived.Test.YtgbkniliojpejaaDoorBrdC
import Derived.Test.YtgbkniliojpejaaDoorBrdP
import Derived.Test.YtgbkniliojpejaaDoorBrdW
import Derived.Test.YtgbkniliojpejaaDoorBrdX
import Derived.Laws.IdiomStrings
import Derived.RangeFuncBox
namespace Go.Proofs.YtgbkniliojpejaaDoor
open Go.RowKit Go.Shelf
attribute [local go_sem] Oper.semAt_some
set_option linter.unusedVariables false
set_option linter.unusedSimpArgs false

/-- What readLimbs answers. -/
def rlA (b : Nat) (D : List UInt8) : Option Nat := if D = [] then none else if goodD b D = true then some (dval b D) else none
def rlL : Option Nat → List Int
  | none => []
  | some n => lim n
/-- The bytes of the chunks that have come. -/
def chB (wd : Nat) (D : List UInt8) (x : Nat) : List UInt8 := (D.drop (x * wd)).take wd
def chC (wd : Nat) (D : List UInt8) (pre : List Nat) : List UInt8 := pre.flatMap (chB wd D)
theorem chC_snoc (wd : Nat) (D : List UInt8) (pre : List Nat) (x : Nat) : chC wd D (pre ++ [x]) = chC wd D pre ++ chB wd D x := by simp [chC]
theorem chC_upto (wd : Nat) (D : List UInt8) (k : Nat) : chC wd D (upto id k) = D.take (k * wd) := by
  induction k with
  | zero => simp [chC, upto]
  | succ k ih => rw [upto_succ, chC_snoc, ih, Nat.succ_mul, List.take_add]; rfl
/-- Between two rounds. -/
structure RI (n0 b wd : Nat) (D : List UInt8) (w : World) (pre : List Nat) (W : World) : Prop where
  bB : Boxed W n0 43 (.int .u32 (b : Int))
  b0 : Boxed W (n0 + 1) 41 (.slice none 0 0)
  b1 : Boxed W (n0 + 1 + 1) 4 (.bool false)
  m : ∃ a c, Boxed W (n0 + 1 + 1 + 1) 41 (.slice a (lim (dval b (chC wd D pre))).length c) ∧ Go.Proofs.YtgbkniliojpejaaDoor.Own W (n0 + 7) (.slice a (lim (dval b (chC wd D pre))).length c) (lim (dval b (chC wd D pre)))
  good : goodD b (chC wd D pre) = true
  bytes : ∀ k (h : k < D.length), W.cell? ⟨n0 + 1 + 1 + 1 + 1, k, none⟩ = some (.int .u8 (D[k].toNat : Int))
  sz : n0 + 7 ≤ W.heap.size
  bel : Below n0 w W
theorem own_not {W : World} {B : Nat} {v : Value} {zs : List Int} (hO : Go.Proofs.YtgbkniliojpejaaDoor.Own W B v zs) {row : Option Nat} (hr : ∀ r, row = some r → B ≤ r ∧ ∃ o : Obj, W.heap[r]? = some o ∧ o.isCells = false) : v.ownBlock = none ∨ v.ownBlock ≠ row := by
  rcases hO.1.2 with ⟨rfl, _⟩ | ⟨g, cap, cur, rfl, _, hgb, _⟩
  · exact .inl rfl
  · refine .inr fun e' => ?_
    obtain ⟨_, o, ho, hc⟩ := hr g (by simpa [Value.ownBlock] using e'.symm)
    rw [hgb] at ho; cases ho; cases hc
theorem RI.own (n0 b wd : Nat) (D : List UInt8) (w : World) (hw : n0 ≤ w.heap.size) : OwnFrom (n0 + 7) (RI n0 b wd D w) := by
  intro s A B row hs hg hr
  have hne : ∀ q, q < n0 + 7 → some q ≠ row := fun q hq e => by have := (hr q e.symm).1; omega
  obtain ⟨a, c, h1, h2⟩ := hs.m
  exact ⟨hs.bB.kept hg (hne _ (by omega)), hs.b0.kept hg (hne _ (by omega)), hs.b1.kept hg (hne _ (by omega)), ⟨a, c, h1.kept hg (hne _ (by omega)), h2.but hg (own_not h2 hr)⟩, hs.good,
    fun k h => by
      have hlt : n0 + 1 + 1 + 1 + 1 < A.heap.size := by have := hs.sz; omega
      have hb := hg.block (n0 + 1 + 1 + 1 + 1) hlt (hne _ (by omega))
      have := hs.bytes k h
      unfold World.cell? at this ⊢
      rw [hb]; exact this,
    Nat.le_trans hs.sz hg.size, hs.bel.grown hg (Nat.le_trans hw hs.bel.size) (fun k e => by have := (hr k e).1; omega)⟩
theorem bytes_ofR (s : ByteArray) (w : World) : ∃ cap w', (convert 9 22 (.string s)).run Tryd.prog w = .ok (.slice (some ⟨w.heap.size, 0, none⟩) s.size cap) w' ∧ s.size ≤ cap ∧ w'.heap.size = w.heap.size + 1 ∧
    (∀ k (h : k < s.data.toList.length), w'.cell? ⟨w.heap.size, k, none⟩ = some (.int .u8 (s.data.toList[k].toNat : Int))) ∧ Below w.heap.size w w' := by
  refine ⟨_, _, run_bytes_of_string w 9 22 5 s Tryd.underlying9 Tryd.underlying22 Tryd.underlying5, grownCap_ge w s.size 0 5, by simp, fun k hk => ?_, ((Below.refl _ _).drew).alloc (Nat.le_refl _) _⟩
  have hk2 : k < s.data.size := by simpa using hk
  have := World.cell?_alloc_mark w.drew (bytesRow s (grownCap w s.size 0 5)) 5 ((bytesRow s (grownCap w s.size 0 5)).size, (bytesRow s (grownCap w s.size 0 5)).size + 1) k
  rw [show w.drew.heap.size = w.heap.size from rfl] at this
  rw [this, bytesRow_at s _ k hk2]
  simp
/-- What a round that has left says. -/
def RX (n0 b wd : Nat) (D : List UInt8) (w : World) (c : Code) (pre : List Nat) (W : World) : Prop :=
  c = .ret ∧ goodD b (chC wd D pre) = false ∧ Boxed W (n0 + 1) 41 (.slice none 0 0) ∧ Boxed W (n0 + 1 + 1) 4 (.bool false) ∧ n0 + 7 ≤ W.heap.size ∧ Below n0 w W
theorem RX.own (n0 b wd : Nat) (D : List UInt8) (w : World) (hw : n0 ≤ w.heap.size) (c : Code) : OwnFrom (n0 + 7) (RX n0 b wd D w c) := by
  intro s A B row hs hg hr
  have hne : ∀ q, q < n0 + 7 → some q ≠ row := fun q hq e => by have := (hr q e.symm).1; omega
  obtain ⟨h1, h2, h3, h4, h5, h6⟩ := hs
  exact ⟨h1, h2, h3.kept hg (hne _ (by omega)), h4.kept hg (hne _ (by omega)), Nat.le_trans h5 hg.size, h6.grown hg (Nat.le_trans hw h6.size) (fun k e => by have := (hr k e).1; omega)⟩
theorem dfold (b : Nat) (L : List UInt8) : ∀ m, L.foldl (fun m c => m * b + digN c) m = m * b ^ L.length + L.foldl (fun m c => m * b + digN c) 0 := by
  induction L with
  | nil => intro m; simp
  | cons c L ih =>
    intro m
    rw [List.foldl_cons, List.foldl_cons, ih (m * b + digN c), ih (0 * b + digN c), List.length_cons, Nat.pow_succ, Nat.zero_mul, Nat.zero_add, Nat.add_mul, Nat.mul_assoc m b, Nat.mul_comm b (b ^ L.length)]
    omega
theorem dval_append (b : Nat) (A L : List UInt8) : dval b (A ++ L) = dval b A * b ^ L.length + dval b L := by
  unfold dval
  rw [List.foldl_append, dfold]
theorem dval_lt {b : Nat} {L : List UInt8} (hg : goodD b L = true) : dval b L < b ^ L.length := by
  induction L with
  | nil => simp [dval]
  | cons c L ih =>
    have h1 : digN c < b ∧ goodD b L = true := by simpa [goodD] using hg
    have h2 := ih h1.2
    have h3 : dval b (c :: L) = digN c * b ^ L.length + dval b L := by
      unfold dval; rw [List.foldl_cons, dfold, Nat.zero_mul, Nat.zero_add]
    have h4 : (digN c + 1) * b ^ L.length ≤ b * b ^ L.length := Nat.mul_le_mul_right _ h1.1
    rw [h3, List.length_cons, Nat.pow_succ, Nat.mul_comm (b ^ L.length) b]
    rw [Nat.add_mul] at h4
    omega
theorem chC_len (wd : Nat) (D : List UInt8) (pre : List Nat) : (chC wd D pre).length ≤ pre.length * wd := by
  induction pre with
  | nil => simp [chC]
  | cons x pre ih =>
    have h : chC wd D (x :: pre) = chB wd D x ++ chC wd D pre := rfl
    rw [h, List.length_append, List.length_cons, Nat.succ_mul]
    have : (chB wd D x).length ≤ wd := by simp [chB]; omega
    omega
theorem lim_chC {b wd u : Nat} {D : List UInt8} {pre : List Nat} (hu : u = b ^ wd) (hul : u < 4294967296) (hb : 1 ≤ b) (hg : goodD b (chC wd D pre) = true) : (lim (dval b (chC wd D pre))).length ≤ pre.length := by
  refine lim_length_le (Nat.lt_of_lt_of_le (dval_lt hg) ?_)
  refine Nat.le_trans (Nat.pow_le_pow_right hb (chC_len wd D pre)) ?_
  rw [Nat.mul_comm, Nat.pow_mul, ← hu]
  exact Nat.pow_le_pow_left (by omega) _
theorem goodD_append (b : Nat) (A L : List UInt8) : goodD b (A ++ L) = (goodD b A && goodD b L) := by simp [goodD]
theorem goodD_take {b : Nat} {L : List UInt8} (k : Nat) (h : goodD b L = true) : goodD b (L.take k) = true := by
  unfold goodD at h ⊢
  rw [List.all_eq_true] at h ⊢
  exact fun c hc => h c (List.mem_of_mem_take hc)
end Go.Proofs.YtgbkniliojpejaaDoor
