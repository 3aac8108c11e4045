import Derived.Test.YtahcpgldpbejiaaGreatDoorEncP
namespace Go.Proofs.YtahcpgldpbejiaaGreatDoor
open Go.RowKit Go.Lib
set_option linter.unusedVariables false
set_option linter.unusedSimpArgs false

/-- A sign of an align. -/
def isAl (b : Nat) : Bool := b == 60 || b == 62 || b == 94 || b == 61
def isSg (b : Nat) : Bool := b == 43 || b == 32 || b == 45
def isDg (b : Nat) : Bool := decide (48 ≤ b) && decide (b ≤ 57)
def isLt (b : Nat) : Bool := (decide (97 ≤ b) && decide (b ≤ 122)) || (decide (65 ≤ b) && decide (b ≤ 90))
/-- A fill with an align, an align, or none; what is behind. -/
def cutAl : List Nat → Option Nat × Nat × List Nat
  | [] => (none, 0, [])
  | [a] => if isAl a then (none, a, []) else (none, 0, [a])
  | a :: b :: t => if isAl b then (some a, b, t) else if isAl a then (none, a, b :: t) else (none, 0, a :: b :: t)
/-- One of some signs, or 0; what is behind. -/
def cutO (p : Nat → Bool) : List Nat → Nat × List Nat
  | [] => (0, [])
  | x :: t => if p x then (x, t) else (0, x :: t)
/-- So many digits at most; what is behind. -/
def cutD : Nat → List Nat → List Nat × List Nat
  | 0, l => ([], l)
  | _ + 1, [] => ([], [])
  | m + 1, x :: t => if isDg x then (x :: (cutD m t).1, (cutD m t).2) else ([], x :: t)
theorem cutD_app : ∀ (m : Nat) (l : List Nat), (cutD m l).1 ++ (cutD m l).2 = l := by
  intro m
  induction m with
  | zero => intro l; rfl
  | succ m ih =>
    intro l
    cases l with
    | nil => rfl
    | cons x t =>
      rw [cutD]
      split
      · simp [ih t]
      · rfl
theorem cutD_len : ∀ (m : Nat) (l : List Nat), (cutD m l).1.length ≤ m := by
  intro m
  induction m with
  | zero => intro l; simp [cutD]
  | succ m ih =>
    intro l
    cases l with
    | nil => simp [cutD]
    | cons x t =>
      rw [cutD]
      split
      · simp [ih t]
      · simp
theorem cutD_dig : ∀ (m : Nat) (l : List Nat), ∀ x ∈ (cutD m l).1, isDg x = true := by
  intro m
  induction m with
  | zero => intro l; simp [cutD]
  | succ m ih =>
    intro l
    cases l with
    | nil => simp [cutD]
    | cons x t =>
      rw [cutD]
      split
      · rename_i h
        intro y hy
        rcases List.mem_cons.1 hy with rfl | h2
        · exact h
        · exact ih t y h2
      · simp
/-- The number of some digits. -/
def nvF (n : Nat) (ds : List Nat) : Nat := ds.foldl (fun n d => n * 10 + (d - 48)) n
def nv (ds : List Nat) : Nat := nvF 0 ds
theorem nvF_cons (n d : Nat) (ds : List Nat) : nvF n (d :: ds) = nvF (n * 10 + (d - 48)) ds := by unfold nvF; rw [List.foldl_cons]
theorem nvF_snoc (n d : Nat) (ds : List Nat) : nvF n (ds ++ [d]) = nvF n ds * 10 + (d - 48) := by unfold nvF; rw [List.foldl_append, List.foldl_cons, List.foldl_nil]
theorem nvF_lt : ∀ (ds : List Nat) (n : Nat), (∀ x ∈ ds, isDg x = true) → nvF n ds < (n + 1) * 10 ^ ds.length := by
  intro ds
  induction ds with
  | nil => intro n _; simp [nvF]
  | cons d ds ih =>
    intro n h
    have hd := h d (by simp)
    unfold isDg at hd
    simp only [Bool.and_eq_true, decide_eq_true_eq] at hd
    rw [nvF_cons, List.length_cons, Nat.pow_succ]
    have h1 := ih (n * 10 + (d - 48)) (fun x hx => h x (by simp [hx]))
    have h2 : (n * 10 + (d - 48) + 1) * 10 ^ ds.length ≤ (n + 1) * 10 * 10 ^ ds.length := Nat.mul_le_mul_right _ (by omega)
    rw [Nat.mul_comm (10 ^ ds.length) 10, ← Nat.mul_assoc]
    omega
theorem nv_lt {ds : List Nat} {m : Nat} (h : ∀ x ∈ ds, isDg x = true) (hl : ds.length ≤ m) : nv ds < 10 ^ m := by
  have h1 := nvF_lt ds 0 h
  have h2 : 10 ^ ds.length ≤ 10 ^ m := Nat.pow_le_pow_right (by omega) hl
  unfold nv; omega
/-- The parts of a spec. -/
structure Rs where
  fl : Option Nat
  al : Nat
  sg : Nat
  zr : Nat
  wd : List Nat
  cm : Nat
  dot : Bool
  pr : List Nat
  rest : List Nat
def afDot : List Nat → Bool × List Nat × List Nat
  | 46 :: t => (true, (cutD 3 t).1, (cutD 3 t).2)
  | l => (false, [], l)
def r1 (c : List Nat) : List Nat := (cutAl c).2.2
def r2 (c : List Nat) : List Nat := (cutO isSg (r1 c)).2
def r3 (c : List Nat) : List Nat := (cutO (· == 48) (r2 c)).2
def r4 (c : List Nat) : List Nat := (cutD 4 (r3 c)).2
def r5 (c : List Nat) : List Nat := (cutO (· == 44) (r4 c)).2
def rdR (c : List Nat) : Rs :=
  { fl := (cutAl c).1, al := (cutAl c).2.1, sg := (cutO isSg (r1 c)).1, zr := (cutO (· == 48) (r2 c)).1, wd := (cutD 4 (r3 c)).1, cm := (cutO (· == 44) (r4 c)).1,
    dot := (afDot (r5 c)).1, pr := (afDot (r5 c)).2.1, rest := (afDot (r5 c)).2.2 }
/-- A width that begins with a 0, or a dot without a digit. -/
def badR (r : Rs) : Bool := (r.wd.head? == some 48) || (r.dot && r.pr.isEmpty)
/-- What stands where the type does: none (0), a letter, or something else. -/
def kindR : List Nat → Option Nat
  | [] => some 0
  | [x] => if isLt x then some x else none
  | _ :: _ :: _ => none
end Go.Proofs.YtahcpgldpbejiaaGreatDoor
