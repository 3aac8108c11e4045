import Derived.Test.YtfoofbcfcekleaaGreatDoorProg
namespace Go.Proofs.YtfoofbcfcekleaaGreatDoor

/-- What stands between quotes: no quote and no newline but behind a \. -/
inductive Gd (q : UInt8) : List UInt8 → Prop
  | nil : Gd q []
  | one {b : UInt8} {t : List UInt8} (h1 : b ≠ 92) (h2 : b ≠ q) (h3 : b ≠ 10) (h : Gd q t) : Gd q (b :: t)
  | two {x : UInt8} {t : List UInt8} (h : Gd q t) : Gd q (92 :: x :: t)
theorem Gd.app {q : UInt8} {a b : List UInt8} (h : Gd q a) (k : Gd q b) : Gd q (a ++ b) := by
  induction h with
  | nil => exact k
  | one h1 h2 h3 _ ih => exact .one h1 h2 h3 ih
  | two _ ih => exact .two ih
end Go.Proofs.YtfoofbcfcekleaaGreatDoor
