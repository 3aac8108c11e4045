import Derived.Test.YtfpadeamhoeonaaDoorRdO
import Derived.Test.YtfpadeamhoeonaaDoorDrwQ
import Derived.Test.YtfpadeamhoeonaaDoorOf
namespace Go.Proofs.YtfpadeamhoeonaaDoor
open Go.RowKit
set_option linter.unusedVariables false
set_option linter.unusedSimpArgs false

set_option maxRecDepth 100000 in
theorem below2_any (w : World) (g : Nat) (a : Option Addr) (n c : Nat) (bs : List Int) (m : Nat) (hm : 256 < m) (hm2 : m ≤ 100000) (hR : Rdr w g a n c bs) :
    Calls Tryd.prog 9 #[.pointer (some ⟨g, 0, none⟩), .int .i64 m] w fun e w' => ∃ x : Nat, e = .returned (.int .i64 x) ∧ x < m ∧ Drawn w w' g a n c bs := by
  have hN := fun W h => next_any W g a n c bs h
  have h1 : ¬ (m : Int) ≤ 1 := by omega
  have h2 : ¬ (m : Int) ≤ 256 := by omega
  have h3 : (m : Int) ≠ 0 := by omega
  go_enter Tryd.func9, Tryd.ntmps9
  go_wp2_with fail
  refine (hN _ hR).mono ?_
  rintro e w1 ⟨x, rfl, hx0, hx1, hD⟩
  go_wp2_with fail
  refine (hN _ hD.rd).mono ?_
  rintro e w2 ⟨y, rfl, hy0, hy1, hD2⟩
  obtain ⟨t, ht⟩ : ∃ t : Nat, x * 256 + y = (t : Int) := ⟨(x * 256 + y).toNat, by omega⟩
  obtain ⟨z, hz⟩ : ∃ z, t % m = z := ⟨_, rfl⟩
  have hzm : z < m := by rw [← hz]; exact Nat.mod_lt _ (by omega)
  have hmd : Int.tmod (t : Int) (m : Int) = (z : Int) := by rw [← hz, ← Int.ofNat_tmod]
  have hmd2 : (t : Int) % (m : Int) = (z : Int) := by rw [← hz]; rfl
  clear hz
  go_wp2
  go_ret
  exact ⟨z, rfl, hzm, hD.trans hD2⟩
theorem tabF (x : Nat) (hx : x < 10) : ∃ y : Nat, (#[.int .u64 0, .int .u64 9223372036854775808, .int .u64 9218868437227405312, .int .u64 18442240474082181120, .int .u64 9221120237041090560, .int .u64 1, .int .u64 9218868437227405311, .int .u64 4503599627370496, .int .u64 4503599627370495, .int .u64 18444492273895866369] : Array Value)[x]? = some (.int .u64 (y : Int)) ∧ y < 18446744073709551616 := by
  match x, hx with
  | 0, _ => exact ⟨0, rfl, by decide⟩
  | 1, _ => exact ⟨9223372036854775808, rfl, by decide⟩
  | 2, _ => exact ⟨9218868437227405312, rfl, by decide⟩
  | 3, _ => exact ⟨18442240474082181120, rfl, by decide⟩
  | 4, _ => exact ⟨9221120237041090560, rfl, by decide⟩
  | 5, _ => exact ⟨1, rfl, by decide⟩
  | 6, _ => exact ⟨9218868437227405311, rfl, by decide⟩
  | 7, _ => exact ⟨4503599627370496, rfl, by decide⟩
  | 8, _ => exact ⟨4503599627370495, rfl, by decide⟩
  | 9, _ => exact ⟨18444492273895866369, rfl, by decide⟩
theorem fracV_lt {a b : Nat} : (if frung b = 0 then 0 else overV a b : Nat) < 18446744073709551616 := by
  split
  · decide
  · rename_i h; exact overV_lt h
set_option maxRecDepth 100000 in
set_option maxHeartbeats 2000000 in
theorem drawFloat_any (w : World) (g : Nat) (a : Option Addr) (n c : Nat) (bs : List Int) (hR : Rdr w g a n c bs) :
    Calls Tryd.prog 10 #[.pointer (some ⟨g, 0, none⟩)] w fun e w' => ∃ x : Nat, e = .returned (.int .u64 x) ∧ x < 18446744073709551616 ∧ Drawn w w' g a n c bs := by
  have hB := fun W h (m : Nat) (h1 : 2 ≤ m) (h2 : m ≤ 256) => below_any W g a n c bs m h1 h2 h
  have hW := fun W h => word_any W g a n c bs h
  have hI := fun W h => drawInt_any W g a n c bs h
  have hO := fun (x : Int) (W : World) h0 h1 => bigOfS_any x W h0 h1
  have hF := fun (p : Bool) (v : Value) (xs : List Int) (W : World) h => floatOfS_any p v xs W h
  go_enter Tryd.func10, Tryd.ntmps10
  go_wp2_with fail
  refine (hB _ hR 8 (by omega) (by omega)).mono ?_
  rintro e w1 ⟨k, rfl, hk, hD⟩
  rcases (by omega : k = 0 ∨ k = 1 ∨ k = 2 ∨ k = 3 ∨ 4 ≤ k) with rfl | rfl | rfl | rfl | hk4
  · have al : Below w1.heap.size w1 (w1.alloc (.cells #[.int .u64 0, .int .u64 9223372036854775808, .int .u64 9218868437227405312, .int .u64 18442240474082181120, .int .u64 9221120237041090560, .int .u64 1, .int .u64 9218868437227405311, .int .u64 4503599627370496, .int .u64 4503599627370495, .int .u64 18444492273895866369] 24)) := (Below.refl _ _).alloc (Nat.le_refl _) _
    have hlt := hD.rd.lt
    have D2 := hD.below al
    go_wp2_with fail
    refine (hB _ D2.rd 10 (by omega) (by omega)).mono ?_
    rintro e w2 ⟨x, rfl, hx, hD2⟩
    obtain ⟨y, hy, hyl⟩ := tabF x hx
    have hce := lit_cell hlt hD2.gb hy
    have hxz : (x : Int) < 10 := by omega
    have D3 := D2.trans hD2
    clear hy hD hD2 D2 al hB hW hI hO hF
    go_wp2
    go_ret
    exact ⟨y, rfl, hyl, D3⟩
  · go_wp2_with fail
    refine (hW _ hD.rd).mono ?_
    rintro e w2 ⟨x, rfl, hx0, hx1, hD2⟩
    have D3 := hD.trans hD2
    clear hB hW hI hO hF hD hD2
    go_wp2
    go_ret
    exact ⟨x.toNat, by rw [Int.toNat_of_nonneg hx0]; rfl, by omega, D3⟩
  · go_wp2_with fail
    refine (hI _ hD.rd).mono ?_
    rintro e w2 ⟨x, rfl, hx0, hx1, hD2⟩
    replace hD := hD.trans hD2
    clear hD2
    go_wp2_with fail
    refine (hO x _ hx0 hx1).mono ?_
    rintro e w3 ⟨a3, c3, rfl, O3, b3⟩
    replace hD := hD.below b3
    go_wp2_with fail
    refine (hF _ _ _ _ O3.rd).mono ?_
    rintro e w4 ⟨rfl, b4⟩
    replace hD := hD.below b4
    have hl := ofBX_lt (decide (x < 0)) (lim x.natAbs)
    generalize ofBX (decide (x < 0)) (lim x.natAbs) = X at hl ⊢
    generalize ofBC (decide (x < 0)) (lim x.natAbs) = C at ⊢
    clear hB hW hI hO hF O3 b3 b4
    go_wp2
    go_ret
    exact ⟨X, rfl, hl, hD⟩
  · go_wp2_with fail
    refine (hB _ hD.rd 48 (by omega) (by omega)).mono ?_
    rintro e w2 ⟨x, rfl, hx, hD2⟩
    replace hD := hD.trans hD2
    go_wp2_with fail
    refine (hB _ hD.rd 5 (by omega) (by omega)).mono ?_
    rintro e w3 ⟨y, rfl, hy, hD3⟩
    replace hD := hD.trans hD3
    have hxz : (x : Int) < 48 := by omega
    have hyz : (y : Int) < 5 := by omega
    clear hB hW hI hO hF hD2 hD3
    have hc : (1000 + (x : Int)) * 4503599627370496 + (y : Int) - 2 = (((1000 + x) * 4503599627370496 + y - 2 : Nat) : Int) := by omega
    go_wp2
    go_ret
    exact ⟨(1000 + x) * 4503599627370496 + y - 2, by rw [← hc]; rfl, by omega, hD⟩
  · have f0 : ((k : Int) == 0) = false := by simp; omega
    have f1 : ((k : Int) == 1) = false := by simp; omega
    have f2 : ((k : Int) == 2) = false := by simp; omega
    have f3 : ((k : Int) == 3) = false := by simp; omega
    go_wp2_with fail
    refine (below2_any _ g a n c bs 2000 (by omega) (by omega) hD.rd).mono ?_
    rintro e w2 ⟨x, rfl, hx, hD2⟩
    replace hD := hD.trans hD2
    have hxz : (x : Int) < 2000 := by omega
    go_wp2_with fail
    refine (hO ((x : Int) - 1000) _ (by omega) (by omega)).mono ?_
    rintro e w3 ⟨a3, c3, rfl, O3, b3⟩
    replace hD := hD.below b3
    have hl := ofBX_lt (decide ((x : Int) - 1000 < 0)) (lim ((x : Int) - 1000).natAbs)
    have HF1 := hF (decide ((x : Int) - 1000 < 0)) _ _ _ O3.rd
    generalize ofBX (decide ((x : Int) - 1000 < 0)) (lim ((x : Int) - 1000).natAbs) = X at hl HF1
    generalize ofBC (decide ((x : Int) - 1000 < 0)) (lim ((x : Int) - 1000).natAbs) = C at HF1
    clear hD2 O3 b3
    go_wp2_with fail
    refine HF1.mono ?_
    rintro e w4 ⟨rfl, b4⟩
    replace hD := hD.below b4
    clear HF1 b4
    go_wp2_with fail
    refine (hB _ hD.rd 40 (by omega) (by omega)).mono ?_
    rintro e w5 ⟨y, rfl, hy, hD5⟩
    replace hD := hD.trans hD5
    have hyz : (y : Int) < 40 := by omega
    clear hD5
    go_wp2_with fail
    refine (hO (1 + (y : Int)) _ (by omega) (by omega)).mono ?_
    rintro e w6 ⟨a6, c6, rfl, O6, b6⟩
    replace hD := hD.below b6
    have hl2 := ofBX_lt (decide (1 + (y : Int) < 0)) (lim (1 + (y : Int)).natAbs)
    have HF2 := hF (decide (1 + (y : Int) < 0)) _ _ _ O6.rd
    generalize ofBX (decide (1 + (y : Int) < 0)) (lim (1 + (y : Int)).natAbs) = Y at hl2 HF2
    generalize ofBC (decide (1 + (y : Int) < 0)) (lim (1 + (y : Int)).natAbs) = C2 at HF2
    clear O6 b6
    go_wp2_with fail
    refine HF2.mono ?_
    rintro e w7 ⟨rfl, b7⟩
    replace hD := hD.below b7
    have HV := floatDivS_any X Y w7 hl hl2
    have hl3 := fracV_lt (a := X) (b := Y)
    generalize (if frung Y = 0 then 0 else overV X Y : Nat) = Z at HV hl3
    generalize (if frung Y = 0 then 2 else 0 : Int) = C3 at HV
    clear HF2 b7 hB hW hI hO hF
    go_wp2_with fail
    refine HV.mono ?_
    rintro e w8 ⟨rfl, b8⟩
    replace hD := hD.below b8
    clear HV b8
    go_wp2
    go_ret
    exact ⟨Z, rfl, hl3, hD⟩
set_option maxRecDepth 100000 in
set_option maxHeartbeats 1000000 in
theorem drawFloatOp_any (w : World) (a : Option Addr) (n c : Nat) (bs : List Int) (h : Src w a n c bs) :
    Calls Tryd.prog 5 #[.slice a n c] w fun e w' => ∃ (o : Int) (x y : Nat), e = .returned (.tuple #[.int .i64 o, .int .u64 x, .int .u64 y]) ∧ x < 18446744073709551616 ∧ y < 18446744073709551616 ∧ Below w.heap.size w w' := by
  go_enter Tryd.func5, Tryd.ntmps5
  go_wp2_with fail
  refine (open_any w a n c bs h).mono ?_
  rintro e w1 ⟨g, rfl, hg, hR, hB⟩
  have hend : ∀ W, Drawn w1 W g a n c bs → Below w.heap.size w W := fun W k => hB.trans (gb_to k.gb (fun k hk => by cases hk; exact hg) hB.size)
  go_wp2_with fail
  refine (below_any _ g a n c bs 8 (by omega) (by omega) hR).mono ?_
  rintro e w2 ⟨o, rfl, ho, hD⟩
  go_wp2_with fail
  refine (drawFloat_any _ g a n c bs hD.rd).mono ?_
  rintro e w3 ⟨x, rfl, hx, hD3⟩
  replace hD := hD.trans hD3
  go_wp2_with fail
  refine (drawFloat_any _ g a n c bs hD.rd).mono ?_
  rintro e w4 ⟨y, rfl, hy, hD4⟩
  replace hD := hD.trans hD4
  go_wp2_with fail
  refine (once_any _ g a n c bs 6 (by omega) (by omega) hD.rd).mono ?_
  rintro e w5 ⟨t, rfl, hD5⟩
  replace hD := hD.trans hD5
  have hE := hend _ hD
  clear hD3 hD4 hD5 hend hB hR hD h
  cases t
  · go_wp2
    exact bodyPost_ret (v := .tuple #[.int .i64 (o : Int), .int .u64 (x : Nat), .int .u64 (y : Nat)]) (by simp [results, Tryd.results5, go_sem]) rfl ⟨o, x, y, rfl, hx, hy, hE⟩
  · have hxo := u64_xor_nat x 9223372036854775808 hx (by decide)
    have hxl : x ^^^ 9223372036854775808 < 18446744073709551616 := Nat.xor_lt_two_pow (n := 64) hx (by decide)
    generalize x ^^^ 9223372036854775808 = z at hxo hxl
    have hxo2 : bits .xor .u64 (x : Int) 9223372036854775808 = (z : Int) := hxo
    go_wp2
    exact bodyPost_ret (v := .tuple #[.int .i64 (o : Int), .int .u64 (x : Nat), .int .u64 (z : Nat)]) (by simp [results, Tryd.results5, go_sem]) rfl ⟨o, x, z, rfl, hx, hxl, hE⟩
end Go.Proofs.YtfpadeamhoeonaaDoor
