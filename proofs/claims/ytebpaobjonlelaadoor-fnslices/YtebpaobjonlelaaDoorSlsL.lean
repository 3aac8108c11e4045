import Derived.Test.YtebpaobjonlelaaDoorDrwU
import Derived.Test.YtebpaobjonlelaaDoorSlsM
import Derived.Test.YtebpaobjonlelaaDoorCutI
import Derived.Test.YtebpaobjonlelaaDoorSlcL
import Derived.Test.YtebpaobjonlelaaDoorTLenA
import Derived.Deep.QuietTactic
import Derived.BigQuiet
namespace Go.Proofs.YtebpaobjonlelaaDoor
open Go.RowKit Go.Lib Go.Shelf
set_option linter.unusedVariables false
set_option linter.unusedSimpArgs false

theorem below_drewN {B : Nat} {w w' : World} (h : Below B w w') (n : Nat) : Below B w (w'.drewN n) := by
  induction n with
  | zero => exact h
  | succ n ih => exact ih.drew
set_option maxRecDepth 100000 in
theorem big_any (w : World) (a : Option Addr) (n c : Nat) :
    Calls Tryd.prog 4 #[.slice a n c] w fun e w' => e = .returned (.bool (decide ((1048576 : Int) < (n : Int)))) ∧ Below w.heap.size w w' := by
  go_enter Tryd.func4, Tryd.ntmps4
  go_wp2
  go_ret
  exact ⟨rfl, Below.refl _ _⟩
theorem bytes_add {x y z : List UInt8} {s : ByteArray} (hs : s.data.toList = z) (h : x ++ y = z) : (⟨x.toArray⟩ : ByteArray) ++ ⟨y.toArray⟩ = s := by
  apply ByteArray.ext
  rw [ByteArray.data_append]
  apply Array.toList_inj.1
  simp [hs, h]
theorem bytes_eq {z : List UInt8} {s : ByteArray} (hs : s.data.toList = z) : (⟨z.toArray⟩ : ByteArray) = s := by
  apply ByteArray.ext
  apply Array.toList_inj.1
  simp [hs]
set_option maxHeartbeats 1000000 in
set_option maxRecDepth 100000 in
theorem law_slices (a : Option Addr) (n c : Nat) (bs : List Int) (a2 : Option Addr) (n2 c2 : Nat) (bs2 : List Int) (w : World) 
    (h1 : n ≤ 1048576 → Src w a n c bs) (h2 : n2 ≤ 1048576 → Src w a2 n2 c2 bs2) (hT : Tabs w) (hEx : ∃ aA aZ aL, Errs w aA aZ aL) :
    Calls Tryd.prog 3 #[.slice a n c, .slice a2 n2 c2] w fun e w' => e = .returned (.bool true) ∧ Below w.heap.size w w' := by
  obtain ⟨aA, aZ, aL, hE⟩ := hEx
  have hb1 := fun W => big_any W a n c
  have hb2 := fun W => big_any W a2 n2 c2
  go_enter Tryd.func3, Tryd.ntmps3
  go_wp2_with fail
  refine (hb1 _).mono ?_
  rintro e w1 ⟨rfl, hB1⟩
  by_cases hn : (1048576 : Int) < (n : Int)
  · rw [decide_eq_true hn]
    go_wp2
    go_ret
    exact ⟨rfl, hB1⟩
  rw [decide_eq_false hn]
  go_wp2_with fail
  refine (hb2 _).mono ?_
  rintro e w2 ⟨rfl, hB2⟩
  have hW2 := hB1.trans (hB2.mono hB1.size)
  by_cases hn2 : (1048576 : Int) < (n2 : Int)
  · rw [decide_eq_true hn2]
    go_wp2
    go_ret
    exact ⟨rfl, hW2⟩
  rw [decide_eq_false hn2]
  have hs1 := (h1 (by omega)).keep hW2
  have hD := drawTextLen_any w2 a n c bs hs1
  clear hb1 hb2 h1
  go_wp2_with fail
  refine hD.mono ?_
  rintro e w3 ⟨s, rfl, hs, hB3⟩
  have hW3 := hW2.trans (hB3.mono hW2.size)
  have hL := textLen_any s w3 (by omega) (hT.below hW3)
  clear hD hs1 hB1 hB2 hB3
  go_wp2_with fail
  refine hL.mono ?_
  rintro e w4 ⟨rfl, hB4⟩
  have hW4 := hW3.trans (hB4.mono hW3.size)
  clear hL hB4
  have hTo := fun W => textOkS_any s W (by omega)
  generalize hr : textOf s = r at hTo ⊢
  cases r with
  | none =>
    simp only [lenOf]
    go_wp2_with fail
    refine (hTo _).mono ?_
    rintro e w5 ⟨rfl, hB5⟩
    go_wp2
    go_ret
    exact ⟨rfl, hW4.trans (hB5.mono hW4.size)⟩
  | some rs =>
    simp only [lenOf]
    clear hTo
    obtain ⟨hse, hsc, hsl, hsz⟩ := text_parts hr
    have hk : -10 ≤ (n2 : Int) % 20 - 10 ∧ (n2 : Int) % 20 - 10 < 10 := by omega
    obtain ⟨cc, hcc, ea, eb⟩ := cut_head hr ((n2 : Int) % 20 - 10)
    have et := cut_back hr
    have hel : (encs rs).length ≤ 16384 := by rw [← hse, ← size_eq]; exact hsz
    have hrt := textOf_encs rs.reverse (fun r h => hsc r (by simpa using h)) (by rw [encs_rev_len]; exact hel)
    have eu := cut_back hrt
    rw [List.reverse_reverse] at eu
    have hab := bytes_add hse (show encs (rs.take cc) ++ encs (rs.drop cc) = encs rs by rw [← encs_append, List.take_append_drop])
    have huu := bytes_eq hse
    have hst : (⟨(encs rs.reverse).toArray⟩ : ByteArray).size ≤ 16384 := by show (encs rs.reverse).toArray.size ≤ _; simp [encs_rev_len]; exact hel
    have cA := fun W h1 h2 => textCut_any s false 0 true ((n2 : Int) % 20 - 10) false 0 aA aZ aL W (by omega) (by omega) (by omega) (by omega) (by omega) (by omega) (by omega) h1 h2
    have cB := fun W h1 h2 => textCut_any s true ((n2 : Int) % 20 - 10) false 0 false 0 aA aZ aL W (by omega) (by omega) (by omega) (by omega) (by omega) (by omega) (by omega) h1 h2
    have cT := fun W h1 h2 => textCut_any s false 0 false 0 true (-1) aA aZ aL W (by omega) (by omega) (by omega) (by omega) (by omega) (by omega) (by omega) h1 h2
    have cU := fun W h1 h2 => textCut_any ⟨(encs rs.reverse).toArray⟩ false 0 false 0 true (-1) aA aZ aL W (by omega) (by omega) (by omega) (by omega) (by omega) (by omega) (by omega) h1 h2
    rw [ea] at cA
    rw [eb] at cB
    rw [et] at cT
    rw [eu] at cU
    simp only [huu] at cU
    simp only at cA cB cT cU
    generalize (⟨(encs (rs.take cc)).toArray⟩ : ByteArray) = A at cA hab
    generalize (⟨(encs (rs.drop cc)).toArray⟩ : ByteArray) = B at cB hab
    generalize (⟨(encs rs.reverse).toArray⟩ : ByteArray) = T at cT cU hst
    have hsum : A.size + B.size ≤ 9223372036854775807 := by have := congrArg ByteArray.size hab; rw [ByteArray.size_append] at this; omega
    clear ea eb et eu hrt huu hel hcc hse hsc hr
    generalize hkk : (n2 : Int) % 20 - 10 = kk at cA cB hk ⊢
    have hA3 := (((Below.refl w4.heap.size w4).alloc (Nat.le_refl _) (Obj.cells #[.bool true, .int .i64 kk] 28)).alloc (by simp) (Obj.cells #[.bool false, .int .i64 0] 28)).alloc (by simp; omega) (Obj.cells #[.bool true, .int .i64 (-1)] 28)
    have b1 := ((Box.new w4 (.bool true) (.int .i64 kk) 28).alloc (Obj.cells #[.bool false, .int .i64 0] 28)).alloc (Obj.cells #[.bool true, .int .i64 (-1)] 28)
    have b2 := (Box.new (w4.alloc (Obj.cells #[.bool true, .int .i64 kk] 28)) (.bool false) (.int .i64 0) 28).alloc (Obj.cells #[.bool true, .int .i64 (-1)] 28)
    have b3 := Box.new ((w4.alloc (Obj.cells #[.bool true, .int .i64 kk] 28)).alloc (Obj.cells #[.bool false, .int .i64 0] 28)) (.bool true) (.int .i64 (-1)) 28
    simp only [World.size_alloc] at b2 b3
    have hW5 := hW4.trans (hA3.mono hW4.size)
    clear hA3
    go_wp2_with fail
    refine (cA _ (hT.below hW5) (hE.below hW5)).mono ?_
    rintro e w6 ⟨rfl, hB⟩
    have hW6 := hW5.trans (hB.mono hW5.size)
    replace b1 := b1.keep hB
    replace b2 := b2.keep hB
    replace b3 := b3.keep hB
    clear hB hW5 cA
    obtain ⟨-, k0, k1⟩ := id b1
    obtain ⟨-, k2, k3⟩ := id b2
    obtain ⟨-, k4, k5⟩ := id b3
    go_wp2_with fail
    refine (cB _ (hT.below hW6) (hE.below hW6)).mono ?_
    rintro e w7 ⟨rfl, hB⟩
    have hW7 := hW6.trans (hB.mono hW6.size)
    replace b1 := b1.keep hB
    replace b2 := b2.keep hB
    replace b3 := b3.keep hB
    clear hB hW6 cB k0 k1 k2 k3 k4 k5
    obtain ⟨-, k0, k1⟩ := id b1
    obtain ⟨-, k2, k3⟩ := id b2
    obtain ⟨-, k4, k5⟩ := id b3
    go_wp2_with fail
    refine (cT _ (hT.below hW7) (hE.below hW7)).mono ?_
    rintro e w8 ⟨rfl, hB⟩
    have hW8 := hW7.trans (hB.mono hW7.size)
    replace b1 := b1.keep hB
    replace b2 := b2.keep hB
    replace b3 := b3.keep hB
    clear hB hW7 cT k0 k1 k2 k3 k4 k5
    obtain ⟨-, k0, k1⟩ := id b1
    obtain ⟨-, k2, k3⟩ := id b2
    obtain ⟨-, k4, k5⟩ := id b3
    go_wp2_with fail
    refine (cU _ (hT.below hW8) (hE.below hW8)).mono ?_
    rintro e w9 ⟨rfl, hB⟩
    have hW9 := hW8.trans (hB.mono hW8.size)
    clear hB hW8 cU k0 k1 k2 k3 k4 k5 b1 b2 b3
    have hDs := drawSliceList_any w9 a2 n2 c2 bs2 ((h2 (by omega)).keep hW9)
    go_wp2_with fail
    refine hDs.mono ?_
    rintro e w10 ⟨m, g1, x1, g2, x2, g3, x3, rfl, ⟨m0, m1⟩, ⟨p1, q1⟩, ⟨p2, q2⟩, ⟨p3, q3⟩, hB⟩
    have hW10 := hW9.trans (hB.mono hW9.size)
    clear hDs hB hW9
    have cS := fun W h => sliceI_any m g1 x1 g2 x2 g3 x3 aA aZ aL W p1 q1 p2 q2 p3 q3 h
    have hrg := ans_range (n := m) (lh := g1) (la := x1) (hh := g2) (ha := x2) (sh := g3) (sa := x3)
    have hcd := ans_code (n := m) (lh := g1) (la := x1) (hh := g2) (ha := x2) (sh := g3) (sa := x3)
    have hmo := ans_mono (n := m) (lh := g1) (la := x1) (hh := g2) (ha := x2) (sh := g3) (sa := x3)
    have hAl := ans_len m g1 x1 g2 x2 g3 x3
    generalize sliceAns m g1 x1 g2 x2 g3 x3 = R at cS hrg hcd hmo hAl
    obtain ⟨L, code⟩ := R
    simp only at cS hrg hcd hmo hAl
    have hA3 := (((Below.refl w10.heap.size w10).alloc (Nat.le_refl _) (Obj.cells #[.bool g1, .int .i64 x1] 28)).alloc (by simp) (Obj.cells #[.bool g2, .int .i64 x2] 28)).alloc (by simp; omega) (Obj.cells #[.bool g3, .int .i64 x3] 28)
    have hW11 := hW10.trans (hA3.mono hW10.size)
    clear hA3
    go_wp2_with fail
    refine (cS _ (hE.below hW11)).mono ?_
    rintro e w12 ⟨ao, co, rfl, hO, hB⟩
    have hW12 := hW11.trans (hB.mono hW11.size)
    clear hB hW11 cS
    clear hsum hkk hk hst hab hsl hsz hs hW2 hW3 hW4 hW10 h2 p1 q1 p2 q2 p3 q3 hn hn2 hT hE
    go_wp2
    go_loopw [24] (fun i wr => ∃ k : Nat, k ≤ L.length ∧ i = .int .i64 k ∧ Below w12.heap.size w12 wr) (fun i _ => L.length - (RowKit.intOf i).toNat)
    case atStart => exact ⟨0, Nat.zero_le _, rfl, Below.refl _ _⟩
    case round =>
      obtain ⟨k, hk, rfl, hBr⟩ := hrel
      by_cases hlt : k < L.length
      · have hOr := hO.keep hBr
        obtain rfl : code = 0 := hcd.resolve_right (fun h => by subst h; simp at hlt)
        rcases hOr.shape with ⟨he, rfl⟩ | ⟨g, cap, he, -, hg, hcap⟩
        · simp at hlt
        obtain ⟨rfl, -, rfl⟩ : ao = some ⟨g, 0, none⟩ ∧ True ∧ co = cap := by cases he; exact ⟨rfl, trivial, rfl⟩
        have hX := hrg (L.getD k 0) (by simp [List.getD, hlt])
        have ck := hOr.cell k hlt
        cases k with
        | zero =>
          generalize L.getD 0 0 = X at hX ck
          obtain ⟨x0, x1⟩ := hX
          go_wp2
          have d1 : decide (X < 0) = false := by simp; omega
          have d2 : decide (m ≤ X) = false := by simp; omega
          have d4 : (0 : Int) < (L.length : Int) := by omega
          clear hcd hmo hrg hk hlt hOr hO
          go_quiet (fail)
          go_wp2
          go_roundw
          case rel => exact ⟨1, by omega, rfl, below_drewN hBr _⟩
          case measure => simp [RowKit.intOf]; omega
        | succ j =>
          have cj := hOr.cell j (by omega)
          have c0 := hOr.cell 0 (by omega)
          have c1 := hOr.cell 1 (by omega)
          obtain ⟨hne, hup⟩ := mono_at hmo (j + 1) (by omega) hlt
          simp only [Nat.add_sub_cancel] at hne hup
          generalize L.getD (j + 1) 0 = X at hX ck hne hup
          generalize L.getD j 0 = Y at cj hne hup
          generalize L.getD 0 0 = U at c0 hup
          generalize L.getD 1 0 = V at c1 hup
          obtain ⟨x0, x1⟩ := hX
          have d1 : decide (X < 0) = false := by simp; omega
          have d2 : decide (m ≤ X) = false := by simp; omega
          have d3 : (X == Y) = false := by simpa using hne
          generalize ht : decide (U < V) = t at hup
          have d4 : (0 : Int) < (L.length : Int) := by omega
          have d5 : (1 : Int) < (L.length : Int) := by omega
          have d6 : (j : Int) < (L.length : Int) := by omega
          have d7 : (j : Int) + 1 < (L.length : Int) := by omega
          have d8 : (0 : Int) ≤ (j : Int) := by omega
          have d9 : decide ((0 : Int) < (j : Int) + 1) = true := decide_eq_true (by omega)
          have hj : j + 1 < L.length := hlt
          clear hcd hmo hrg hk hlt hOr hO hne
          go_wp2
          go_quiet (fail)
          go_wp2
          go_roundw
          case rel => exact ⟨j + 2, by omega, by go_num, below_drewN hBr _⟩
          case measure => simp [RowKit.intOf]; omega
      · obtain rfl : k = L.length := by omega
        go_wp2
        go_ret
        exact ⟨rfl, hW12.trans (hBr.mono hW12.size)⟩
end Go.Proofs.YtebpaobjonlelaaDoor
