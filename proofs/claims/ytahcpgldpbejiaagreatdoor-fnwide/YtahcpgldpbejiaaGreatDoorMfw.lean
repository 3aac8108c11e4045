import Derived.Test.YtahcpgldpbejiaaGreatDoorFbQ
import Derived.Test.YtahcpgldpbejiaaGreatDoorMfd
import Derived.Test.YtahcpgldpbejiaaGreatDoorMdr
import Derived.Test.YtahcpgldpbejiaaGreatDoorMzE
namespace Go.Proofs.YtahcpgldpbejiaaGreatDoor
open Go.RowKit Go.Lib
set_option linter.unusedVariables false
set_option linter.unusedSimpArgs false

/-- The digits of a small number. -/
def dd (n : Nat) : List Nat := if n < 10 then [48 + n] else [48 + n / 10, 48 + n % 10]
theorem dd_lt (n : Nat) (h : n ≤ 60) : ∀ x ∈ dd n, x < 128 := by
  unfold dd
  split
  · intro x hx; simp at hx; omega
  · intro x hx; simp at hx; omega
theorem txt_dd (n : Nat) (h1 : 1 ≤ n) (h2 : n ≤ 60) : Z.txt 10 n = (dd n).map Nat.toUInt8 := by
  unfold Z.txt
  rw [if_neg (by omega), Z.le_pos (by omega) (by omega)]
  unfold dd
  by_cases h : n < 10
  · rw [if_pos h, show n / 10 = 0 by omega, Z.le_zero, show n % 10 = n by omega]
    simp [Z.ch, h]
  · rw [if_neg h, Z.le_pos (b := 10) (n := n / 10) (by omega) (by omega), show n / 10 / 10 = 0 by omega, Z.le_zero, show n / 10 % 10 = n / 10 by omega]
    have a : n / 10 < 10 := by omega
    have b : n % 10 < 10 := by omega
    simp [Z.ch, a, b]
theorem encs_asc : ∀ (l : List Nat), (∀ x ∈ l, x < 128) → encs l = l.map Nat.toUInt8 ∧ ∀ r ∈ l, Scalar r
  | [], _ => ⟨rfl, fun r hr => by cases hr⟩
  | x :: l, h => by
    obtain ⟨a, b⟩ := encs_asc l (fun y hy => h y (by simp [hy]))
    have hx := h x (by simp)
    refine ⟨by rw [encs_cons, enc1 x hx, a]; rfl, fun r hr => ?_⟩
    rcases List.mem_cons.1 hr with rfl | h1
    · exact .inl (by omega)
    · exact b r h1
theorem dd_len (n : Nat) : (dd n).length ≤ 2 := by unfold dd; split <;> simp
theorem wd_size (n : Nat) (h1 : 1 ≤ n) (h2 : n ≤ 60) : (⟨(Z.txt 10 n).toArray⟩ : ByteArray).size ≤ 2 := by
  show (Z.txt 10 n).toArray.size ≤ 2
  rw [List.size_toArray, txt_dd n h1 h2, List.length_map]
  exact dd_len n
theorem text_pre (n : Nat) (h1 : 1 ≤ n) (h2 : n ≤ 60) (pre : List Nat) (hp : ∀ x ∈ pre, x < 128) (hl : pre.length ≤ 2) (P : ByteArray) (hP : P.data.toList = pre.map Nat.toUInt8) : textOf (P ++ ⟨(Z.txt 10 n).toArray⟩) = some (pre ++ dd n) := by
  obtain ⟨a, b⟩ := encs_asc (pre ++ dd n) (fun x hx => (List.mem_append.1 hx).elim (hp x) (dd_lt n h2 x))
  have hd : (P ++ (⟨(Z.txt 10 n).toArray⟩ : ByteArray)).data.toList = (pre ++ dd n).map Nat.toUInt8 := by
    rw [ba_app, hP, List.map_append]
    show _ ++ (Z.txt 10 n).toArray.toList = _
    rw [List.toList_toArray, txt_dd n h1 h2]
  refine text_iff.2 ⟨?_, hd.trans a.symm, b⟩
  rw [size_eq, hd, List.length_map, List.length_append]
  have := dd_len n
  omega
theorem factsA : ∀ n, n < 61 → 1 ≤ n → okQ (42 :: 94 :: dd n) = true ∧ fcS (w7 (42 :: 94 :: dd n)) = 42 ∧ alS (w7 (42 :: 94 :: dd n)) 60 = 94 ∧ (w7 (42 :: 94 :: dd n)).wd = n ∧ refT (w7 (42 :: 94 :: dd n)) = false ∧ (w7 (42 :: 94 :: dd n)).dt = false := by decide +kernel
theorem factsB : ∀ n, n < 61 → 1 ≤ n → okQ (48 :: dd n) = true ∧ fcS (w7 (48 :: dd n)) = 48 ∧ alS (w7 (48 :: dd n)) 62 = 61 ∧ (w7 (48 :: dd n)).wd = n ∧ fbBad (w7 (48 :: dd n)) true = false ∧ (w7 (48 :: dd n)).cm = false ∧ bsS (w7 (48 :: dd n)).kd = 10 ∧ (w7 (48 :: dd n)).s = 0 := by decide +kernel
theorem factsC : okQ [100] = true ∧ alS (w7 [100]) 62 = 62 ∧ (w7 [100]).wd = 0 ∧ fbBad (w7 [100]) true = false ∧ (w7 [100]).cm = false ∧ bsS (w7 [100]).kd = 10 ∧ (w7 [100]).s = 0 := by decide +kernel
theorem factsD : okQ [] = true ∧ alS (w7 []) 60 = 60 ∧ (w7 []).wd = 0 ∧ refT (w7 []) = false ∧ (w7 []).dt = false := by decide +kernel
theorem text_nil : textOf ⟨#[]⟩ = some [] := text_iff.2 ⟨by decide, rfl, fun r hr => by cases hr⟩
theorem fill_asc (c n : Nat) (h : c < 128) : (fillL c n).length = n := by
  unfold fillL
  obtain ⟨a, _⟩ := encs_asc (List.replicate n c) (fun x hx => by have := List.eq_of_mem_replicate hx; omega)
  rw [a]; simp
/-- A text, brought to a width. -/
theorem wideA {s : ByteArray} {rs : List Nat} (hs : textOf s = some rs) (n : Nat) (h1 : 1 ≤ n) (h2 : n ≤ 60) :
    ∃ X c, ftS (⟨#[42, 94]⟩ ++ ⟨(Z.txt 10 n).toArray⟩) s = .tuple #[.string X, .int .i64 c] ∧ X.size ≤ 16384 ∧ ((c = 0 ∧ lenOf (textOf X) = max (n : Int) (rs.length : Int)) ∨ (c = 3 ∧ 16000 ≤ s.size)) := by
  obtain ⟨f1, f2, f3, f4, f5, f6⟩ := factsA n (by omega) h1
  obtain ⟨g1, g2, g3⟩ := text_iff.1 hs
  have ht := text_pre n h1 h2 [42, 94] (by simp) (by simp) ⟨#[42, 94]⟩ rfl
  have hf : ftS (⟨#[42, 94]⟩ ++ ⟨(Z.txt 10 n).toArray⟩) s = fitV (ftL (w7 (42 :: 94 :: dd n)) rs) := by
    unfold ftS
    rw [ht]
    simp only
    rw [show [42, 94] ++ dd n = 42 :: 94 :: dd n from rfl, if_pos f1, hs]
    simp only
    rw [f5, if_neg (by decide)]
    unfold cutT
    rw [f6]; rfl
  obtain ⟨m, hm⟩ : ∃ m, n - rs.length = m := ⟨_, rfl⟩
  have hL : ftL (w7 (42 :: 94 :: dd n)) rs = encs (List.replicate (m / 2) 42 ++ rs ++ List.replicate (m - m / 2) 42) := by
    unfold ftL missS
    rw [f2, f3, f4, List.nil_append, heads_encs rs g3, hm, encs_append, encs_append]
    simp [layT, fillL]
  have hsc : ∀ r ∈ List.replicate (m / 2) 42 ++ rs ++ List.replicate (m - m / 2) 42, Scalar r := fun r hr => by
    rcases List.mem_append.1 hr with h3 | h3
    · rcases List.mem_append.1 h3 with h4 | h4
      · have := List.eq_of_mem_replicate h4; exact .inl (by omega)
      · exact g3 r h4
    · have := List.eq_of_mem_replicate h3; exact .inl (by omega)
  have hlen : (ftL (w7 (42 :: 94 :: dd n)) rs).length = s.size + m := by
    rw [hL, encs_append, encs_append, List.length_append, List.length_append, ← g2, ← size_eq]
    have a := fill_asc 42 (m / 2) (by omega)
    have b := fill_asc 42 (m - m / 2) (by omega)
    unfold fillL at a b
    rw [a, b]; omega
  rw [hf]
  unfold fitV
  by_cases hb : 16384 < (ftL (w7 (42 :: 94 :: dd n)) rs).length
  · rw [if_pos hb]
    exact ⟨_, _, rfl, by decide, .inr ⟨rfl, by omega⟩⟩
  · rw [if_neg hb]
    refine ⟨_, _, rfl, ?_, .inl ⟨rfl, ?_⟩⟩
    · show (ftL (w7 (42 :: 94 :: dd n)) rs).toArray.size ≤ 16384
      rw [List.size_toArray]; omega
    · have ht2 : textOf ⟨(ftL (w7 (42 :: 94 :: dd n)) rs).toArray⟩ = some (List.replicate (m / 2) 42 ++ rs ++ List.replicate (m - m / 2) 42) := by
        refine text_iff.2 ⟨?_, ?_, hsc⟩
        · show (ftL (w7 (42 :: 94 :: dd n)) rs).toArray.size ≤ 16384
          rw [List.size_toArray]; omega
        · show (ftL (w7 (42 :: 94 :: dd n)) rs).toArray.toList = _
          rw [List.toList_toArray, hL]
      rw [ht2]
      unfold lenOf
      simp only [List.length_append, List.length_replicate]
      omega
theorem wideD {s : ByteArray} {rs : List Nat} (hs : textOf s = some rs) : ftS ⟨#[]⟩ s = .tuple #[.string s, .int .i64 0] := by
  obtain ⟨f1, f3, f4, f5, f6⟩ := factsD
  obtain ⟨g1, g2, g3⟩ := text_iff.1 hs
  unfold ftS
  rw [text_nil]
  simp only
  rw [if_pos f1, hs]
  simp only
  rw [f5, if_neg (by decide)]
  have hL : ftL (w7 []) (cutT (w7 []) rs) = s.data.toList := by
    unfold cutT
    rw [f6, Bool.false_and, if_neg (by decide)]
    unfold ftL missS
    rw [f3, f4, Nat.zero_sub]
    simp [layT, fillL, encs_nil, g2]
  unfold fitV
  rw [hL, if_neg (by rw [← size_eq]; omega), Lib.mk_data]
theorem sgS_zero {v : Sv} (h : v.s = 0) (p : Bool) : (sgS v p).data.toList = if p then [45] else [] := by
  unfold sgS
  rw [h]
  cases p <;> rfl
theorem bt_eq {p : Bool} {xs : List Int} (ho : Z.okB p xs = true) : Z.btA p xs 10 = (if p then [45] else []) ++ Z.txt 10 (Z.val xs) := by
  unfold Z.btA
  rw [if_pos ⟨ho, by decide, by decide⟩]
  cases p <;> rfl
theorem bt_len {p : Bool} {xs : List Int} (ho : Z.okB p xs = true) (hz : Z.Limbs xs) : (Z.btA p xs 10).length ≤ 4097 := by
  rw [bt_eq ho, List.length_append]
  have := Z.txt_len (b := 10) (xs := xs) (by omega) hz (Z.okB_norm ho).2
  cases p <;> simp <;> omega
theorem bt_asc {p : Bool} {xs : List Int} (ho : Z.okB p xs = true) : Asc (Z.btA p xs 10) := by
  rw [bt_eq ho]
  refine Asc.append ?_ (asc_txt (by omega) (by omega))
  cases p
  · intro x hx; cases hx
  · intro x hx; simp at hx; subst hx; decide
/-- An integer, brought to a width. -/
theorem wideB {p : Bool} {xs : List Int} (ho : Z.okB p xs = true) (hz : Z.Limbs xs) (n : Nat) (h1 : 1 ≤ n) (h2 : n ≤ 60) :
    ∃ X, fbS (⟨#[48]⟩ ++ ⟨(Z.txt 10 n).toArray⟩) p xs = .tuple #[.string X, .int .i64 0] ∧ (X.size : Int) = max (n : Int) ((Z.btA p xs 10).length : Int) := by
  obtain ⟨f1, f2, f3, f4, f5, f6, f7, f8⟩ := factsB n (by omega) h1
  have ht := text_pre n h1 h2 [48] (by simp) (by simp) ⟨#[48]⟩ rfl
  have hbl := bt_len ho hz
  have hf : fbS (⟨#[48]⟩ ++ ⟨(Z.txt 10 n).toArray⟩) p xs = fitV (fbL (w7 (48 :: dd n)) p xs) := by
    unfold fbS
    rw [ht]
    simp only
    rw [show [48] ++ dd n = 48 :: dd n from rfl, if_pos f1, ho, f5, if_neg (by decide)]
  have hlen : (fbL (w7 (48 :: dd n)) p xs).length = max n (Z.btA p xs 10).length := by
    unfold fbL fbB missS
    rw [f6, if_neg (by decide), f7, sgS_zero f8, f2, f3, f4, ← bt_eq ho, Asc.heads (bt_asc ho)]
    unfold layT
    rw [if_neg (by decide), if_neg (by decide), if_pos rfl, List.length_append, List.length_append, fill_asc 48 _ (by omega)]
    have := congrArg List.length (bt_eq ho)
    rw [List.length_append] at this
    omega
  rw [hf]
  unfold fitV
  rw [if_neg (by omega)]
  refine ⟨_, rfl, ?_⟩
  show (((fbL (w7 (48 :: dd n)) p xs).toArray.size : Nat) : Int) = _
  rw [List.size_toArray, hlen]; omega
theorem wideC {p : Bool} {xs : List Int} (ho : Z.okB p xs = true) (hz : Z.Limbs xs) : fbS ⟨#[100]⟩ p xs = .tuple #[.string ⟨(Z.btA p xs 10).toArray⟩, .int .i64 0] := by
  obtain ⟨f1, f3, f4, f5, f6, f7, f8⟩ := factsC
  have ht : textOf ⟨#[100]⟩ = some [100] := text_iff.2 ⟨by decide, by decide, fun r hr => by simp at hr; subst hr; exact .inl (by omega)⟩
  have hbl := bt_len ho hz
  have hL : fbL (w7 [100]) p xs = Z.btA p xs 10 := by
    unfold fbL fbB missS
    rw [f6, if_neg (by decide), f7, sgS_zero f8, f3, f4, Nat.zero_sub]
    rw [bt_eq ho]
    simp [layT, fillL, encs_nil]
  unfold fbS
  rw [ht]
  simp only
  rw [if_pos f1, ho, f5, if_neg (by decide), hL]
  unfold fitV
  rw [if_neg (by omega)]
theorem wideE {p : Bool} {xs : List Int} (ho : Z.okB p xs = false) : fbS ⟨#[]⟩ p xs = argsV := by
  unfold fbS
  rw [text_nil]
  simp only
  rw [if_pos factsD.1, ho, if_pos]
  unfold fbBad
  simp
end Go.Proofs.YtahcpgldpbejiaaGreatDoor

namespace Go.Proofs.YtahcpgldpbejiaaGreatDoor
open Go.RowKit Go.Lib Go.Shelf
set_option linter.unusedVariables false
set_option linter.unusedSimpArgs false

theorem bigFw_any (w : World) (a : Option Addr) (n c : Nat) :
    Calls Tryz.prog 13 #[.slice a n c] w fun e w' => e = .returned (.bool (decide ((1048576 : Int) < (n : Int)))) ∧ w' = w := by
  go_enter Tryz.func13, Tryz.ntmps13
  go_wp2
  go_ret
  exact ⟨by simp, rfl⟩
theorem Src.z {w : World} {a : Option Addr} {n c : Nat} {bs : List Int} (h : Src w a n c bs) : Z.Src w a n c bs := ⟨h.nb, h.lim, h.by_⟩
theorem bt_small (n : Nat) (h1 : 1 ≤ n) (h2 : n ≤ 60) : Z.btA false (Z.lim n) 10 = Z.txt 10 n := by
  have hl : (Z.lim n).length ≤ 1 := Z.lim_length_le (k := 1) (by omega)
  have hok : Z.okB false (Z.lim n) = true := by
    unfold Z.okB
    have hn := Z.lim_norm n
    by_cases h0 : (Z.lim n).length = 0
    · rw [if_pos h0]; rfl
    · rw [if_neg h0]
      rcases hn with h3 | h3
      · exact absurd h3 h0
      · simp only [Bool.and_eq_true, decide_eq_true_eq]
        exact ⟨by omega, by simpa [List.getD] using h3⟩
  rw [bt_eq hok, Z.val_lim]; rfl
set_option maxRecDepth 100000 in
set_option maxHeartbeats 2000000 in
theorem law_wide (a : Option Addr) (ZL c : Nat) (zs : List Int) (a' : Option Addr) (ZM c' : Nat) (ms : List Int) (w : World) (hr : ZL ≤ 1048576 → Src w a ZL c zs) (hr' : ZM ≤ 1048576 → Src w a' ZM c' ms) (hT : Tabs w) (hEx : ∃ aA aZ aL, Errs w aA aZ aL) (hEf : ErrF w) :
    Calls Tryz.prog 5 #[.slice a ZL c, .slice a' ZM c'] w fun e w' => e = .returned (.bool true) ∧ Below w.heap.size w w' := by
  obtain ⟨aA, aZ, aL, hE⟩ := hEx
  have HB := fun W => bigFw_any W a ZL c
  have HB' := fun W => bigFw_any W a' ZM c'
  by_cases hbig : 1048576 < ZL
  · rw [decide_eq_true (by omega)] at HB
    go_enter Tryz.func5, Tryz.ntmps5
    go_wp2_with fail
    refine (HB _).mono ?_
    rintro e w2 ⟨rfl, rfl⟩
    go_wp2
    go_ret
    exact ⟨rfl, Below.refl _ _⟩
  rw [decide_eq_false (by omega)] at HB
  by_cases hbig' : 1048576 < ZM
  · rw [decide_eq_true (by omega)] at HB'
    go_enter Tryz.func5, Tryz.ntmps5
    go_wp2_with fail
    refine (HB _).mono ?_
    rintro e w2 ⟨rfl, rfl⟩
    go_wp2_with fail
    refine (HB' _).mono ?_
    rintro e w2 ⟨rfl, rfl⟩
    go_wp2
    go_ret
    exact ⟨rfl, Below.refl _ _⟩
  rw [decide_eq_false (by omega)] at HB'
  have hsr := hr (by omega)
  have HD := drawTextRepr_any w a ZL c zs hsr
  have HK := fun W h => Z.drawBigOk_any W a ZL c zs h
  clear hr hr'
  obtain ⟨n, hn⟩ : ∃ n : Nat, ZM % 60 + 1 = n := ⟨_, rfl⟩
  have h1 : 1 ≤ n := by omega
  have h2 : n ≤ 60 := by omega
  have hn1 : 1 + (ZM : Int).tmod 60 = (n : Int) := by
    rw [Int.tmod_eq_emod_of_nonneg (by omega)]; omega
  have hn2 : 1 + (ZM : Int) % 60 = (n : Int) := by omega
  clear hn
  have HO := fun W => Z.bigOf_any (n : Int) W (by omega) (by omega)
  rw [show decide ((n : Int) < 0) = false by simp, show (n : Int).natAbs = n by omega] at HO
  have HT := fun W v h => Z.bigText_any false v (Z.lim n) 10 W h (by omega) (by omega)
  rw [bt_small n h1 h2] at HT
  have hws := wd_size n h1 h2
  go_enter Tryz.func5, Tryz.ntmps5
  go_wp2_with fail
  refine (HB _).mono ?_
  rintro e w1 ⟨rfl, hw1⟩
  rw [hw1]
  clear hw1 w1
  go_wp2_with fail
  refine (HB' _).mono ?_
  rintro e w1 ⟨rfl, hw1⟩
  rw [hw1]
  clear hw1 w1 HB HB'
  go_wp2_with fail
  refine HD.mono ?_
  rintro e w1 ⟨s, rfl, hss, V⟩
  have hs1 := (hsr.keep V).z
  clear HD hsr
  go_wp2_with fail
  refine (HK _ hs1).mono ?_
  rintro e w2 ⟨p, ad, cp, xs, rfl, hxl, OX, b2⟩
  have V2 := V.trans (b2.mono V.size)
  clear HK hs1 b2 V
  have bA := Z.Box.new w2 (.bool p) (.slice ad xs.length cp) 30
  have RX := OX.rd.alloc (Obj.cells #[.bool p, .slice ad xs.length cp] 30)
  have V3 := V2.alloc V2.size (Obj.cells #[.bool p, .slice ad xs.length cp] 30)
  obtain ⟨GB, hGB⟩ : ∃ GB, w2.heap.size = GB := ⟨_, rfl⟩
  obtain ⟨_, _, _, _, hz, _⟩ := id RX
  go_upto_region 6 with fail
  generalize w2.alloc _ = W3 at *
  rw [hGB] at bA
  clear hGB OX V2
  go_wp2_with fail
  refine (HO _).mono ?_
  rintro e w4 ⟨ao, co, rfl, OO, b4⟩
  have V4 := V3.trans (b4.mono V3.size)
  have bA4 := bA.keep b4
  have RX4 := RX.keep b4
  clear HO b4 bA RX V3
  go_wp2_with fail
  refine (HT _ _ OO.rd).mono ?_
  rintro e w5 ⟨rfl, b5⟩
  have V5 := V4.trans (b5.mono V4.size)
  have bA5 := bA4.keep b5
  have RX5 := RX4.keep b5
  clear HT b5 bA4 RX4 V4 OO
  have HA := fun rs (h : textOf s = some rs) => wideA h n h1 h2
  have HBo := fun (h : Z.okB p xs = true) => wideB h hz n h1 h2
  obtain ⟨wd, hwd⟩ : ∃ wd : ByteArray, (⟨(Z.txt 10 n).toArray⟩ : ByteArray) = wd := ⟨_, rfl⟩
  rw [hwd] at HA HBo hws
  simp only [hwd]
  clear hwd
  have K1 := fun W : World => textOkS_any s W (by omega)
  have KB := fun W h => Z.bigOkS_any p (.slice ad xs.length cp) xs W h
  have HFB := fun (sp : ByteArray) (hsp : sp.size ≤ 16777216) W h h3 h4 h5 => formatBig_any sp p (.slice ad xs.length cp) xs W hsp h h3 aA aZ aL h4 h5
  have HBT := fun W h => Z.bigText_any p (.slice ad xs.length cp) xs 10 W h (by omega) (by omega)
  have hz1 : ¬ 9223372036854775807 < (⟨#[42, 94]⟩ : ByteArray).size + wd.size := by show ¬ 9223372036854775807 < 2 + wd.size; omega
  have hz2 : ¬ 9223372036854775807 < (⟨#[48]⟩ : ByteArray).size + wd.size := by show ¬ 9223372036854775807 < 1 + wd.size; omega
  have hs3 : (⟨#[42, 94]⟩ ++ wd : ByteArray).size ≤ 16777216 := by rw [ba_size]; show 2 + wd.size ≤ _; omega
  have hs4 : (⟨#[48]⟩ ++ wd : ByteArray).size ≤ 16777216 := by rw [ba_size]; show 1 + wd.size ≤ _; omega
  go_wp2_with fail
  refine (K1 _).mono ?_
  rintro e w6 ⟨rfl, b6⟩
  have V6 := V5.trans (b6.mono V5.size)
  have bA6 := bA5.keep b6
  have RX6 := RX5.keep b6
  clear K1 b6 bA5 RX5 V5
  cases hts : textOf s with
  | none =>
    simp only [Option.isSome_none]
    clear HA hz1 hs3
    obtain ⟨-, k0, k1⟩ := id bA6
    go_wp2_with fail
    refine (KB _ RX6).mono ?_
    rintro e y1 ⟨rfl, c1⟩
    have Y1 := V6.trans (c1.mono V6.size)
    have B1 := bA6.keep c1
    have R1 := RX6.keep c1
    clear KB k0 k1 bA6 RX6 V6 c1
    obtain ⟨-, k0, k1⟩ := id B1
    cases hok : Z.okB p xs with
    | false =>
      have HF := HFB ⟨#[]⟩ (by decide) y1 R1 (hT.below Y1) (hE.below Y1) (hEf.below Y1)
      rw [wideE hok] at HF
      unfold argsV at HF
      clear HFB HBT HBo hok
      go_wp2_with fail
      refine HF.mono ?_
      rintro e y2 ⟨rfl, c2⟩
      have Y2 := Y1.trans (c2.mono Y1.size)
      clear HF c2
      go_wp2
      go_ret
      exact ⟨rfl, Y2⟩
    | true =>
      obtain ⟨X, hX, hXs⟩ := HBo hok
      have hC := wideC hok hz
      have hbl := bt_len hok hz
      have HF := fun W h h3 h4 h5 => HFB (⟨#[48]⟩ ++ wd) hs4 W h h3 h4 h5
      have HG := fun W h h3 h4 h5 => HFB ⟨#[100]⟩ (by decide) W h h3 h4 h5
      rw [hX] at HF
      rw [hC] at HG
      obtain ⟨U, hU⟩ : ∃ U : ByteArray, (⟨(Z.btA p xs 10).toArray⟩ : ByteArray) = U := ⟨_, rfl⟩
      have hUs : ((Z.btA p xs 10).length : Int) = (U.size : Int) := by rw [← hU]; show _ = (((Z.btA p xs 10).toArray.size : Nat) : Int); rw [List.size_toArray]
      rw [hU] at HG HBT
      rw [hUs] at hXs
      clear HFB HBo hok hX hC hU hbl hUs
      go_wp2_with fail
      refine (HF _ R1 (hT.below Y1) (hE.below Y1) (hEf.below Y1)).mono ?_
      rintro e y2 ⟨rfl, c2⟩
      have Y2 := Y1.trans (c2.mono Y1.size)
      have B2 := B1.keep c2
      have R2 := R1.keep c2
      clear HF c2 k0 k1 B1 R1 Y1
      obtain ⟨-, k0, k1⟩ := id B2
      go_wp2_with fail
      refine (HG _ R2 (hT.below Y2) (hE.below Y2) (hEf.below Y2)).mono ?_
      rintro e y3 ⟨rfl, c3⟩
      have Y3 := Y2.trans (c3.mono Y2.size)
      have B3 := B2.keep c3
      have R3 := R2.keep c3
      clear HG c3 k0 k1 B2 R2 Y2
      obtain ⟨-, k0, k1⟩ := id B3
      go_wp2_with fail
      refine (HBT _ R3).mono ?_
      rintro e y4 ⟨rfl, c4⟩
      have Y4 := Y3.trans (c4.mono Y3.size)
      clear HBT c4 k0 k1 B3 R3 Y3
      have HXS : Hid ((X.size : Int) = max (n : Int) (U.size : Int)) := hXs
      clear hXs
      go_wp2
      go_ret
      exact ⟨by rw [HXS.out]; simp, Y4⟩
  | some rs =>
    simp only [Option.isSome_some]
    obtain ⟨X0, c0, hX0, hX1, hX2⟩ := HA rs hts
    have HF := fun W h3 h4 h5 => formatText_any (⟨#[42, 94]⟩ ++ wd) s W hs3 (by omega) h3 aA aZ aL h4 h5
    have HG := fun W h3 h4 h5 => formatText_any ⟨#[]⟩ s W (by decide) (by omega) h3 aA aZ aL h4 h5
    rw [hX0] at HF
    rw [wideD hts] at HG
    have HL1 := fun W h => textLen_any X0 W (by omega) h
    have HL2 := fun W h => textLen_any s W (by omega) h
    rw [hts] at HL2
    rw [show lenOf (some rs) = (rs.length : Int) from rfl] at HL2
    clear hts hX0 HA
    go_wp2_with fail
    refine (HF _ (hT.below V6) (hE.below V6) (hEf.below V6)).mono ?_
    rintro e w7 ⟨rfl, b7⟩
    have V7 := V6.trans (b7.mono V6.size)
    have bA7 := bA6.keep b7
    have RX7 := RX6.keep b7
    clear HF b7 bA6 RX6 V6
    go_wp2_with fail
    refine (HG _ (hT.below V7) (hE.below V7) (hEf.below V7)).mono ?_
    rintro e w8 ⟨rfl, b8⟩
    have V8 := V7.trans (b8.mono V7.size)
    have bA8 := bA7.keep b8
    have RX8 := RX7.keep b8
    clear HG b8 bA7 RX7 V7
    rcases hX2 with ⟨rfl, hL⟩ | ⟨rfl, hL⟩
    · rw [hL] at HL1
      clear hL
      go_wp2_with fail
      refine (HL1 _ (hT.below V8)).mono ?_
      rintro e w9 ⟨rfl, b9⟩
      have V9 := V8.trans (b9.mono V8.size)
      have bA9 := bA8.keep b9
      have RX9 := RX8.keep b9
      clear HL1 b9 bA8 RX8 V8
      go_wp2_with fail
      refine (HL2 _ (hT.below V9)).mono ?_
      rintro e w10 ⟨rfl, b10⟩
      have V10 := V9.trans (b10.mono V9.size)
      have bA10 := bA9.keep b10
      have RX10 := RX9.keep b10
      clear HL2 b10 bA9 RX9 V9
      have hZ := 0
      clear hz1 hs3 hX1 hZ
      obtain ⟨-, k0, k1⟩ := id bA10
      go_wp2_with fail
      refine (KB _ RX10).mono ?_
      rintro e y1 ⟨rfl, c1⟩
      have Y1 := V10.trans (c1.mono V10.size)
      have B1 := bA10.keep c1
      have R1 := RX10.keep c1
      clear KB k0 k1 bA10 RX10 V10 c1
      obtain ⟨-, k0, k1⟩ := id B1
      cases hok : Z.okB p xs with
      | false =>
        have HF := HFB ⟨#[]⟩ (by decide) y1 R1 (hT.below Y1) (hE.below Y1) (hEf.below Y1)
        rw [wideE hok] at HF
        unfold argsV at HF
        clear HFB HBT HBo hok
        go_wp2_with fail
        refine HF.mono ?_
        rintro e y2 ⟨rfl, c2⟩
        have Y2 := Y1.trans (c2.mono Y1.size)
        clear HF c2
        go_wp2
        go_ret
        exact ⟨rfl, Y2⟩
      | true =>
        obtain ⟨X, hX, hXs⟩ := HBo hok
        have hC := wideC hok hz
        have hbl := bt_len hok hz
        have HF := fun W h h3 h4 h5 => HFB (⟨#[48]⟩ ++ wd) hs4 W h h3 h4 h5
        have HG := fun W h h3 h4 h5 => HFB ⟨#[100]⟩ (by decide) W h h3 h4 h5
        rw [hX] at HF
        rw [hC] at HG
        obtain ⟨U, hU⟩ : ∃ U : ByteArray, (⟨(Z.btA p xs 10).toArray⟩ : ByteArray) = U := ⟨_, rfl⟩
        have hUs : ((Z.btA p xs 10).length : Int) = (U.size : Int) := by rw [← hU]; show _ = (((Z.btA p xs 10).toArray.size : Nat) : Int); rw [List.size_toArray]
        rw [hU] at HG HBT
        rw [hUs] at hXs
        clear HFB HBo hok hX hC hU hbl hUs
        go_wp2_with fail
        refine (HF _ R1 (hT.below Y1) (hE.below Y1) (hEf.below Y1)).mono ?_
        rintro e y2 ⟨rfl, c2⟩
        have Y2 := Y1.trans (c2.mono Y1.size)
        have B2 := B1.keep c2
        have R2 := R1.keep c2
        clear HF c2 k0 k1 B1 R1 Y1
        obtain ⟨-, k0, k1⟩ := id B2
        go_wp2_with fail
        refine (HG _ R2 (hT.below Y2) (hE.below Y2) (hEf.below Y2)).mono ?_
        rintro e y3 ⟨rfl, c3⟩
        have Y3 := Y2.trans (c3.mono Y2.size)
        have B3 := B2.keep c3
        have R3 := R2.keep c3
        clear HG c3 k0 k1 B2 R2 Y2
        obtain ⟨-, k0, k1⟩ := id B3
        go_wp2_with fail
        refine (HBT _ R3).mono ?_
        rintro e y4 ⟨rfl, c4⟩
        have Y4 := Y3.trans (c4.mono Y3.size)
        clear HBT c4 k0 k1 B3 R3 Y3
        have HXS : Hid ((X.size : Int) = max (n : Int) (U.size : Int)) := hXs
        clear hXs
        go_wp2
        go_ret
        exact ⟨by rw [HXS.out]; simp, Y4⟩
    · have h16 : ¬ (s.size : Int) < 16000 := by omega
      clear hL HL1 HL2
      clear hz1 hs3 hX1
      obtain ⟨-, k0, k1⟩ := id bA8
      go_wp2_with fail
      refine (KB _ RX8).mono ?_
      rintro e y1 ⟨rfl, c1⟩
      have Y1 := V8.trans (c1.mono V8.size)
      have B1 := bA8.keep c1
      have R1 := RX8.keep c1
      clear KB k0 k1 bA8 RX8 V8 c1
      obtain ⟨-, k0, k1⟩ := id B1
      cases hok : Z.okB p xs with
      | false =>
        have HF := HFB ⟨#[]⟩ (by decide) y1 R1 (hT.below Y1) (hE.below Y1) (hEf.below Y1)
        rw [wideE hok] at HF
        unfold argsV at HF
        clear HFB HBT HBo hok
        go_wp2_with fail
        refine HF.mono ?_
        rintro e y2 ⟨rfl, c2⟩
        have Y2 := Y1.trans (c2.mono Y1.size)
        clear HF c2
        go_wp2
        go_ret
        exact ⟨rfl, Y2⟩
      | true =>
        obtain ⟨X, hX, hXs⟩ := HBo hok
        have hC := wideC hok hz
        have hbl := bt_len hok hz
        have HF := fun W h h3 h4 h5 => HFB (⟨#[48]⟩ ++ wd) hs4 W h h3 h4 h5
        have HG := fun W h h3 h4 h5 => HFB ⟨#[100]⟩ (by decide) W h h3 h4 h5
        rw [hX] at HF
        rw [hC] at HG
        obtain ⟨U, hU⟩ : ∃ U : ByteArray, (⟨(Z.btA p xs 10).toArray⟩ : ByteArray) = U := ⟨_, rfl⟩
        have hUs : ((Z.btA p xs 10).length : Int) = (U.size : Int) := by rw [← hU]; show _ = (((Z.btA p xs 10).toArray.size : Nat) : Int); rw [List.size_toArray]
        rw [hU] at HG HBT
        rw [hUs] at hXs
        clear HFB HBo hok hX hC hU hbl hUs
        go_wp2_with fail
        refine (HF _ R1 (hT.below Y1) (hE.below Y1) (hEf.below Y1)).mono ?_
        rintro e y2 ⟨rfl, c2⟩
        have Y2 := Y1.trans (c2.mono Y1.size)
        have B2 := B1.keep c2
        have R2 := R1.keep c2
        clear HF c2 k0 k1 B1 R1 Y1
        obtain ⟨-, k0, k1⟩ := id B2
        go_wp2_with fail
        refine (HG _ R2 (hT.below Y2) (hE.below Y2) (hEf.below Y2)).mono ?_
        rintro e y3 ⟨rfl, c3⟩
        have Y3 := Y2.trans (c3.mono Y2.size)
        have B3 := B2.keep c3
        have R3 := R2.keep c3
        clear HG c3 k0 k1 B2 R2 Y2
        obtain ⟨-, k0, k1⟩ := id B3
        go_wp2_with fail
        refine (HBT _ R3).mono ?_
        rintro e y4 ⟨rfl, c4⟩
        have Y4 := Y3.trans (c4.mono Y3.size)
        clear HBT c4 k0 k1 B3 R3 Y3
        have HXS : Hid ((X.size : Int) = max (n : Int) (U.size : Int)) := hXs
        clear hXs
        go_wp2
        go_ret
        exact ⟨by rw [HXS.out]; simp, Y4⟩
end Go.Proofs.YtahcpgldpbejiaaGreatDoor


namespace Go.Proofs.YtahcpgldpbejiaaGreatDoor.dWide
open Go.ChangeShapes Go.WideShapes Go.ChangeAt Go.RowKit Go.Shelf Go.Lib
open Go.ChangeMaps (open_string shut_string)
set_option linter.unusedVariables false
set_option linter.unusedSimpArgs false

theorem tabs {W : World} (h : laidMetH Tryz.prog Rows.fnWideRow.laid W) : Tabs W := by
  rw [MakeChecks.laidMetH_plain _ _ _ (by kernel_rfl)] at h
  have h1 := Lib.laidMet.reads h (.tail _ (.tail _ (.tail _ (.head _))))
  have h2 := Lib.laidMet.reads h (.tail _ (.tail _ (.tail _ (.tail _ (.tail _ (.tail _ (.tail _ (.tail _ (.tail _ (.head _))))))))))
  rw [accept_eq] at h1
  rw [first_eq] at h2
  exact utf8Tabs_of_readsT (U8Types.of196 Tryz.laysValid) ⟨by kernel_rfl, by kernel_rfl, by kernel_rfl, by kernel_rfl, by kernel_rfl, by kernel_rfl, by kernel_rfl⟩ h2 h1
theorem errs {W : World} (h : laidMetH Tryz.prog Rows.fnWideRow.laid W) : ∃ aA aZ aL, Errs W aA aZ aL := by
  rw [MakeChecks.laidMetH_plain _ _ _ (by kernel_rfl)] at h
  have h1 := laidMet.filter (fun x => x.1 == nameAt Rows.fnWideRow.laid 6 || x.1 == nameAt Rows.fnWideRow.laid 7) h
  have h2 := laidMet.filter (fun x => x.1 == nameAt Rows.fnWideRow.laid 6 || x.1 == nameAt Rows.fnWideRow.laid 8) h
  have h3 := laidMet.filter (fun x => x.1 == nameAt Rows.fnWideRow.laid 7 || x.1 == nameAt Rows.fnWideRow.laid 8) h
  rw [show Rows.fnWideRow.laid.filter (fun x => x.1 == nameAt Rows.fnWideRow.laid 6 || x.1 == nameAt Rows.fnWideRow.laid 7) = ((Rows.fnWideRow.laid.drop 6).take 1 ++ (Rows.fnWideRow.laid.drop 7).take 1) by kernel_rfl] at h1
  rw [show Rows.fnWideRow.laid.filter (fun x => x.1 == nameAt Rows.fnWideRow.laid 6 || x.1 == nameAt Rows.fnWideRow.laid 8) = ((Rows.fnWideRow.laid.drop 6).take 1 ++ (Rows.fnWideRow.laid.drop 8).take 1) by kernel_rfl] at h2
  rw [show Rows.fnWideRow.laid.filter (fun x => x.1 == nameAt Rows.fnWideRow.laid 7 || x.1 == nameAt Rows.fnWideRow.laid 8) = ((Rows.fnWideRow.laid.drop 7).take 1 ++ (Rows.fnWideRow.laid.drop 8).take 1) by kernel_rfl] at h3
  exact errs_of (r1 := []) (r2 := []) (r3 := []) h1 h2 h3 (by kernel_rfl) (by kernel_rfl) (by kernel_rfl) (by kernel_rfl) (by kernel_rfl) (by kernel_rfl)


theorem errF_laid {W : World} (h : laidMetH Tryz.prog Rows.fnWideRow.laid W) : ErrF W := by
  rw [MakeChecks.laidMetH_plain _ _ _ (by kernel_rfl)] at h
  have h1 := laidMet.filter (fun x => x.1 == nameAt Rows.fnWideRow.laid 4 || x.1 == nameAt Rows.fnWideRow.laid 5) h
  rw [show Rows.fnWideRow.laid.filter (fun x => x.1 == nameAt Rows.fnWideRow.laid 4 || x.1 == nameAt Rows.fnWideRow.laid 5) = ((Rows.fnWideRow.laid.drop 4).take 1 ++ (Rows.fnWideRow.laid.drop 5).take 1) by kernel_rfl] at h1
  exact errF_of (r1 := []) (g0 := 7) (g1 := 6) h1 (by kernel_rfl) (by kernel_rfl) (by kernel_rfl) (by kernel_rfl) (by kernel_rfl)
set_option maxRecDepth 100000 in
theorem lifted (os : Os) (started : os.Started) (H : Type) (enc : TypeId × Value → H) :
    ReturnsInHanded {} Tryz.checked os 5 .any (fun w args => (Rows.fnWideSpec.pre enc Tryz.prog Tryz.f5 Rows.fnWideRow.domain false w args ∧ laidMetH Tryz.prog Rows.fnWideRow.laid w) ∧ sizedMet enc Tryz.prog Tryz.f5 (OpenSpec.ofChange Rows.fnWideSpec) false w args)
      (Rows.fnWideSpec.post enc Tryz.prog Tryz.f5 false true false false) := by
  refine ret_laid_shaped (C := Tryz.checked) (X := fun w _ => laidMetH Tryz.prog Rows.fnWideRow.laid w) (fun _ _ _ hh h => h.of_heap hh) own started (by kernel_rfl) Tryz.func5
    (ChangeSpec.witness_shaped (enc := enc) (C := Tryz.checked) (os := os) (X := fun w _ => laidMetH Tryz.prog Rows.fnWideRow.laid w) false (World.laidAll Tryz.prog os Rows.fnWideRow.laid) #[.slice none 0 0, .slice none 0 0] 8 (World.laidAll_os _ _ _)
      (World.shaped_of_ZipB (by kernel_rfl) (by kernel_rfl)) (by kernel_rfl) (by kernel_rfl) (by kernel_rfl)
      (by rw [MakeChecks.laidMetH_plain _ _ _ (by kernel_rfl)]; exact laidMet_laidAll _ (by kernel_rfl) (by kernel_rfl))) ?_
  intro W base args ds gs before hval0 hW hsh hL
  have hval : ∀ (j : Nat) t v, Tryz.f5.params[j]? = some t → args[j]? = some v → Value.okWide Tryz.prog W .any base t v := hval0
  have hW' := hW
  obtain ⟨p, q, hA0, hV, rfl, _, _⟩ := hW
  have hA : DataW.TrodAll enc Tryz.prog W 0 (fun _ => true) true Tryz.f5.params.toList args.toList ds p := hA0
  rw [Tryz.params5] at hA hval
  obtain ⟨v0, vs0, d0, ds0, p0, q0, hargs, rfl, rfl, h0, r0⟩ := trodAll_cons hA
  obtain ⟨v1, vs1, d1, ds1, p1, q1, rfl, rfl, rfl, h1, r1⟩ := trodAll_cons r0
  obtain ⟨rfl, rfl, rfl⟩ := trodAll_nil r1
  obtain rfl : args = #[v0, v1] := by cases args; simp_all
  obtain ⟨ga, gb, gc, rfl⟩ := vars3 hV
  have k0 := h0
  have lt0 : ∀ x ∈ p0, x.block < W.heap.size := by obtain ⟨m, hm⟩ := k0; exact DataW.trod_lt m _ _ _ hm
  obtain ⟨a0, c0, x0, rfl, l0, src0⟩ := open_byt (hval 0 34 v0 rfl rfl) h0
  have k1 := h1
  have lt1 : ∀ x ∈ p1, x.block < W.heap.size := by obtain ⟨m, hm⟩ := k1; exact DataW.trod_lt m _ _ _ hm
  obtain ⟨a1, c1, x1, rfl, l1, src1⟩ := open_byt (hval 1 34 v1 rfl rfl) h1
  have hT := tabs hL
  clear hA0 hval0
  refine (law_wide a0 _ c0 x0 a1 _ c1 x1 W src0 src1 hT (errs hL) (errF_laid hL)).mono fun e W' ⟨he, bel⟩ => ?_
  subst he
  exact ⟨_, rfl, _, _, _, [], _, _, hW', trodAll_mk1 (shut_bool Tryz.underlying4 _), (trodAll_cons_mk (Below.trod laidOutE readY rowY k0 bel lt0) (trodAll_cons_mk (Below.trod laidOutE readY rowY k1 bel lt1) trodAll_mk0)), (Below.trodVars laidOutE bel (by kernel_rfl) hV), bel.frame _, fun h => by cases h⟩

theorem over : Rows.fnWideRow.holds Tryz.pinned (OpenSpec.ofChange Rows.fnWideSpec) :=
  OpenClaim.holds_of_wide 5 Tryz.f5 rfl rfl rfl rfl rfl rfl rfl ⟨rfl, rfl, rfl, rfl, rfl⟩ rfl rfl rfl rfl rfl (by kernel_rfl) Tryz.func5 (by kernel_rfl)
    (of_decide_eq_true (by kernel_rfl)) (by unfold Func.isWrapper; first | (rw [if_pos (by decide +kernel)]; kernel_rfl) | (rw [if_neg (by decide +kernel)]; exact ⟨rfl, rfl⟩))
    (fun os started H enc _ => lifted os started H enc)
end Go.Proofs.YtahcpgldpbejiaaGreatDoor.dWide
namespace Go.Proofs.YtahcpgldpbejiaaGreatDoor
theorem wide_holds : Rows.FnWideCardSaid :=
  Claim7.holds_tied_plain_at .later [] [.data, .data, .data, .data, .sentinel, .sentinel, .sentinel, .sentinel, .sentinel, .pinned] true Rows.fnWideCard.stood.harness true dWide.over (fun _ h => by cases h) (by kernel_rfl) (fun _ h => by cases h) fnWide_row_tie rfl ⟨rfl, rfl⟩ (by kernel_rfl) rfl
    (fun f fn hf hfn => by
      obtain rfl : f = 5 := Option.some.inj ((show Tryz.prog.funcNamed Rows.fnWideRow.func = some 5 by kernel_rfl).symm.trans hf) |>.symm
      obtain rfl : fn = Tryz.f5 := (Option.some.inj (Tryz.func5.symm.trans hfn)).symm
      exact ⟨by kernel_rfl, fun j t ht => by
        rw [Tryz.params5] at ht
        have hm : t ∈ [34, 34] := by simpa using Array.mem_of_getElem? ht
        have hall : ([34, 34].all fun u => !Tryz.prog.wantsStandIn u) = true := by kernel_rfl
        exact (show Tryz.prog.wantsStandIn t = false by simpa using List.all_eq_true.1 hall t hm)⟩)
    (by kernel_rfl)
#print axioms wide_holds
end Go.Proofs.YtahcpgldpbejiaaGreatDoor
