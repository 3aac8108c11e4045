import Derived.Test.YtgbkniliojpejaaDoorTxtJ
import Derived.Test.YtgbkniliojpejaaDoorOk
import Derived.Test.YtgbkniliojpejaaDoorSum
import Derived.Laws.BytesArg
namespace Go.Proofs.YtgbkniliojpejaaDoor
open Go.RowKit Go.Shelf
set_option linter.unusedVariables false
set_option linter.unusedSimpArgs false

set_option maxRecDepth 100000 in
theorem digits_zero (a : Option Addr) (cap : Nat) (b : Nat) (w : World) (hb : 2 ≤ b) (hb2 : b ≤ 36) :
    Calls Tryd.prog 17 #[.slice a 0 cap, .int .u32 b] w fun e w' => e = .returned (.string ⟨#[48]⟩) ∧ Below w.heap.size w w' := by
  have hU := fun W => limbOfDigits_any b W hb hb2
  have hR : ∀ W, Calls Tryd.prog 30 #[.slice none 0 0] W _ := fun W => AnyE.slices_Reverse_empty Tryd.laysReverse none 0 W
  have hcv := fun W => run_convert_bytes_nil (P := Tryd.prog) (w := W) 22 5 Tryd.underlying22 Tryd.underlying5 0 0 9 Tryd.underlying9
  have hT := fun W => trimLeft0 ByteArray.empty W
  go_enter Tryd.func17, Tryd.ntmps17
  go_wp2_with fail
  refine (hU _).mono ?_
  rintro e w0 ⟨k, U, rfl, hUe, hk1, hUl, rfl⟩
  clear hUe hU
  go_wp2
  refine wp_loop_rounds 1 ?_
  rw [rounds_succ]
  go_wp2_with fail
  refine (hR _).mono ?_
  rintro e w1 ⟨rfl, rfl⟩
  go_wp2_with fail
  refine (hT _).mono ?_
  rintro e w2 ⟨rfl, rfl⟩
  go_wp2
  go_ret
  exact ⟨rfl, Below.refl _ _⟩
/-- What BigText answers. -/
def btA (p : Bool) (xs : List Int) (base : Int) : List UInt8 :=
  if okB p xs = true ∧ 2 ≤ base ∧ base ≤ 36 then (if p = true then 45 :: txt base.toNat (val xs) else txt base.toNat (val xs)) else []
theorem txt_len {b : Nat} {xs : List Int} (hb : 2 ≤ b) (hz : Limbs xs) (hl : xs.length ≤ 128) : (txt b (val xs)).length ≤ 4096 := by
  unfold txt
  by_cases hn : val xs = 0
  · rw [if_pos hn]; simp
  · rw [if_neg hn, List.length_reverse, List.length_map]
    obtain ⟨K, hK⟩ : ∃ K : Nat, K = 4096 := ⟨_, rfl⟩
    rw [← hK]
    refine le_len hb _ _ ?_
    have h1 := val_lt hz
    rw [R_pow] at h1
    exact Nat.lt_of_lt_of_le h1 (Nat.pow_le_pow_right (by decide) (by omega))
set_option maxRecDepth 100000 in
theorem baseOk_any (base : Int) (w : World) :
    Calls Tryd.prog 16 #[.int .i64 base] w fun e w' => e = .returned (.bool (decide (2 ≤ base ∧ base ≤ 36))) ∧ w' = w := by
  by_cases h1 : 2 ≤ base
  · by_cases h2 : base ≤ 36
    · rw [decide_eq_true ⟨h1, h2⟩]
      go_enter Tryd.func16, Tryd.ntmps16
      go_wp2
      go_ret
      exact ⟨rfl, rfl⟩
    · rw [decide_eq_false (fun h => h2 h.2)]
      have h3 : (36 : Int) < base := by omega
      go_enter Tryd.func16, Tryd.ntmps16
      go_wp2
      go_ret
      exact ⟨rfl, rfl⟩
  · rw [decide_eq_false (fun h => h1 h.1)]
    have h3 : base < 2 := by omega
    go_enter Tryd.func16, Tryd.ntmps16
    go_wp2
    go_ret
    exact ⟨rfl, rfl⟩
set_option maxHeartbeats 1000000 in
set_option maxRecDepth 100000 in
theorem bigText_any (p : Bool) (v : Value) (xs : List Int) (base : Int) (w : World) (hx : Rd w v xs) (h0 : -9223372036854775808 ≤ base) (h1 : base ≤ 9223372036854775807) :
    Calls Tryd.prog 6 #[.agg #[.bool p, v], .int .i64 base] w fun e w' => e = .returned (.string ⟨(btA p xs base).toArray⟩) ∧ Below w.heap.size w w' := by
  have hx' := hx
  obtain ⟨a, cap, rfl, _, hzx, hnx, hcx⟩ := hx
  clear hcx hnx
  have hok := fun W h => bigOk_any p (.slice a xs.length cap) xs W h
  have hBo := fun W => baseOk_any base W
  have bA := Box.new w (.bool p) (.slice a xs.length cap) 26
  have rx := hx'.alloc (Obj.cells #[.bool p, .slice a xs.length cap] 26)
  have hW := (Below.refl w.heap.size w).alloc (Nat.le_refl _) (Obj.cells #[.bool p, .slice a xs.length cap] 26)
  cases hoA : okB p xs with
  | false =>
    have hC : btA p xs base = [] := by unfold btA; rw [if_neg (fun e => by rw [hoA] at e; cases e.1)]
    rw [hC]
    rw [hoA] at hok
    clear hoA hx' hC
    go_enter Tryd.func6, Tryd.ntmps6
    go_wp2_with fail
    refine (hok _ rx).mono ?_
    rintro e w1 ⟨rfl, hB⟩
    replace hW := hW.trans (hB.mono hW.size)
    go_wp2
    go_ret
    exact ⟨rfl, hW⟩
  | true =>
    by_cases hbs : 2 ≤ base ∧ base ≤ 36
    · obtain ⟨b, hb⟩ : ∃ b : Nat, base = (b : Int) := ⟨base.toNat, by omega⟩
      subst hb
      have hC : btA p xs (b : Int) = if p = true then 45 :: txt b (val xs) else txt b (val xs) := by unfold btA; rw [if_pos ⟨hoA, hbs⟩]; rfl
      rw [hC]
      have hlx := (okB_norm hoA).2
      have hnm := (okB_norm hoA).1
      have hD : ∀ W, Rd W (.slice a xs.length cap) xs → Calls Tryd.prog 17 #[.slice a xs.length cap, .int .u32 b] W fun e w' => e = .returned (.string ⟨(txt b (val xs)).toArray⟩) ∧ Below W.heap.size W w' := (by
        intro W h
        by_cases h00 : xs.length = 0
        · have hv0 : val xs = 0 := by rw [List.eq_nil_of_length_eq_zero h00]; rfl
          have ht0 : txt b (val xs) = [48] := by unfold txt; rw [if_pos hv0]
          rw [ht0, h00]
          exact digits_zero a cap b W (by omega) (by omega)
        · exact digits_any (.slice a xs.length cap) xs b W h hnm hlx (by omega) (by omega) h00)
      have htl := txt_len (b := b) (by omega) hzx hlx
      obtain ⟨S, hS⟩ : ∃ S : ByteArray, (⟨(txt b (val xs)).toArray⟩ : ByteArray) = S := ⟨_, rfl⟩
      have hSz : S.size ≤ 4096 := by rw [← hS]; show (txt b (val xs)).toArray.size ≤ _; simpa using htl
      have hSl : S.data.toList = txt b (val xs) := by rw [← hS]
      rw [hS] at hD
      rw [hoA] at hok
      rw [decide_eq_true hbs] at hBo
      have hb1 : ¬ (b : Int) < 2 := by omega
      have hb3 : ¬ (36 : Int) < (b : Int) := by omega
      have hbm : (b : Int) % 4294967296 = (b : Int) := by omega
      cases p with
      | true =>
        have HR : Hid ((⟨(45 :: txt b (val xs)).toArray⟩ : ByteArray) = ⟨#[45]⟩ ++ S) := by
          show _ = _
          apply ByteArray.ext
          apply Array.toList_inj.1
          rw [ByteArray.data_append, Array.toList_append, hSl]; rfl
        simp only [if_true]
        rw [HR.out]
        clear hoA hx' hC hS hSl htl HR hnm hlx
        go_enter Tryd.func6, Tryd.ntmps6
        go_wp2_with fail
        refine (hok _ rx).mono ?_
        rintro e w1 ⟨rfl, hB⟩
        replace hW := hW.trans (hB.mono hW.size)
        replace rx := rx.keep hB
        replace bA := bA.keep hB
        clear hB hok
        obtain ⟨-, k0, k1⟩ := id bA
        go_wp2_with fail
        refine (hBo _).mono ?_
        rintro e wB ⟨rfl, rfl⟩
        go_wp2_with fail
        refine (hD _ rx).mono ?_
        rintro e w2 ⟨rfl, hB2⟩
        have hW2 := hW.trans (hB2.mono hW.size)
        obtain ⟨-, m0, m1⟩ := bA.keep hB2
        clear hD
        go_wp2
        go_ret
        exact ⟨rfl, hW2⟩
      | false =>
        simp only [Bool.false_eq_true, if_false]
        rw [hS]
        clear hoA hx' hC hS hSl htl hnm hlx
        go_enter Tryd.func6, Tryd.ntmps6
        go_wp2_with fail
        refine (hok _ rx).mono ?_
        rintro e w1 ⟨rfl, hB⟩
        replace hW := hW.trans (hB.mono hW.size)
        replace rx := rx.keep hB
        replace bA := bA.keep hB
        clear hB hok
        obtain ⟨-, k0, k1⟩ := id bA
        go_wp2_with fail
        refine (hBo _).mono ?_
        rintro e wB ⟨rfl, rfl⟩
        go_wp2_with fail
        refine (hD _ rx).mono ?_
        rintro e w2 ⟨rfl, hB2⟩
        have hW2 := hW.trans (hB2.mono hW.size)
        obtain ⟨-, m0, m1⟩ := bA.keep hB2
        clear hD
        go_wp2
        go_ret
        exact ⟨rfl, hW2⟩
    · have hC : btA p xs base = [] := by unfold btA; rw [if_neg (fun e => hbs e.2)]
      rw [hC]
      rw [hoA] at hok
      rw [decide_eq_false hbs] at hBo
      clear hoA hx' hC
      by_cases hlo : base < 2
      · go_enter Tryd.func6, Tryd.ntmps6
        go_wp2_with fail
        refine (hok _ rx).mono ?_
        rintro e w1 ⟨rfl, hB⟩
        replace hW := hW.trans (hB.mono hW.size)
        replace rx := rx.keep hB
        replace bA := bA.keep hB
        clear hB hok
        obtain ⟨-, k0, k1⟩ := id bA
        go_wp2_with fail
        refine (hBo _).mono ?_
        rintro e wB ⟨rfl, rfl⟩
        go_wp2
        go_ret
        exact ⟨rfl, hW⟩
      · have hhi : (36 : Int) < base := by omega
        go_enter Tryd.func6, Tryd.ntmps6
        go_wp2_with fail
        refine (hok _ rx).mono ?_
        rintro e w1 ⟨rfl, hB⟩
        replace hW := hW.trans (hB.mono hW.size)
        replace rx := rx.keep hB
        replace bA := bA.keep hB
        clear hB hok
        obtain ⟨-, k0, k1⟩ := id bA
        go_wp2_with fail
        refine (hBo _).mono ?_
        rintro e wB ⟨rfl, rfl⟩
        go_wp2
        go_ret
        exact ⟨rfl, hW⟩
end Go.Proofs.YtgbkniliojpejaaDoor
