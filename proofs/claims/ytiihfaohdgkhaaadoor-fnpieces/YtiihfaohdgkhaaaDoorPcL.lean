import Derived.Test.YtiihfaohdgkhaaaDoorPcD
import Derived.Test.YtiihfaohdgkhaaaDoorPcP
import Derived.Test.YtiihfaohdgkhaaaDoorSplJ
import Derived.Test.YtiihfaohdgkhaaaDoorJoinL
import Derived.Test.YtiihfaohdgkhaaaDoorReplL
import Derived.Test.YtiihfaohdgkhaaaDoorFindL
namespace Go.Proofs.YtiihfaohdgkhaaaDoor
open Go.RowKit Go.Lib Go.Shelf
set_option linter.unusedVariables false
set_option linter.unusedSimpArgs false

theorem bigPc_any (w : World) (a : Option Addr) (n c : Nat) :
    Calls Tryd.prog 4 #[.slice a n c] w fun e w' => e = .returned (.bool (decide ((1048576 : Int) < (n : Int)))) ∧ w' = w := by
  go_enter Tryd.func4, Tryd.ntmps4
  go_wp2
  go_ret
  exact ⟨by simp, rfl⟩
theorem pc_join {s sep : ByteArray} (hs : (textOf s).isSome = true) (ht : (textOf sep).isSome = true) (h1 : sep.size ≠ 0) : (⟨(joinAns sep (splitAll s sep)).1.toArray⟩ : ByteArray) = s ∧ (joinAns sep (splitAll s sep)).2 = 0 := by
  have hl : ¬ 16384 < (jn sep (splitAll s sep)).length := by
    rw [pieces_join h1, ← Lib.size_eq]
    have := textOf_size hs
    omega
  unfold joinAns
  rw [if_pos ⟨ht, pieces_all hs ht h1⟩, if_neg hl, pieces_join h1]
  exact ⟨rfl, rfl⟩
theorem pc_repl {s sep by_ : ByteArray} (hs : (textOf s).isSome = true) (ht : (textOf sep).isSome = true) (h1 : sep.size ≠ 0) : joinAns by_ (splitAll s sep) = replAns s sep by_ := by
  unfold joinAns replAns fitJoin
  by_cases hb : (textOf by_).isSome = true
  · exact (if_pos ⟨hb, pieces_all hs ht h1⟩).trans (if_pos ⟨hs, ht, h1, hb⟩).symm
  · exact (if_neg (fun h => hb h.1)).trans (if_neg (fun h => hb h.2.2.2)).symm

set_option maxRecDepth 100000 in
set_option maxHeartbeats 4000000 in
theorem law_pieces (a : Option Addr) (ZL c : Nat) (zs : List Int) (a' : Option Addr) (ZM c' : Nat) (ms : List Int) (w : World) (hr : ZL ≤ 1048576 → Src w a ZL c zs) (hr' : ZM ≤ 1048576 → Src w a' ZM c' ms) (hT : Tabs w) (hM : MaxL w) (hEx : ∃ aA aZ aL, Errs w aA aZ aL) :
    Calls Tryd.prog 3 #[.slice a ZL c, .slice a' ZM c'] w fun e w' => e = .returned (.bool true) ∧ Below w.heap.size w w' := by
  obtain ⟨aA, aZ, aL, hE⟩ := hEx
  have HB := fun W => bigPc_any W a ZL c
  have HB' := fun W => bigPc_any W a' ZM c'
  by_cases hbig : 1048576 < ZL
  · rw [decide_eq_true (by omega)] at HB
    go_enter Tryd.func3, Tryd.ntmps3
    go_wp2_with fail
    refine (HB _).mono ?_
    rintro e w2 ⟨rfl, rfl⟩
    go_wp2
    go_ret
    exact ⟨rfl, Below.refl _ _⟩
  rw [decide_eq_false (by omega)] at HB
  by_cases hbig' : 1048576 < ZM
  · rw [decide_eq_true (by omega)] at HB'
    go_enter Tryd.func3, Tryd.ntmps3
    go_wp2_with fail
    refine (HB _).mono ?_
    rintro e w2 ⟨rfl, rfl⟩
    go_wp2_with fail
    refine (HB' _).mono ?_
    rintro e w2 ⟨rfl, rfl⟩
    go_wp2
    go_ret
    exact ⟨rfl, Below.refl _ _⟩
  rw [decide_eq_false (by omega)] at HB'
  have HD := drawTextSplit_any w a ZL c zs (hr (by omega))
  have HD' := fun W h => drawTextRepr_any W a' ZM c' ms h
  have hs' := hr' (by omega)
  clear hr hr'
  go_enter Tryd.func3, Tryd.ntmps3
  go_wp2_with fail
  refine (HB _).mono ?_
  rintro e w1 ⟨rfl, hw1⟩
  rw [hw1]
  clear hw1 w1
  go_wp2_with fail
  refine (HB' _).mono ?_
  rintro e w1 ⟨rfl, hw1⟩
  rw [hw1]
  clear hw1 w1 HB HB'
  go_wp2_with fail
  refine HD.mono ?_
  rintro e w1 ⟨s, sep, rfl, hss, hsp, V⟩
  have hs2 := hs'.keep V
  clear HD hs'
  go_wp2_with fail
  refine (HD' _ hs2).mono ?_
  rintro e w2 ⟨by_, rfl, hby, b2⟩
  replace V := V.trans (b2.mono V.size)
  clear HD' hs2 b2
  have T2 := hT.below V
  have E2 := hE.below V
  have M2 := hM.below V
  clear hT hE hM
  have HS := textSplit_any s sep w2 (by omega) (by omega) T2 M2
  have K1 := fun W : World => textOkS_any s W (by omega)
  have K2 := fun W : World => textOkS_any sep W (by omega)
  by_cases hok : (textOf s).isSome = true ∧ (textOf sep).isSome = true ∧ sep.size ≠ 0
  · obtain ⟨o1, o2, o3⟩ := hok
    have hA : splitAns s sep = (splitAll s sep, 0) := by unfold splitAns; rw [if_pos ⟨o1, o2, o3⟩]
    rw [hA] at HS
    simp only [o1] at K1
    simp only [o2] at K2
    have hP := pieces_ok o1 o2 o3
    have hF := split_fits s sep
    obtain ⟨j1, j2⟩ := pc_join o1 o2 o3
    have jr := fun by_ => pc_repl (by_ := by_) o1 o2 o3
    have HJ := fun (W : World) (v : Value) (h : Str.Rd W v (splitAll s sep)) (hT : Tabs W) (hE : Errs W aA aZ aL) => textJoin_any sep v (splitAll s sep) aA aZ aL W h (by omega) (fun x hx => by have := hF x hx; omega) hT hE
    simp only [j1, j2] at HJ
    have HJ2 := fun (W : World) (v : Value) (h : Str.Rd W v (splitAll s sep)) (hT : Tabs W) (hE : Errs W aA aZ aL) => textJoin_any by_ v (splitAll s sep) aA aZ aL W h (by omega) (fun x hx => by have := hF x hx; omega) hT hE
    have HR := fun (W : World) (hT : Tabs W) (hE : Errs W aA aZ aL) (hM : MaxL W) => textReplace_any s sep by_ aA aZ aL W (by omega) (by omega) (by omega) hT hE hM
    rw [jr by_] at HJ2
    generalize (replAns s sep by_).2 = er at HJ2 HR
    generalize (⟨(replAns s sep by_).1.toArray⟩ : ByteArray) = tr at HJ2 HR
    have HFi := fun (W : World) (x : ByteArray) (h1 : findAns x sep 0 = -1) (h2 : x.size ≤ 16777216) (hT : Tabs W) (hM : MaxL W) => textFind_any x sep 0 W h2 (by omega) (by omega) (by omega) hT hM
    have e1 : ¬ sep = ⟨#[]⟩ := fun h => o3 (by rw [h]; rfl)
    have e2 := full_of o3
    obtain ⟨A, hAA⟩ : ∃ A, splitAll s sep = A := ⟨_, rfl⟩
    rw [hAA] at HS hP hF
    simp only [hAA] at HJ HJ2
    clear hA hAA jr j1 j2 o1 o2 o3
    go_wp2_with fail
    refine HS.mono ?_
    rintro e w3 ⟨al, cl, rfl, O3, b3⟩
    replace V := V.trans (b3.mono V.size)
    have T3 := T2.below b3
    have E3 := E2.below b3
    have M3 := M2.below b3
    have R3 := O3.rd
    clear HS b3 T2 E2 M2 O3
    go_wp2_with fail
    refine (K1 _).mono ?_
    rintro e w4 ⟨rfl, b4⟩
    replace V := V.trans (b4.mono V.size)
    replace T3 := T3.below b4
    replace E3 := E3.below b4
    replace M3 := M3.below b4
    replace R3 := R3.keep b4
    clear b4 K1
    go_wp2_with fail
    refine (K2 _).mono ?_
    rintro e w5 ⟨rfl, b4⟩
    replace V := V.trans (b4.mono V.size)
    replace T3 := T3.below b4
    replace E3 := E3.below b4
    replace M3 := M3.below b4
    replace R3 := R3.keep b4
    clear b4 K2
    go_wp2_with fail
    refine (HJ _ _ R3 T3 E3).mono ?_
    rintro e w6 ⟨rfl, b4⟩
    replace V := V.trans (b4.mono V.size)
    replace T3 := T3.below b4
    replace E3 := E3.below b4
    replace M3 := M3.below b4
    replace R3 := R3.keep b4
    clear b4 HJ
    go_wp2_with fail
    go_loopw [12] (fun i wr => ∃ k : Nat, k ≤ A.length ∧ i = .int .i64 k ∧ Below w6.heap.size w6 wr) (fun i _ => A.length - (RowKit.intOf i).toNat)
    case atStart => exact ⟨0, Nat.zero_le _, rfl, Below.refl _ _⟩
    case round =>
      obtain ⟨k, hk, rfl, hB⟩ := hrel
      have hAl : A.length ≤ 16777216 := by obtain ⟨_, _, _, h, _⟩ := R3; exact h
      by_cases hlt : k < A.length
      · have hx : A.getD k Str.Z ∈ A := by rw [List.getD_eq_getElem?_getD, List.getElem?_eq_getElem hlt]; exact List.getElem_mem hlt
        have hf1 := (hP _ hx).2
        have hf2 := hF _ hx
        have R4 := R3.keep hB
        obtain ⟨al', cl', heq, _, _, hc⟩ := R4
        obtain ⟨rfl, -, rfl⟩ : al' = al ∧ True ∧ cl' = cl := by simp at heq; exact ⟨heq.1.symm, trivial, heq.2.symm⟩
        obtain ⟨b, off, rfl, hbw, hcell⟩ := hc (by omega)
        have hce := hcell k hlt
        have HX := HFi wr (A.getD k Str.Z) hf1 (by omega) (T3.below hB) (M3.below hB)
        rw [hf1] at HX
        generalize A.getD k Str.Z = x at hce HX
        clear hf1 hf2 hc hcell heq hx hP hF HFi
        go_wp2_with fail
        refine HX.mono ?_
        rintro e w7 ⟨rfl, b7⟩
        clear HX
        go_wp2_with fail
        go_roundw
        case rel => exact ⟨k + 1, by omega, by go_num, hB.trans (b7.mono hB.size)⟩
        case measure => simp [RowKit.intOf]; omega
      · obtain rfl : k = A.length := by omega
        have T4 := T3.below hB
        have E4 := E3.below hB
        have M4 := M3.below hB
        have R4 := R3.keep hB
        replace V := V.trans (hB.mono V.size)
        clear T3 E3 M3 R3 hB hP hF HFi
        go_wp2_with fail
        refine (HR _ T4 E4 M4).mono ?_
        rintro e w7 ⟨rfl, b7⟩
        replace V := V.trans (b7.mono V.size)
        replace T4 := T4.below b7
        replace E4 := E4.below b7
        replace R4 := R4.keep b7
        clear b7 HR M4
        go_wp2_with fail
        refine (HJ2 _ _ R4 T4 E4).mono ?_
        rintro e w8 ⟨rfl, b8⟩
        replace V := V.trans (b8.mono V.size)
        clear b8 HJ2 T4 E4 R4
        have er1 : (er == er) = true := by simp
        go_wp2
        go_ret
        exact ⟨by simp, V⟩
  · have hA : (splitAns s sep).2 = 1 := by unfold splitAns; rw [if_neg hok]
    rw [hA] at HS
    generalize (splitAns s sep).1 = A at HS
    clear hA
    go_wp2_with fail
    refine HS.mono ?_
    rintro e w3 ⟨al, cl, rfl, O3, b3⟩
    replace V := V.trans (b3.mono V.size)
    clear HS b3 O3 T2 E2 M2
    cases o1 : (textOf s).isSome
    · simp only [o1] at K1
      clear o1
      go_wp2_with fail
      refine (K1 _).mono ?_
      rintro e w4 ⟨rfl, b4⟩
      replace V := V.trans (b4.mono V.size)
      clear b4 K1 K2 hok
      go_wp2
      go_ret
      exact ⟨rfl, V⟩
    · simp only [o1] at K1
      cases o2 : (textOf sep).isSome
      · simp only [o2] at K2
        clear o2 hok
        go_wp2_with fail
        refine (K1 _).mono ?_
        rintro e w4 ⟨rfl, b4⟩
        replace V := V.trans (b4.mono V.size)
        clear b4 K1
        go_wp2_with fail
        refine (K2 _).mono ?_
        rintro e w5 ⟨rfl, b4⟩
        replace V := V.trans (b4.mono V.size)
        clear b4 K2
        go_wp2
        go_ret
        exact ⟨rfl, V⟩
      · simp only [o2] at K2
        have h0 : sep.size = 0 := by
          rcases Nat.eq_zero_or_pos sep.size with h | h
          · exact h
          · exact absurd ⟨o1, o2, by omega⟩ hok
        obtain rfl := empty_of h0
        clear o2 hok h0
        go_wp2_with fail
        refine (K1 _).mono ?_
        rintro e w4 ⟨rfl, b4⟩
        replace V := V.trans (b4.mono V.size)
        clear b4 K1
        go_wp2_with fail
        refine (K2 _).mono ?_
        rintro e w5 ⟨rfl, b4⟩
        replace V := V.trans (b4.mono V.size)
        clear b4 K2
        go_wp2
        go_ret
        exact ⟨rfl, V⟩
end Go.Proofs.YtiihfaohdgkhaaaDoor
