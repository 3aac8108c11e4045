import Derived.Test.YtebpaobjonlelaaDoorCutP
import Derived.Test.YtebpaobjonlelaaDoorBldA
import Derived.Test.YtebpaobjonlelaaDoorTLenA
import Derived.Deep.RegionHeld3
namespace Go.Proofs.YtebpaobjonlelaaDoor
open Go.RowKit Go.Lib Go.Shelf
set_option linter.unusedVariables false
set_option linter.unusedSimpArgs false

theorem runesFrom_vgo (s : ByteArray) : ∀ (f pos : Nat) (acc : Array Value) (rs : List Nat), vgo s f pos = some rs → Conv.runesFrom s f pos acc = acc ++ (rs.map fun (r : Nat) => Value.int .i32 (r : Int)).toArray := by
  intro f
  induction f with
  | zero => intro pos acc rs h; simp [vgo] at h; subst h; simp [Conv.runesFrom]
  | succ f ih =>
    intro pos acc rs h
    rw [vgo] at h
    unfold Conv.runesFrom
    by_cases hp : pos < s.size
    · rw [if_pos hp] at h ⊢
      by_cases hb : (Utf8.decode s pos).1 = 65533 ∧ (Utf8.decode s pos).2 = 1
      · rw [if_pos hb] at h; cases h
      · rw [if_neg hb] at h
        obtain ⟨r, hr, rfl⟩ := Option.map_eq_some_iff.1 h
        simp only
        rw [ih _ _ r hr]
        simp
    · rw [if_neg hp] at h ⊢; simp at h; subst h; simp
theorem runesFrom_text {s : ByteArray} {rs : List Nat} (h : textOf s = some rs) : Conv.runesFrom s s.size 0 #[] = (rs.map fun (r : Nat) => Value.int .i32 (r : Int)).toArray := by
  unfold textOf at h
  by_cases hs : s.size ≤ 16384
  · rw [if_pos hs] at h
    unfold runesOf at h
    rw [runesFrom_vgo s _ _ _ rs h]; simp
  · rw [if_neg hs] at h; cases h
theorem text_len {s : ByteArray} {rs : List Nat} (h : textOf s = some rs) : rs.length ≤ 16384 ∧ ∀ r ∈ rs, Scalar r := by
  unfold textOf at h
  by_cases hs : s.size ≤ 16384
  · rw [if_pos hs] at h
    have h2 := (runesOf_iff s rs).1 h
    have := encs_len rs h2.2
    rw [← h2.1, ← size_eq] at this
    exact ⟨by omega, h2.2⟩
  · rw [if_neg hs] at h; cases h
/-- '[]rune(s)' of a text. -/
theorem runes_of {s : ByteArray} {rs : List Nat} (h : textOf s = some rs) (w : World) : ∃ cap w', (convert 9 48 (.string s)).run Tryd.prog w = .ok (.slice (some ⟨w.heap.size, 0, none⟩) rs.length cap) w' ∧
    w.heap.size < w'.heap.size ∧ (∀ k, k < rs.length → w'.cell? ⟨w.heap.size, k, none⟩ = some (.int .i32 ((rs.getD k 0 : Nat) : Int))) ∧ Below w.heap.size w w' := by
  have hl := (text_len h).1
  have hsz : (Conv.runesFrom s s.size 0 #[]).size = rs.length := by rw [runesFrom_text h]; simp
  have hrun := run_runes_of_string w 9 48 21 s Tryd.underlying9 Tryd.underlying48 Tryd.underlying21 (by rw [hsz]; omega)
  rw [hsz] at hrun
  refine ⟨_, _, hrun, by simp, fun k hk => ?_, ((Below.refl _ _).drew).alloc (Nat.le_refl _) _⟩
  have hc := World.cell?_alloc_at (w := w.drew) (Conv.runesFrom s s.size 0 #[] ++ Array.replicate (grownCap w rs.length 0 21 - rs.length) (Value.int .i32 0)) 21 w.heap.size k rfl
  rw [hc, runesFrom_text h, Array.getElem?_append_left (by simpa using hk)]
  simp [List.getD, hk]
set_option maxHeartbeats 2000000 in
set_option maxRecDepth 100000 in
theorem textCut_any (s : ByteArray) (lh : Bool) (la : Int) (hh : Bool) (ha : Int) (sh : Bool) (sa : Int) (aA aZ aL : Addr) (w : World) (hm : s.size ≤ 16777216)
    (hl0 : -9223372036854775808 ≤ la) (hl1 : la ≤ 9223372036854775807) (hh0 : -9223372036854775808 ≤ ha) (hh1 : ha ≤ 9223372036854775807) (hs0 : -9223372036854775808 ≤ sa) (hs1 : sa ≤ 9223372036854775807) (hT : Tabs w) (hE : Errs w aA aZ aL) :
    Calls Tryd.prog 8 #[.string s, bnd lh la, bnd hh ha, bnd sh sa] w fun e w' => e = .returned (.tuple #[.string ⟨(cutAns s lh la hh ha sh sa).1.toArray⟩, .int .i64 (cutAns s lh la hh ha sh sa).2]) ∧ Below w.heap.size w w' := by
  have bW : Below w.heap.size w (((w.alloc (Obj.cells #[.bool lh, .int .i64 la] 28)).alloc (Obj.cells #[.bool hh, .int .i64 ha] 28)).alloc (Obj.cells #[.bool sh, .int .i64 sa] 28)) := (((Below.refl _ w).alloc (Nat.le_refl _) _).alloc (by simp) _).alloc (by simp; omega) _
  have bL := (((Box.new w (.bool lh) (.int .i64 la) 28).alloc (Obj.cells #[.bool hh, .int .i64 ha] 28)).alloc (Obj.cells #[.bool sh, .int .i64 sa] 28))
  have bH := ((Box.new (w.alloc (Obj.cells #[.bool lh, .int .i64 la] 28)) (.bool hh) (.int .i64 ha) 28).alloc (Obj.cells #[.bool sh, .int .i64 sa] 28))
  have bS := (Box.new ((w.alloc (Obj.cells #[.bool lh, .int .i64 la] 28)).alloc (Obj.cells #[.bool hh, .int .i64 ha] 28)) (.bool sh) (.int .i64 sa) 28)
  simp only [World.size_alloc] at bH bS
  have hN := fun W h => textLen_any s W (by omega) h
  obtain ⟨N, hNe⟩ : ∃ N, lenOf (textOf s) = N := ⟨_, rfl⟩
  rw [hNe] at hN
  have hP := fun W h => placesI_any N lh la hh ha sh sa aA aZ aL W hl0 hl1 hh0 hh1 hs0 hs1 h
  have hAl := ans_len N lh la hh ha sh sa
  have hAr := ans_range (n := N) (lh := lh) (la := la) (hh := hh) (ha := ha) (sh := sh) (sa := sa)
  have hAc := ans_code (n := N) (lh := lh) (la := la) (hh := hh) (ha := ha) (sh := sh) (sa := sa)
  have HC : Hid (cutAns s lh la hh ha sh sa = (match textOf s with | none => ([], 1) | some rs => (encs (pick rs (sliceAns N lh la hh ha sh sa).1), (sliceAns N lh la hh ha sh sa).2)) ∧ (textOf s = none → sliceAns N lh la hh ha sh sa = ([], 1)) ∧ ∀ rs, textOf s = some rs → N = (rs.length : Int)) := by
    refine ⟨?_, fun h => ?_, fun rs h => ?_⟩
    · unfold cutAns
      cases h : textOf s with
      | none => rfl
      | some rs => simp only; rw [← hNe, h]; rfl
    · rw [h] at hNe
      have : N = -1 := hNe.symm
      rw [this]; unfold sliceAns; rw [if_pos (.inl (by decide))]
    · rw [h] at hNe; exact hNe.symm
  generalize sliceAns N lh la hh ha sh sa = A at hP hAl hAr hAc HC
  obtain ⟨L, c⟩ := A
  simp only at hP hAl hAr hAc
  have HR : Hid (∀ z ∈ L, 0 ≤ z ∧ z < N) := hAr
  have HK : Hid (c = 0 ∨ L = []) := hAc
  obtain ⟨R, hRe⟩ : ∃ R, cutAns s lh la hh ha sh sa = R := ⟨_, rfl⟩
  have HC2 : Hid (R = (match textOf s with | none => ([], 1) | some rs => (encs (pick rs L), c)) ∧ (textOf s = none → (L, c) = ([], 1)) ∧ ∀ rs, textOf s = some rs → N = (rs.length : Int)) := by rw [← hRe]; exact HC.out
  rw [hRe]
  clear hNe hAr hAc HC hRe
  have hTW := hT.below bW
  have hEW := hE.below bW
  go_enter Tryd.func8, Tryd.ntmps8
  go_wp2_with fail
  obtain ⟨-, k0, k1⟩ := id bL
  obtain ⟨-, k2, k3⟩ := id bH
  obtain ⟨-, k4, k5⟩ := id bS
  go_region_held3 (fun W => W.cell? ⟨w.heap.size, 0, none⟩ = some (.bool lh) ∧ W.cell? ⟨w.heap.size, 1, none⟩ = some (.int .i64 la) ∧ W.cell? ⟨w.heap.size + 1, 0, none⟩ = some (.bool hh) ∧ W.cell? ⟨w.heap.size + 1, 1, none⟩ = some (.int .i64 ha) ∧ W.cell? ⟨w.heap.size + 1 + 1, 0, none⟩ = some (.bool sh) ∧ W.cell? ⟨w.heap.size + 1 + 1, 1, none⟩ = some (.int .i64 sa)) (go_keep) (first | (go_at_call 6; refine (hN _ (hTW.below (Below.refl _ _).drew)).mono ?_; rintro e w1 ⟨rfl, hB1⟩; have bL1 := bL.drew.keep hB1; have bH1 := bH.drew.keep hB1; have bS1 := bS.drew.keep hB1; obtain ⟨-, bLx1, bLy1⟩ := id bL1; obtain ⟨-, bHx1, bHy1⟩ := id bH1; obtain ⟨-, bSx1, bSy1⟩ := id bS1; have hW1 := bW.drew.trans (hB1.mono bW.size)) | (go_at_call 16; refine (hP _ (hE.below hW1)).mono ?_; rintro e w2 ⟨aP, cP, v, rfl, hv, oP, hB2⟩; have bL2 := bL1.keep hB2; have bH2 := bH1.keep hB2; have bS2 := bS1.keep hB2; obtain ⟨-, bLx2, bLy2⟩ := id bL2; obtain ⟨-, bHx2, bHy2⟩ := id bH2; obtain ⟨-, bSx2, bSy2⟩ := id bS2))
  have hW2 := hW1.trans (hB2.mono hW1.size)
  have rP := oP.rd
  clear k0 k1 k2 k3 k4 k5 hB1 hB2 hW1 bL bH bS bL1 bH1 bS1 bL2 bH2 bS2 oP
  clear bLx1 bLx2 bLy1 bLy2 bHx1 bHx2 bHy1 bHy2 bSx1 bSx2 bSy1 bSy2
  by_cases hc0 : c = 0
  · obtain rfl : v = .nilIface := by
      rcases hv with ⟨h, _⟩ | ⟨_, h⟩ | ⟨_, h⟩ | ⟨_, h⟩ | ⟨_, _, h⟩ | ⟨_, _, h⟩ | ⟨_, _, h⟩
      · exact h
      all_goals (exfalso; omega)
    subst hc0
    obtain ⟨rs, hrs⟩ : ∃ rs, textOf s = some rs := by
      cases h : textOf s with
      | some rs => exact ⟨rs, rfl⟩
      | none => exact absurd (HC2.out.2.1 h) (by simp)
    obtain rfl := HC2.out.2.2 rs hrs
    have HF : Hid (R = (encs (pick rs L), 0)) := by
      have := HC2.out.1
      rw [hrs] at this; exact this
    obtain ⟨hrl, hsc⟩ := text_len hrs
    have HS : Hid (∀ r ∈ rs, Scalar r) := hsc
    have hcv0 := runes_of hrs w2
    obtain ⟨cap, w3, hcv, hz3, hcr, hB3⟩ := hcv0
    have HCR : Hid (∀ k, k < rs.length → w3.cell? ⟨w2.heap.size, k, none⟩ = some (.int .i32 ((rs.getD k 0 : Nat) : Int))) := hcr
    have rP3 := rP.keep hB3
    have hW3 := hW2.trans (hB3.mono hW2.size)
    clear HC2 hsc hcr hv hN hP rP
    have hz23 : w2.heap.size < w3.heap.size := hz3
    go_wp2
    go_loopw [33] (fun i wr => ∃ (k : Nat) (acc : List UInt8), k ≤ L.length ∧ i = .int .i64 k ∧ acc = encs (pick rs (L.take k)) ∧ acc.length ≤ 4 * k ∧ Bld w3.heap.size w3.heap.size (Lib.byteCells acc) wr ∧ Below w3.heap.size w3 wr) (fun i _ => L.length - (RowKit.intOf i).toNat)
    case atStart => exact ⟨0, [], by omega, rfl, rfl, by simp, Lib.IsBuilderF.of (Lib.fresh_isBuilder 51 5 w3), (Below.refl _ w3).alloc (Nat.le_refl _) _⟩
    case round =>
      obtain ⟨k, acc, hk, rfl, hacc, hal, hI, hbw⟩ := hrel
      have HA : Hid (acc = encs (pick rs (L.take k))) := hacc
      clear hacc
      have hwk : IntKind.i64.wrap ((k : Int) + 1) = (k : Int) + 1 := by simp [IntKind.wrap, IntKind.bits, IntKind.signed]; omega
      by_cases hi : k < L.length
      · have hiz : (k : Int) < (L.length : Int) := by omega
        obtain ⟨aL', cL', e1, _, _, _, hcL⟩ := rP3.keep hbw
        simp only [Value.slice.injEq] at e1
        obtain ⟨rfl, -, rfl⟩ := e1
        obtain ⟨bl, ol, rfl, hbl, hcellL⟩ := hcL (by omega)
        have hckL := hcellL k hi
        obtain ⟨z, hz⟩ : ∃ z, L.getD k 0 = z := ⟨_, rfl⟩
        rw [hz] at hckL
        have hzr := HR.out z (by rw [← hz]; have : L.getD k 0 = L[k] := by simp [List.getD, hi]
                                 rw [this]; exact List.getElem_mem hi)
        obtain ⟨m, hm2⟩ : ∃ m : Nat, z = (m : Int) := ⟨z.toNat, by omega⟩
        subst hm2
        have hmr : m < rs.length := by omega
        have hmz : (m : Int) < (rs.length : Int) := by omega
        have hckC := (hbw.cell (p := ⟨w2.heap.size, m, none⟩) hz23).trans (HCR.out m hmr)
        obtain ⟨r, hr⟩ : ∃ r, rs.getD m 0 = r := ⟨_, rfl⟩
        rw [hr] at hckC
        have hrs2 : Scalar r := by
          rw [← hr]
          have : rs.getD m 0 = rs[m] := by simp [List.getD, hmr]
          rw [this]; exact HS.out _ (List.getElem_mem hmr)
        have hr1 : (r : Int) ≤ 1114111 := by unfold Scalar at hrs2; omega
        have HN : Hid (acc ++ encodeRune (r : Int) = encs (pick rs (L.take (k + 1)))) := by
          show _ = _
          rw [← pick_snoc rs L k hi, hz, show ((m : Int)).toNat = m from rfl, hr, encs_append, encs_cons, encs_nil, List.append_nil, HA.out]
        have hle := enc_le4 r
        obtain ⟨rI, hrI⟩ : ∃ rI : Int, (r : Int) = rI := ⟨_, rfl⟩
        rw [hrI] at hckC hr1 hle
        have HrI : Hid ((r : Int) = rI) := hrI
        have hr0 : 0 ≤ rI := by omega
        have hWR := writeRune_any w3.heap.size w3.heap.size (Lib.byteCells acc) rI (by omega) (by omega) wr hI (by rw [Lib.byteCells_length]; omega) hbw.size
        clear hcellL hrs2 hr hz hzr hcL hrI hI
        go_wp2_with (go_at_call 18; refine hWR.mono ?_; rintro e W1 ⟨⟨nn, rfl⟩, h1, b1, k1⟩)
        go_roundw
        case rel =>
          refine ⟨k + 1, acc ++ encodeRune rI, by omega, by go_num, by rw [← HrI.out]; exact HN.out, by rw [List.length_append]; omega, ?_, hbw.trans b1⟩
          rw [Lib.byteCells_append, Lib.byteCells_encodeRune]; exact h1
        case measure => first | (simp [RowKit.intOf]; done) | (simp [RowKit.intOf]; omega)
      · have hiz : ¬ (k : Int) < (L.length : Int) := by omega
        have hacc := HA.out
        rw [List.take_of_length_le (by omega)] at hacc
        have HA2 : Hid (acc = encs (pick rs L)) := hacc
        clear hacc
        have hST := string_any w3.heap.size w3.heap.size acc wr hI hbw.size
        clear hI HA
        go_wp2_with (go_at_call 19; refine hST.mono ?_; rintro e W1 ⟨rfl, b1⟩)
        refine bodyPost_ret (v := .tuple #[.string ⟨acc.toArray⟩, .int .i64 0]) (by simp [results, Tryd.results8, go_sem]) rfl ?_
        rw [HF.out, ← HA2.out]
        exact ⟨rfl, hW3.trans ((hbw.trans b1).mono hW3.size)⟩
  · have hL : L = [] := by
      rcases HK.out with h | h
      · exact absurd h hc0
      · exact h
    have HF : Hid (R = ([], c)) := by
      have h1 := HC2.out.1
      cases h : textOf s with
      | none =>
        rw [h] at h1
        have := HC2.out.2.1 h
        simp only [Prod.mk.injEq] at this
        show R = _
        rw [h1, this.2]
      | some rs =>
        rw [h] at h1
        show R = _
        rw [h1, hL]; rfl
    have hO := fun W h => codeOf_any aA aZ aL v c W h hv
    obtain ⟨T, x, rfl⟩ : ∃ T x, v = .iface T x := by
      rcases hv with ⟨_, h⟩ | ⟨rfl, _⟩ | ⟨rfl, _⟩ | ⟨rfl, _⟩ | ⟨t, rfl, _⟩ | ⟨t, rfl, _⟩ | ⟨t, rfl, _⟩
      · exact absurd h hc0
      all_goals exact ⟨_, _, rfl⟩
    clear hv HC2 HK HR hN hP
    go_wp2_with fail
    refine (hO _ (hE.below hW2)).mono ?_
    rintro e w3 ⟨rfl, hB3⟩
    go_wp2
    refine bodyPost_ret (v := .tuple #[.string ⟨#[]⟩, .int .i64 c]) (by simp [results, Tryd.results8, go_sem]) rfl ?_
    rw [HF.out]
    exact ⟨rfl, hW2.trans (hB3.mono hW2.size)⟩
end Go.Proofs.YtebpaobjonlelaaDoor
