import Derived.Test.YtfoofbcfcekleaaGreatDoorReprI
import Derived.Test.YtfoofbcfcekleaaGreatDoorReprS
import Derived.Shelf.Strings.Search3
namespace Go.Proofs.YtfoofbcfcekleaaGreatDoor
open Go.RowKit Go.Lib Go.Shelf
set_option linter.unusedVariables false
set_option linter.unusedSimpArgs false

theorem has_any (s : ByteArray) (c : UInt8) (w : World) :
    Calls Tryz.prog 13 #[.string s, .string ⟨#[c]⟩] w fun e w' => e = .returned (.bool (s.data.toList.contains c)) ∧ w' = w := by
  have h := Any.strings_Contains_one Tryz.laysHas s c w
  rw [contains_index] at h
  exact h
theorem text_scalars {s : ByteArray} {rs : List Nat} (h : textOf s = some rs) : s.size ≤ 16384 ∧ s.data.toList = encs rs ∧ ∀ r ∈ rs, Scalar r := by
  unfold textOf at h
  by_cases hs : s.size ≤ 16384
  · rw [if_pos hs] at h
    have := (runesOf_iff s rs).1 h
    exact ⟨hs, this.1, this.2⟩
  · rw [if_neg hs] at h; cases h
theorem reprR_len (q r : Nat) : (reprR q r).length ≤ 4 := by
  unfold reprR
  split
  · unfold toB; rw [List.length_map]; exact reprN_len q r
  · exact enc_le4 r
set_option maxHeartbeats 4000000 in
set_option maxRecDepth 1000000 in
theorem reprI_a (s : ByteArray) (rs : List Nat) (w : World) (hrs : textOf s = some rs)
    (hK : Calls Tryz.prog 12 #[.string s] w fun e w' => e = .returned (.bool true) ∧ Below w.heap.size w w') (h39 : s.data.toList.contains 39 = false) :
    Calls Tryz.prog 6 #[.string s] w fun e w' => e = .returned (.string ⟨([(39 : Nat).toUInt8] ++ rs.flatMap (reprR 39) ++ [(39 : Nat).toUInt8]).toArray⟩) ∧ Below w.heap.size w w' := by
  obtain ⟨hs, he, hsc⟩ := text_scalars hrs
  have hsz : (encs rs).length = s.size := by rw [← he, ← size_eq]
  have hrl : rs.length ≤ 16384 := by have := encs_len rs hsc; omega
  have HE : Hid (s.data.toList = encs rs ∧ ∀ r ∈ rs, Scalar r) := ⟨he, hsc⟩
  obtain ⟨E, hE⟩ : ∃ E, ([(39 : Nat).toUInt8] ++ rs.flatMap (reprR 39) ++ [(39 : Nat).toUInt8]) = E := ⟨_, rfl⟩
  have HF : Hid ([(39 : Nat).toUInt8] ++ rs.flatMap (reprR 39) ++ [(39 : Nat).toUInt8] = E) := hE
  rw [hE]
  clear hrs he hsc hE
  go_enter Tryz.func6, Tryz.ntmps6
  go_wp2_with fail
  refine hK.mono ?_
  rintro e w0 ⟨rfl, hB0⟩
  clear hK
  go_wp2_with fail
  refine (has_any s 39 _).mono ?_
  rw [h39]
  rintro e w0 ⟨rfl, rfl⟩
  try clear h39
  try clear h34
  have hW0 := writeRune_any w0.heap.size w0.heap.size [] 39 (by omega) (by omega) (w0.alloc (.cells #[.pointer none, .slice none 0 0] 42)) (Lib.IsBuilderF.of (Lib.fresh_isBuilder 42 5 w0)) (by simp) (by simp)
  go_wp2_with fail
  refine hW0.mono ?_
  rintro e w1 ⟨⟨n0, rfl⟩, hI1, hb1, ho1⟩
  have hbw1 := ((Below.refl _ w0).alloc (Nat.le_refl _) (.cells #[.pointer none, .slice none 0 0] 42)).trans hb1
  have hlt1 : w0.heap.size < w1.heap.size := by have := hb1.size; simp at this; omega
  clear hW0 hb1 ho1
  go_wp2_with fail
  go_loopw [] (fun wr => ∃ (k : Nat) (acc : List UInt8), k ≤ rs.length ∧ acc = [(39 : Nat).toUInt8] ++ (rs.take k).flatMap (reprR 39) ∧ acc.length ≤ 4 * k + 1 ∧ Bld w0.heap.size w0.heap.size (Lib.byteCells acc) wr ∧ wr.heap[w1.heap.size]? = some (.stringIter s (offOf rs k)) ∧ Below w0.heap.size w0 wr) (fun wr => s.size - wr.iterPos w1.heap.size)
  case atStart =>
    refine ⟨0, _, by omega, rfl, by simp, ?_, World.iter_heap w1 s 0, hbw1.alloc hbw1.size _⟩
    exact hI1.alloc _
  case round =>
    obtain ⟨k, acc, hk, hacc, hal, hI, hit, hbw⟩ := hrel
    have HA : Hid (acc = [(39 : Nat).toUInt8] ++ (rs.take k).flatMap (reprR 39)) := hacc
    clear hacc
    have hsz2 : w1.heap.size < wr.heap.size := (Array.getElem?_eq_some_iff.1 hit).1
    by_cases hp : k < rs.length
    · have hlt : offOf rs k < s.size := by rw [← hsz]; exact offOf_lt rs k hp HE.out.2
      have hnx0 := fun ty => Lib.run_next_any_at (P := Tryz.prog) wr w1.heap.size s (offOf rs k) ty hit hlt
      have hdec := decode_off s rs k HE.out.1 HE.out.2 hp
      have hof := offOf_succ rs k hp
      obtain ⟨c, hc⟩ : ∃ c, rs[k] = c := ⟨_, rfl⟩
      have hcs : Scalar c := by rw [← hc]; exact HE.out.2 _ (List.getElem_mem hp)
      have hkk1 := enc_pos c hcs
      have HN : Hid (acc ++ reprR 39 c = [(39 : Nat).toUInt8] ++ (rs.take (k + 1)).flatMap (reprR 39)) := by
        show _ = _
        rw [List.take_succ_eq_append_getElem hp, List.flatMap_append, hc, HA.out]; simp
      rw [hc] at hdec hof
      obtain ⟨kk, hkk⟩ : ∃ kk, (encodeRune ((c : Nat) : Int)).length = kk := ⟨_, rfl⟩
      rw [hkk] at hdec hof hkk1
      obtain ⟨o, ho⟩ : ∃ o, offOf rs k = o := ⟨_, rfl⟩
      rw [ho] at hnx0 hdec hof hit hlt
      simp only [hdec] at hnx0
      have hit2 := Lib.iterAt_heap wr w1.heap.size s o (o + kk) hit
      have hI2 := hI.iterAt hit (o + kk)
      have hbw2 := Lib.below_iterAt hbw (k := w1.heap.size) (by omega) s (o + kk)
      have hszn : (wr.iterAt w1.heap.size s (o + kk)).heap.size = wr.heap.size := Lib.iterAt_size _ _ _ _
      have HO : Hid (offOf rs (k + 1) = o + kk) := hof
      have hRR := fun W => runeRepr_any c 39 W hcs (by omega)
      have hrl4 := reprR_len 39 c
      obtain ⟨RR, hRRe⟩ : ∃ RR, reprR 39 c = RR := ⟨_, rfl⟩
      rw [hRRe] at hRR HN hrl4
      obtain ⟨cI, hcI⟩ : ∃ cI : Int, (c : Int) = cI := ⟨_, rfl⟩
      have hof2 : o + kk ≤ s.size := by rw [← hof, ← hsz]; exact offOf_le rs (k + 1)
      simp only [hcI] at hRR hnx0
      have hrs4 : (⟨RR.toArray⟩ : ByteArray).size ≤ 4 := by show RR.toArray.size ≤ 4; simpa using hrl4
      clear hdec hof hkk hc ho hcs hI hRRe hcI
      have hnx : ∀ ty, (Instr.next (.pointer (some ⟨w1.heap.size, 0, none⟩)) true ty).run Tryz.prog wr = _ := hnx0
      go_wp2_with (first
        | (go_at_call 16; refine (hRR _).mono ?_; rintro e W0 ⟨rfl, hh0, hb0⟩; have hI3 := bld_heap hI2 hh0; have hit3 : W0.heap[w1.heap.size]? = some (.stringIter s (o + kk)) := (by rw [hh0]; exact hit2); have hsz0 : W0.heap.size = wr.heap.size := (by rw [hh0]; exact hszn))
        | (go_at_call 15; refine (writeString_any w0.heap.size w0.heap.size _ _ _ hI3 (by rw [Lib.byteCells_length]; omega) (by omega)).mono ?_; rintro e W1 ⟨⟨nn, rfl⟩, h1, b1, k1⟩))
      have hit4 := k1.iter hit3 (by omega)
      go_roundw
      case rel =>
        refine ⟨k + 1, acc ++ RR, by omega, HN.out, by rw [List.length_append]; omega, ?_, by rw [HO.out]; exact hit4, (hbw2.trans (hb0.mono (by rw [hszn]; omega))).trans b1⟩
        rw [Lib.byteCells_append]; exact h1
      case measure =>
        simp only [World.iterPos, hit4, hit]
        omega
    · have hke : k = rs.length := by omega
      have hoe : offOf rs k = s.size := by rw [hke, offOf_all, hsz]
      have hfin := HF.out
      rw [← List.take_length (l := rs), ← hke, ← HA.out] at hfin
      have HF2 : Hid (acc ++ [(39 : Nat).toUInt8] = E) := hfin
      rw [hoe] at hit
      have hnx : ∀ ty, (Instr.next (.pointer (some ⟨w1.heap.size, 0, none⟩)) true ty).run Tryz.prog wr = _ := fun ty => Lib.run_next_end_at wr w1.heap.size s s.size ty hit (by omega)
      have hWE := writeRune_any w0.heap.size w0.heap.size (Lib.byteCells acc) 39 (by omega) (by omega) wr hI (by rw [Lib.byteCells_length]; omega) hbw.size
      clear hfin hoe HF HA
      go_wp2_with fail
      refine hWE.mono ?_
      rintro e W1 ⟨⟨nn, rfl⟩, h1, b1, k1⟩
      have h1' : Bld w0.heap.size w0.heap.size (Lib.byteCells (acc ++ [(39 : Nat).toUInt8])) W1 := by rw [Lib.byteCells_append]; exact h1
      have hbW := hbw.trans b1
      have hST := string_any w0.heap.size w0.heap.size (acc ++ [(39 : Nat).toUInt8]) W1 h1' hbW.size
      rw [HF2.out] at hST
      clear hWE h1 h1' hI
      go_wp2_with (go_at_call 17; refine hST.mono ?_; rintro e W2 ⟨rfl, b2⟩)
      go_ret
      exact ⟨rfl, hB0.trans ((hbW.trans b2).mono hB0.size)⟩
set_option maxHeartbeats 4000000 in
set_option maxRecDepth 1000000 in
theorem reprI_b (s : ByteArray) (rs : List Nat) (w : World) (hrs : textOf s = some rs)
    (hK : Calls Tryz.prog 12 #[.string s] w fun e w' => e = .returned (.bool true) ∧ Below w.heap.size w w') (h39 : s.data.toList.contains 39 = true) (h34 : s.data.toList.contains 34 = true) :
    Calls Tryz.prog 6 #[.string s] w fun e w' => e = .returned (.string ⟨([(39 : Nat).toUInt8] ++ rs.flatMap (reprR 39) ++ [(39 : Nat).toUInt8]).toArray⟩) ∧ Below w.heap.size w w' := by
  obtain ⟨hs, he, hsc⟩ := text_scalars hrs
  have hsz : (encs rs).length = s.size := by rw [← he, ← size_eq]
  have hrl : rs.length ≤ 16384 := by have := encs_len rs hsc; omega
  have HE : Hid (s.data.toList = encs rs ∧ ∀ r ∈ rs, Scalar r) := ⟨he, hsc⟩
  obtain ⟨E, hE⟩ : ∃ E, ([(39 : Nat).toUInt8] ++ rs.flatMap (reprR 39) ++ [(39 : Nat).toUInt8]) = E := ⟨_, rfl⟩
  have HF : Hid ([(39 : Nat).toUInt8] ++ rs.flatMap (reprR 39) ++ [(39 : Nat).toUInt8] = E) := hE
  rw [hE]
  clear hrs he hsc hE
  go_enter Tryz.func6, Tryz.ntmps6
  go_wp2_with fail
  refine hK.mono ?_
  rintro e w0 ⟨rfl, hB0⟩
  clear hK
  go_wp2_with fail
  refine (has_any s 39 _).mono ?_
  rw [h39]
  rintro e w0 ⟨rfl, rfl⟩
  go_wp2_with fail
  refine (has_any s 34 _).mono ?_
  rw [h34]
  rintro e w0 ⟨rfl, rfl⟩
  try clear h39
  try clear h34
  have hW0 := writeRune_any w0.heap.size w0.heap.size [] 39 (by omega) (by omega) (w0.alloc (.cells #[.pointer none, .slice none 0 0] 42)) (Lib.IsBuilderF.of (Lib.fresh_isBuilder 42 5 w0)) (by simp) (by simp)
  go_wp2_with fail
  refine hW0.mono ?_
  rintro e w1 ⟨⟨n0, rfl⟩, hI1, hb1, ho1⟩
  have hbw1 := ((Below.refl _ w0).alloc (Nat.le_refl _) (.cells #[.pointer none, .slice none 0 0] 42)).trans hb1
  have hlt1 : w0.heap.size < w1.heap.size := by have := hb1.size; simp at this; omega
  clear hW0 hb1 ho1
  go_wp2_with fail
  go_loopw [] (fun wr => ∃ (k : Nat) (acc : List UInt8), k ≤ rs.length ∧ acc = [(39 : Nat).toUInt8] ++ (rs.take k).flatMap (reprR 39) ∧ acc.length ≤ 4 * k + 1 ∧ Bld w0.heap.size w0.heap.size (Lib.byteCells acc) wr ∧ wr.heap[w1.heap.size]? = some (.stringIter s (offOf rs k)) ∧ Below w0.heap.size w0 wr) (fun wr => s.size - wr.iterPos w1.heap.size)
  case atStart =>
    refine ⟨0, _, by omega, rfl, by simp, ?_, World.iter_heap w1 s 0, hbw1.alloc hbw1.size _⟩
    exact hI1.alloc _
  case round =>
    obtain ⟨k, acc, hk, hacc, hal, hI, hit, hbw⟩ := hrel
    have HA : Hid (acc = [(39 : Nat).toUInt8] ++ (rs.take k).flatMap (reprR 39)) := hacc
    clear hacc
    have hsz2 : w1.heap.size < wr.heap.size := (Array.getElem?_eq_some_iff.1 hit).1
    by_cases hp : k < rs.length
    · have hlt : offOf rs k < s.size := by rw [← hsz]; exact offOf_lt rs k hp HE.out.2
      have hnx0 := fun ty => Lib.run_next_any_at (P := Tryz.prog) wr w1.heap.size s (offOf rs k) ty hit hlt
      have hdec := decode_off s rs k HE.out.1 HE.out.2 hp
      have hof := offOf_succ rs k hp
      obtain ⟨c, hc⟩ : ∃ c, rs[k] = c := ⟨_, rfl⟩
      have hcs : Scalar c := by rw [← hc]; exact HE.out.2 _ (List.getElem_mem hp)
      have hkk1 := enc_pos c hcs
      have HN : Hid (acc ++ reprR 39 c = [(39 : Nat).toUInt8] ++ (rs.take (k + 1)).flatMap (reprR 39)) := by
        show _ = _
        rw [List.take_succ_eq_append_getElem hp, List.flatMap_append, hc, HA.out]; simp
      rw [hc] at hdec hof
      obtain ⟨kk, hkk⟩ : ∃ kk, (encodeRune ((c : Nat) : Int)).length = kk := ⟨_, rfl⟩
      rw [hkk] at hdec hof hkk1
      obtain ⟨o, ho⟩ : ∃ o, offOf rs k = o := ⟨_, rfl⟩
      rw [ho] at hnx0 hdec hof hit hlt
      simp only [hdec] at hnx0
      have hit2 := Lib.iterAt_heap wr w1.heap.size s o (o + kk) hit
      have hI2 := hI.iterAt hit (o + kk)
      have hbw2 := Lib.below_iterAt hbw (k := w1.heap.size) (by omega) s (o + kk)
      have hszn : (wr.iterAt w1.heap.size s (o + kk)).heap.size = wr.heap.size := Lib.iterAt_size _ _ _ _
      have HO : Hid (offOf rs (k + 1) = o + kk) := hof
      have hRR := fun W => runeRepr_any c 39 W hcs (by omega)
      have hrl4 := reprR_len 39 c
      obtain ⟨RR, hRRe⟩ : ∃ RR, reprR 39 c = RR := ⟨_, rfl⟩
      rw [hRRe] at hRR HN hrl4
      obtain ⟨cI, hcI⟩ : ∃ cI : Int, (c : Int) = cI := ⟨_, rfl⟩
      have hof2 : o + kk ≤ s.size := by rw [← hof, ← hsz]; exact offOf_le rs (k + 1)
      simp only [hcI] at hRR hnx0
      have hrs4 : (⟨RR.toArray⟩ : ByteArray).size ≤ 4 := by show RR.toArray.size ≤ 4; simpa using hrl4
      clear hdec hof hkk hc ho hcs hI hRRe hcI
      have hnx : ∀ ty, (Instr.next (.pointer (some ⟨w1.heap.size, 0, none⟩)) true ty).run Tryz.prog wr = _ := hnx0
      go_wp2_with (first
        | (go_at_call 16; refine (hRR _).mono ?_; rintro e W0 ⟨rfl, hh0, hb0⟩; have hI3 := bld_heap hI2 hh0; have hit3 : W0.heap[w1.heap.size]? = some (.stringIter s (o + kk)) := (by rw [hh0]; exact hit2); have hsz0 : W0.heap.size = wr.heap.size := (by rw [hh0]; exact hszn))
        | (go_at_call 15; refine (writeString_any w0.heap.size w0.heap.size _ _ _ hI3 (by rw [Lib.byteCells_length]; omega) (by omega)).mono ?_; rintro e W1 ⟨⟨nn, rfl⟩, h1, b1, k1⟩))
      have hit4 := k1.iter hit3 (by omega)
      go_roundw
      case rel =>
        refine ⟨k + 1, acc ++ RR, by omega, HN.out, by rw [List.length_append]; omega, ?_, by rw [HO.out]; exact hit4, (hbw2.trans (hb0.mono (by rw [hszn]; omega))).trans b1⟩
        rw [Lib.byteCells_append]; exact h1
      case measure =>
        simp only [World.iterPos, hit4, hit]
        omega
    · have hke : k = rs.length := by omega
      have hoe : offOf rs k = s.size := by rw [hke, offOf_all, hsz]
      have hfin := HF.out
      rw [← List.take_length (l := rs), ← hke, ← HA.out] at hfin
      have HF2 : Hid (acc ++ [(39 : Nat).toUInt8] = E) := hfin
      rw [hoe] at hit
      have hnx : ∀ ty, (Instr.next (.pointer (some ⟨w1.heap.size, 0, none⟩)) true ty).run Tryz.prog wr = _ := fun ty => Lib.run_next_end_at wr w1.heap.size s s.size ty hit (by omega)
      have hWE := writeRune_any w0.heap.size w0.heap.size (Lib.byteCells acc) 39 (by omega) (by omega) wr hI (by rw [Lib.byteCells_length]; omega) hbw.size
      clear hfin hoe HF HA
      go_wp2_with fail
      refine hWE.mono ?_
      rintro e W1 ⟨⟨nn, rfl⟩, h1, b1, k1⟩
      have h1' : Bld w0.heap.size w0.heap.size (Lib.byteCells (acc ++ [(39 : Nat).toUInt8])) W1 := by rw [Lib.byteCells_append]; exact h1
      have hbW := hbw.trans b1
      have hST := string_any w0.heap.size w0.heap.size (acc ++ [(39 : Nat).toUInt8]) W1 h1' hbW.size
      rw [HF2.out] at hST
      clear hWE h1 h1' hI
      go_wp2_with (go_at_call 17; refine hST.mono ?_; rintro e W2 ⟨rfl, b2⟩)
      go_ret
      exact ⟨rfl, hB0.trans ((hbW.trans b2).mono hB0.size)⟩
set_option maxHeartbeats 4000000 in
set_option maxRecDepth 1000000 in
theorem reprI_c (s : ByteArray) (rs : List Nat) (w : World) (hrs : textOf s = some rs)
    (hK : Calls Tryz.prog 12 #[.string s] w fun e w' => e = .returned (.bool true) ∧ Below w.heap.size w w') (h39 : s.data.toList.contains 39 = true) (h34 : s.data.toList.contains 34 = false) :
    Calls Tryz.prog 6 #[.string s] w fun e w' => e = .returned (.string ⟨([(34 : Nat).toUInt8] ++ rs.flatMap (reprR 34) ++ [(34 : Nat).toUInt8]).toArray⟩) ∧ Below w.heap.size w w' := by
  obtain ⟨hs, he, hsc⟩ := text_scalars hrs
  have hsz : (encs rs).length = s.size := by rw [← he, ← size_eq]
  have hrl : rs.length ≤ 16384 := by have := encs_len rs hsc; omega
  have HE : Hid (s.data.toList = encs rs ∧ ∀ r ∈ rs, Scalar r) := ⟨he, hsc⟩
  obtain ⟨E, hE⟩ : ∃ E, ([(34 : Nat).toUInt8] ++ rs.flatMap (reprR 34) ++ [(34 : Nat).toUInt8]) = E := ⟨_, rfl⟩
  have HF : Hid ([(34 : Nat).toUInt8] ++ rs.flatMap (reprR 34) ++ [(34 : Nat).toUInt8] = E) := hE
  rw [hE]
  clear hrs he hsc hE
  go_enter Tryz.func6, Tryz.ntmps6
  go_wp2_with fail
  refine hK.mono ?_
  rintro e w0 ⟨rfl, hB0⟩
  clear hK
  go_wp2_with fail
  refine (has_any s 39 _).mono ?_
  rw [h39]
  rintro e w0 ⟨rfl, rfl⟩
  go_wp2_with fail
  refine (has_any s 34 _).mono ?_
  rw [h34]
  rintro e w0 ⟨rfl, rfl⟩
  try clear h39
  try clear h34
  have hW0 := writeRune_any w0.heap.size w0.heap.size [] 34 (by omega) (by omega) (w0.alloc (.cells #[.pointer none, .slice none 0 0] 42)) (Lib.IsBuilderF.of (Lib.fresh_isBuilder 42 5 w0)) (by simp) (by simp)
  go_wp2_with fail
  refine hW0.mono ?_
  rintro e w1 ⟨⟨n0, rfl⟩, hI1, hb1, ho1⟩
  have hbw1 := ((Below.refl _ w0).alloc (Nat.le_refl _) (.cells #[.pointer none, .slice none 0 0] 42)).trans hb1
  have hlt1 : w0.heap.size < w1.heap.size := by have := hb1.size; simp at this; omega
  clear hW0 hb1 ho1
  go_wp2_with fail
  go_loopw [] (fun wr => ∃ (k : Nat) (acc : List UInt8), k ≤ rs.length ∧ acc = [(34 : Nat).toUInt8] ++ (rs.take k).flatMap (reprR 34) ∧ acc.length ≤ 4 * k + 1 ∧ Bld w0.heap.size w0.heap.size (Lib.byteCells acc) wr ∧ wr.heap[w1.heap.size]? = some (.stringIter s (offOf rs k)) ∧ Below w0.heap.size w0 wr) (fun wr => s.size - wr.iterPos w1.heap.size)
  case atStart =>
    refine ⟨0, _, by omega, rfl, by simp, ?_, World.iter_heap w1 s 0, hbw1.alloc hbw1.size _⟩
    exact hI1.alloc _
  case round =>
    obtain ⟨k, acc, hk, hacc, hal, hI, hit, hbw⟩ := hrel
    have HA : Hid (acc = [(34 : Nat).toUInt8] ++ (rs.take k).flatMap (reprR 34)) := hacc
    clear hacc
    have hsz2 : w1.heap.size < wr.heap.size := (Array.getElem?_eq_some_iff.1 hit).1
    by_cases hp : k < rs.length
    · have hlt : offOf rs k < s.size := by rw [← hsz]; exact offOf_lt rs k hp HE.out.2
      have hnx0 := fun ty => Lib.run_next_any_at (P := Tryz.prog) wr w1.heap.size s (offOf rs k) ty hit hlt
      have hdec := decode_off s rs k HE.out.1 HE.out.2 hp
      have hof := offOf_succ rs k hp
      obtain ⟨c, hc⟩ : ∃ c, rs[k] = c := ⟨_, rfl⟩
      have hcs : Scalar c := by rw [← hc]; exact HE.out.2 _ (List.getElem_mem hp)
      have hkk1 := enc_pos c hcs
      have HN : Hid (acc ++ reprR 34 c = [(34 : Nat).toUInt8] ++ (rs.take (k + 1)).flatMap (reprR 34)) := by
        show _ = _
        rw [List.take_succ_eq_append_getElem hp, List.flatMap_append, hc, HA.out]; simp
      rw [hc] at hdec hof
      obtain ⟨kk, hkk⟩ : ∃ kk, (encodeRune ((c : Nat) : Int)).length = kk := ⟨_, rfl⟩
      rw [hkk] at hdec hof hkk1
      obtain ⟨o, ho⟩ : ∃ o, offOf rs k = o := ⟨_, rfl⟩
      rw [ho] at hnx0 hdec hof hit hlt
      simp only [hdec] at hnx0
      have hit2 := Lib.iterAt_heap wr w1.heap.size s o (o + kk) hit
      have hI2 := hI.iterAt hit (o + kk)
      have hbw2 := Lib.below_iterAt hbw (k := w1.heap.size) (by omega) s (o + kk)
      have hszn : (wr.iterAt w1.heap.size s (o + kk)).heap.size = wr.heap.size := Lib.iterAt_size _ _ _ _
      have HO : Hid (offOf rs (k + 1) = o + kk) := hof
      have hRR := fun W => runeRepr_any c 34 W hcs (by omega)
      have hrl4 := reprR_len 34 c
      obtain ⟨RR, hRRe⟩ : ∃ RR, reprR 34 c = RR := ⟨_, rfl⟩
      rw [hRRe] at hRR HN hrl4
      obtain ⟨cI, hcI⟩ : ∃ cI : Int, (c : Int) = cI := ⟨_, rfl⟩
      have hof2 : o + kk ≤ s.size := by rw [← hof, ← hsz]; exact offOf_le rs (k + 1)
      simp only [hcI] at hRR hnx0
      have hrs4 : (⟨RR.toArray⟩ : ByteArray).size ≤ 4 := by show RR.toArray.size ≤ 4; simpa using hrl4
      clear hdec hof hkk hc ho hcs hI hRRe hcI
      have hnx : ∀ ty, (Instr.next (.pointer (some ⟨w1.heap.size, 0, none⟩)) true ty).run Tryz.prog wr = _ := hnx0
      go_wp2_with (first
        | (go_at_call 16; refine (hRR _).mono ?_; rintro e W0 ⟨rfl, hh0, hb0⟩; have hI3 := bld_heap hI2 hh0; have hit3 : W0.heap[w1.heap.size]? = some (.stringIter s (o + kk)) := (by rw [hh0]; exact hit2); have hsz0 : W0.heap.size = wr.heap.size := (by rw [hh0]; exact hszn))
        | (go_at_call 15; refine (writeString_any w0.heap.size w0.heap.size _ _ _ hI3 (by rw [Lib.byteCells_length]; omega) (by omega)).mono ?_; rintro e W1 ⟨⟨nn, rfl⟩, h1, b1, k1⟩))
      have hit4 := k1.iter hit3 (by omega)
      go_roundw
      case rel =>
        refine ⟨k + 1, acc ++ RR, by omega, HN.out, by rw [List.length_append]; omega, ?_, by rw [HO.out]; exact hit4, (hbw2.trans (hb0.mono (by rw [hszn]; omega))).trans b1⟩
        rw [Lib.byteCells_append]; exact h1
      case measure =>
        simp only [World.iterPos, hit4, hit]
        omega
    · have hke : k = rs.length := by omega
      have hoe : offOf rs k = s.size := by rw [hke, offOf_all, hsz]
      have hfin := HF.out
      rw [← List.take_length (l := rs), ← hke, ← HA.out] at hfin
      have HF2 : Hid (acc ++ [(34 : Nat).toUInt8] = E) := hfin
      rw [hoe] at hit
      have hnx : ∀ ty, (Instr.next (.pointer (some ⟨w1.heap.size, 0, none⟩)) true ty).run Tryz.prog wr = _ := fun ty => Lib.run_next_end_at wr w1.heap.size s s.size ty hit (by omega)
      have hWE := writeRune_any w0.heap.size w0.heap.size (Lib.byteCells acc) 34 (by omega) (by omega) wr hI (by rw [Lib.byteCells_length]; omega) hbw.size
      clear hfin hoe HF HA
      go_wp2_with fail
      refine hWE.mono ?_
      rintro e W1 ⟨⟨nn, rfl⟩, h1, b1, k1⟩
      have h1' : Bld w0.heap.size w0.heap.size (Lib.byteCells (acc ++ [(34 : Nat).toUInt8])) W1 := by rw [Lib.byteCells_append]; exact h1
      have hbW := hbw.trans b1
      have hST := string_any w0.heap.size w0.heap.size (acc ++ [(34 : Nat).toUInt8]) W1 h1' hbW.size
      rw [HF2.out] at hST
      clear hWE h1 h1' hI
      go_wp2_with (go_at_call 17; refine hST.mono ?_; rintro e W2 ⟨rfl, b2⟩)
      go_ret
      exact ⟨rfl, hB0.trans ((hbW.trans b2).mono hB0.size)⟩
end Go.Proofs.YtfoofbcfcekleaaGreatDoor
