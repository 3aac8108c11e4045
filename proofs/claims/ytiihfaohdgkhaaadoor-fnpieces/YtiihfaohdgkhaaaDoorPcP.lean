import Derived.Test.YtiihfaohdgkhaaaDoorFindT
import Derived.Test.YtiihfaohdgkhaaaDoorReplS
namespace Go.Proofs.YtiihfaohdgkhaaaDoor
open Go.RowKit Go.Lib
set_option linter.unusedVariables false
set_option linter.unusedSimpArgs false

theorem encs_prefix : ∀ (ts rs : List Nat) (tl : List UInt8), (∀ r ∈ ts, Scalar r) → (∀ r ∈ rs, Scalar r) → encs rs = encs ts ++ tl → ∃ rs', rs = ts ++ rs'
  | [], rs, _, _, _, _ => ⟨rs, rfl⟩
  | t :: ts, [], tl, h1, h2, h => by
    have := enc_pos t (h1 t (.head _))
    rw [encs_nil, encs_cons] at h
    have h3 := congrArg List.length h
    simp only [List.length_nil, List.length_append] at h3
    omega
  | t :: ts, r :: rs, tl, h1, h2, h => by
    rw [encs_cons, encs_cons, List.append_assoc] at h
    have e1 := decodeL_enc r (h2 r (.head _)) (encs rs)
    have e2 := decodeL_enc t (h1 t (.head _)) (encs ts ++ tl)
    rw [h, e2] at e1
    have hrt : t = r := by simpa using congrArg Prod.fst e1
    subst hrt
    have h4 := List.append_cancel_left h
    obtain ⟨rs', h5⟩ := encs_prefix ts rs tl (fun r hr => h1 r (.tail _ hr)) (fun r hr => h2 r (.tail _ hr)) h4
    exact ⟨rs', by rw [h5]; rfl⟩
theorem ext_data (s : ByteArray) (a b : Nat) : (s.extract a b).data.toList = (s.data.toList.take b).drop a := by
  rw [ByteArray.data_extract, Array.toList_extract, List.extract_eq_take_drop, List.drop_take]
theorem offOf_mono (rs : List Nat) {m n : Nat} (h : m ≤ n) : offOf rs m ≤ offOf rs n := by
  unfold offOf
  have e : rs.take m = (rs.take n).take m := by rw [List.take_take, Nat.min_eq_left h]
  rw [e]
  have := offOf_le (rs.take n) m
  unfold offOf at this
  exact this
theorem text_between {s : ByteArray} {rs : List Nat} (hs : textOf s = some rs) (m n : Nat) : (textOf (s.extract (offOf rs m) (offOf rs n))).isSome = true := by
  obtain ⟨h1, h2, h3⟩ := text_iff.1 hs
  have hsz : (s.extract (offOf rs m) (offOf rs n)).size ≤ 16384 := by rw [ByteArray.size_extract]; omega
  rcases Nat.le_total m n with h | h
  · have : textOf (s.extract (offOf rs m) (offOf rs n)) = some ((rs.take n).drop m) := by
      rw [text_iff]
      refine ⟨hsz, ?_, fun r hr => h3 r (List.mem_of_mem_take (List.mem_of_mem_drop hr))⟩
      rw [ext_data, h2, encs_take, ← encs_drop]
      congr 1
      unfold offOf
      rw [List.take_take, Nat.min_eq_left h]
    rw [this]; rfl
  · have : textOf (s.extract (offOf rs m) (offOf rs n)) = some [] := by
      rw [text_iff]
      refine ⟨hsz, ?_, fun r hr => by cases hr⟩
      rw [ext_data, List.drop_eq_nil_iff.2 ?_]
      · rfl
      · rw [List.length_take]
        have := offOf_mono rs h
        omega
    rw [this]; rfl
theorem find_none {x sep : ByteArray} (h : index x.data.toList sep.data.toList = -1) : findFrom x sep 0 = -1 := by
  unfold findFrom
  rw [List.drop_zero, h]
  rfl
theorem pieces_from {s sep : ByteArray} {rs ts : List Nat} (hs : textOf s = some rs) (ht : textOf sep = some ts) (h1 : 1 ≤ sep.size) : ∀ (k p m : Nat), s.size - p ≤ k → m ≤ rs.length → p = offOf rs m → ∀ x ∈ splitAll (s.extract p s.size) sep, (textOf x).isSome = true ∧ findFrom x sep 0 = -1 := by
  obtain ⟨hs1, hs2, hs3⟩ := text_iff.1 hs
  obtain ⟨ht1, ht2, ht3⟩ := text_iff.1 ht
  have hsz : (encs rs).length = s.size := by rw [← hs2, ← size_eq]
  have hts : (encs ts).length = sep.size := by rw [← ht2, ← size_eq]
  have hall : s.size = offOf rs rs.length := by rw [offOf_all, hsz]
  intro k
  induction k with
  | zero =>
    intro p m hk hm hp x hx
    have hps : p ≤ s.size := by rw [hp, ← hsz]; exact offOf_le rs m
    obtain rfl : p = s.size := by omega
    have hmiss : findFrom s sep s.size = -1 := by
      unfold findFrom
      rcases index_spec (s.data.toList.drop s.size) sep.data.toList with ⟨h, _⟩ | ⟨i, h, hi, ho, _⟩
      · rw [h]; rfl
      · have hr := index_room (s.data.toList.drop s.size) sep.data.toList (by rw [h]; omega)
        rw [h, List.length_drop, ← size_eq, ← size_eq] at hr
        omega
    rw [split_miss s sep s.size (Nat.le_refl _) hmiss] at hx
    simp only [List.mem_singleton] at hx
    subst hx
    refine ⟨by have := text_between hs rs.length rs.length; rwa [← hall] at this, find_none ?_⟩
    rw [ext_data]
    unfold findFrom at hmiss
    have e : (s.data.toList.take s.size).drop s.size = s.data.toList.drop s.size := by rw [List.take_of_length_le (by rw [← size_eq]; exact Nat.le_refl _)]
    rw [e]
    split at hmiss
    · have := index_ge (s.data.toList.drop s.size) sep.data.toList; omega
    · omega
  | succ k ih =>
    intro p m hk hm hp x hx
    have hps : p ≤ s.size := by rw [hp, ← hsz]; exact offOf_le rs m
    have etake : s.data.toList.take s.size = s.data.toList := List.take_of_length_le (by rw [← size_eq]; exact Nat.le_refl _)
    rcases findFrom_spec s sep p hps with hmiss | ⟨i, g1, g2, g3, g4⟩
    · rw [split_miss s sep p hps hmiss] at hx
      simp only [List.mem_singleton] at hx
      subst hx
      refine ⟨by have := text_between hs m rs.length; rwa [← hall, ← hp] at this, find_none ?_⟩
      rw [ext_data, etake]
      unfold findFrom at hmiss
      split at hmiss
      · have := index_ge (s.data.toList.drop p) sep.data.toList; omega
      · omega
    · rw [split_hit s sep p i hps h1 g1 g3] at hx
      obtain ⟨m', hm', hq'⟩ := find_boundary hs ht hm (q := p + i) (by rw [← hp]; exact g2)
      rcases List.mem_cons.1 hx with rfl | hx
      · refine ⟨by rw [hp, ← hp, hq', hp]; exact text_between hs m m', find_none ?_⟩
        rcases index_spec (s.extract p (p + i)).data.toList sep.data.toList with ⟨h, _⟩ | ⟨j, h, hj, ho, _⟩
        · exact h
        · exfalso
          have hr := index_room (s.extract p (p + i)).data.toList sep.data.toList (by rw [h]; omega)
          rw [h, ← size_eq, ← size_eq, ByteArray.size_extract] at hr
          have hji : j < i := by omega
          rcases index_spec (s.data.toList.drop p) sep.data.toList with ⟨e, _⟩ | ⟨i', e, _, _, hno⟩
          · rw [e] at g1; omega
          · rw [e] at g1
            obtain rfl : i' = i := by omega
            have hf := hno j hji
            have ht' : occAt (s.data.toList.drop p) sep.data.toList j = true := by
              unfold occAt at ho ⊢
              rw [List.isPrefixOf_iff_prefix] at ho ⊢
              rw [ext_data, List.drop_take, List.drop_take] at ho
              exact ho.trans (List.take_prefix _ _)
            rw [ht'] at hf
            cases hf
      · have hocc := g4
        have hpre : ∃ tl, encs (rs.drop m') = encs ts ++ tl := by
          unfold occAt at hocc
          rw [List.isPrefixOf_iff_prefix] at hocc
          obtain ⟨tl, htl⟩ := hocc
          exact ⟨tl, by rw [← ht2, htl, hs2, hq', encs_drop]⟩
        obtain ⟨tl, htl⟩ := hpre
        obtain ⟨rs', hrs'⟩ := encs_prefix ts (rs.drop m') tl ht3 (fun r hr => hs3 r (List.mem_of_mem_drop hr)) htl
        have hlen : m' + ts.length ≤ rs.length := by
          have := congrArg List.length hrs'
          rw [List.length_drop, List.length_append] at this
          omega
        have hoff : p + i + sep.size = offOf rs (m' + ts.length) := by
          unfold offOf
          rw [List.take_add, hrs', List.take_left', encs_append, List.length_append, hts]
          · unfold offOf at hq'; omega
          · rfl
        exact ih (p + i + sep.size) (m' + ts.length) (by omega) hlen hoff x hx
theorem pieces_ok {s sep : ByteArray} (hs : (textOf s).isSome = true) (ht : (textOf sep).isSome = true) (h1 : sep.size ≠ 0) : ∀ x ∈ splitAll s sep, (textOf x).isSome = true ∧ findAns x sep 0 = -1 := by
  obtain ⟨rs, hrs⟩ := Option.isSome_iff_exists.1 hs
  obtain ⟨ts, hts⟩ := Option.isSome_iff_exists.1 ht
  intro x hx
  have h := pieces_from hrs hts (by omega) s.size 0 0 (by omega) (Nat.zero_le _) rfl x (by
    rw [show s.extract 0 s.size = s from ByteArray.extract_zero_size]
    exact hx)
  refine ⟨h.1, ?_⟩
  obtain ⟨xs, hxs⟩ := Option.isSome_iff_exists.1 h.1
  unfold findAns
  rw [hxs]
  simp only [ht, true_and, Int.toNat_zero, offOf_zero, h.2]
  split
  · rfl
  · rfl
theorem pieces_join {s sep : ByteArray} (h1 : sep.size ≠ 0) : jn sep (splitAll s sep) = s.data.toList := by
  unfold jn splitAll
  rw [splitB_data, ← replaceK_join, replaceK_same]
theorem pieces_all {s sep : ByteArray} (hs : (textOf s).isSome = true) (ht : (textOf sep).isSome = true) (h1 : sep.size ≠ 0) : ((splitAll s sep).all fun x => (textOf x).isSome) = true := by
  rw [List.all_eq_true]
  exact fun x hx => (pieces_ok hs ht h1 x hx).1
end Go.Proofs.YtiihfaohdgkhaaaDoor
