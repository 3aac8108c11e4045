import Derived.Test.YtahcpgldpbejiaaGreatDoorFmC
import Derived.Test.YtahcpgldpbejiaaGreatDoorFmQ
namespace Go.Proofs.YtahcpgldpbejiaaGreatDoor
open Go.RowKit Go.Lib Go.Shelf
set_option linter.unusedVariables false
set_option linter.unusedSimpArgs false

theorem signsAl : Signs ⟨#[60, 62, 94, 61]⟩ isAl := signs_of [60, 62, 94, 61] (by decide) isAl (fun x => by unfold isAl; rw [Bool.eq_iff_iff]; simp [List.contains_cons, or_assoc])
theorem signsSg : Signs ⟨#[43, 32, 45]⟩ isSg := signs_of [43, 32, 45] (by decide) isSg (fun x => by unfold isSg; rw [Bool.eq_iff_iff]; simp [List.contains_cons, or_assoc])
theorem signs1 (k : Nat) (h : k < 128) : Signs ⟨#[k.toUInt8]⟩ (· == k) := signs_of [k] (by simpa using h) (· == k) (fun x => by rw [Bool.eq_iff_iff]; simp [List.contains_cons])
theorem cutL_ne (p : Nat → Bool) (c : List Nat) : (cutL p c).isEmpty = !hd p c := by
  cases c with
  | nil => rfl
  | cons x t => by_cases h : p x = true <;> simp [cutL, hd, h]
theorem cutL_sc {p : Nat → Bool} {c : List Nat} (hs : ∀ r ∈ c, Scalar r) : ∀ r ∈ cutL p c, Scalar r := by
  cases c with
  | nil => simp [cutL]
  | cons x t =>
    unfold cutL
    by_cases h : p x = true
    · simp only [h, if_true]; intro r hr; simp at hr; subst hr; exact hs _ (by simp)
    · simp [h]
/-- What cutAlign answers. -/
def alF (c : List Nat) : List Nat := (cutAl c).1.toList
def alL (c : List Nat) : List Nat := if (cutAl c).2.1 = 0 then [] else [(cutAl c).2.1]
theorem isAl_pos {x : Nat} (h : isAl x = true) : x ≠ 0 ∧ x < 128 := by
  unfold isAl at h; simp at h; omega
set_option maxHeartbeats 1000000 in
set_option maxRecDepth 100000 in
theorem cutAlign_any (c : List Nat) (w : World) (hs : ∀ r ∈ c, Scalar r) (hT : Tabs w) :
    Calls Tryz.prog 71 #[.string (tx c)] w fun e w' => e = .returned (.tuple #[.string (tx (alF c)), .string (tx (alL c)), .string (tx (r1 c))]) ∧ Below w.heap.size w w' := by
  have hD := Any.utf8_DecodeRuneInString Tryz.laysDec (tx c) w hT
  have hC1 := fun W => cutOneOf_any (c.drop 1) ⟨#[60, 62, 94, 61]⟩ isAl W (fun r hr => hs r (List.mem_of_mem_drop hr)) signsAl
  have hC2 := fun W => cutOneOf_any c ⟨#[60, 62, 94, 61]⟩ isAl W hs signsAl
  have hsc1 : ∀ r ∈ c.drop 1, Scalar r := fun r hr => hs r (List.mem_of_mem_drop hr)
  have hemp := tx_empty (cutL isAl (c.drop 1)) (cutL_sc hsc1)
  rw [cutL_ne] at hemp
  obtain ⟨k1, k2⟩ := tx_cut c 1
  obtain ⟨n, hn⟩ : ∃ n, (encs (c.take 1)).length = n := ⟨_, rfl⟩
  have hdn : (Lib.decodeGo (tx c)).2 = n := by
    unfold Lib.decodeGo
    cases c with
    | nil => rw [if_pos (show (tx []).size = 0 from rfl), ← hn]; rfl
    | cons x t =>
      have hx := hs x (by simp)
      have hp : 0 < (tx (x :: t)).size := by rw [tx_size, encs_cons, List.length_append]; have := enc_pos x hx; omega
      rw [if_neg (by omega), ← decodeL_drop, List.drop_zero, tx_data, encs_cons, decodeL_enc x hx, ← hn]
      simp [encs_cons, encs_nil]
  have hnz : (n : Int) ≤ ((tx c).size : Int) := by
    rw [tx_size, ← hn]
    have := offOf_le c 1
    unfold offOf at this
    omega
  rw [hn] at k1 k2
  rw [hdn] at hD
  cases hA : hd isAl (c.drop 1) with
  | true =>
    obtain ⟨x, y, t, rfl⟩ : ∃ x y t, c = x :: y :: t := by
      rcases sh2 c with rfl | ⟨x, rfl⟩ | ⟨x, y, t, rfl⟩
      · cases hA
      · cases hA
      · exact ⟨x, y, t, rfl⟩
    have hy : isAl y = true := hA
    rw [hA] at hemp
    have e1 : alF (x :: y :: t) = [x] := by simp [alF, cutAl, hy]
    have e2 : alL (x :: y :: t) = [y] := by simp [alL, cutAl, hy, (isAl_pos hy).1]
    have e3 : r1 (x :: y :: t) = t := by simp [r1, cutAl, hy]
    have e4 : cutL isAl ((x :: y :: t).drop 1) = [y] := by simp [cutL, hy]
    have e5 : (cutO isAl ((x :: y :: t).drop 1)).2 = t := by simp [cutO, hy]
    rw [e1, e2, e3]
    rw [e4] at hemp hC1
    rw [e5] at hC1
    rw [show (x :: y :: t).take 1 = [x] from rfl] at k1
    generalize tx (x :: y :: t) = T at *
    generalize tx ((x :: y :: t).drop 1) = T1 at *
    generalize tx [x] = X at *
    generalize tx [y] = Y at *
    generalize tx t = R at *
    generalize (Lib.decodeGo T).1 = D at hD
    rw [show (!true) = false from rfl] at hemp
    clear e1 e2 e3 e4 e5 hn hdn hC2 hA hy hsc1 hs
    go_enter Tryz.func71, Tryz.ntmps71
    go_wp2_with (first
      | (go_at_call 91; refine hD.mono ?_; rintro e w1 ⟨rfl, hB1⟩)
      | (go_at_call 72; refine (hC1 _).mono ?_; rintro e w2 ⟨rfl, hB2⟩))
    go_ret3
    exact ⟨rfl, hB1.trans (hB2.mono hB1.size)⟩
  | false =>
    have e4 : cutL isAl (c.drop 1) = [] := by
      have := cutL_ne isAl (c.drop 1)
      rw [hA] at this
      simpa using this
    have e1 : alF c = [] := by
      rcases sh2 c with rfl | ⟨x, rfl⟩ | ⟨x, y, t, rfl⟩
      · rfl
      · by_cases h : isAl x = true <;> simp [alF, cutAl, h]
      · have hy : isAl y = false := hA
        by_cases h : isAl x = true <;> simp [alF, cutAl, h, hy]
    have e2 : alL c = cutL isAl c := by
      rcases sh2 c with rfl | ⟨x, rfl⟩ | ⟨x, y, t, rfl⟩
      · rfl
      · by_cases h : isAl x = true
        · simp [alL, cutAl, cutL, h, (isAl_pos h).1]
        · simp [alL, cutAl, cutL, h]
      · have hy : isAl y = false := hA
        by_cases h : isAl x = true
        · simp [alL, cutAl, cutL, h, hy, (isAl_pos h).1]
        · simp [alL, cutAl, cutL, h, hy]
    have e3 : r1 c = (cutO isAl c).2 := by
      rcases sh2 c with rfl | ⟨x, rfl⟩ | ⟨x, y, t, rfl⟩
      · rfl
      · by_cases h : isAl x = true <;> simp [r1, cutAl, cutO, h]
      · have hy : isAl y = false := hA
        by_cases h : isAl x = true <;> simp [r1, cutAl, cutO, h, hy]
    rw [e1, e2, e3, show tx [] = ⟨#[]⟩ from rfl]
    rw [e4, hA] at hemp
    rw [e4] at hC1
    rw [show tx [] = ⟨#[]⟩ from rfl] at hC1 hemp
    generalize tx (cutO isAl (c.drop 1)).2 = R1 at *
    generalize tx (c.drop 1) = T1 at *
    generalize tx (cutL isAl c) = Y at *
    generalize tx (cutO isAl c).2 = R at *
    generalize tx (c.take 1) = X at *
    generalize tx c = T at *
    generalize (Lib.decodeGo T).1 = D at hD
    clear e1 e2 e3 e4 hn hdn hA hsc1 hs
    go_enter Tryz.func71, Tryz.ntmps71
    go_wp2_with (first
      | (go_at_call 91; refine hD.mono ?_; rintro e w1 ⟨rfl, hB1⟩)
      | (go_at_call_of 72 (Value.string T); refine (hC2 _).mono ?_; rintro e w3 ⟨rfl, hB3⟩)
      | (go_at_call 72; refine (hC1 _).mono ?_; rintro e w2 ⟨rfl, hB2⟩))
    go_ret3
    exact ⟨rfl, hB1.trans ((hB2.trans (hB3.mono hB2.size)).mono hB1.size)⟩
theorem digs_lead (c : List Nat) (hs : ∀ r ∈ c, Scalar r) : trimLeftS (encs c) [48, 49, 50, 51, 52, 53, 54, 55, 56, 57] = encs (c.dropWhile isDg) := by
  have hS := signs_of [48, 49, 50, 51, 52, 53, 54, 55, 56, 57] (by decide) isDg (fun x => by
    unfold isDg
    rw [Bool.eq_iff_iff]
    simp only [Bool.and_eq_true, decide_eq_true_eq, List.contains_iff_mem, List.mem_cons, List.not_mem_nil, or_false]
    omega)
  obtain ⟨h1, h2, h3⟩ := hS
  have h1' : ∀ x, x < 128 → ([48, 49, 50, 51, 52, 53, 54, 55, 56, 57] : List UInt8).contains x.toUInt8 = isDg x := h1
  have h2' : ∀ b : UInt8, 128 ≤ b.toNat → ([48, 49, 50, 51, 52, 53, 54, 55, 56, 57] : List UInt8).contains b = false := h2
  unfold trimLeftS
  induction c with
  | nil => rfl
  | cons x t ih =>
    by_cases hx : x < 128
    · rw [encs_cons, enc1 x hx, List.singleton_append, List.dropWhile_cons, List.dropWhile_cons, h1' x hx]
      cases isDg x
      · simp only [Bool.false_eq_true, if_false]
        rw [encs_cons, enc1 x hx]; rfl
      · simp only [if_true]
        exact ih (fun r hr => hs r (by simp [hr]))
    · obtain ⟨b, tl, e, hb⟩ := enc_hi x (hs x (by simp)) hx
      rw [encs_cons, e, List.cons_append, List.dropWhile_cons, List.dropWhile_cons, h2' b (by omega), h3 x hx]
      simp only [Bool.false_eq_true, if_false]
      rw [encs_cons, e]; rfl
theorem cutD_take : ∀ (m : Nat) (c : List Nat), (cutD m c).1 = c.take (min ((c.takeWhile isDg).length) m) ∧ (cutD m c).2 = c.drop (min ((c.takeWhile isDg).length) m) := by
  intro m
  induction m with
  | zero => intro c; simp [cutD]
  | succ m ih =>
    intro c
    cases c with
    | nil => simp [cutD]
    | cons x t =>
      rw [cutD, List.takeWhile_cons]
      cases isDg x
      · simp
      · simp only [if_true, List.length_cons]
        rw [Nat.succ_min_succ, List.take_succ_cons, List.drop_succ_cons, (ih t).1, (ih t).2]
        exact ⟨rfl, rfl⟩
theorem tw_all (p : Nat → Bool) : ∀ (l : List Nat), (∀ x ∈ l.takeWhile p, p x = true) ∧ (l.takeWhile p).length ≤ l.length := by
  intro l
  induction l with
  | nil => simp
  | cons x t ih =>
    rw [List.takeWhile_cons]
    cases h : p x
    · simp
    · simp only [if_true]
      refine ⟨fun y hy => ?_, by simp; exact ih.2⟩
      rcases List.mem_cons.1 hy with rfl | h2
      · exact h
      · exact ih.1 y h2
theorem digs_len {l : List Nat} (h : ∀ x ∈ l, isDg x = true) : (encs l).length = l.length := by
  induction l with
  | nil => rfl
  | cons x t ih =>
    have hx : x < 128 := by
      have := h x (by simp)
      unfold isDg at this; simp at this; omega
    rw [encs_cons, enc1 x hx, List.length_append, ih (fun y hy => h y (by simp [hy]))]
    simp; omega
set_option maxHeartbeats 1000000 in
set_option maxRecDepth 100000 in
theorem cutDigits_any (c : List Nat) (m : Nat) (w : World) (hs : ∀ r ∈ c, Scalar r) (hl : (encs c).length ≤ 16384) (hm : m ≤ 9) :
    Calls Tryz.prog 73 #[.string (tx c), .int .i64 m] w fun e w' => e = .returned (.tuple #[.string (tx (cutD m c).1), .string (tx (cutD m c).2)]) ∧ Below w.heap.size w w' := by
  have hTL := Any.strings_TrimLeft_laid Tryz.laysTL (by kernel_rfl) (tx c) ⟨#[48, 49, 50, 51, 52, 53, 54, 55, 56, 57]⟩ w (by decide) (by
    intro j b hj
    have hb : b ∈ ([48, 49, 50, 51, 52, 53, 54, 55, 56, 57] : List UInt8) := List.mem_of_getElem? hj
    simp only [List.mem_cons, List.not_mem_nil, or_false] at hb
    rcases hb with rfl | rfl | rfl | rfl | rfl | rfl | rfl | rfl | rfl | rfl <;> decide)
  rw [tx_data, show (⟨#[48, 49, 50, 51, 52, 53, 54, 55, 56, 57]⟩ : ByteArray).data.toList = [48, 49, 50, 51, 52, 53, 54, 55, 56, 57] from rfl, digs_lead c hs] at hTL
  obtain ⟨D, hD⟩ : ∃ D, (c.takeWhile isDg).length = D := ⟨_, rfl⟩
  obtain ⟨g1, g2⟩ := cutD_take m c
  rw [hD] at g1 g2
  have hsum : (encs c).length = D + (encs (c.dropWhile isDg)).length := by
    have h1 : (encs (c.takeWhile isDg)).length = D := by rw [digs_len (tw_all isDg c).1, hD]
    have h2 : encs c = encs (c.takeWhile isDg) ++ encs (c.dropWhile isDg) := by rw [← encs_append, List.takeWhile_append_dropWhile]
    rw [h2, List.length_append, h1]
  obtain ⟨k1, k2⟩ := tx_cut c (min D m)
  have hml : (encs (c.take (min D m))).length = min D m := by
    have h3 : ∀ x ∈ c.take (min D m), isDg x = true := fun x hx => by rw [← g1] at hx; exact cutD_dig m c x hx
    rw [digs_len h3, List.length_take]
    have : D ≤ c.length := by rw [← hD]; exact (tw_all isDg c).2
    omega
  rw [hml, ← g1] at k1
  rw [hml, ← g2] at k2
  obtain ⟨mm, hmm⟩ : ∃ mm : Nat, min D m = mm := ⟨_, rfl⟩
  rw [hmm] at k1 k2
  obtain ⟨T2, hT2⟩ : ∃ T2 : ByteArray, (⟨(encs (c.dropWhile isDg)).toArray⟩ : ByteArray) = T2 := ⟨_, rfl⟩
  have hs2 : T2.size = (encs (c.dropWhile isDg)).length := by rw [← hT2]; show (encs (c.dropWhile isDg)).toArray.size = _; simp
  rw [hT2] at hTL
  have hsz := tx_size c
  have hw : IntKind.i64.wrap (((tx c).size : Int) - (T2.size : Int)) = (D : Int) := by
    rw [show ((tx c).size : Int) - (T2.size : Int) = (D : Int) by omega]
    simp [IntKind.wrap, IntKind.bits, IntKind.signed]; omega
  have hmin : min (D : Int) (m : Int) = (mm : Int) := by omega
  have hmz : (mm : Int) ≤ ((tx c).size : Int) := by omega
  generalize tx (cutD m c).1 = A1 at *
  generalize tx (cutD m c).2 = A2 at *
  generalize tx c = T at *
  clear g1 g2 hsum hml hD hmm hT2 hs2 hsz hs hl
  go_enter Tryz.func73, Tryz.ntmps73
  go_wp2_with (go_at_call 68; refine hTL.mono ?_; rintro e w1 ⟨rfl, hB1⟩)
  go_quiet (fail)
  go_wp2
  go_ret2
  exact ⟨rfl, hB1.trans ⟨rfl, rfl, rfl, Nat.le_refl _, fun _ _ => rfl⟩⟩
/-- The variable of a syntax error holds a value. -/
def ErrF (w : World) : Prop := ∃ ev, w.cell? ⟨Tryz.laysAtoi_ren.g 15, 0, none⟩ = some ev ∧ (ev = .nilIface ∨ ∃ te pe, ev = .iface te pe)
theorem ErrF.below {w w' : World} (h : ErrF w) (hb : Below w.heap.size w w') : ErrF w' := by
  obtain ⟨ev, h1, h2⟩ := h
  refine ⟨ev, (hb.cell (p := ⟨_, 0, none⟩) ?_).trans h1, h2⟩
  rcases Nat.lt_or_ge (Tryz.laysAtoi_ren.g 15) w.heap.size with h' | h'
  · exact h'
  · exfalso
    unfold World.cell? at h1
    simp [Array.getElem?_eq_none h'] at h1
theorem decFrom_nv : ∀ (ds : List Nat) (n : Nat), (∀ x ∈ ds, isDg x = true) → decFrom n (encs ds) = some (nvF n ds) := by
  intro ds
  induction ds with
  | nil => intro n _; rfl
  | cons d ds ih =>
    intro n h
    have hd := h d (by simp)
    unfold isDg at hd
    simp only [Bool.and_eq_true, decide_eq_true_eq] at hd
    rw [encs_cons, enc1 d (by omega), List.singleton_append, decFrom]
    have : digitVal d.toUInt8 = some (d - 48) := by unfold digitVal; rw [byte_nat (by omega), if_pos hd]
    rw [this]
    simp only
    rw [ih _ (fun x hx => h x (by simp [hx])), nvF_cons]
/-- The number of some digits, or instead. -/
def numOr (ds : List Nat) (i : Int) : Int := if ds.isEmpty then i else (nv ds : Int)
set_option maxHeartbeats 1000000 in
set_option maxRecDepth 100000 in
theorem numberOr_any (ds : List Nat) (i : Int) (w : World) (hd : ∀ x ∈ ds, isDg x = true) (hl : ds.length ≤ 9) (hE : ErrF w) :
    Calls Tryz.prog 52 #[.string (tx ds), .int .i64 i] w fun e w' => e = .returned (.int .i64 (numOr ds i)) ∧ Below w.heap.size w w' := by
  unfold numOr
  cases ds with
  | nil =>
    obtain ⟨ev, h1, h2⟩ := hE
    have hA := Any.strconv_Atoi_syntax Tryz.laysAtoi (tx []) (by decide) rfl ev w h1 h2
    rw [show ([] : List Nat).isEmpty = true from rfl, if_pos rfl]
    generalize tx [] = T at *
    go_enter Tryz.func52, Tryz.ntmps52
    go_wp2_with (go_at_call 76; refine hA.mono ?_; rintro e w1 ⟨N, rfl, _, _, hB1⟩)
    go_ret
    exact ⟨rfl, hB1⟩
  | cons d ds =>
    have hdd := hd d (by simp)
    unfold isDg at hdd
    simp only [Bool.and_eq_true, decide_eq_true_eq] at hdd
    have hsz : (tx (d :: ds)).size ≤ 9 := by rw [tx_size, digs_len hd]; exact hl
    have hat : Lib.atoiAll (tx (d :: ds)).data.toList = .ok (nv (d :: ds) : Int) := by
      rw [tx_data, Lib.atoiAll_short _ (by rw [digs_len hd]; omega)]
      have h0 := decFrom_nv (d :: ds) 0 hd
      rw [encs_cons, enc1 d (by omega), List.singleton_append] at h0 ⊢
      unfold Lib.atoi
      have n1 : ¬ (d.toUInt8 == 45) = true := by
        rw [beq_iff_eq]; intro e
        have := congrArg UInt8.toNat e
        rw [byte_nat (by omega)] at this
        have h45 : (45 : UInt8).toNat = 45 := rfl
        omega
      have n2 : ¬ (d.toUInt8 == 43) = true := by
        rw [beq_iff_eq]; intro e
        have := congrArg UInt8.toNat e
        rw [byte_nat (by omega)] at this
        have h43 : (43 : UInt8).toNat = 43 := rfl
        omega
      simp only
      rw [if_neg n1, if_neg n2]
      unfold Lib.decNat
      rw [if_neg (by simp), h0]
      rfl
    have hA := Any.strconv_Atoi_ok Tryz.laysAtoi (tx (d :: ds)) (by omega) _ hat w
    rw [show (d :: ds).isEmpty = false from rfl, if_neg (by decide)]
    generalize (nv (d :: ds) : Int) = V at *
    generalize tx (d :: ds) = T at *
    clear hd hdd hat hsz
    go_enter Tryz.func52, Tryz.ntmps52
    go_wp2_with (go_at_call 76; refine hA.mono ?_; rintro e w1 ⟨rfl, hW⟩)
    go_ret
    refine ⟨rfl, ?_⟩
    rcases hW with rfl | ⟨t, rfl⟩
    · exact Below.refl _ _
    · exact Lib.bytesWorld_below _ _ _
end Go.Proofs.YtahcpgldpbejiaaGreatDoor
