import Derived.Test.YtfbibbjiomfncaaMrZ
import Derived.Lib.SliceRun
import Derived.Deep.Cut
namespace Go.Proofs.Ytfbibbjiomfncaa
open Go.RowKit Go.Maps
set_option linter.unusedVariables false
set_option linter.unusedSimpArgs false

theorem OwnG.upto {α : Type} {S : Sh α} {T : TypeId} {w : World} {B g n cap : Nat} {xs : List α} (h : OwnG S T w B (.slice (some ⟨g, 0, none⟩) n cap) xs) (i : Nat) (hi : i ≤ xs.length) : OwnG S T w B (.slice (some ⟨g, 0, none⟩) i cap) (xs.take i) := by
  obtain ⟨⟨h1, h2⟩, hl, hz⟩ := h
  have hlen : (xs.take i).length = i := by simp; omega
  refine ⟨⟨by rw [flat_length], ?_⟩, by omega, fun x hx => hz x (List.mem_of_mem_take hx)⟩
  rcases h2 with ⟨e, _⟩ | ⟨g', cap', cur, e, hg, hh, hc, hm, hs, ht⟩
  · cases e
  · simp at e
    obtain ⟨rfl, rfl, rfl⟩ := e
    refine .inr ⟨g, cap, cur, by rw [hlen], hg, hh, by omega, hm, hs, ?_⟩
    have e1 : ((xs.take i).flatMap S.cs) = (xs.flatMap S.cs).take (i * S.n) := by
      have e2 : xs.flatMap S.cs = (xs.take i).flatMap S.cs ++ (xs.drop i).flatMap S.cs := by rw [← List.flatMap_append, List.take_append_drop]
      rw [e2, List.take_append_of_le_length (by rw [flat_length, hlen]; exact Nat.le_refl _)]
      exact (List.take_of_length_le (by rw [flat_length, hlen]; exact Nat.le_refl _)).symm
    rw [hlen, e1, ← ht, List.take_take, Nat.min_eq_left (Nat.mul_le_mul_right _ hi)]
theorem drop_next {α : Type} (L : List α) (J : Nat) : L.drop (J + 1) = (L.drop J).drop 1 := by rw [List.drop_drop]
theorem gb_cells (g : Nat) : ∀ (vs : List Value) (w : World) (o : Nat), w.grownBy (w.setCells g o vs) (some g)
  | [], w, o => World.grownBy.refl _ _
  | v :: r, w, o => gb_trans (gb_set w g o v) (gb_cells g r _ _)
theorem LL.upto {P : Nat → Prop} {w : World} {B g n cap : Nat} {Ls : List (List Int)} (h : LL P w B g n cap Ls) (i : Nat) (hi : i ≤ Ls.length) : LL P w B g i cap (Ls.take i) := by
  obtain ⟨sls, hO, hl, hR⟩ := h
  refine ⟨sls.take i, hO.upto i (by omega), by simp; omega, fun k hk hk' => ?_⟩
  rw [List.getElem_take, List.getElem_take]
  exact hR k (by simp at hk; omega) (by simp at hk'; omega)
theorem RdX.none {P : Nat → Prop} (w : World) : RdX P w (.slice none 0 0) [] :=
  ⟨⟨_, 0, rfl, by simp, Limbs.nil, ⟨Nat.le_refl _, fun _ => rfl⟩, fun h => by simp at h⟩, fun h => by simp at h⟩
/-- Several inner rows are made empty. -/
theorem LL.wipe {P : Nat → Prop} {B g n cap : Nat} (hP : ¬ P g) : ∀ (m : Nat) (w : World) (Ls : List (List Int)) (i : Nat), LL P w B g n cap Ls → i + m ≤ Ls.length →
    LL P (w.setCells g i (List.replicate m (.slice none 0 0))) B g n cap (Ls.take i ++ List.replicate m [] ++ Ls.drop (i + m))
  | 0, w, Ls, i, h, _ => by simpa [World.setCells] using h
  | m + 1, w, Ls, i, h, hl => by
    have h1 := LL.put h hP i (by omega) none 0 0 [] (RdX.none w)
    have h2 := LL.wipe hP m _ (Ls.set i []) (i + 1) h1 (by simp; omega)
    have e2 : (Ls.set i []).take (i + 1) ++ List.replicate m [] ++ (Ls.set i []).drop (i + 1 + m) = Ls.take i ++ List.replicate (m + 1) [] ++ Ls.drop (i + (m + 1)) := by
      rw [List.take_succ_eq_append_getElem (by simp; omega), List.getElem_set_self, List.take_set_of_le (by omega), List.drop_set_of_lt (by omega), List.replicate_succ, show i + 1 + m = i + (m + 1) by omega]
      simp
    rw [e2] at h2
    exact h2
theorem zero_cellsL (n : Nat) : (Builtin.zeroCells (Value.slice none 0 0).cells n).toList = List.replicate n (.slice none 0 0) := by
  have e : (Value.slice none 0 0).cells = #[.slice none 0 0] := rfl
  rw [e]
  unfold Builtin.zeroCells
  simp only [Array.toList_map, Array.toList_range]
  show (List.range (n * 1)).map (fun i => (#[Value.slice none 0 0] : Array Value)[i % 1]!) = _
  induction n with
  | zero => rfl
  | succ n ih =>
    rw [Nat.succ_mul, List.range_add, List.map_append, ih, List.replicate_succ']
    congr 1
    simp [List.range_succ, Nat.mod_one]
/-- 'clear(s[i:])' of an owned row of rows. -/
theorem run_clear_L (w : World) (ty : TypeId) (g i m c : Nat) (hm : 0 < m) (hc : ∀ j, j < m → (w.cell? ⟨g, i + j, none⟩).isSome = true) (hf : ∀ j, j < m → w.frozen? ⟨g, i + j, none⟩ = false) :
    (Builtin.clear_ #[29] ty #[.slice (some ⟨g, i, none⟩) m c]).run Try.prog w = .ok (.tuple #[]) (w.setCells g i (List.replicate m (.slice none 0 0))) := by
  have hst := run_storeCells_cells (P := Try.prog) g i (List.replicate m (Value.slice none 0 0)) 0 w (by simpa using hc) (by simpa using hf) (by
    intro v hv
    obtain rfl := List.eq_of_mem_replicate hv
    rfl)
  simp only [Nat.add_zero] at hst
  obtain ⟨k, rfl⟩ : ∃ k, m = k + 1 := ⟨m - 1, by omega⟩
  have hz : (Builtin.zeroCells (Value.slice none 0 0).cells (k + 1)).toList = _ := zero_cellsL (k + 1)
  simp [Builtin.clear_, run_underlying Try.underlying29]
  rw [hz, hst]
  rfl
theorem full_take (Ls : List (List Int)) (J : Nat) (hJ : J < Ls.length) : full (Ls.take (J + 1)) = full (Ls.take J) ++ (if Ls[J] = [] then [] else [Ls[J]]) := by
  unfold full
  rw [List.take_succ_eq_append_getElem hJ, List.filter_append]
  cases h : Ls[J] <;> simp [h]
theorem full_self {Ls : List (List Int)} (h : NoE Ls) : full Ls = Ls := List.filter_eq_self.2 (fun x hx => by have := h x hx; cases x <;> simp_all)

set_option maxRecDepth 100000 in
set_option maxHeartbeats 1000000 in
theorem deleteL_any (P : Nat → Prop) (B g cap : Nat) (Ls : List (List Int)) (w : World) (hP : ¬ P g) (hO : LL P w B g Ls.length cap Ls) :
    Calls Try.prog 78 #[.slice (some ⟨g, 0, none⟩) Ls.length cap, .func (.func 79) #[] #[]] w fun e w' => e = .returned (.slice (some ⟨g, 0, none⟩) (full Ls).length cap) ∧ LL P w' B g (full Ls).length cap (full Ls) ∧ w.grownBy w' (some g) := by
  have hRL : RL w (.slice (some ⟨g, 0, none⟩) Ls.length cap) Ls := by
    obtain ⟨sls, h1, h2, h3⟩ := hO
    exact ⟨sls, h1.rd, h2, fun k h h' => (h3 k h h').1⟩
  have hlen := hRL.max
  go_enter Try.func78, Try.ntmps78
  go_wp2_with fail
  refine (indexE_any _ _ Ls _ hRL).mono ?_
  rintro e w1 ⟨h1, hw1⟩
  have hw1' := hw1.symm
  subst hw1'
  rcases h1 with ⟨rfl, hA⟩ | ⟨i0, hi0, rfl, hgi, hA⟩
  · have hf := full_self hA
    go_wp2
    go_ret
    rw [hf]
    exact ⟨rfl, hO, World.grownBy.refl _ _⟩
  · have hf0 : full (Ls.take (i0 + 1)) = Ls.take i0 := by
      rw [full_take Ls i0 hi0, if_pos hgi, full_self hA, List.append_nil]
    have hE0 : ((i0 : Int) == -1) = false := by simp
    have HO := hO
    go_wp2_with fail
    go_loopw [5, 6] (fun i j wr => ∃ (I J : Nat) (L : List (List Int)), i = .int .i64 I ∧ j = .int .i64 J ∧ J ≤ Ls.length ∧ I < J ∧ L.length = Ls.length ∧ Hid (L.take I = full (Ls.take J)) ∧ Hid (L.drop J = Ls.drop J) ∧ LL P wr B g Ls.length cap L ∧ w.grownBy wr (some g)) (fun _ j _ => Ls.length - (intOf j).toNat)
    case atStart => exact ⟨i0, i0 + 1, Ls, rfl, by go_num, by omega, by omega, rfl, hf0.symm, rfl, hO, World.grownBy.refl _ _⟩
    case round =>
      obtain ⟨I, J, L, rfl, rfl, hJ, hIJ, hL, hHT, hHD, hOr, hgr⟩ := hrel
      generalize wr = W1 at *
      have hsr := hgr.size
      by_cases hlt : J < Ls.length
      · have hJL : J < L.length := by omega
        have hIL : I < L.length := by omega
        have hlti : (J : Int) < (Ls.length : Int) := by omega
        have hEJ : L[J] = Ls[J] := by
          have h1 := List.drop_eq_getElem_cons hJL
          have h2 := List.drop_eq_getElem_cons hlt
          rw [hHD.out, h2] at h1
          exact (List.cons.inj h1).1.symm
        obtain ⟨ja, jc, d0, hRj⟩ := hOr.at J hJL
        obtain ⟨ia, ic, d1, hRi⟩ := hOr.at I hIL
        have z0 := hOr.frozen I
        have hfl := full_take Ls J hlt
        rw [← hEJ] at hfl
        have hfH : Hid _ := hfl
        have hput := LL.put hOr hP I hIL ja L[J].length jc L[J] hRj
        have hgp := gb_trans hgr (gb_set W1 g I (.slice ja L[J].length jc))
        have HEJ : Hid (L[J] = L[J]) := rfl
        have hnilJ : L[J].length = 0 ↔ L[J] = [] := List.length_eq_zero_iff
        have HN : Hid (L[J].length = 0 ↔ L[J] = []) := hnilJ
        clear hnilJ hEJ hfl hRi
        generalize L[I].length = LI at d1
        obtain ⟨LJ, hLJ⟩ : ∃ LJ, L[J].length = LJ := ⟨_, rfl⟩
        have HLJ : Hid (L[J].length = LJ) := hLJ
        rw [hLJ] at d0 hput hgp
        clear hLJ
        go_wp2_with fail
        refine (emptyF_any _ _ _ _).mono ?_
        rintro e w2 ⟨rfl, hw2⟩
        have hw2' := hw2.symm
        subst hw2'
        by_cases h0 : LJ = 0
        · have hnil : L[J] = [] := HN.out.mp (by rw [HLJ.out]; exact h0)
          rw [decide_eq_true h0]
          go_wp2_with fail
          go_roundw
          case rel =>
            refine ⟨I, J + 1, L, rfl, by go_num, by omega, by omega, hL, ?_, ?_, hOr, hgr⟩
            · show L.take I = _
              rw [hfH.out, if_pos hnil, ← hHT.out, List.append_nil]
            · show L.drop (J + 1) = _
              rw [drop_next L J, drop_next Ls J, hHD.out]
          case measure => simp [intOf]; omega
        · have hnil : ¬ L[J] = [] := fun h => h0 (by rw [← HLJ.out]; exact HN.out.mpr h)
          rw [decide_eq_false h0]
          go_wp2_with fail
          go_roundw
          case rel =>
            refine ⟨I + 1, J + 1, L.set I L[J], by go_num, by go_num, by omega, by omega, by simpa using hL, ?_, ?_, hput, hgp⟩
            · show (L.set I L[J]).take (I + 1) = _
              rw [hfH.out, if_neg hnil, ← hHT.out, List.take_succ_eq_append_getElem (by simp; omega), List.getElem_set_self, List.take_set_of_le (Nat.le_refl _)]
            · show (L.set I L[J]).drop (J + 1) = _
              rw [List.drop_set_of_lt (by omega), drop_next L J, drop_next Ls J, hHD.out]
          case measure => simp [intOf]; omega
      · obtain rfl : J = Ls.length := by omega
        have hlti : ¬ (Ls.length : Int) < (Ls.length : Int) := by omega
        have hT := hHT.out
        rw [List.take_length] at hT
        have hFL : (full Ls).length = I := by rw [← hT]; simp; omega
        have HT : Hid _ := hT
        clear hT
        have hW := LL.wipe hP (Ls.length - I) W1 L I hOr (by omega)
        have hcl : ∀ ty, (Builtin.clear_ #[29] ty #[.slice (some ⟨g, I, none⟩) (Ls.length - I) (cap - I)]).run Try.prog W1 = .ok (.tuple #[]) (W1.setCells g I (List.replicate (Ls.length - I) (.slice none 0 0))) := fun ty => run_clear_L W1 ty g I (Ls.length - I) (cap - I) (by omega) (fun j hj => by
            obtain ⟨a, c, d, _⟩ := hOr.at (I + j) (by omega)
            rw [d]; rfl) (fun j _ => hOr.frozen _)
        have hgW := gb_trans hgr (gb_cells g (List.replicate (Ls.length - I) (.slice none 0 0)) W1 I)
        have hcap : Ls.length ≤ cap := by
          obtain ⟨sls, h1, h2, h3⟩ := HO
          obtain ⟨a, c, e, _, _, hn, _⟩ := h1.rd
          simp only [Value.slice.injEq] at e
          obtain ⟨-, -, rfl⟩ := e
          omega
        generalize W1.setCells g I (List.replicate (Ls.length - I) (.slice none 0 0)) = W3 at *
        have HFL : Hid ((full Ls).length = I) := hFL
        clear hFL
        go_wp2_with fail
        go_ret
        have hU := LL.upto hW I (by simp; omega)
        rw [List.append_assoc, List.take_append_of_le_length (by simp; omega), List.take_take, Nat.min_self, HT.out] at hU
        rw [HFL.out]
        exact ⟨rfl, hU, hgW⟩
end Go.Proofs.Ytfbibbjiomfncaa
