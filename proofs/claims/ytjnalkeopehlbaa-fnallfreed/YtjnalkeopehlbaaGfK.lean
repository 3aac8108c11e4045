import Derived.Test.YtjnalkeopehlbaaGnB
import Derived.Test.YtjnalkeopehlbaaGfP
import Derived.Test.YtjnalkeopehlbaaMgE
namespace Go.Proofs.Ytjnalkeopehlbaa
open Go.RowKit Go.Maps
set_option linter.unusedVariables false
set_option linter.unusedSimpArgs false

/-- Rows of int. -/
def shW : Sh Int := ⟨1, by decide, fun z => [.int .i64 z], fun z => -9223372036854775808 ≤ z ∧ z < 9223372036854775808, fun _ => rfl, fun a u hu => by simp at hu; subst hu; rfl⟩
theorem Try.info3 : (Try.prog.info? 3).map (fun i => (i.zero, i.size, i.bytes)) = some (some (.int .i64 0), 1, 8) := by kernel_rfl
/-- How often so was told, thing by thing. -/
def rowC (l : List (Nat × Nat)) (kd M : Nat) : List Int := (List.range (M + 1)).map fun x : Nat => ((evC l kd x : Nat) : Int)
theorem rowC_len (l : List (Nat × Nat)) (kd M : Nat) : (rowC l kd M).length = M + 1 := by unfold rowC; simp
theorem rowC_nil (kd M : Nat) : rowC [] kd M = List.replicate (M + 1) 0 := by
  unfold rowC evC
  apply List.ext_getElem
  · simp
  · intro i h1 h2; simp
theorem rowC_get (l : List (Nat × Nat)) (kd M x : Nat) (h : x < (rowC l kd M).length) : (rowC l kd M)[x] = ((evC l kd x : Nat) : Int) := by
  have h2 : (rowC l kd M)[x]? = some ((evC l kd x : Nat) : Int) := by
    rw [rowC_len] at h
    unfold rowC
    rw [List.getElem?_map, List.getElem?_range h]
    rfl
  rw [List.getElem?_eq_getElem h] at h2
  exact Option.some.inj h2
theorem evC_snoc (l : List (Nat × Nat)) (kd kd' x y : Nat) : evC (l ++ [(kd', x)]) kd y = evC l kd y + if kd' = kd ∧ x = y then 1 else 0 := by
  unfold evC
  rw [List.count_append]
  congr 1
  by_cases e : kd' = kd ∧ x = y
  · rw [if_pos e, e.1, e.2]; simp
  · rw [if_neg e, List.count_eq_zero]
    rw [List.mem_singleton]
    intro h
    simp only [Prod.mk.injEq] at h
    exact e ⟨h.1.symm, h.2.symm⟩
theorem rowC_same (l : List (Nat × Nat)) (kd M x : Nat) (hx : x ≤ M) : (rowC l kd M).set x (((evC l kd x : Nat) : Int) + 1) = rowC (l ++ [(kd, x)]) kd M := by
  apply List.ext_getElem
  · simp [rowC_len]
  · intro i h1 h2
    rw [rowC_get, List.getElem_set, evC_snoc]
    by_cases e : x = i
    · subst e; simp
    · rw [if_neg e, if_neg (fun h => e h.2), rowC_get]; simp
theorem rowC_other (l : List (Nat × Nat)) (kd kd' M x : Nat) (hk : kd' ≠ kd) : rowC (l ++ [(kd', x)]) kd M = rowC l kd M := by
  unfold rowC
  apply List.map_congr_left
  intro y _
  rw [evC_snoc, if_neg (fun h => hk h.1), Nat.add_zero]
theorem evC_none {l : List (Nat × Nat)} (h : l.Pairwise Up) (k : Nat) (hk : k < l.length) (q : Nat) (hq : ¬ q < l[k].1) : evC (l.take k) q l[k].2 = 0 := by
  unfold evC
  rw [List.count_eq_zero]
  intro hm
  obtain ⟨i, hi, e⟩ := List.getElem_of_mem hm
  have hi2 : i < k := by rw [List.length_take] at hi; omega
  rw [List.getElem_take] at e
  have h1 := (List.pairwise_iff_getElem.1 h) i k (by omega) hk hi2
  rw [e] at h1
  exact hq (h1 rfl)
theorem evC_one {l : List (Nat × Nat)} (h : l.Pairwise Up) (k q x : Nat) : evC (l.take k) q x ≤ 1 := pw_count (h.sublist (List.take_sublist _ _)) _
set_option maxRecDepth 100000 in
set_option maxHeartbeats 1000000 in
theorem kept_any (v : Value) (es : List Gp) (w : World) (hr : RdGo w v es) (hk : ∃ e ∈ es, ¬ NoR e) :
    Calls Try.prog 26 #[v] w fun e w' => e = .returned (.bool true) ∧ Below w.heap.size w w' := by
  obtain ⟨a, cap, rfl, hl, hz, hn0, hc⟩ := hr
  obtain ⟨L, hL⟩ : ∃ L, es.length = L := ⟨_, rfl⟩
  have HL : Hid (es.length = L) := hL
  simp only [hL] at hl ⊢
  have HK : Hid (∃ e ∈ es, ¬ NoR e) := hk
  clear hL hk
  go_enter Try.func26, Try.ntmps26
  go_wp2_with fail
  go_loopw [3] (fun i wr => ∃ k : Nat, k ≤ L ∧ i = .int .i64 k ∧ (∀ e ∈ es.take k, NoR e) ∧ Below w.heap.size w wr) (fun i _ => L - (intOf i).toNat)
  case atStart => exact ⟨0, Nat.zero_le _, rfl, (fun e he => by simp at he), Below.refl _ _⟩
  case round =>
    obtain ⟨k, hk, rfl, hno, bW⟩ := hrel
    have HNO : Hid (∀ e ∈ es.take k, NoR e) := hno
    clear hno
    generalize wr = Q at *
    by_cases hkl : k < L
    · have hkL : k < es.length := by rw [HL.out]; exact hkl
      have hki : (k : Int) < (L : Int) := by omega
      obtain ⟨b, off, rfl, hb, hcell⟩ := hc (by omega)
      obtain ⟨y0, y1, y2⟩ := RdGo.at hcell k hkL
      obtain ⟨E, hE⟩ : ∃ E, es[k] = E := ⟨_, rfl⟩
      have HTS : Hid (es.take (k + 1) = es.take k ++ [E]) := by show _ = _; rw [List.take_succ_eq_append_getElem hkL, hE]
      rw [hE] at y0 y2
      have z0 := (bW.cell (p := ⟨b, off + k * 3, none⟩) hb).trans y0
      have z2 := (bW.cell (p := ⟨b, off + k * 3 + 2, none⟩) hb).trans y2
      obtain ⟨EC, hEC⟩ : ∃ EC, E.c = EC := ⟨_, rfl⟩
      obtain ⟨EB, hEB⟩ : ∃ EB, E.b = EB := ⟨_, rfl⟩
      rw [hEC] at z0
      rw [hEB] at z2
      have HNR : Hid (EC ≠ 4 → ¬ (EC = 7 ∧ EB = 2) → ∀ e ∈ es.take (k + 1), NoR e) := fun h4 h7 e he => by
        rw [HTS.out] at he
        rcases List.mem_append.1 he with h | h
        · exact HNO.out e h
        · rw [List.mem_singleton] at h; subst h
          exact ⟨by rw [hEC]; exact h4, by rw [hEC, hEB]; exact h7⟩
      clear y0 y1 y2 hcell hE hEC hEB hc
      by_cases h4 : EC = 4
      · subst h4
        go_wp2
        go_ret
        exact ⟨rfl, bW⟩
      · have h4b : (EC == 4) = false := by rw [beq_eq_false_iff_ne]; exact h4
        by_cases h7 : EC = 7
        · subst h7
          by_cases h2 : EB = 2
          · subst h2
            go_wp2
            go_ret
            exact ⟨rfl, bW⟩
          · have h2b : (EB == 2) = false := by rw [beq_eq_false_iff_ne]; exact h2
            have HN := HNR.out h4 (fun h => h2 h.2)
            have HN2 : Hid (∀ e ∈ es.take (k + 1), NoR e) := HN
            clear HN
            go_wp2
            go_roundw
            case rel => exact ⟨k + 1, by omega, by go_num, HN2.out, bW⟩
            case measure => simp [intOf]; omega
        · have h7b : (EC == 7) = false := by rw [beq_eq_false_iff_ne]; exact h7
          have HN := HNR.out h4 (fun h => h7 h.1)
          have HN2 : Hid (∀ e ∈ es.take (k + 1), NoR e) := HN
          clear HN
          go_wp2
          go_roundw
          case rel => exact ⟨k + 1, by omega, by go_num, HN2.out, bW⟩
          case measure => simp [intOf]; omega
    · exfalso
      obtain ⟨e, he, hne⟩ := HK.out
      have hno := HNO.out
      rw [List.take_of_length_le (by rw [HL.out]; omega)] at hno
      exact hne (hno e he)
theorem own_cells {α : Type} {S : Sh α} {T : TypeId} {w : World} {B g n c : Nat} {xs : List α} (h : OwnG S T w B (.slice (some ⟨g, 0, none⟩) n c) xs) : ∀ j, j < xs.length * S.n → w.cell? ⟨g, j, none⟩ = (xs.flatMap S.cs)[j]? := by
  intro j hj
  have hp := S.pos
  have h1 : j / S.n < xs.length := (Nat.div_lt_iff_lt_mul hp).2 hj
  have h2 : j % S.n < S.n := Nat.mod_lt _ hp
  have h3 := h.cell (j / S.n) h1 (j % S.n) h2
  have h4 := flat_get S xs (j / S.n) h1 (j % S.n) h2
  have e : j / S.n * S.n + j % S.n = j := by rw [Nat.mul_comm]; exact Nat.div_add_mod j S.n
  rw [e] at h3 h4
  rw [h3, h4]
end Go.Proofs.Ytjnalkeopehlbaa
