import Derived.Test.YtfbibbjiomfncaaClA
import Derived.BigQuiet
namespace Go.Proofs.Ytfbibbjiomfncaa
open Go.RowKit
set_option linter.unusedVariables false
set_option linter.unusedSimpArgs false

noncomputable def dec (p : Prop) : Bool := @decide p (Classical.propDecidable p)
theorem dec_true {p : Prop} (h : p) : dec p = true := @decide_eq_true p (Classical.propDecidable p) h
theorem dec_false {p : Prop} (h : ¬ p) : dec p = false := @decide_eq_false p (Classical.propDecidable p) h

def OkB (i : Nat) (b : List Int) : Prop := (∀ x ∈ b, 0 ≤ x ∧ x < (i : Int)) ∧ b.Nodup
def OkN (a : List At) : Prop := a.length ≤ 100 ∧ (a.map At.n).Nodup
def OkT (a : List At) : Prop := ∀ x ∈ a, 0 ≤ x.k ∧ x.k ≤ 2
def OkCs (cs : List Cl) : Prop := cs.length ≤ 200 ∧ ∀ i (h : i < cs.length), OkB i cs[i].b ∧ OkN cs[i].a ∧ OkT cs[i].a

theorem nodup_snoc {α : Type} {xs : List α} {x : α} (h : xs.Nodup) (hx : x ∉ xs) : (xs ++ [x]).Nodup := by
  rw [List.nodup_append]
  exact ⟨h, by simp, fun a ha b hb => by simp at hb; subst hb; rintro rfl; exact hx ha⟩

/-- Two that are alike: no row without twins. -/
theorem twins {α : Type} {xs : List α} {i j : Nat} (hij : i < j) (hj : j < xs.length) (he : xs[i] = xs[j]) : ¬ xs.Nodup := fun h => by
  have := List.pairwise_iff_getElem.mp h i j (by omega) hj hij
  exact this he

set_option maxRecDepth 100000 in
theorem l9AttrsOk_any (v : Value) (xs : List At) (kd : Bool) (w : World) (hr : RdA w v xs) :
    Calls Try.prog 38 #[v, .bool kd] w fun e w' => e = .returned (.bool (dec (OkN xs ∧ (kd = true → OkT xs)))) ∧ Below w.heap.size w w' := by
  obtain ⟨a, cap, rfl, hl, hz, hn0, hc⟩ := hr
  generalize hR : dec (OkN xs ∧ (kd = true → OkT xs)) = R
  have HR : Hid (dec (OkN xs ∧ (kd = true → OkT xs)) = R) := hR
  clear hR
  by_cases h100 : xs.length ≤ 100
  · have hg : ¬ (100 : Int) < xs.length := by omega
    go_enter Try.func38, Try.ntmps38
    go_wp2
    go_loopw [5] (fun i wr => ∃ k : Nat, k ≤ xs.length ∧ i = .int .i64 k ∧ ((xs.take k).map At.n).Nodup ∧ (kd = true → OkT (xs.take k)) ∧ Below w.heap.size w wr)
      (fun i _ => xs.length - (intOf i).toNat)
    case atStart => exact ⟨0, Nat.zero_le _, rfl, by simp, fun _ => by simp [OkT], Below.refl _ _⟩
    case round =>
      obtain ⟨k, hk, rfl, hN, hT, hBr⟩ := hrel
      by_cases hlt : k < xs.length
      · obtain ⟨b, off, rfl, hb, hcell⟩ := hc (by omega)
        have hAt := fun W (h : Below w.heap.size w W) j hj => RdA.at (fun k hk j hj => (h.cell (p := ⟨b, _, none⟩) hb).trans (hcell k hk j hj)) j hj
        obtain ⟨d0, d1, d2⟩ := hAt wr hBr k hlt
        have HT1 : Hid ((kd = true → 0 ≤ xs[k].k ∧ xs[k].k ≤ 2) → (∀ j (h : j < xs.length), j < k → xs[j].n ≠ xs[k].n) → ((xs.take (k + 1)).map At.n).Nodup ∧ (kd = true → OkT (xs.take (k + 1)))) := fun hk2 hne => by
          rw [List.take_succ_eq_append_getElem hlt, List.map_append]
          refine ⟨nodup_snoc hN (fun hm => ?_), fun hkd x hx => ?_⟩
          · obtain ⟨y, hy, e⟩ := List.mem_map.mp hm
            obtain ⟨j, hj, rfl⟩ := List.getElem_of_mem hy
            have hjk : j < k := by simp at hj; omega
            rw [List.getElem_take] at e
            exact hne j (by omega) hjk e
          · rcases List.mem_append.mp hx with h | h
            · exact hT hkd x h
            · simp at h; subst h; exact hk2 hkd
        have HF1 : Hid (kd = true → ¬ (0 ≤ xs[k].k ∧ xs[k].k ≤ 2) → R = false) := fun hkd hb => by rw [← HR.out]; exact dec_false fun h => hb (h.2 hkd _ (List.getElem_mem hlt))
        have HF2 : Hid (∀ j (h : j < xs.length), j < k → xs[j].n = xs[k].n → R = false) := fun j h hjk e => by
          rw [← HR.out]
          exact dec_false fun hh => twins (xs := xs.map At.n) (i := j) (j := k) hjk (by simpa using hlt) (by simpa using e) hh.1.2
        generalize hX : xs[k] = X at *
        have HX : Hid (xs[k] = X) := hX
        clear hX
        by_cases hbad : kd = true ∧ ¬ (0 ≤ X.k ∧ X.k ≤ 2)
        · obtain ⟨rfl, hb2⟩ := hbad
          obtain rfl := HF1.out rfl hb2
          clear hcell hc hAt HT1 HF1 HF2 hN hT HR
          by_cases hk0 : X.k < 0
          · go_wp2
            go_ret
            exact ⟨rfl, hBr⟩
          · have hk2 : 2 < X.k := by omega
            go_wp2
            go_ret
            exact ⟨rfl, hBr⟩
        · have hgood : kd = true → 0 ≤ X.k ∧ X.k ≤ 2 := fun h => by
            rcases Classical.em (0 ≤ X.k ∧ X.k ≤ 2) with h2 | h2
            · exact h2
            · exact absurd ⟨h, h2⟩ hbad
          have HG : Hid (kd = true → 0 ≤ X.k ∧ X.k ≤ 2) := hgood
          have hk0 : kd = true → ¬ X.k < 0 := fun h => by have := hgood h; omega
          have hk2 : kd = true → ¬ 2 < X.k := fun h => by have := hgood h; omega
          have HA : Hid (∀ W (h : Below w.heap.size w W) j (hj : j < xs.length), W.cell? ⟨b, off + j * 3, none⟩ = some (.string xs[j].n)) := fun W h j hj => (hAt W h j hj).1
          have HAk : Hid (∀ W (h : Below w.heap.size w W), W.cell? ⟨b, off + k * 3, none⟩ = some (.string X.n)) := fun W h => by have := (hAt W h k hlt).1; rw [HX.out] at this; exact this
          clear hbad hgood hN hT hz hn0 hcell hc hAt HF1 HR
          cases kd
          all_goals
            first
              | (have hk0' := hk0 rfl; have hk2' := hk2 rfl; clear hk0 hk2; go_wp2)
              | (clear hk0 hk2; go_wp2)
            clear d0 d1 d2
            go_loopw [6] (fun i wr => ∃ m : Nat, m ≤ k ∧ i = .int .i64 m ∧ (∀ j (h : j < xs.length), j < m → xs[j].n ≠ X.n) ∧ Below w.heap.size w wr)
              (fun i _ => k - (intOf i).toNat)
            case atStart => exact ⟨0, Nat.zero_le _, rfl, fun j _ h => absurd h (by omega), hBr⟩
            case round =>
              obtain ⟨m, hm, rfl, hne, hBm⟩ := hrel
              by_cases hmk : m < k
              · have hml : m < xs.length := by omega
                have e0 := HA.out _ hBm m hml
                have e1 := HAk.out _ hBm
                have HF := HF2.out m hml hmk
                have HN : Hid (xs[m].n ≠ X.n → ∀ j (h : j < xs.length), j < m + 1 → xs[j].n ≠ X.n) := fun hx j h hj => by
                  by_cases e : j = m
                  · subst e; exact hx
                  · exact hne j h (by omega)
                clear hne
                generalize xs[m].n = Y at *
                by_cases hY : Y = X.n
                · obtain rfl := HF hY
                  subst hY
                  go_wp2
                  go_region
                  all_goals
                    go_wp2
                    go_ret
                    exact ⟨rfl, hBm.drew⟩
                · have hS := str_ne hY
                  clear HF
                  go_wp2
                  go_region
                  all_goals
                    go_wp2
                    go_roundw
                    case rel => exact ⟨m + 1, by omega, by go_num, HN.out hY, hBm.drew⟩
                    case measure => simp [intOf]; omega
              · obtain rfl : m = k := by omega
                go_wp2
                go_roundw
                case rel => exact ⟨m + 1, by omega, by go_num, (HT1.out HG.out hne).1, (HT1.out HG.out hne).2, hBm⟩
                case measure => simp [intOf]; omega
      · obtain rfl : R = true := by
          rw [← HR.out]
          have e : xs.take k = xs := List.take_of_length_le (by omega)
          rw [e] at hN hT
          exact dec_true ⟨⟨h100, hN⟩, hT⟩
        go_wp2
        go_ret
        exact ⟨rfl, hBr⟩
  · have hg : (100 : Int) < xs.length := by omega
    obtain rfl : R = false := by rw [← HR.out]; exact dec_false (fun h => h100 h.1.1)
    go_enter Try.func38, Try.ntmps38
    go_wp2
    go_ret
    exact ⟨rfl, Below.refl _ _⟩
theorem attrsOk_true (v : Value) (xs : List At) (w : World) (hr : RdA w v xs) :
    Calls Try.prog 38 #[v, .bool true] w fun e w' => e = .returned (.bool (dec (OkN xs ∧ OkT xs))) ∧ Below w.heap.size w w' := by
  have := l9AttrsOk_any v xs true w hr
  simpa using this
theorem attrsOk_false (v : Value) (xs : List At) (w : World) (hr : RdA w v xs) :
    Calls Try.prog 38 #[v, .bool false] w fun e w' => e = .returned (.bool (dec (OkN xs))) ∧ Below w.heap.size w w' := by
  have := l9AttrsOk_any v xs false w hr
  simpa using this
end Go.Proofs.Ytfbibbjiomfncaa
