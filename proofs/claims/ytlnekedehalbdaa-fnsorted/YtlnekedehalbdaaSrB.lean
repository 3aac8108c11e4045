import Derived.Test.YtlnekedehalbdaaSrA
namespace Go.Proofs.Ytlnekedehalbdaa
open Go.RowKit
set_option linter.unusedVariables false
set_option linter.unusedSimpArgs false

/-- A teller that always answers. -/
def Tot (t : Tl) : Prop := ∀ h a b, ∃ r, t h a b = some r
theorem ask_tot {t : Tl} (ht : Tot t) {s : St} (h : s.k = false) (a b : Int) : (ask t s a b).2.k = false := by
  obtain ⟨r, hr⟩ := ht s.h a b
  rw [ask_told h hr]
theorem upTo_tot {t : Tl} (ht : Tot t) (d : Bool) : ∀ (l : List Int) (p : Int) (s : St), s.k = false → (upTo t d p l s).2.k = false
  | [], _, s, h => h
  | x :: r, p, s, h => by
    simp only [upTo]
    split
    · exact upTo_tot ht d r x _ (ask_tot ht h _ _)
    · exact ask_tot ht h _ _
theorem bis_tot {t : Tl} (ht : Tot t) (x : Int) (l : List Int) : ∀ (f lo hi : Nat) (s : St), s.k = false → (bis t x l f lo hi s).2.k = false
  | 0, _, _, s, h => h
  | f + 1, lo, hi, s, h => by
    simp only [bis]
    split
    · split
      · exact bis_tot ht x l f _ _ _ (ask_tot ht h _ _)
      · exact bis_tot ht x l f _ _ _ (ask_tot ht h _ _)
    · exact h
theorem fillS_tot {t : Tl} (ht : Tot t) : ∀ (r run : List Int) (s : St), s.k = false → (fillS t run r s).2.2.k = false
  | [], _, s, h => h
  | x :: r, run, s, h => by
    simp only [fillS]
    split
    · exact fillS_tot ht r _ _ (bis_tot ht x run _ _ _ s h)
    · exact h
theorem runN_tot {t : Tl} (ht : Tot t) : ∀ (l : List Int) (s : St), s.k = false → (runN t l s).2.2.k = false
  | [], s, h => h
  | [_], s, h => h
  | x :: y :: r, s, h => upTo_tot ht _ r y _ (ask_tot ht h _ _)
theorem oneS_tot {t : Tl} (ht : Tot t) (l : List Int) (s : St) (h : s.k = false) : (oneS t l s).2.2.k = false := fillS_tot ht _ _ _ (runN_tot ht l s h)
theorem runsS_totK {t : Tl} (ht : Tot t) : ∀ (f : Nat) (l : List Int) (s : St), s.k = false → (runsS t f l s).2.k = false
  | 0, _, s, h => h
  | f + 1, l, s, h => by
    simp only [runsS]
    split
    · exact h
    · exact runsS_totK ht f _ _ (oneS_tot ht l s h)
theorem mrgS_totK {t : Tl} (ht : Tot t) : ∀ (f : Nat) (a b : List Int) (s : St), s.k = false → (mrgS t f a b s).2.k = false
  | 0, a, b, s, h => h
  | _ + 1, [], b, s, h => by simpa [mrgS] using h
  | _ + 1, x :: a, [], s, h => by simpa [mrgS] using h
  | f + 1, x :: a, y :: b, s, h => by
    simp only [mrgS]
    split
    · exact mrgS_totK ht f _ _ _ (ask_tot ht h _ _)
    · exact mrgS_totK ht f _ _ _ (ask_tot ht h _ _)
theorem pairS_totK {t : Tl} (ht : Tot t) : ∀ (rs : List (List Int)) (s : St), s.k = false → (pairS t rs s).2.k = false
  | [], s, h => h
  | [_], s, h => h
  | a :: b :: r, s, h => pairS_totK ht r _ (mrgS_totK ht _ a b s h)
theorem allS_totK {t : Tl} (ht : Tot t) : ∀ (f : Nat) (rs : List (List Int)) (s : St), s.k = false → (allS t f rs s).2.k = false
  | 0, rs, s, h => h
  | f + 1, rs, s, h => by
    simp only [allS]
    split
    · exact h
    · exact allS_totK ht f _ _ (pairS_totK ht rs s h)
theorem sortS_tot {t : Tl} (ht : Tot t) (n : Nat) : (sortS t n).2.k = false := allS_totK ht _ _ _ (runsS_totK ht n _ _ rfl)
theorem tellK_tot (keys : List Int) : Tot (tellK keys) := fun _ _ _ => ⟨_, rfl⟩
theorem sortS_asks (t : Tl) (n : Nat) (hn : n ≤ 2000) : (sortS t n).2.h.length ≤ 17 * n := by
  have h1 := runsS_asks t n (nums n) ⟨[], false⟩
  have h2 := runsS_count t n (nums n) ⟨[], false⟩
  have h3 := runsS_tot t n (nums n) ⟨[], false⟩ (by simp [nums])
  have hl : (nums n).length = n := by simp [nums]
  have h5 : (2 : Nat) ^ 11 = 2048 := by decide
  have h4 := allS_asks t 11 (runsS t n (nums n) ⟨[], false⟩).1.length (runsS t n (nums n) ⟨[], false⟩).1 (runsS t n (nums n) ⟨[], false⟩).2 (by rw [h5]; omega)
  rw [h3, hl] at h4
  rw [hl] at h1
  unfold sortS
  simp only [List.length_nil] at h1
  omega
/-- What SortKeys answers. -/
def ansK (keys : List Int) : List Int × Int := if 2000 < keys.length then ([], -1) else ((sortS (tellK keys) keys.length).1.headD [], ((sortS (tellK keys) keys.length).2.h.length : Int))
/-- What SortPlan answers. -/
def ansA (n : Int) (ans : List Bool) : List (Int × Int) × List Int × Bool :=
  if n < 0 ∨ 2000 < n then ([], [], false) else ((sortS (tellA ans) n.toNat).2.h, if (sortS (tellA ans) n.toNat).2.k then [] else (sortS (tellA ans) n.toNat).1.headD [], !(sortS (tellA ans) n.toNat).2.k)
theorem SS.start (w : World) (ov : Bool) (ks an : Value) : SS w ((w.alloc (.cells #[] 43)).alloc (.cells #[ks, .bool ov, an, .slice (some ⟨w.heap.size, 0, none⟩) 0 0, .bool false] 46)) (w.heap.size + 1) ov ks an ⟨[], false⟩ := by
  have hs : (w.alloc (.cells #[] 43)).heap.size = w.heap.size + 1 := by simp
  have hc : ∀ j, ((w.alloc (.cells #[] 43)).alloc (.cells #[ks, .bool ov, an, .slice (some ⟨w.heap.size, 0, none⟩) 0 0, .bool false] 46)).cell? ⟨w.heap.size + 1, j, none⟩ = (#[ks, .bool ov, an, .slice (some ⟨w.heap.size, 0, none⟩) 0 0, .bool false])[j]? := fun j => by
    rw [World.cell?_alloc_at _ _ _ _ (by simp)]
  have hO : OwnG shQ 43 (w.alloc (.cells #[] 43)) w.heap.size (.slice (some ⟨w.heap.size, 0, none⟩) 0 0) [] := ⟨World.ownsRow_lit w #[] 0 (Nat.le_refl _) (Nat.zero_le _) rfl, by simp, by simp⟩
  have hty : ∃ cur p, ((w.alloc (.cells #[] 43)).alloc (.cells #[ks, .bool ov, an, .slice (some ⟨w.heap.size, 0, none⟩) 0 0, .bool false] 46)).heap[w.heap.size + 1]? = some (.cells cur 46 p) := ⟨#[ks, .bool ov, an, .slice (some ⟨w.heap.size, 0, none⟩) 0 0, .bool false], (0, 0), by rw [← hs]; show (Array.push _ _)[Array.size _]? = _; rw [Array.getElem?_push_size]⟩
  exact ⟨by omega, .slice (some ⟨w.heap.size, 0, none⟩) 0 0, ⟨by simp, hc 0, hc 1, hc 2, hc 3, hc 4, fun o => World.frozen?_alloc_at _ _ _ _ (by simp), hty⟩, hO.alloc _, ((Below.refl _ w).alloc (Nat.le_refl _) _).alloc (by simp) _⟩

set_option maxRecDepth 100000 in
set_option maxHeartbeats 1000000 in
theorem keysS_any (w : World) (kv : Value) (keys : List Int) (hk : Rd w kv keys) :
    Calls Try.prog 6 #[kv] w fun e w' => ∃ v, e = .returned (.tuple #[v, .int .i64 (ansK keys).2]) ∧ Rd w' v (ansK keys).1 ∧ Below w.heap.size w w' := by
  obtain ⟨ka, kc, rfl⟩ : ∃ a c, kv = .slice a keys.length c := by obtain ⟨a, c, e, _⟩ := hk; exact ⟨a, c, e⟩
  have hmax : keys.length ≤ 16777216 := by obtain ⟨_, _, _, h, _⟩ := hk; exact h
  by_cases hl : 2000 < keys.length
  · have hli : (2000 : Int) < (keys.length : Int) := by omega
    have ha : ansK keys = ([], -1) := by unfold ansK; rw [if_pos hl]
    rw [ha]
    go_enter Try.func6, Try.ntmps6
    go_wp2_with fail
    exact bodyPost_ret (v := .tuple #[.slice (some ⟨w.heap.size, 0, none⟩) 0 0, .int .i64 (-1)]) (by simp [results, Try.results6, go_sem]) rfl ⟨_, rfl, (Own.empty w).rd, (Below.refl _ w).alloc (Nat.le_refl _) _⟩
  · have hli : ¬ (2000 : Int) < (keys.length : Int) := by omega
    have ha : ansK keys = ((sortS (tellK keys) keys.length).1.headD [], ((sortS (tellK keys) keys.length).2.h.length : Int)) := by unfold ansK; rw [if_neg hl]
    rw [ha]
    have hS := SS.start w true (.slice ka keys.length kc) (.slice none 0 0)
    have HC := allS_any (tellK keys) w _ (w.heap.size + 1) keys.length true (.slice ka keys.length kc) (.slice none 0 0) (by omega) (LessC.keys w _ _ _ keys hk) hS
    have htk := sortS_tot (tellK_tot keys) keys.length
    have has := sortS_asks (tellK keys) keys.length (by omega)
    obtain ⟨NK, hNK⟩ : ∃ NK, keys.length = NK := ⟨_, rfl⟩
    generalize hZ : sortS (tellK keys) keys.length = Z at *
    rw [hNK] at HC has hli ⊢
    have HZ : Hid (sortS (tellK keys) keys.length = Z) := hZ
    have HNK : Hid (keys.length = NK) := hNK
    obtain ⟨LQ, hLQ⟩ : ∃ LQ, Z.2.h.length = LQ := ⟨_, rfl⟩
    obtain ⟨L0, hL0⟩ : ∃ L0, Z.1.headD [] = L0 := ⟨_, rfl⟩
    rw [hLQ] at has
    simp only [hLQ, hL0]
    have HLQ : Hid (Z.2.h.length = LQ) := hLQ
    have HL0 : Hid (Z.1.headD [] = L0) := hL0
    clear hZ ha hS hNK hLQ hL0
    go_enter Try.func6, Try.ntmps6
    go_wp2_with fail
    refine HC.mono ?_
    rintro e w3 ⟨v, L, rfl, hrd, hS3, hF3, hgo⟩
    rw [← HNK.out, HZ.out] at hS3 hgo
    have hL := hgo htk
    obtain ⟨-, aq, hBx, hA, hB3⟩ := hS3
    obtain ⟨qa, qc, rfl⟩ := hA.form
    obtain ⟨h1, h2, h3, h4, h5, h6, h7, -⟩ := id hBx
    obtain ⟨va, vc, rfl⟩ : ∃ a c, v = .slice a L.length c := by obtain ⟨a, c, e, _⟩ := hrd; exact ⟨a, c, e⟩
    clear HC hgo
    rw [HLQ.out] at h5
    rw [HL0.out] at hL
    subst hL
    clear hBx hA h2 h3 h4 h6 h7
    go_wp2_with fail
    go_region_held3 (fun W => W.cell? ⟨w.heap.size + 1, 3, none⟩ = some (.slice qa LQ qc)) (go_keep) (fail)
    go_wp2_with fail
    exact bodyPost_ret (v := .tuple #[.slice va L.length vc, .int .i64 LQ]) (by simp [results, Try.results6, go_sem]) rfl ⟨_, rfl, hrd.drew, hB3.drew⟩
end Go.Proofs.Ytlnekedehalbdaa
