import Derived.Test.YtfbibbjiomfncaaMoB
import Derived.Test.YtfbibbjiomfncaaHelpZ
namespace Go.Proofs.Ytfbibbjiomfncaa
open Go.RowKit Go.Maps
set_option linter.unusedVariables false
set_option linter.unusedSimpArgs false

theorem RL.form {w : World} {v : Value} {Ls : List (List Int)} (h : RL w v Ls) : ∃ a c, v = .slice a Ls.length c := by
  obtain ⟨sls, h1, h2, _⟩ := h
  obtain ⟨a, c, e⟩ := h1.form
  exact ⟨a, c, by rw [e, h2]⟩

set_option maxRecDepth 100000 in
set_option maxHeartbeats 1000000 in
theorem eqSS_any (v u : Value) (Ls : List (List Int)) (w : World) (hx : RL w v Ls) (hy : RL w u Ls) :
    Calls Try.prog 17 #[v, u] w fun e w' => e = .returned (.bool true) ∧ Below w.heap.size w w' := by
  obtain ⟨a, c, rfl⟩ := hx.form
  obtain ⟨a', c', rfl⟩ := hy.form
  have hm := hx.max
  go_enter Try.func17, Try.ntmps17
  go_wp2
  go_loopw [5] (fun i wr => ∃ k : Nat, k ≤ Ls.length ∧ i = .int .i64 k ∧ Below w.heap.size w wr) (fun i _ => Ls.length - (intOf i).toNat)
  case atStart => exact ⟨0, Nat.zero_le _, rfl, Below.refl _ _⟩
  case round =>
    obtain ⟨k, hk, rfl, hB⟩ := hrel
    generalize wr = W1 at *
    by_cases hlt : k < Ls.length
    · have hlti : (k : Int) < (Ls.length : Int) := by omega
      obtain ⟨b, off, sa, sc, e1, hb, d0, r0⟩ := (hx.keep hB).at k hlt
      obtain ⟨b', off', sa', sc', e2, hb', d1, r1⟩ := (hy.keep hB).at k hlt
      subst e1 e2
      have HQ := fun W (h1 : Rd W (.slice sa Ls[k].length sc) Ls[k]) (h2 : Rd W (.slice sa' Ls[k].length sc') Ls[k]) => eqS_any _ _ Ls[k] Ls[k] W h1 h2
      simp only [decide_true] at HQ
      generalize Ls[k].length = LK at *
      generalize Ls[k] = LL at *
      go_wp2_with fail
      go_region_held3 (fun W => W.cell? ⟨b, off + k, none⟩ = some (.slice sa LK sc) ∧ W.cell? ⟨b', off' + k, none⟩ = some (.slice sa' LK sc')) (go_keep) ((go_at_call 46; refine (HQ _ r0.drew r1.drew).mono ?_; rintro e w5 ⟨rfl, hB5⟩; have y0 := (hB5.cell (p := ⟨b, off + k, none⟩) hb).trans d0; have y1 := (hB5.cell (p := ⟨b', off' + k, none⟩) hb').trans d1))
      all_goals
        go_wp2
        go_roundw
        case rel => exact ⟨k + 1, by omega, by go_num, hB.drew.trans (hB5.mono hB.size)⟩
        case measure => simp [intOf]; omega
    · obtain rfl : k = Ls.length := by omega
      go_wp2
      go_ret
      exact ⟨rfl, hB⟩

def totL (Ls : List (List Int)) : Nat := (Ls.map List.length).sum
/-- The rows, marked one after another. -/
def mks (k0 : Int) : List (List Int) → List (List Int)
  | [] => []
  | l :: r => marks k0 l.length :: mks (k0 + l.length) r
theorem mks_len (k0 : Int) : ∀ Ls, (mks k0 Ls).length = Ls.length
  | [] => rfl
  | l :: r => by simp [mks, mks_len _ r]
theorem totL_take (Ls : List (List Int)) (k : Nat) (hk : k < Ls.length) : totL (Ls.take (k + 1)) = totL (Ls.take k) + Ls[k].length := by
  unfold totL; rw [List.take_succ_eq_append_getElem hk]; simp only [List.map_append, List.sum_append, List.map_cons, List.map_nil, List.sum_cons, List.sum_nil, Nat.add_zero]
theorem mks_at : ∀ (Ls : List (List Int)) (k0 : Int) (k : Nat) (hk : k < Ls.length) (hk' : k < (mks k0 Ls).length), (mks k0 Ls)[k] = marks (k0 + totL (Ls.take k)) Ls[k].length
  | l :: r, k0, 0, _, _ => by simp [mks, totL]
  | l :: r, k0, k + 1, hk, hk' => by
    simp only [mks, List.getElem_cons_succ]
    rw [mks_at r (k0 + l.length) k (by simpa using hk) (by simpa [mks] using hk')]
    simp only [totL, List.take_succ_cons, List.map_cons, List.sum_cons]
    push_cast
    congr 1
    omega
theorem totL_le : ∀ (Ls : List (List Int)) (k : Nat), (∀ l ∈ Ls, l.length ≤ 300) → totL (Ls.take k) ≤ 300 * k
  | [], k, _ => by simp [totL]
  | l :: r, 0, _ => by simp [totL]
  | l :: r, k + 1, h => by
    have := totL_le r k (fun x hx => h x (List.mem_cons_of_mem _ hx))
    have := h l (List.mem_cons_self ..)
    simp only [totL, List.take_succ_cons, List.map_cons, List.sum_cons] at *
    omega

set_option maxRecDepth 100000 in
set_option maxHeartbeats 1000000 in
theorem markSS_any (B g n cap : Nat) (sls : List Sl) (Ls : List (List Int)) (w : World) (hL : LO w B g n cap sls Ls) (hl : Ls.length ≤ 300) (hll : ∀ l ∈ Ls, l.length ≤ 300) (hB : B ≤ w.heap.size) :
    Calls Try.prog 19 #[.slice (some ⟨g, 0, none⟩) n cap, .int .i64 1] w fun e w' => e = .returned (.int .i64 (1 + (totL Ls : Int))) ∧ LO w' B g n cap sls (mks 1 Ls) ∧ Below B w w' := by
  have hn := hL.n
  have HSL : Hid (sls.length = n) := by rw [Hid, hL.len]; exact hn.symm
  have HLN : Hid (Ls.length = n) := hn.symm
  have hn3 : n ≤ 300 := by omega
  have hgl := (hL.out.lt g rfl)
  obtain ⟨T, hT⟩ : ∃ T, totL Ls = T := ⟨_, rfl⟩
  have HT : Hid (totL Ls = T) := hT
  rw [hT]
  clear hn hl hT
  go_enter Try.func19, Try.ntmps19
  go_wp2
  go_loopw [1, 5] (fun q i wr => ∃ k m : Nat, k ≤ n ∧ q = .int .i64 m ∧ Hid (m = 1 + totL (Ls.take k)) ∧ i = .int .i64 k ∧ OwnG shL 51 wr B (.slice (some ⟨g, 0, none⟩) n cap) sls ∧ (∀ j (h : j < sls.length) (h' : j < Ls.length), Own wr B sls[j].val (if j < k then marks (1 + totL (Ls.take j)) Ls[j].length else Ls[j])) ∧ Below B w wr ∧ B ≤ wr.heap.size)
    (fun _ i _ => n - (intOf i).toNat)
  case atStart => exact ⟨0, 1, Nat.zero_le _, by simp, (show 1 = _ by simp [totL]), rfl, hL.out, fun j h h' => by rw [if_neg (by omega)]; exact hL.row j h h', Below.refl _ _, hB⟩
  case round =>
    obtain ⟨k, m, hk, rfl, HM, rfl, hO, hR, hBr, hBz⟩ := hrel
    generalize wr = W1 at *
    by_cases hlt : k < n
    · have hlti : (k : Int) < (n : Int) := by omega
      have hks : k < sls.length := by rw [HSL.out]; exact hlt
      have hkl : k < Ls.length := by rw [HLN.out]; exact hlt
      have hRk := hR k hks hkl
      rw [if_neg (by omega)] at hRk
      have c0 : W1.cell? ⟨g, k, none⟩ = some sls[k].val := by
        have := hO.cell k hks 0 (by decide)
        simpa [shL] using this
      have hap := fun j (hj : j < sls.length) (hne : j ≠ k) => (show sls[j].val.ownBlock = none ∨ sls[j].val.ownBlock ≠ sls[k].val.ownBlock from by
        rcases Nat.lt_or_gt_of_ne hne with h | h
        · exact hL.apart j k hj hks h
        · rcases hL.apart k j hks hj h with h1 | h1
          · rw [h1]
            cases sls[j].val.ownBlock with
            | none => exact .inl rfl
            | some q => exact .inr (by simp)
          · exact .inr (fun e => h1 e.symm))
      have hug := own_apart hO hRk (by decide)
      have Htt : Hid _ := totL_take Ls k hkl
      have hkl2 : Ls[k].length ≤ 300 := hll _ (List.getElem_mem hkl)
      have hmb : (m : Int) ≤ 33554432 := by have := HM.out; have := totL_le Ls k hll; omega
      have HAP : Hid _ := hap
      have hlo := hRk.lt
      have HR : Hid _ := hR
      obtain ⟨SV, hSV⟩ : ∃ SV, sls[k].val = SV := ⟨_, rfl⟩
      have HSV : Hid (sls[k].val = SV) := hSV
      rw [hSV] at hRk c0 hug hlo
      obtain ⟨sa, sc, es⟩ := hRk.form
      subst es
      obtain ⟨LK, hLK⟩ : ∃ LK, Ls[k].length = LK := ⟨_, rfl⟩
      have HLK : Hid (Ls[k].length = LK) := hLK
      have HMk := markS_any B LK sc sa Ls[k] (m : Int) W1 (by rw [hLK] at hRk; exact hRk) (by omega) hmb
      rw [hLK] at c0 hug HMk hkl2 hlo
      clear hR hap hLK hSV hRk
      go_wp2_with fail
      refine HMk.mono ?_
      rintro e w2 ⟨rfl, hO2, hg2⟩
      have hB2 : Below B w w2 := hBr.trans (gb_to hg2 (fun j hj => (hlo j hj).1) hBz)
      have hOw2 := hO.but hg2 (.inr (fun e => hug e.symm))
      have hz2 := hg2.size
      go_wp2_with fail
      go_roundw
      case rel =>
        refine ⟨k + 1, m + LK, by omega, by go_num, (show m + LK = _ by have h1 := HM.out; have h2 := Htt.out; have h3 := HLK.out; omega), by go_num, hOw2, fun j h h' => ?_, hB2, by omega⟩
        by_cases e : j = k
        · subst e
          rw [if_pos (by omega), HSV.out]
          have h3 := HLK.out
          have h4 := HM.out
          rw [h4] at hO2
          rw [h3]
          have : ((1 + totL (Ls.take j) : Nat) : Int) = 1 + (totL (Ls.take j) : Int) := by push_cast; rfl
          rw [this] at hO2
          exact hO2
        · have h5 := (HR.out j h h').but hg2 (by have := HAP.out j h e; rw [HSV.out, HLK.out] at this; exact this)
          by_cases hjk : j < k
          · rw [if_pos hjk] at h5
            rw [if_pos (by omega)]; exact h5
          · rw [if_neg hjk] at h5
            rw [if_neg (by omega)]; exact h5
      case measure => simp [intOf]; omega
    · obtain rfl : n = k := by omega
      have hlti : ¬ (n : Int) < (n : Int) := by omega
      have hm : m = 1 + T := by have := HM.out; rw [← HLN.out, List.take_length, HT.out] at this; exact this
      subst hm
      have hfin : LO W1 B g n cap sls (mks 1 Ls) := ⟨hO, by rw [mks_len]; exact hL.len, fun j h h' => by
        have h6 : j < Ls.length := by rw [← hL.len]; exact h
        have := hR j h h6
        rw [if_pos (by have := HSL.out; omega)] at this
        rw [mks_at Ls 1 j h6 h']; exact this, hL.apart⟩
      go_wp2_with fail
      go_ret
      exact ⟨by push_cast; rfl, hfin, hBr⟩

set_option maxRecDepth 100000 in
set_option maxHeartbeats 1000000 in
theorem heldSS_any (v : Value) (Ls : List (List Int)) (w : World) (hr : RL w v (mks 1 Ls)) (hl : Ls.length ≤ 300) (hll : ∀ l ∈ Ls, l.length ≤ 300) :
    Calls Try.prog 20 #[v, .int .i64 1] w fun e w' => e = .returned (.int .i64 (1 + (totL Ls : Int))) ∧ Below w.heap.size w w' := by
  obtain ⟨a, c, rfl⟩ := hr.form
  obtain ⟨T, hT⟩ : ∃ T, totL Ls = T := ⟨_, rfl⟩
  have HT : Hid (totL Ls = T) := hT
  obtain ⟨n, hn⟩ : ∃ n, Ls.length = n := ⟨_, rfl⟩
  have HLN : Hid (Ls.length = n) := hn
  rw [mks_len, hn] at hr ⊢
  rw [hT]
  have hn3 : n ≤ 300 := by omega
  clear hT hn hl
  go_enter Try.func20, Try.ntmps20
  go_wp2
  go_loopw [1, 5] (fun q i wr => ∃ k m : Nat, k ≤ n ∧ q = .int .i64 m ∧ Hid (m = 1 + totL (Ls.take k)) ∧ i = .int .i64 k ∧ Below w.heap.size w wr)
    (fun _ i _ => n - (intOf i).toNat)
  case atStart => exact ⟨0, 1, Nat.zero_le _, by simp, (show 1 = _ by simp [totL]), rfl, Below.refl _ _⟩
  case round =>
    obtain ⟨k, m, hk, rfl, HM, rfl, hB⟩ := hrel
    generalize wr = W1 at *
    by_cases hlt : k < n
    · have hlti : (k : Int) < (n : Int) := by omega
      have hkl : k < Ls.length := by rw [HLN.out]; exact hlt
      have hkm : k < (mks 1 Ls).length := by rw [mks_len]; exact hkl
      obtain ⟨b, off, sa, sc, e1, hb, d0, r0⟩ := (hr.keep hB).at k hkm
      subst e1
      have hma := mks_at Ls 1 k hkl hkm
      rw [hma, marks_length] at d0 r0
      have Htt : Hid _ := totL_take Ls k hkl
      have hkl2 : Ls[k].length ≤ 300 := hll _ (List.getElem_mem hkl)
      have hmb : (m : Int) ≤ 33554432 := by have := HM.out; have := totL_le Ls k hll; omega
      obtain ⟨LK, hLK⟩ : ∃ LK, Ls[k].length = LK := ⟨_, rfl⟩
      have HLK : Hid (Ls[k].length = LK) := hLK
      rw [hLK] at d0 r0 hkl2
      have hmi : (1 + (totL (Ls.take k) : Int)) = (m : Int) := by have := HM.out; omega
      rw [hmi] at r0
      have HH := heldS_any _ _ (m : Int) LK W1 r0 (by omega) hmb rfl
      have hne : ¬ (m : Int) + LK < 0 := by omega
      clear hma hLK hmi
      go_wp2_with fail
      refine HH.mono ?_
      rintro e w2 ⟨rfl, hB2⟩
      go_wp2_with fail
      go_roundw
      case rel => exact ⟨k + 1, m + LK, by omega, by go_num, (show m + LK = _ by have h1 := HM.out; have h2 := Htt.out; have h3 := HLK.out; omega), by go_num, hB.trans (hB2.mono hB.size)⟩
      case measure => simp [intOf]; omega
    · obtain rfl : n = k := by omega
      have hlti : ¬ (n : Int) < (n : Int) := by omega
      have hm : m = 1 + T := by have := HM.out; rw [← HLN.out, List.take_length, HT.out] at this; exact this
      subst hm
      go_wp2_with fail
      go_ret
      exact ⟨by push_cast; rfl, hB⟩
end Go.Proofs.Ytfbibbjiomfncaa
