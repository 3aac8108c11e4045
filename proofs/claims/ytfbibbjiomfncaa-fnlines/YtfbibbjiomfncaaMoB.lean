import Derived.Test.YtfbibbjiomfncaaMoA
import Derived.Test.YtfbibbjiomfncaaClI
import Derived.Test.YtfbibbjiomfncaaClP
namespace Go.Proofs.Ytfbibbjiomfncaa
open Go.RowKit Go.Maps
set_option linter.unusedVariables false
set_option linter.unusedSimpArgs false

/-- The first line that there is none of. -/
def badL : List (List Int) → Option Nat
  | [] => none
  | l :: r => if l = [] then some 0 else (badL r).map (· + 1)
/-- What Mro answers. -/
noncomputable def mroA (cs : List Cl) : List (List Int) × Int :=
  if dec (OkCs cs) = true then (match badL (lnsC cs cs.length) with
    | some k => ([], (k : Int))
    | none => (lnsC cs cs.length, -1)) else ([], -2)
theorem bad_some : ∀ (Ls : List (List Int)) (k : Nat) (hk : k < Ls.length), NoE (Ls.take k) → Ls[k] = [] → badL Ls = some k
  | l :: r, 0, _, _, h => by simp only [List.getElem_cons_zero] at h; simp [badL, h]
  | l :: r, k + 1, hk, hn, h => by
    have hl : l ≠ [] := hn l (by simp)
    have := bad_some r k (by simpa using hk) (fun x hx => hn x (by rw [List.take_succ_cons]; exact List.mem_cons_of_mem _ hx)) (by simpa using h)
    simp [badL, hl, this]
theorem bad_none : ∀ (Ls : List (List Int)), NoE Ls → badL Ls = none
  | [], _ => rfl
  | l :: r, hn => by
    have hl : l ≠ [] := hn l (List.mem_cons_self ..)
    have := bad_none r (fun x hx => hn x (List.mem_cons_of_mem _ hx))
    simp [badL, hl, this]

set_option maxRecDepth 100000 in
set_option maxHeartbeats 1000000 in
theorem mroI_any (v : Value) (cs : List Cl) (w : World) (hr : RdC w v cs) :
    Calls Try.prog 16 #[v] w fun e w' => ∃ g n cap, e = .returned (.tuple #[.slice (some ⟨g, 0, none⟩) n cap, .int .i64 (mroA cs).2]) ∧ (∃ sls, LO w' w.heap.size g n cap sls (mroA cs).1) ∧ Below w.heap.size w w' := by
  generalize hA : mroA cs = A
  have HA : Hid (mroA cs = A) := hA
  clear hA
  go_enter Try.func16, Try.ntmps16
  go_wp2_with fail
  refine (okCI_any _ cs _ hr).mono ?_
  rintro e w1 ⟨rfl, hB1⟩
  have hz1 := hB1.size
  by_cases hok : OkCs cs
  · rw [dec_true hok]
    go_wp2_with fail
    refine (linesO_any _ cs _ (hr.keep hB1) hok).mono ?_
    rintro e w2 ⟨g, cap, sls, rfl, hL, hB2⟩
    have hB02 := hB1.trans (hB2.mono hz1)
    have hz2 := hB02.size
    have HA2 : Hid (A = match badL (lnsC cs cs.length) with | some k => ([], (k : Int)) | none => (lnsC cs cs.length, -1)) := by
      rw [Hid, ← HA.out]; unfold mroA; rw [dec_true hok]; simp only [if_true]
    have hn2 : cs.length ≤ 200 := hok.1
    have hll := lns_len cs cs.length
    generalize lnsC cs cs.length = Ls at *
    have HLL : Hid (Ls.length = cs.length) := hll
    obtain ⟨NN, hNN⟩ : ∃ NN, cs.length = NN := ⟨_, rfl⟩
    rw [hNN] at hL hn2 ⊢
    have HNN : Hid (cs.length = NN) := hNN
    clear hll hNN hok
    have HLS : Hid (Ls.length = NN) := by rw [Hid, HLL.out]; exact HNN.out
    have HC : ∀ k (h : k < Ls.length), ∃ xa xc, w2.cell? ⟨g, k, none⟩ = some (.slice xa Ls[k].length xc) := fun k h => by
      obtain ⟨xa, xc, d, _⟩ := LL.at hL.ln k h
      exact ⟨xa, xc, d⟩
    go_wp2_with fail
    go_loopw [15] (fun i wr => ∃ k : Nat, k ≤ NN ∧ i = .int .i64 k ∧ Hid (NoE (Ls.take k)) ∧ wr = w2) (fun i _ => NN - (intOf i).toNat)
    case atStart => exact ⟨0, Nat.zero_le _, rfl, (by intro l hl; simp at hl), rfl⟩
    case round =>
      obtain ⟨k, hk, rfl, HE, hw⟩ := hrel
      have hw' := hw.symm
      subst hw'
      by_cases hlt : k < NN
      · have hlti : (k : Int) < (NN : Int) := by omega
        have hkl : k < Ls.length := by rw [HLS.out]; exact hlt
        obtain ⟨xa, xc, d0⟩ := HC k hkl
        have hnil : Ls[k].length = 0 ↔ Ls[k] = [] := List.length_eq_zero_iff
        have HNl : Hid _ := hnil
        have Htk : Hid _ := List.take_succ_eq_append_getElem hkl
        obtain ⟨LK, hLK⟩ : ∃ LK, Ls[k].length = LK := ⟨_, rfl⟩
        have HLK : Hid (Ls[k].length = LK) := hLK
        rw [hLK] at d0
        clear hnil hLK HC
        by_cases h0 : LK = 0
        · have hbd := bad_some Ls k hkl HE.out (HNl.out.mp (by rw [HLK.out]; exact h0))
          obtain rfl : A = ([], (k : Int)) := by rw [HA2.out, hbd]
          subst h0
          clear hbd
          have hLO : LO (w2.alloc (.cells #[] 51)) w.heap.size w2.heap.size 0 0 [] [] := ⟨OwnG.empty shL 51 w2 w2.heap.size rfl w.heap.size hz2, rfl, fun k hk => by simp at hk, fun j k hj => by simp at hj⟩
          go_wp2_with fail
          exact bodyPost_ret (v := .tuple #[.slice (some ⟨w2.heap.size, 0, none⟩) 0 0, .int .i64 k]) (by simp [results, Try.results16, go_sem]) rfl ⟨_, _, _, rfl, ⟨[], hLO⟩, hB02.alloc hz2 _⟩
        · have h0b : ((LK : Int) == 0) = false := beq_len0 h0
          have HE2 : Hid (NoE (Ls.take (k + 1))) := by
            rw [Hid, Htk.out, noE_snoc]
            exact ⟨HE.out, fun h => h0 (by rw [← HLK.out]; exact HNl.out.mpr h)⟩
          clear h0
          go_wp2_with fail
          go_roundw
          case rel => exact ⟨k + 1, by omega, by go_num, HE2, by trivial⟩
          case measure => simp [intOf]; omega
      · obtain rfl : NN = k := by omega
        have hlti : ¬ (NN : Int) < (NN : Int) := by omega
        have hE2 := HE.out
        rw [← HLS.out, List.take_length] at hE2
        obtain rfl : A = (Ls, -1) := by rw [HA2.out, bad_none Ls hE2]
        have HE2 : Hid _ := hE2
        clear hE2
        have hL2 : LO w2 w.heap.size g NN cap sls Ls := ⟨hL.out.mono hz1, hL.len, fun k h h' => (hL.row k h h').mono hz1, hL.apart⟩
        go_wp2_with fail
        exact bodyPost_ret (v := .tuple #[.slice (some ⟨g, 0, none⟩) NN cap, .int .i64 (-1)]) (by simp [results, Try.results16, go_sem]) rfl ⟨_, _, _, rfl, ⟨sls, hL2⟩, hB02⟩
  · rw [dec_false hok]
    obtain rfl : A = ([], -2) := by rw [← HA.out]; unfold mroA; rw [dec_false hok]; rfl
    have hLO : LO (w1.alloc (.cells #[] 51)) w.heap.size w1.heap.size 0 0 [] [] := ⟨OwnG.empty shL 51 w1 w1.heap.size rfl w.heap.size hz1, rfl, fun k hk => by simp at hk, fun j k hj => by simp at hj⟩
    go_wp2_with fail
    exact bodyPost_ret (v := .tuple #[.slice (some ⟨w1.heap.size, 0, none⟩) 0 0, .int .i64 (-2)]) (by simp [results, Try.results16, go_sem]) rfl ⟨_, _, _, rfl, ⟨[], hLO⟩, hB1.alloc hz1 _⟩
set_option maxRecDepth 100000 in
set_option maxHeartbeats 1000000 in
theorem mroS_any (v : Value) (cs : List Cl) (w : World) (hr : RdC w v cs) :
    Calls Try.prog 15 #[v] w fun e w' => ∃ g n cap, e = .returned (.tuple #[.slice (some ⟨g, 0, none⟩) n cap, .int .i64 (mroA cs).2]) ∧ RL w' (.slice (some ⟨g, 0, none⟩) n cap) (mroA cs).1 ∧ Below w.heap.size w w' := by
  generalize hA : mroA cs = A
  have HA : Hid (mroA cs = A) := hA
  clear hA
  go_enter Try.func15, Try.ntmps15
  go_wp2_with fail
  refine (okCS_any _ cs _ hr).mono ?_
  rintro e w1 ⟨rfl, hB1⟩
  have hz1 := hB1.size
  by_cases hok : OkCs cs
  · rw [dec_true hok]
    go_wp2_with fail
    refine (linesS_any _ cs _ (hr.keep hB1) hok).mono ?_
    rintro e w2 ⟨g, cap, rfl, hL, hB2⟩
    have hB02 := hB1.trans (hB2.mono hz1)
    have hz2 := hB02.size
    have HA2 : Hid (A = match badL (lnsC cs cs.length) with | some k => ([], (k : Int)) | none => (lnsC cs cs.length, -1)) := by
      rw [Hid, ← HA.out]; unfold mroA; rw [dec_true hok]; simp only [if_true]
    have hn2 : cs.length ≤ 200 := hok.1
    have hll := lns_len cs cs.length
    generalize lnsC cs cs.length = Ls at *
    have HLL : Hid (Ls.length = cs.length) := hll
    obtain ⟨NN, hNN⟩ : ∃ NN, cs.length = NN := ⟨_, rfl⟩
    rw [hNN] at hL hn2 ⊢
    have HNN : Hid (cs.length = NN) := hNN
    clear hll hNN hok
    have HLS : Hid (Ls.length = NN) := by rw [Hid, HLL.out]; exact HNN.out
    have HC : ∀ k (h : k < Ls.length), ∃ xa xc, w2.cell? ⟨g, k, none⟩ = some (.slice xa Ls[k].length xc) := fun k h => by
      obtain ⟨xa, xc, d, _⟩ := LL.at hL k h
      exact ⟨xa, xc, d⟩
    go_wp2_with fail
    go_loopw [5] (fun i wr => ∃ k : Nat, k ≤ NN ∧ i = .int .i64 k ∧ Hid (NoE (Ls.take k)) ∧ wr = w2) (fun i _ => NN - (intOf i).toNat)
    case atStart => exact ⟨0, Nat.zero_le _, rfl, (by intro l hl; simp at hl), rfl⟩
    case round =>
      obtain ⟨k, hk, rfl, HE, hw⟩ := hrel
      have hw' := hw.symm
      subst hw'
      by_cases hlt : k < NN
      · have hlti : (k : Int) < (NN : Int) := by omega
        have hkl : k < Ls.length := by rw [HLS.out]; exact hlt
        obtain ⟨xa, xc, d0⟩ := HC k hkl
        have hnil : Ls[k].length = 0 ↔ Ls[k] = [] := List.length_eq_zero_iff
        have HNl : Hid _ := hnil
        have Htk : Hid _ := List.take_succ_eq_append_getElem hkl
        obtain ⟨LK, hLK⟩ : ∃ LK, Ls[k].length = LK := ⟨_, rfl⟩
        have HLK : Hid (Ls[k].length = LK) := hLK
        rw [hLK] at d0
        clear hnil hLK HC
        by_cases h0 : LK = 0
        · have hbd := bad_some Ls k hkl HE.out (HNl.out.mp (by rw [HLK.out]; exact h0))
          obtain rfl : A = ([], (k : Int)) := by rw [HA2.out, hbd]
          subst h0
          clear hbd
          have hLO : RL (w2.alloc (.cells #[] 51)) (.slice (some ⟨w2.heap.size, 0, none⟩) 0 0) [] := ⟨[], (OwnG.empty shL 51 w2 w2.heap.size rfl w.heap.size hz2).rd, rfl, fun k hk => by simp at hk⟩
          go_wp2_with fail
          exact bodyPost_ret (v := .tuple #[.slice (some ⟨w2.heap.size, 0, none⟩) 0 0, .int .i64 k]) (by simp [results, Try.results15, go_sem]) rfl ⟨_, _, _, rfl, hLO, hB02.alloc hz2 _⟩
        · have h0b : ((LK : Int) == 0) = false := beq_len0 h0
          have HE2 : Hid (NoE (Ls.take (k + 1))) := by
            rw [Hid, Htk.out, noE_snoc]
            exact ⟨HE.out, fun h => h0 (by rw [← HLK.out]; exact HNl.out.mpr h)⟩
          clear h0
          go_wp2_with fail
          go_roundw
          case rel => exact ⟨k + 1, by omega, by go_num, HE2, by trivial⟩
          case measure => simp [intOf]; omega
      · obtain rfl : NN = k := by omega
        have hlti : ¬ (NN : Int) < (NN : Int) := by omega
        have hE2 := HE.out
        rw [← HLS.out, List.take_length] at hE2
        obtain rfl : A = (Ls, -1) := by rw [HA2.out, bad_none Ls hE2]
        have HE2 : Hid _ := hE2
        clear hE2
        have hL2 := LLn.rl hL
        go_wp2_with fail
        exact bodyPost_ret (v := .tuple #[.slice (some ⟨g, 0, none⟩) NN cap, .int .i64 (-1)]) (by simp [results, Try.results15, go_sem]) rfl ⟨_, _, _, rfl, hL2, hB02⟩
  · rw [dec_false hok]
    obtain rfl : A = ([], -2) := by rw [← HA.out]; unfold mroA; rw [dec_false hok]; rfl
    have hLO : RL (w1.alloc (.cells #[] 51)) (.slice (some ⟨w1.heap.size, 0, none⟩) 0 0) [] := ⟨[], (OwnG.empty shL 51 w1 w1.heap.size rfl w.heap.size hz1).rd, rfl, fun k hk => by simp at hk⟩
    go_wp2_with fail
    exact bodyPost_ret (v := .tuple #[.slice (some ⟨w1.heap.size, 0, none⟩) 0 0, .int .i64 (-2)]) (by simp [results, Try.results15, go_sem]) rfl ⟨_, _, _, rfl, hLO, hB1.alloc hz1 _⟩
end Go.Proofs.Ytfbibbjiomfncaa
