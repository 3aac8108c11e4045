import Derived.Test.YtkjbbmmidjeecaaDoorTxtM
import Derived.Test.YtkjbbmmidjeecaaDoorTxtB
import Derived.Test.YtkjbbmmidjeecaaDoorDivL
import Derived.Test.YtkjbbmmidjeecaaDoorRPow
import Derived.Deep.LoopGhost
namespace Go.Proofs.YtkjbbmmidjeecaaDoor
open Go.RowKit
set_option linter.unusedVariables false
set_option linter.unusedSimpArgs false

set_option maxRecDepth 100000 in
theorem digit_at (d : Nat) (hd : d < 36) : ∀ h : d < (⟨#[48, 49, 50, 51, 52, 53, 54, 55, 56, 57, 97, 98, 99, 100, 101, 102, 103, 104, 105, 106, 107, 108, 109, 110, 111, 112, 113, 114, 115, 116, 117, 118, 119, 120, 121, 122]⟩ : ByteArray).size, (⟨#[48, 49, 50, 51, 52, 53, 54, 55, 56, 57, 97, 98, 99, 100, 101, 102, 103, 104, 105, 106, 107, 108, 109, 110, 111, 112, 113, 114, 115, 116, 117, 118, 119, 120, 121, 122]⟩ : ByteArray)[d]'h = ch d := by
  have : ∀ d, ∀ h : d < (⟨#[48, 49, 50, 51, 52, 53, 54, 55, 56, 57, 97, 98, 99, 100, 101, 102, 103, 104, 105, 106, 107, 108, 109, 110, 111, 112, 113, 114, 115, 116, 117, 118, 119, 120, 121, 122]⟩ : ByteArray).size, (⟨#[48, 49, 50, 51, 52, 53, 54, 55, 56, 57, 97, 98, 99, 100, 101, 102, 103, 104, 105, 106, 107, 108, 109, 110, 111, 112, 113, 114, 115, 116, 117, 118, 119, 120, 121, 122]⟩ : ByteArray)[d]'h = ch d := by decide
  exact this d
/-- A row of which the k first and the k last have changed places. -/
def rv (l : List Int) (k : Nat) : List Int := (List.range l.length).map fun j => if j < k ∨ l.length - k ≤ j then l.getD (l.length - 1 - j) 0 else l.getD j 0
theorem rv_len (l : List Int) (k : Nat) : (rv l k).length = l.length := by simp [rv]
theorem rv_get (l : List Int) (k j : Nat) (h : j < l.length) : (rv l k).getD j 0 = if j < k ∨ l.length - k ≤ j then l.getD (l.length - 1 - j) 0 else l.getD j 0 := by
  simp [rv, List.getD, h]
theorem ext_getD {a b : List Int} (h : a.length = b.length) (e : ∀ j, j < a.length → a.getD j 0 = b.getD j 0) : a = b := by
  apply List.ext_getElem h
  intro j h1 h2
  have := e j h1
  simpa [List.getD, h1, h2] using this
theorem rv_zero (l : List Int) : rv l 0 = l := by
  apply ext_getD (rv_len l 0)
  intro j hj
  rw [rv_len] at hj
  rw [rv_get l 0 j hj, if_neg (by omega)]
theorem rv_end (l : List Int) : rv l (l.length / 2) = l.reverse := by
  apply ext_getD (by rw [rv_len]; simp)
  intro j hj
  rw [rv_len] at hj
  rw [rv_get l _ j hj]
  have e : l.reverse.getD j 0 = l.getD (l.length - 1 - j) 0 := by
    have h2 : l.length - 1 - j < l.length := by omega
    simp [List.getD, hj, h2]
  rw [e]
  split
  · rfl
  · rw [show l.length - 1 - j = j by omega]
theorem rv_step (l : List Int) (k : Nat) (h : 2 * k + 2 ≤ l.length) : ((rv l k).set k ((rv l k).getD (l.length - 1 - k) 0)).set (l.length - 1 - k) ((rv l k).getD k 0) = rv l (k + 1) := by
  apply ext_getD (by simp [rv_len])
  intro j hj
  simp only [List.length_set, rv_len] at hj
  have g : ∀ (a : List Int) (i : Nat) (v : Int) (q : Nat), q < a.length → (a.set i v).getD q 0 = if i = q then v else a.getD q 0 := by
    intro a i v q hq
    simp only [List.getD, List.getElem?_set]
    split
    · subst_vars; simp [hq]
    · rfl
  rw [g _ _ _ _ (by simp [rv_len]; omega), g _ _ _ _ (by simp [rv_len]; omega), rv_get l k j hj, rv_get l (k + 1) j hj, rv_get l k k (by omega), rv_get l k _ (by omega : l.length - 1 - k < l.length)]
  by_cases h1 : l.length - 1 - k = j
  · rw [if_pos h1, if_neg (by omega), if_pos (by omega), show l.length - 1 - j = k by omega]
  · rw [if_neg h1]
    by_cases h2 : k = j
    · rw [if_pos h2, if_neg (by omega), if_pos (by omega), ← h2]
    · rw [if_neg h2]
      by_cases h3 : j < k ∨ l.length - k ≤ j
      · rw [if_pos h3, if_pos (by omega)]
      · rw [if_neg h3, if_neg (by omega)]
set_option maxHeartbeats 2000000 in
set_option maxRecDepth 100000 in
theorem l1Digits_any (v : Value) (xs : List Int) (b : Nat) (w : World) (hx : Rd w v xs) (hnx : Norm xs) (hlx : xs.length ≤ 128) (hb : 2 ≤ b) (hb2 : b ≤ 36) :
    Calls Tryd.prog 51 #[v, .int .i64 b] w fun e w' => e = .returned (.string ⟨(txt b (val xs)).toArray⟩) ∧ Below w.heap.size w w' := by
  have hx' := hx
  obtain ⟨a, cap, rfl, _, hzx, hn0, hcx⟩ := hx
  by_cases h0 : xs.length = 0
  · have hv : val xs = 0 := by rw [List.eq_nil_of_length_eq_zero h0]; rfl
    have ht : txt b (val xs) = [48] := by unfold txt; rw [if_pos hv]
    rw [ht]
    have h0z : (xs.length : Int) = 0 := by omega
    go_enter Tryd.func51, Tryd.ntmps51
    go_wp2
    go_ret
    exact ⟨rfl, Below.refl _ _⟩
  · have hvp : val xs ≠ 0 := by
      have := le_val hzx hnx (by omega)
      have h1 : 0 < 4294967296 ^ (xs.length - 1) := Nat.pow_pos (by omega)
      omega
    have hlim : lim (val xs) = xs := lim_val hzx hnx
    obtain ⟨K, hK⟩ : ∃ K : Nat, K = 4096 := ⟨_, rfl⟩
    have hvl : val xs < 2 ^ K := by
      have h1 := val_lt hzx
      rw [R_pow] at h1
      exact Nat.lt_of_lt_of_le h1 (Nat.pow_le_pow_right (by decide) (by omega))
    have ht : txt b (val xs) = ((le b (val xs)).map ch).reverse := by unfold txt; rw [if_neg hvp]
    have HLn : Hid ((le b (val xs)).length ≤ 4096) := hK ▸ le_len hb _ _ hvl
    have h0z : ((xs.length : Int) == 0) = false := by rw [beq_eq_false_iff_ne]; omega
    obtain ⟨NN, hNN⟩ : ∃ NN, val xs = NN := ⟨_, rfl⟩
    rw [hNN] at hvp hvl ht HLn hlim
    rw [hNN, ht]
    obtain ⟨TT, hTT⟩ : ∃ TT : ByteArray, (⟨((le b NN).map ch).reverse.toArray⟩ : ByteArray) = TT := ⟨_, rfl⟩
    have HTT : Hid ((⟨((le b NN).map ch).reverse.toArray⟩ : ByteArray) = TT) := hTT
    rw [hTT]
    clear hvl ht hNN hcx hn0 hTT
    obtain ⟨i0, hi, hz0, hz1, hz2⟩ := info_parts Tryd.info74
    go_enter Tryd.func51, Tryd.ntmps51
    go_wp2
    go_loopg [0, 5] NN (fun gg m o wr => ∃ (M : Nat) (D : List Nat) (a : Option Addr) (c : Nat) (ao : Option Addr) (co : Nat), M ≤ gg ∧ m = .slice a (lim M).length c ∧ Rd wr (.slice a (lim M).length c) (lim M) ∧ (lim M).length ≤ 128 ∧ D ++ le b M = le b NN ∧ o = .slice ao D.length co ∧ U8.Own wr w.heap.size (.slice ao D.length co) (bz (D.map ch)) ∧ Below w.heap.size w wr)
    case atStart => exact ⟨NN, [], a, cap, _, _, Nat.le_refl _, by rw [hlim], by rw [hlim]; exact hx'.alloc _, by rw [hlim]; exact hlx, rfl, rfl, U8.Own.empty w, (Below.refl _ _).alloc (Nat.le_refl _) _⟩
    case round =>
      obtain ⟨M, D, a, c, ao, co, hMg, rfl, hRd, hLl, hD, rfl, hOw, hBr⟩ := hrel
      obtain ⟨wo, hwo⟩ : ∃ y, y = wr := ⟨_, rfl⟩
      subst hwo
      have HD : Hid (D ++ le b M = le b NN) := hD
      clear hD
      by_cases hM : M = 0
      · subst hM
        have hDe : D = le b NN := by have := HD.out; rw [le_zero, List.append_nil] at this; exact this
        have hLz : ¬ (0 : Int) < ((lim 0).length : Int) := by rw [lim_zero]; simp
        have hDp : D.length ≠ 0 := by
          rw [hDe, le_pos hb hvp]; simp
        have hDb : D.length ≤ 4096 := by rw [hDe]; exact HLn.out
        obtain ⟨g, rfl⟩ : ∃ g, ao = some ⟨g, 0, none⟩ := by
          rcases hOw.shape with ⟨hv, hv2⟩ | ⟨g, cp, hv, _⟩
          · simp only [Value.slice.injEq] at hv; omega
          · simp only [Value.slice.injEq] at hv; exact ⟨g, hv.1⟩
        have hgw : w.heap.size ≤ g := (hOw.lt g rfl).1
        obtain ⟨n, hn⟩ : ∃ n, D.length = n := ⟨_, rfl⟩
        have hll : (bz (D.map ch)).length = n := by simp [bz, hn]
        have hnb : n ≤ 4096 := by omega
        have HF : Hid (rv (bz (D.map ch)) (n / 2) = bz ((le b NN).map ch).reverse) := by
          show _ = _
          rw [← hll, rv_end, hDe]; unfold bz; rw [List.map_reverse]
        have HFl : Hid (n = (((le b NN).map ch).reverse).length) := by show _ = _; rw [← hn, hDe]; simp
        have HZ : Hid (rv (bz (D.map ch)) 0 = bz (D.map ch)) := rv_zero _
        have hlm := bz_limbs (D.map ch)
        rw [hn] at hOw ⊢
        generalize bz (D.map ch) = l at hOw hll HF HZ hlm
        have hnd : Int.tdiv (n : Int) 2 = ((n / 2 : Nat) : Int) := by rw [show (2 : Int) = ((2 : Nat) : Int) from rfl, ← Int.ofNat_tdiv]
        obtain ⟨hf, hhf⟩ : ∃ hf, n / 2 = hf := ⟨_, rfl⟩
        rw [hhf] at hnd HF
        have hnd2 : (n : Int) / 2 = (hf : Int) := by omega
        have hhb : 2 * hf ≤ n := by omega
        have hhb2 : n ≤ 2 * hf + 1 := by omega
        clear hDe hRd hLl HD hn hDp hDb
        go_wp2
        go_loopw [10] (fun i wr => ∃ k : Nat, k ≤ hf ∧ i = .int .i64 k ∧ U8.Own wr w.heap.size (.slice (some ⟨g, 0, none⟩) n co) (rv l k) ∧ Below w.heap.size w wr)
          (fun i _ => hf - (intOf i).toNat)
        case atStart => exact ⟨0, Nat.zero_le _, rfl, by rw [HZ.out]; exact hOw, hBr⟩
        case round =>
          obtain ⟨k, hk, rfl, hOr, hBr2⟩ := hrel
          clear hOw
          by_cases hlt : (k : Int) < (hf : Int)
          · have hrl := rv_len l k
            have hk1 : k < n := by omega
            have hk2 : n - 1 - k < n := by omega
            have HS : Hid (((rv l k).set k ((rv l k).getD (n - 1 - k) 0)).set (n - 1 - k) ((rv l k).getD k 0) = rv l (k + 1)) := by
              show _ = _
              rw [← hll]; exact rv_step l k (by omega)
            have hrn : (rv l k).length = n := by rw [hrl, hll]
            have hlr := hOr.2.2
            generalize rv l k = Z at hOr HS hrn hlr
            obtain ⟨z1, hz1'⟩ : ∃ z1, Z.getD k 0 = z1 := ⟨_, rfl⟩
            obtain ⟨z2, hz2'⟩ : ∃ z2, Z.getD (n - 1 - k) 0 = z2 := ⟨_, rfl⟩
            have hzb1 : 0 ≤ z1 ∧ z1 < 4294967296 := by rw [← hz1']; exact hlr.get k
            have hzb2 : 0 ≤ z2 ∧ z2 < 4294967296 := by rw [← hz2']; exact hlr.get _
            obtain ⟨m2, hm2⟩ : ∃ m2, n - 1 - k = m2 := ⟨_, rfl⟩
            have hc1 : wr.cell? ⟨g, k, none⟩ = some (.int .u8 z1) := by have := hOr.cell k (by omega); rw [hz1'] at this; exact this
            have hc2 : wr.cell? ⟨g, m2, none⟩ = some (.int .u8 z2) := by have := hOr.cell (n - 1 - k) (by omega); rw [hz2', hm2] at this; exact this
            have hf1 := hOr.frozen k
            have hf2 := hOr.frozen m2
            have hS1 := hOr.store k hzb2.1 hzb2.2
            have hS2 := hS1.store m2 hzb1.1 hzb1.2
            rw [hz1', hz2', hm2] at HS
            have HS2 : Hid _ := hS2
            obtain ⟨n1, hn1⟩ : ∃ n1 : Nat, n = n1 + 1 := ⟨n - 1, by omega⟩
            have hmi : (n : Int) - 1 - (k : Int) = (m2 : Int) := by omega
            have hmt : ((n : Int) - 1 - (k : Int)).toNat = m2 := by omega
            have hm2n : (m2 : Int) < (n : Int) := by omega
            have hkn : (k : Int) < (n : Int) := by omega
            have hkm : ¬ (k = m2) := by omega
            have hmk : ¬ (m2 = k) := by omega
            clear hOr hS1 hS2 hlr hz1' hz2' hm2 HF HFl HZ hn1
            go_wp2
            go_roundw
            case rel => exact ⟨k + 1, by omega, by go_num, by rw [← HS.out]; exact HS2.out, (hBr2.setCell hgw _).setCell hgw _⟩
            case measure => first | (simp [intOf]; done) | (simp [intOf]; omega)
          · obtain rfl : k = hf := by omega
            rw [HF.out] at hOr
            have hcv := bytes_back wr w.heap.size g co _ n HFl.out hOr
            rw [HTT.out] at hcv
            clear hOr HF HFl HZ
            go_wp2
            go_ret
            exact ⟨rfl, hBr2⟩
      · have hMl : (lim M).length ≠ 0 := fun e => hM (lim_eq_nil.1 (List.eq_nil_of_length_eq_zero e))
        have hLz : (0 : Int) < ((lim M).length : Int) := by omega
        obtain ⟨L, hL⟩ : ∃ L, lim M = L := ⟨_, rfl⟩
        have hLv : val L = M := by rw [← hL, val_lim]
        rw [hL] at hRd hLl hLz ⊢
        obtain ⟨a1, cap1, e1, _, hzL, hnL, hcL⟩ := hRd
        simp only [Value.slice.injEq] at e1
        obtain ⟨rfl, _, rfl⟩ := e1
        have HQl : Hid ((lim (M / b)).length ≤ 128) := by
          have h1 := val_lt hzL
          rw [hLv] at h1
          have h2 : 4294967296 ^ L.length ≤ 4294967296 ^ 128 := Nat.pow_le_pow_right (by decide) hLl
          exact lim_length_le (Nat.lt_of_le_of_lt (Nat.div_le_self _ _) (Nat.lt_of_lt_of_le h1 h2))
        clear hL hMl
        go_wp2_with (at_make; refine wpList_make_full _ rfl _ _ 23 rfl wo.heap.size 74 i0 (.int .u32 0) 1 Tryd.underlying23 hi hz0 hz1 .i64 .i64 _ _ L.length rfl rfl rfl rfl (by rw [hz2]; omega) (by unfold maxLen; omega) (Nat.le_refl _) ?_; intro w1 hown hgrow)
        have hO : Own w1 wo.heap.size _ (List.replicate L.length 0) := Own.made (by omega) hown
        have hB : Below wo.heap.size wo w1 := (Below.refl _ _).grown hgrow (Nat.le_refl _) (by intro k h; cases h)
        clear hown hgrow
        go_loopw [6, 8] (fun r i wr => ∃ (j : Nat) (O : List Int), j ≤ L.length ∧ i = .int .i64 ((j : Int) - 1) ∧ r = .int .u64 ((val (L.drop j) % b : Nat) : Int) ∧ Own wr wo.heap.size (.slice (some ⟨wo.heap.size, 0, none⟩) L.length L.length) (List.replicate j 0 ++ O) ∧ j + O.length = L.length ∧ val O = val (L.drop j) / b ∧ Below wo.heap.size wo wr)
          (fun _ i _ => (intOf i + 1).toNat)
        case atStart =>
          refine ⟨L.length, [], Nat.le_refl _, by go_num, ?_, by simpa using hO, by simp, ?_, hB⟩
          · rw [List.drop_length]; simp [val]
          · rw [List.drop_length]; simp [val]
        case round =>
          obtain ⟨j, O, hj, rfl, rfl, hOq, hOl, hV, hBr2⟩ := hrel
          clear hO hB
          by_cases hj0 : j = 0
          · subst hj0
            rw [List.drop_zero] at hV ⊢
            rw [List.replicate_zero, List.nil_append] at hOq
            obtain ⟨d, hd⟩ : ∃ d, val L % b = d := ⟨_, rfl⟩
            rw [hd]
            have hdb : d < b := by rw [← hd]; exact Nat.mod_lt _ (by omega)
            have hd36 : (d : Int) < 36 := by omega
            have hd0 : (0 : Int) ≤ (d : Int) := by omega
            have oW := hOw.keep hBr2
            have hwr2 := hBr2.size
            have hwr1 := hBr.size
            have hdg := digit_at d (by omega)
            have hT := fun v W (h : Rd W v O) => trimS_any v O W h
            rw [hV, hLv] at hT
            have HE : Hid (bz (D.map ch) ++ [((ch d).toNat : Int)] = bz ((D ++ [d]).map ch)) := by
              show _ = _
              unfold bz; simp
            have HD2 : Hid ((D ++ [d]) ++ le b (M / b) = le b NN) := by
              show _ = _
              rw [← HD.out, le_pos hb hM, List.append_assoc, ← hd, hLv]; rfl
            have hDl : D.length ≤ 4096 := by
              have h1 := HD.out
              have h2 := HLn.out
              rw [← h1, List.length_append] at h2
              omega
            have hY0 : (0 : Int) ≤ ((ch d).toNat : Int) := by omega
            have hY1 : ((ch d).toNat : Int) < 4294967296 := by have := (ch d).toNat_lt; omega
            have hlen1 : (bz (D.map ch) ++ [((ch d).toNat : Int)]).length = D.length + 1 := by simp [bz]
            have hlen2 : (bz (D.map ch)).length + [((ch d).toNat : Int)].length = D.length + 1 := by simp [bz]
            have hap := u8_apart oW hOq
            clear hcL hV hd
            obtain ⟨Y, hY⟩ : ∃ Y : Int, ((ch d).toNat : Int) = Y := ⟨_, rfl⟩
            rw [hY] at HE hY0 hY1 hlen1 hlen2
            go_wp2_with (at_builtin; refine U8.wpList_append_but rfl _ _ 43 rfl Tryd.underlying43 w.heap.size _ _ (bz (D.map ch)) [Y] rfl rfl (oW.alloc _) (U8.Rd.one wr wr.heap.size rfl 5 hY0 hY1) (by rw [hlen2]; omega) (by simp; omega) ?_; rw [hlen1]; intro a3 c3 w3 hO3 hB3 hG3)
            have oQ3 := (hOq.alloc (Obj.cells #[.int .u8 Y] 5)).but hG3 hap
            refine (hT _ _ oQ3.rd).mono ?_
            rintro e w4 ⟨a4, c4, rfl, o4, hB4⟩
            rw [HE.out] at hO3
            have oW4 := hO3.keep hB4
            have hW1 := hBr.trans (hBr2.mono hwr1)
            have hW3 := (hW1.alloc hW1.size (Obj.cells #[.int .u8 Y] 5)).trans hB3
            have hW4 := hW3.trans (hB4.mono hW3.size)
            clear hT hG3 hap hO3 oQ3 hdg
            go_wp2
            go_roundg (M / b)
            case measure => exact Nat.lt_of_lt_of_le (Nat.div_lt_self (by omega) (by omega)) hMg
            case rel => exact ⟨M / b, D ++ [d], a4, c4, a3, c3, Nat.le_refl _, rfl, o4.rd, HQl.out, HD2.out, by simp, by simpa using oW4, hW4⟩
          · obtain ⟨i, rfl⟩ : ∃ i, j = i + 1 := ⟨j - 1, by omega⟩
            have hij : (((i + 1 : Nat) : Int) - 1) = (i : Int) := by omega
            rw [hij]
            obtain ⟨bb, off, rfl, hbb, hcell⟩ := hcL (by omega)
            have hce : wr.cell? ⟨bb, off + i, none⟩ = some (.int .u32 (L.getD i 0)) := (hBr2.cell (p := ⟨bb, off + i, none⟩) hbb).trans (hcell i (by omega))
            have hXb := hzL.get i
            have hdc := drop_cons_val L i
            obtain ⟨x, hx⟩ : ∃ x : Nat, L.getD i 0 = (x : Int) := ⟨(L.getD i 0).toNat, by omega⟩
            rw [hx] at hce hXb hdc
            rw [Int.toNat_natCast] at hdc
            have hbp : 0 < b := by omega
            have hls := limb_step (val (L.drop (i + 1))) b (val (L.drop (i + 1)) % b) (val (L.drop (i + 1)) / b) x hbp (Nat.div_add_mod _ _) (Nat.mod_lt _ hbp)
            rw [← hdc] at hls
            have hrl := Nat.mod_lt (val (L.drop (i + 1))) hbp
            generalize val (L.drop (i + 1)) % b = r at hls hrl
            rw [← hV] at hls
            have hor := or_wide x r (by omega) (by omega)
            obtain ⟨XX, hXX⟩ : ∃ XX, x + 4294967296 * r = XX := ⟨_, rfl⟩
            rw [hXX] at hls hor
            have hXXb : XX < 4294967296 * b := by
              have : 4294967296 * (r + 1) ≤ 4294967296 * b := Nat.mul_le_mul_left _ hrl
              omega
            have hq : XX / b < 4294967296 := by
              rw [Nat.div_lt_iff_lt_mul hbp]
              omega
            obtain ⟨Dq, hDq⟩ : ∃ Dq, Dq = XX / b := ⟨_, rfl⟩
            obtain ⟨Er, hEr⟩ : ∃ Er, Er = XX % b := ⟨_, rfl⟩
            rw [← hDq, ← hEr] at hls
            rw [← hDq] at hq
            have HV : Hid (val ((Dq : Int) :: O) = val (L.drop i) / b) := by
              show _ = _
              rw [hls.1]; simp only [val, Int.toNat_natCast]
            have HR : Hid (val (L.drop i) % b = Er) := hls.2
            obtain ⟨u1, hck1⟩ : ∃ u1, wr.cell? ⟨wo.heap.size, i, none⟩ = some u1 := ⟨_, hOq.cell i (by simp; omega)⟩
            have hf0 := hOq.frozen i
            have hSt := hOq.store i (z := (Dq : Int)) (by omega) (by omega)
            have hse : (List.replicate (i + 1) (0 : Int) ++ O).set i (Dq : Int) = List.replicate i 0 ++ (Dq : Int) :: O := by
              rw [List.replicate_succ', List.append_assoc, List.set_append_right _ _ (by simp)]
              simp
            rw [hse] at hSt
            have HSt : Hid _ := hSt
            have hi1 : (i : Int) < (L.length : Int) := by omega
            have hdv : Int.tdiv (XX : Int) (b : Int) = (Dq : Int) := by rw [hDq, ← Int.ofNat_tdiv]
            have hmd : Int.tmod (XX : Int) (b : Int) = (Er : Int) := by rw [hEr, ← Int.ofNat_tmod]
            have hbz : (b : Int) ≠ 0 := by omega
            clear hse hV hdc hOq hcell hcL hSt hls hx hDq hEr hXX
            go_wp2
            go_roundw
            case rel => exact ⟨i, (Dq : Int) :: O, by omega, rfl, by rw [HR.out], HSt.out, by simp; omega, HV.out, hBr2.setCell (Nat.le_refl _) _⟩
            case measure => first | (simp [intOf]; done) | (simp [intOf]; omega)
end Go.Proofs.YtkjbbmmidjeecaaDoor
