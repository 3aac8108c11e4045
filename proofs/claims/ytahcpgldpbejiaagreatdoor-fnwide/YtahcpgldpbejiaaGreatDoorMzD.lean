import Derived.Test.YtahcpgldpbejiaaGreatDoorMzC
import Derived.Test.YtahcpgldpbejiaaGreatDoorLaidR
import Derived.Laws.BytesArg
namespace Go.Proofs.YtahcpgldpbejiaaGreatDoor.Z
open Go.RowKit Go.Shelf
set_option linter.unusedVariables false
set_option linter.unusedSimpArgs false

theorem trimLeft0 (s : ByteArray) (w : World) :
    Calls Tryz.prog 68 #[.string s, .string ⟨#[48]⟩] w fun e w' => e = .returned (.string ⟨(s.data.toList.dropWhile (· == 48)).toArray⟩) ∧ w' = w := Any.strings_TrimLeft_one Tryz.laysTL s 48 (by decide) w
theorem holds_u8 {w : World} {B g n co : Nat} {l : List Int} (hO : U8.Own w B (.slice (some ⟨g, 0, none⟩) n co) l) : Sort.Holds (Value.int .u8) w g 0 l.toArray := by
  intro j hj
  have hj' : j < l.length := by simpa using hj
  refine ⟨?_, by rw [Nat.zero_add]; exact hO.frozen j⟩
  rw [Nat.zero_add, hO.cell j hj']
  simp [List.getD, hj']
theorem grown_u8 {w : World} {g n : Nat} (d : Array Int) : w.grownBy (Sort.putRow (Value.int .u8) (Sort.ahead w n) g 0 d) (some g) := by
  refine ⟨rfl, rfl, rfl, by simp [Sort.putRow, Sort.mapBlock, Sort.ahead], fun k hk hne => ?_⟩
  have : g ≠ k := fun e => hne (by rw [e])
  simp [Sort.putRow, Sort.mapBlock, Sort.ahead, Array.getElem?_modify, this]
/-- What a text of the reversed row reads as. -/
theorem reverse_any (B g n co : Nat) (L : List UInt8) (w : World) (hO : U8.Own w B (.slice (some ⟨g, 0, none⟩) n co) (bz L)) (hl : L.length = n) (hnb : n ≤ 16777216) (hB : B ≤ w.heap.size) :
    Calls Tryz.prog 67 #[.slice (some ⟨g, 0, none⟩) n co] w fun e w' => e = .returned (.tuple #[]) ∧ (convert 34 9 (.slice (some ⟨g, 0, none⟩) n co)).run Tryz.prog w' = .ok (.string ⟨L.reverse.toArray⟩) w' ∧ Below B w w' := by
  have hgw : B ≤ g := (hO.lt g rfl).1
  have hH := holds_u8 hO
  have hlen : (bz L).length = n := by simp [bz, hl]
  have hR := AnyE.slices_Reverse Tryz.laysReverse (Value.int .u8) (fun _ => rfl) g 0 co (bz L) w hH (by omega)
  rw [hlen] at hR
  refine Calls.mono hR ?_
  rintro e w' ⟨rfl, q, rfl⟩
  refine ⟨rfl, ?_, (Below.refl _ _).grown (grown_u8 _) hB (fun k hk => by cases hk; exact hgw)⟩
  have hH2 := Sort.holds_putRow (Value.int .u8) (Sort.ahead w q) g 0 (bz L).toArray (bz L).reverse.toArray hH (by simp)
  have hrl : (bz L).reverse = bz L.reverse := by unfold bz; rw [List.map_reverse]
  rw [hrl] at hH2 ⊢
  have e2 : n = L.reverse.length := by simp [hl]
  rw [e2]
  refine run_convert_bytes_back _ 34 9 5 ⟨g, 0, none⟩ co L.reverse Tryz.underlying34 Tryz.underlying5 Tryz.underlying9 (fun j hj => ?_)
  rw [add_at]
  have := (hH2 j (by simp [bz]; simpa using hj)).1
  rw [Nat.zero_add] at this
  rw [this]
  have hj2 : j < L.length := by simpa using hj
  have e3 : (bz L.reverse).toArray[j]! = (L.reverse[j].toNat : Int) := by
    have h3 : j < (bz L.reverse).toArray.size := by simp [bz]; exact hj2
    rw [getElem!_pos _ j h3]
    simp [bz]
  rw [e3]
theorem pow_bound {b k : Nat} (hb : 2 ≤ b) (h : b ^ k < 4294967296) : k ≤ 31 := by
  rcases Nat.lt_or_ge 31 k with h1 | h1
  · exfalso
    have h2 : (2 : Nat) ^ 32 ≤ 2 ^ k := Nat.pow_le_pow_right (by decide) h1
    have h3 : 2 ^ k ≤ b ^ k := Nat.pow_le_pow_left hb k
    have h4 : (2 : Nat) ^ 32 = 4294967296 := by decide
    omega
  · exact h1
set_option maxHeartbeats 1000000 in
set_option maxRecDepth 100000 in
theorem limbOfDigits_any (b : Nat) (w : World) (hb : 2 ≤ b) (hb2 : b ≤ 36) :
    Calls Tryz.prog 65 #[.int .u32 b] w fun e w' => ∃ k u : Nat, e = .returned (.tuple #[.int .u32 u, .int .i64 k]) ∧ u = b ^ k ∧ 1 ≤ k ∧ u < 4294967296 ∧ w' = w := by
  have hdz : (b : Int) ≠ 0 := by omega
  have hdv : Int.tdiv 4294967295 (b : Int) = ((4294967295 / b : Nat) : Int) := by rw [show (4294967295 : Int) = ((4294967295 : Nat) : Int) from rfl, ← Int.ofNat_tdiv]
  obtain ⟨q, hq⟩ : ∃ q, 4294967295 / b = q := ⟨_, rfl⟩
  have hqb : q * b ≤ 4294967295 := by rw [← hq]; exact Nat.div_mul_le_self _ _
  have hqd : (4294967295 : Int) / (b : Int) = (q : Int) := by rw [← hq]; rfl
  rw [hq] at hdv
  have hqm : (q : Int) % 4294967296 = (q : Int) := by
    have : q ≤ 4294967295 := by rw [← hq]; exact Nat.div_le_self _ _
    omega
  clear hq
  go_enter Tryz.func65, Tryz.ntmps65
  go_wp2
  go_loopw [4, 5] (fun u k wr => ∃ kk uu : Nat, u = .int .u32 uu ∧ k = .int .i64 kk ∧ uu = b ^ kk ∧ 1 ≤ kk ∧ uu < 4294967296 ∧ wr = w) (fun u _ _ => 4294967296 - (intOf u).toNat)
  case atStart => exact ⟨1, b, rfl, rfl, by rw [Nat.pow_one], by omega, by omega, rfl⟩
  case round =>
    obtain ⟨kk, uu, rfl, rfl, hu, hk1, hul, rfl⟩ := hrel
    have hkb := pow_bound hb (hu ▸ hul)
    have HU : Hid (uu = b ^ kk) := hu
    have hup : 1 ≤ uu := by rw [hu]; exact Nat.le_trans Nat.one_le_two_pow (Nat.pow_le_pow_left hb kk)
    clear hu
    by_cases hc : (uu : Int) ≤ (q : Int)
    · have hm : uu * b ≤ q * b := Nat.mul_le_mul_right _ (by omega)
      have hm2 : uu * 2 ≤ uu * b := Nat.mul_le_mul_left _ hb
      obtain ⟨ub, hub⟩ : ∃ ub, uu * b = ub := ⟨_, rfl⟩
      rw [hub] at hm hm2
      have hubz : (uu : Int) * (b : Int) = (ub : Int) := by rw [← hub, Int.natCast_mul]
      have HP : Hid (ub = b ^ (kk + 1)) := by show _ = _; rw [← hub, HU.out, Nat.pow_succ]
      clear hub
      go_wp2
      go_roundw
      case rel => exact ⟨kk + 1, ub, by go_num, by go_num, HP.out, by omega, by omega, by first | rfl | trivial⟩
      case measure => simp [intOf]; omega
    · go_wp2
      refine bodyPost_ret (v := .tuple #[.int .u32 uu, .int .i64 kk]) (by simp [results, Tryz.results65, go_sem]) rfl ?_
      exact ⟨kk, uu, rfl, HU.out, hk1, hul, rfl⟩
end Go.Proofs.YtahcpgldpbejiaaGreatDoor.Z

namespace Go.Proofs.YtahcpgldpbejiaaGreatDoor.Z
open Go.RowKit Go.Shelf
set_option linter.unusedVariables false
set_option linter.unusedSimpArgs false

theorem drop_zeros (k : Nat) (l : List UInt8) : (List.replicate k (48 : UInt8) ++ l).dropWhile (· == 48) = l.dropWhile (· == 48) := by
  induction k with
  | zero => rfl
  | succ k ih => rw [List.replicate_succ, List.cons_append, List.dropWhile_cons_of_pos (by decide), ih]
/-- What is left when the zeros ahead are dropped. -/
theorem chunk_text {b n : Nat} (hb : 2 ≤ b) (hb2 : b ≤ 36) (hn : n ≠ 0) {out : List Nat} (h : Chunk b n 0 out) : ((out.map ch).reverse).dropWhile (· == 48) = txt b n := by
  obtain ⟨k, rfl⟩ := h.done
  unfold txt
  rw [if_neg hn, List.map_append, List.reverse_append, List.map_replicate, List.reverse_replicate, ch_zero, drop_zeros]
  obtain ⟨l, d, e, hd⟩ := le_last hb n hn
  have hdb : d < b := le_lt hb n d (by rw [e]; simp)
  rw [e, List.map_append, List.reverse_append]
  simp only [List.map_cons, List.map_nil, List.reverse_cons, List.reverse_nil, List.nil_append, List.singleton_append]
  rw [List.dropWhile_cons_of_neg]
  have := ch_ne d (by omega) hd
  simpa using this
theorem txt_ne {b n : Nat} (hb : 2 ≤ b) : txt b n ≠ [] := by
  unfold txt
  by_cases hn : n = 0
  · rw [if_pos hn]; decide
  · rw [if_neg hn, le_pos hb hn]; simp
theorem chunk_len {b n m : Nat} {out : List Nat} (h : Chunk b n m out) (hm : m ≠ 0) : out.length ≤ (le b n).length := by
  obtain ⟨k, hk, h0⟩ := h
  have := congrArg List.length hk
  rw [List.length_append, List.length_append, h0 hm] at this
  simp at this
  omega
set_option maxHeartbeats 4000000 in
set_option maxRecDepth 100000 in
theorem digits_any (v : Value) (xs : List Int) (b : Nat) (w : World) (hx : Rd w v xs) (hnx : Norm xs) (hlx : xs.length ≤ 128) (hb : 2 ≤ b) (hb2 : b ≤ 36) (h0 : xs.length ≠ 0) :
    Calls Tryz.prog 40 #[v, .int .u32 b] w fun e w' => e = .returned (.string ⟨(txt b (val xs)).toArray⟩) ∧ Below w.heap.size w w' := by
  have hx' := hx
  obtain ⟨a, cap, rfl, _, hzx, hn0, hcx⟩ := hx
  have hvp : val xs ≠ 0 := by
    have := le_val hzx hnx (by omega)
    have h1 : 0 < 4294967296 ^ (xs.length - 1) := Nat.pow_pos (by omega)
    omega
  have hlim : lim (val xs) = xs := lim_val hzx hnx
  obtain ⟨K, hK⟩ : ∃ K : Nat, K = 4096 := ⟨_, rfl⟩
  have hvl : val xs < 2 ^ K := by
    have h1 := val_lt hzx
    rw [R_pow] at h1
    exact Nat.lt_of_lt_of_le h1 (Nat.pow_le_pow_right (by decide) (by omega))
  have HLn : Hid ((le b (val xs)).length ≤ 4096) := hK ▸ le_len hb _ _ hvl
  obtain ⟨NN, hNN⟩ : ∃ NN, val xs = NN := ⟨_, rfl⟩
  rw [hNN] at hvp hvl HLn hlim
  rw [hNN]
  obtain ⟨TT, hTT⟩ : ∃ TT : ByteArray, (⟨(txt b NN).toArray⟩ : ByteArray) = TT := ⟨_, rfl⟩
  have HTT : Hid ((⟨(txt b NN).toArray⟩ : ByteArray) = TT) := hTT
  rw [hTT]
  clear hvl hNN hcx hn0 hTT
  have hU := fun W => limbOfDigits_any b W hb hb2
  go_enter Tryz.func40, Tryz.ntmps40
  go_wp2_with fail
  refine (hU _).mono ?_
  rintro e w0 ⟨k, U, rfl, hUe, hk1, hUl, rfl⟩
  have hkb := pow_bound hb (hUe ▸ hUl)
  have hU2 : 2 ≤ U := by
    rw [hUe]
    have h1 : b ^ 1 ≤ b ^ k := Nat.pow_le_pow_right (by omega) hk1
    rw [Nat.pow_one] at h1
    omega
  have HU : Hid (U = b ^ k) := hUe
  clear hUe hU
  go_wp2
  go_loopg [0, 7] NN (fun gg m o wr => ∃ (M : Nat) (D : List Nat) (a : Option Addr) (c : Nat) (ao : Option Addr) (co : Nat), M ≤ gg ∧ m = .slice a (lim M).length c ∧ Rd wr (.slice a (lim M).length c) (lim M) ∧ (lim M).length ≤ 128 ∧ Chunk b NN M D ∧ D.length ≤ 5000 ∧ o = .slice ao D.length co ∧ U8.Own wr w0.heap.size (.slice ao D.length co) (bz (D.map ch)) ∧ Below w0.heap.size w0 wr)
  case atStart => exact ⟨NN, [], a, cap, none, 0, Nat.le_refl _, by rw [hlim], by rw [hlim]; exact hx', by rw [hlim]; exact hlx, Chunk.start _ _, by simp, rfl, U8.Own.nil _ _, Below.refl _ _⟩
  case round =>
    obtain ⟨M, D, a, c, ao, co, hMg, rfl, hRd, hLl, hD, hDl, rfl, hOw, hBr⟩ := hrel
    obtain ⟨wo, hwo⟩ : ∃ y, y = wr := ⟨_, rfl⟩
    subst hwo
    have HD : Hid (Chunk b NN M D) := hD
    clear hD
    by_cases hM : M = 0
    · subst hM
      have hLz : ¬ (0 : Int) < ((lim 0).length : Int) := by rw [lim_zero]; simp
      have hct := chunk_text hb hb2 hvp HD.out
      have hDp : D.length ≠ 0 := by
        intro e
        have : D = [] := List.eq_nil_of_length_eq_zero e
        rw [this] at hct
        simp at hct
        exact txt_ne (n := NN) hb (by first | exact hct.symm | exact hct)
      obtain ⟨g, rfl⟩ : ∃ g, ao = some ⟨g, 0, none⟩ := by
        rcases hOw.shape with ⟨hv, hv2⟩ | ⟨g, cp, hv, _⟩
        · simp only [Value.slice.injEq] at hv; omega
        · simp only [Value.slice.injEq] at hv; exact ⟨g, hv.1⟩
      have hRv := reverse_any w0.heap.size g D.length co (D.map ch) wo hOw (by simp) (by omega) hBr.size
      obtain ⟨S, hS⟩ : ∃ S : ByteArray, (⟨(D.map ch).reverse.toArray⟩ : ByteArray) = S := ⟨_, rfl⟩
      have hTl := fun W => trimLeft0 S W
      have e1 : S.data.toList = (D.map ch).reverse := by rw [← hS]
      rw [e1, hct, HTT.out] at hTl
      rw [hS] at hRv
      have hTn : TT.toList.isEmpty = false := by
        rw [Lib.toList_data, ← HTT.out]
        cases ht : txt b NN with
        | nil => exact absurd ht (txt_ne hb)
        | cons _ _ => rfl
      clear hct e1 hS hRd hLl HD hOw hDp
      go_wp2_with fail
      refine hRv.mono ?_
      rintro e w2 ⟨rfl, hcv, hB2⟩
      clear hRv
      have hW2 := hBr.trans hB2
      go_wp2_with fail
      refine (hTl _).mono ?_
      rintro e w3 ⟨rfl, rfl⟩
      go_wp2
      go_ret
      exact ⟨rfl, hW2⟩
    · have hMl : (lim M).length ≠ 0 := fun e => hM (lim_eq_nil.1 (List.eq_nil_of_length_eq_zero e))
      have hLz : (0 : Int) < ((lim M).length : Int) := by omega
      have hDv := fun W h => dividedByLimb_any (.slice a (lim M).length c) (lim M) U W h (by omega) (by omega) hUl
      rw [val_lim] at hDv
      have HQl : Hid ((lim (M / U)).length ≤ 128) := by
        have h1 := val_lt (lim_limbs M)
        rw [val_lim] at h1
        have h2 : 4294967296 ^ (lim M).length ≤ 4294967296 ^ 128 := Nat.pow_le_pow_right (by decide) hLl
        exact lim_length_le (Nat.lt_of_le_of_lt (Nat.div_le_self _ _) (Nat.lt_of_lt_of_le h1 h2))
      have HC : Hid (Chunk b NN (M / U) (D ++ pd b k (M % U))) := by
        have := HD.out.step (w := k) hb hM
        rw [← HU.out] at this
        exact this
      have hDl2 : D.length ≤ 4096 := Nat.le_trans (chunk_len HD.out hM) HLn.out
      have hpl : M % U < 4294967296 := Nat.lt_trans (Nat.mod_lt _ (by omega)) hUl
      obtain ⟨p0, hp0⟩ : ∃ p0, M % U = p0 := ⟨_, rfl⟩
      rw [hp0] at hDv HC hpl
      obtain ⟨L, hL⟩ : ∃ L, lim M = L := ⟨_, rfl⟩
      obtain ⟨Q, hQ⟩ : ∃ Q, lim (M / U) = Q := ⟨_, rfl⟩
      rw [hL, hQ] at hDv
      rw [hL] at hRd hLz ⊢
      have HQ : Hid (lim (M / U) = Q) := hQ
      clear hL hQ hp0 hMl hLl
      go_wp2_with fail
      refine (hDv _ hRd).mono ?_
      rintro e w1 ⟨a1, c1, rfl, o1, hB1⟩
      clear hDv
      have oW := hOw.keep hB1
      have hW1 := hBr.trans (hB1.mono hBr.size)
      have HI : Hid (D ++ pd b (k - 0) p0 = D ++ pd b k p0) := rfl
      go_wp2
      go_loopw [7, 8, 25] (fun o pt i wr => ∃ (j p co2 : Nat) (ao2 : Option Addr) (D2 : List Nat), j ≤ k ∧ i = .int .i64 j ∧ pt = .int .u32 p ∧ p < 4294967296 ∧ Hid (D2 ++ pd b (k - j) p = D ++ pd b k p0) ∧ D2.length = D.length + j ∧ o = .slice ao2 D2.length co2 ∧ U8.Own wr w0.heap.size (.slice ao2 D2.length co2) (bz (D2.map ch)) ∧ Own wr wo.heap.size (.slice a1 Q.length c1) Q ∧ Below w0.heap.size w0 wr) (fun _ _ i _ => k - (intOf i).toNat)
      case atStart => exact ⟨0, p0, co, ao, D, Nat.zero_le _, rfl, rfl, hpl, HI, rfl, rfl, oW, o1, hW1⟩
      case round =>
        obtain ⟨j, p, co2, ao2, D2, hj, rfl, rfl, hp, HJ, hD2, rfl, oWr, oQ, hBr2⟩ := hrel
        clear oW o1 HI
        have HDL : Hid (D2.length = D.length + j) := hD2
        have hD2b : D2.length ≤ 5000 := by omega
        clear hD2
        by_cases hjk : j < k
        · have hjz : (j : Int) < (k : Int) := by omega
          obtain ⟨d, hd⟩ : ∃ d, p % b = d := ⟨_, rfl⟩
          obtain ⟨p2, hp2⟩ : ∃ p2, p / b = p2 := ⟨_, rfl⟩
          have hdb : d < b := by rw [← hd]; exact Nat.mod_lt _ (by omega)
          have hp2l : p2 < 4294967296 := by rw [← hp2]; exact Nat.lt_of_le_of_lt (Nat.div_le_self _ _) hp
          have HJ2 : Hid ((D2 ++ [d]) ++ pd b (k - (j + 1)) p2 = D ++ pd b k p0) := by
            show _ = _
            rw [← HJ.out, show k - j = (k - (j + 1)) + 1 by omega, pd, List.append_assoc, hd, hp2]; rfl
          have hdv : Int.tdiv (p : Int) (b : Int) = (p2 : Int) := by rw [← hp2, ← Int.ofNat_tdiv]
          have hmd : Int.tmod (p : Int) (b : Int) = (d : Int) := by rw [← hd, ← Int.ofNat_tmod]
          have hbz : (b : Int) ≠ 0 := by omega
          have hd36 : (d : Int) < 36 := by omega
          have hd0 : (0 : Int) ≤ (d : Int) := by omega
          have hdg := digit_at d (by omega)
          have HE : Hid (bz (D2.map ch) ++ [((ch d).toNat : Int)] = bz ((D2 ++ [d]).map ch)) := by
            show _ = _
            unfold bz; simp
          have hY0 : (0 : Int) ≤ ((ch d).toNat : Int) := by omega
          have hY1 : ((ch d).toNat : Int) < 4294967296 := by have := (ch d).toNat_lt; omega
          have hlen1 : (bz (D2.map ch) ++ [((ch d).toNat : Int)]).length = D2.length + 1 := by simp [bz]
          have hlen2 : (bz (D2.map ch)).length + [((ch d).toNat : Int)].length = D2.length + 1 := by simp [bz]
          have hap := u8_apart oWr oQ
          have hwr := hBr2.size
          obtain ⟨Y, hY⟩ : ∃ Y : Int, ((ch d).toNat : Int) = Y := ⟨_, rfl⟩
          rw [hY] at HE hY0 hY1 hlen1 hlen2
          clear hd hp2
          go_wp2_with (at_builtin; refine U8.wpList_append_but rfl _ _ 34 rfl Tryz.underlying34 w0.heap.size _ _ (bz (D2.map ch)) [Y] rfl rfl (oWr.alloc _) (U8.Rd.one wr wr.heap.size rfl 5 hY0 hY1) (by rw [hlen2]; omega) (by simp; omega) ?_; rw [hlen1]; intro a3 c3 w3 hO3 hB3 hG3)
          have oQ3 := (oQ.alloc (Obj.cells #[.int .u8 Y] 5)).but hG3 hap
          rw [HE.out] at hO3
          have hW3 := (hBr2.alloc hBr2.size (Obj.cells #[.int .u8 Y] 5)).trans hB3
          clear hG3 hap hdg
          go_roundw
          case rel => exact ⟨j + 1, p2, c3, a3, D2 ++ [d], by omega, by go_num, rfl, hp2l, HJ2, by have := HDL.out; simp; omega, by simp, by simpa using hO3, oQ3, hW3⟩
          case measure => first | (simp [intOf]; done) | (simp [intOf]; omega)
        · obtain rfl : j = k := by omega
          have hjz : ¬ (j : Int) < (j : Int) := by omega
          have HF : Hid (Chunk b NN (M / U) D2) := by
            have h1 := HJ.out
            rw [Nat.sub_self, pd, List.append_nil] at h1
            rw [h1]; exact HC.out
          go_wp2
          go_roundg (M / U)
          case measure => exact Nat.lt_of_lt_of_le (Nat.div_lt_self (by omega) (by omega)) hMg
          case rel => exact ⟨M / U, D2, a1, c1, ao2, co2, Nat.le_refl _, by rw [HQ.out], by rw [HQ.out]; exact oQ.rd, HQl.out, HF.out, by omega, rfl, oWr, hBr2⟩
end Go.Proofs.YtahcpgldpbejiaaGreatDoor.Z

namespace Go.Proofs.YtahcpgldpbejiaaGreatDoor.Z
open Go.RowKit Go.Shelf
set_option linter.unusedVariables false
set_option linter.unusedSimpArgs false

set_option maxRecDepth 100000 in
theorem digits_zero (a : Option Addr) (cap : Nat) (b : Nat) (w : World) (hb : 2 ≤ b) (hb2 : b ≤ 36) :
    Calls Tryz.prog 40 #[.slice a 0 cap, .int .u32 b] w fun e w' => e = .returned (.string ⟨#[48]⟩) ∧ Below w.heap.size w w' := by
  have hU := fun W => limbOfDigits_any b W hb hb2
  have hR : ∀ W, Calls Tryz.prog 67 #[.slice none 0 0] W _ := fun W => AnyE.slices_Reverse_empty Tryz.laysReverse none 0 W
  have hcv := fun W => run_convert_bytes_nil (P := Tryz.prog) (w := W) 34 5 Tryz.underlying34 Tryz.underlying5 0 0 9 Tryz.underlying9
  have hT := fun W => trimLeft0 ByteArray.empty W
  go_enter Tryz.func40, Tryz.ntmps40
  go_wp2_with fail
  refine (hU _).mono ?_
  rintro e w0 ⟨k, U, rfl, hUe, hk1, hUl, rfl⟩
  clear hUe hU
  go_wp2
  refine wp_loop_rounds 1 ?_
  rw [rounds_succ]
  go_wp2_with fail
  refine (hR _).mono ?_
  rintro e w1 ⟨rfl, rfl⟩
  go_wp2_with fail
  refine (hT _).mono ?_
  rintro e w2 ⟨rfl, rfl⟩
  go_wp2
  go_ret
  exact ⟨rfl, Below.refl _ _⟩
/-- What BigText answers. -/
def btA (p : Bool) (xs : List Int) (base : Int) : List UInt8 :=
  if okB p xs = true ∧ 2 ≤ base ∧ base ≤ 36 then (if p = true then 45 :: txt base.toNat (val xs) else txt base.toNat (val xs)) else []
theorem txt_len {b : Nat} {xs : List Int} (hb : 2 ≤ b) (hz : Limbs xs) (hl : xs.length ≤ 128) : (txt b (val xs)).length ≤ 4096 := by
  unfold txt
  by_cases hn : val xs = 0
  · rw [if_pos hn]; simp
  · rw [if_neg hn, List.length_reverse, List.length_map]
    obtain ⟨K, hK⟩ : ∃ K : Nat, K = 4096 := ⟨_, rfl⟩
    rw [← hK]
    refine le_len hb _ _ ?_
    have h1 := val_lt hz
    rw [R_pow] at h1
    exact Nat.lt_of_lt_of_le h1 (Nat.pow_le_pow_right (by decide) (by omega))
set_option maxRecDepth 100000 in
theorem baseOk_any (base : Int) (w : World) :
    Calls Tryz.prog 39 #[.int .i64 base] w fun e w' => e = .returned (.bool (decide (2 ≤ base ∧ base ≤ 36))) ∧ w' = w := by
  by_cases h1 : 2 ≤ base
  · by_cases h2 : base ≤ 36
    · rw [decide_eq_true ⟨h1, h2⟩]
      go_enter Tryz.func39, Tryz.ntmps39
      go_wp2
      go_ret
      exact ⟨rfl, rfl⟩
    · rw [decide_eq_false (fun h => h2 h.2)]
      have h3 : (36 : Int) < base := by omega
      go_enter Tryz.func39, Tryz.ntmps39
      go_wp2
      go_ret
      exact ⟨rfl, rfl⟩
  · rw [decide_eq_false (fun h => h1 h.1)]
    have h3 : base < 2 := by omega
    go_enter Tryz.func39, Tryz.ntmps39
    go_wp2
    go_ret
    exact ⟨rfl, rfl⟩
set_option maxHeartbeats 1000000 in
set_option maxRecDepth 100000 in
theorem bigText_any (p : Bool) (v : Value) (xs : List Int) (base : Int) (w : World) (hx : Rd w v xs) (h0 : -9223372036854775808 ≤ base) (h1 : base ≤ 9223372036854775807) :
    Calls Tryz.prog 16 #[.agg #[.bool p, v], .int .i64 base] w fun e w' => e = .returned (.string ⟨(btA p xs base).toArray⟩) ∧ Below w.heap.size w w' := by
  have hx' := hx
  obtain ⟨a, cap, rfl, _, hzx, hnx, hcx⟩ := hx
  clear hcx hnx
  have hok := fun W h => bigOk_any p (.slice a xs.length cap) xs W h
  have hBo := fun W => baseOk_any base W
  have bA := Box.new w (.bool p) (.slice a xs.length cap) 30
  have rx := hx'.alloc (Obj.cells #[.bool p, .slice a xs.length cap] 30)
  have hW := (Below.refl w.heap.size w).alloc (Nat.le_refl _) (Obj.cells #[.bool p, .slice a xs.length cap] 30)
  cases hoA : okB p xs with
  | false =>
    have hC : btA p xs base = [] := by unfold btA; rw [if_neg (fun e => by rw [hoA] at e; cases e.1)]
    rw [hC]
    rw [hoA] at hok
    clear hoA hx' hC
    go_enter Tryz.func16, Tryz.ntmps16
    go_wp2_with fail
    refine (hok _ rx).mono ?_
    rintro e w1 ⟨rfl, hB⟩
    replace hW := hW.trans (hB.mono hW.size)
    go_wp2
    go_ret
    exact ⟨rfl, hW⟩
  | true =>
    by_cases hbs : 2 ≤ base ∧ base ≤ 36
    · obtain ⟨b, hb⟩ : ∃ b : Nat, base = (b : Int) := ⟨base.toNat, by omega⟩
      subst hb
      have hC : btA p xs (b : Int) = if p = true then 45 :: txt b (val xs) else txt b (val xs) := by unfold btA; rw [if_pos ⟨hoA, hbs⟩]; rfl
      rw [hC]
      have hlx := (okB_norm hoA).2
      have hnm := (okB_norm hoA).1
      have hD : ∀ W, Rd W (.slice a xs.length cap) xs → Calls Tryz.prog 40 #[.slice a xs.length cap, .int .u32 b] W fun e w' => e = .returned (.string ⟨(txt b (val xs)).toArray⟩) ∧ Below W.heap.size W w' := (by
        intro W h
        by_cases h00 : xs.length = 0
        · have hv0 : val xs = 0 := by rw [List.eq_nil_of_length_eq_zero h00]; rfl
          have ht0 : txt b (val xs) = [48] := by unfold txt; rw [if_pos hv0]
          rw [ht0, h00]
          exact digits_zero a cap b W (by omega) (by omega)
        · exact digits_any (.slice a xs.length cap) xs b W h hnm hlx (by omega) (by omega) h00)
      have htl := txt_len (b := b) (by omega) hzx hlx
      obtain ⟨S, hS⟩ : ∃ S : ByteArray, (⟨(txt b (val xs)).toArray⟩ : ByteArray) = S := ⟨_, rfl⟩
      have hSz : S.size ≤ 4096 := by rw [← hS]; show (txt b (val xs)).toArray.size ≤ _; simpa using htl
      have hSl : S.data.toList = txt b (val xs) := by rw [← hS]
      rw [hS] at hD
      rw [hoA] at hok
      rw [decide_eq_true hbs] at hBo
      have hb1 : ¬ (b : Int) < 2 := by omega
      have hb3 : ¬ (36 : Int) < (b : Int) := by omega
      have hbm : (b : Int) % 4294967296 = (b : Int) := by omega
      cases p with
      | true =>
        have HR : Hid ((⟨(45 :: txt b (val xs)).toArray⟩ : ByteArray) = ⟨#[45]⟩ ++ S) := by
          show _ = _
          apply ByteArray.ext
          apply Array.toList_inj.1
          rw [ByteArray.data_append, Array.toList_append, hSl]; rfl
        simp only [if_true]
        rw [HR.out]
        clear hoA hx' hC hS hSl htl HR hnm hlx
        go_enter Tryz.func16, Tryz.ntmps16
        go_wp2_with fail
        refine (hok _ rx).mono ?_
        rintro e w1 ⟨rfl, hB⟩
        replace hW := hW.trans (hB.mono hW.size)
        replace rx := rx.keep hB
        replace bA := bA.keep hB
        clear hB hok
        obtain ⟨-, k0, k1⟩ := id bA
        go_wp2_with fail
        refine (hBo _).mono ?_
        rintro e wB ⟨rfl, rfl⟩
        go_wp2_with fail
        refine (hD _ rx).mono ?_
        rintro e w2 ⟨rfl, hB2⟩
        have hW2 := hW.trans (hB2.mono hW.size)
        obtain ⟨-, m0, m1⟩ := bA.keep hB2
        clear hD
        go_wp2
        go_ret
        exact ⟨rfl, hW2⟩
      | false =>
        simp only [Bool.false_eq_true, if_false]
        rw [hS]
        clear hoA hx' hC hS hSl htl hnm hlx
        go_enter Tryz.func16, Tryz.ntmps16
        go_wp2_with fail
        refine (hok _ rx).mono ?_
        rintro e w1 ⟨rfl, hB⟩
        replace hW := hW.trans (hB.mono hW.size)
        replace rx := rx.keep hB
        replace bA := bA.keep hB
        clear hB hok
        obtain ⟨-, k0, k1⟩ := id bA
        go_wp2_with fail
        refine (hBo _).mono ?_
        rintro e wB ⟨rfl, rfl⟩
        go_wp2_with fail
        refine (hD _ rx).mono ?_
        rintro e w2 ⟨rfl, hB2⟩
        have hW2 := hW.trans (hB2.mono hW.size)
        obtain ⟨-, m0, m1⟩ := bA.keep hB2
        clear hD
        go_wp2
        go_ret
        exact ⟨rfl, hW2⟩
    · have hC : btA p xs base = [] := by unfold btA; rw [if_neg (fun e => hbs e.2)]
      rw [hC]
      rw [hoA] at hok
      rw [decide_eq_false hbs] at hBo
      clear hoA hx' hC
      by_cases hlo : base < 2
      · go_enter Tryz.func16, Tryz.ntmps16
        go_wp2_with fail
        refine (hok _ rx).mono ?_
        rintro e w1 ⟨rfl, hB⟩
        replace hW := hW.trans (hB.mono hW.size)
        replace rx := rx.keep hB
        replace bA := bA.keep hB
        clear hB hok
        obtain ⟨-, k0, k1⟩ := id bA
        go_wp2_with fail
        refine (hBo _).mono ?_
        rintro e wB ⟨rfl, rfl⟩
        go_wp2
        go_ret
        exact ⟨rfl, hW⟩
      · have hhi : (36 : Int) < base := by omega
        go_enter Tryz.func16, Tryz.ntmps16
        go_wp2_with fail
        refine (hok _ rx).mono ?_
        rintro e w1 ⟨rfl, hB⟩
        replace hW := hW.trans (hB.mono hW.size)
        replace rx := rx.keep hB
        replace bA := bA.keep hB
        clear hB hok
        obtain ⟨-, k0, k1⟩ := id bA
        go_wp2_with fail
        refine (hBo _).mono ?_
        rintro e wB ⟨rfl, rfl⟩
        go_wp2
        go_ret
        exact ⟨rfl, hW⟩
end Go.Proofs.YtahcpgldpbejiaaGreatDoor.Z
