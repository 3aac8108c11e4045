import Derived.Test.YtakbmjndhejfpaaDoorRTok
import Derived.Test.YtakbmjndhejfpaaDoorBzU
import Derived.Lib.Repeat
namespace Go.Proofs.YtakbmjndhejfpaaDoor
open Go.RowKit Go.Lib
set_option linter.unusedVariables false
set_option linter.unusedSimpArgs false

/-- '[]byte(s)': what it reads as, and what it leaves alone. -/
theorem bytes_of (s : ByteArray) (w : World) (hs : s.size ≤ 16777216) : ∃ cap w', (convert 9 57 (.string s)).run Tryd.prog w = .ok (.slice (some ⟨w.heap.size, 0, none⟩) s.size cap) w' ∧
    U8.Rd w' (.slice (some ⟨w.heap.size, 0, none⟩) s.size cap) (bz s.data.toList) ∧ Below w.heap.size w w' ∧ ∀ B v xs, U8.Own w B v xs → U8.Own w' B v xs := by
  have hl : s.data.toList.length = s.size := (size_eq s).symm
  have hbl : (bz s.data.toList).length = s.size := by simp [bz]
  refine ⟨_, _, run_bytes_of_string w 9 57 5 s Tryd.underlying9 Tryd.underlying57 Tryd.underlying5, ?_, ((Below.refl _ _).drew).alloc (Nat.le_refl _) _, fun B v xs h => (h.drew).alloc _⟩
  refine ⟨some ⟨w.heap.size, 0, none⟩, grownCap w s.size 0 5, by rw [hbl], by omega, bz_limbs _, ⟨?_, fun h => by cases h⟩, fun h0 => ⟨w.heap.size, 0, rfl, by simp, fun k hk => ?_⟩⟩
  · rw [hbl]; exact grownCap_ge w s.size 0 5
  · rw [Nat.zero_add]
    have hk2 : k < s.data.size := by rw [hbl] at hk; exact hk
    have := World.cell?_alloc_mark w.drew (bytesRow s (grownCap w s.size 0 5)) 5 ((bytesRow s (grownCap w s.size 0 5)).size, (bytesRow s (grownCap w s.size 0 5)).size + 1) k
    rw [show w.drew.heap.size = w.heap.size from rfl] at this
    rw [this, bytesRow_at s _ k hk2, bz_getD _ k (by simpa using hk2)]
    rfl
/-- What TextTimes answers. -/
def timesAns (s : ByteArray) (n : Int) : List UInt8 × Int :=
  if (textOf s).isSome = true then (if s.size = 0 ∨ n < 1 then ([], 0) else if 16384 < n.toNat * s.size then ([], 3) else (repeatL s.data.toList n.toNat, 0)) else ([], 1)
theorem repeat_snoc (l : List UInt8) (k : Nat) : repeatL l k ++ l = repeatL l (k + 1) := by
  rw [repeatL_add l k 1, repeatL_one]
theorem repeat_len (s : ByteArray) (k : Nat) : (repeatL s.data.toList k).length = k * s.size := by rw [repeatL_length, ← size_eq]
theorem bz_append (a b : List UInt8) : bz (a ++ b) = bz a ++ bz b := by unfold bz; rw [List.map_append]
theorem bz_len (a : List UInt8) : (bz a).length = a.length := by simp [bz]
theorem text_fits' {s : ByteArray} (h : (textOf s).isSome = true) : s.size ≤ 16384 := by
  unfold textOf at h
  by_cases hs : s.size ≤ 16384
  · exact hs
  · rw [if_neg hs] at h; cases h
set_option maxHeartbeats 1000000 in
set_option maxRecDepth 100000 in
theorem textTimesS_any (s : ByteArray) (n : Int) (w : World) (hs : s.size ≤ 16777216) (hn0 : -9223372036854775808 ≤ n) (hn1 : n ≤ 9223372036854775807) :
    Calls Tryd.prog 25 #[.string s, .int .i64 n] w fun e w' => e = .returned (.tuple #[.string ⟨(timesAns s n).1.toArray⟩, .int .i64 (timesAns s n).2]) ∧ Below w.heap.size w w' := by
  have hK := textOkS_any s w (by omega)
  cases hok : (textOf s).isSome with
  | false =>
    rw [hok] at hK
    have hA : timesAns s n = ([], 1) := by unfold timesAns; rw [if_neg (by rw [hok]; decide)]
    rw [hA]
    go_enter Tryd.func25, Tryd.ntmps25
    go_wp2_with fail
    refine hK.mono ?_
    rintro e w1 ⟨rfl, hB1⟩
    go_wp2
    refine bodyPost_ret (v := .tuple #[.string ⟨#[]⟩, .int .i64 1]) (by simp [results, Tryd.results25, go_sem]) rfl ⟨rfl, hB1⟩
  | true =>
    rw [hok] at hK
    have hsz := text_fits' hok
    obtain ⟨A, hA⟩ : ∃ A, timesAns s n = A := ⟨_, rfl⟩
    have HA : Hid (timesAns s n = A) := hA
    have HO : Hid ((textOf s).isSome = true) := hok
    rw [hA]
    clear hA hok
    go_enter Tryd.func25, Tryd.ntmps25
    go_wp2_with fail
    refine hK.mono ?_
    rintro e w0 ⟨rfl, hB0⟩
    clear hK
    go_wp2
    go_loopw [6, 7] (fun o i wr => ∃ (k g m co : Nat), ((k : Int) ≤ n ∨ k = 0) ∧ (s.size = 0 → k = 0) ∧ i = .int .i64 k ∧ m = k * s.size ∧ m ≤ 16384 ∧ o = .slice (some ⟨g, 0, none⟩) m co ∧ U8.Own wr w0.heap.size (.slice (some ⟨g, 0, none⟩) m co) (bz (repeatL s.data.toList k)) ∧ Below w0.heap.size w0 wr) (fun _ i _ => (n - intOf i).toNat)
    case atStart => exact ⟨0, w0.heap.size, 0, 0, .inr rfl, fun _ => rfl, rfl, by omega, by omega, rfl, U8.Own.empty w0, (Below.refl _ _).alloc (Nat.le_refl _) _⟩
    case round =>
      obtain ⟨k, g, m, co, hkn, hk0, rfl, hm, hm1, rfl, hOw, hBr⟩ := hrel
      have HM : Hid (m = k * s.size) := hm
      have HK : Hid (s.size = 0 → k = 0) := hk0
      clear hm hk0
      by_cases hi : (k : Int) < n
      · by_cases hz : (0 : Int) < (s.size : Int)
        · have hwk := wrap64_id (a := (k : Int) + 1) (by omega) (by omega)
          obtain ⟨cap, w1, hcv, hRd, hBc, hOk⟩ := bytes_of s wr (by omega)
          have hOw2 := hOk _ _ _ hOw
          have HR : Hid (bz (repeatL s.data.toList k) ++ bz s.data.toList = bz (repeatL s.data.toList (k + 1))) := by
            show _ = _
            rw [← bz_append, repeat_snoc]
          have hl1 : (bz (repeatL s.data.toList k) ++ bz s.data.toList).length = m + s.size := by
            rw [List.length_append, bz_len, bz_len, repeat_len, ← size_eq, HM.out]
          have hl2 : (bz (repeatL s.data.toList k)).length + (bz s.data.toList).length = m + s.size := by rw [← hl1, List.length_append]
          have HS : Hid (m + s.size = (k + 1) * s.size) := by show _ = _; rw [Nat.succ_mul, HM.out]
          have hws := hBc.size
          have hwr := hBr.size
          clear hOk hOw
          by_cases hbig : (16384 : Int) < ((m + s.size : Nat) : Int)
          · have hfin : A = ([], 3) := by
              rw [← HA.out]; unfold timesAns
              rw [if_pos HO.out, if_neg (by omega), if_pos]
              have h1 := HS.out
              have h2 : (k + 1) * s.size ≤ n.toNat * s.size := Nat.mul_le_mul_right _ (by omega)
              omega
            clear HA HO HM HK
            go_wp2_with (at_builtin; refine U8.wpList_append_rd rfl _ _ 57 rfl Tryd.underlying57 w0.heap.size _ _ _ _ rfl rfl hOw2 hRd (by rw [hl2]; omega) (by omega) ?_; rw [hl1]; intro a1 c1 w2 hO1 hB1)
            refine bodyPost_ret (v := .tuple #[.string ⟨#[]⟩, .int .i64 3]) (by simp [results, Tryd.results25, go_sem]) rfl ?_
            rw [hfin]
            exact ⟨rfl, hB0.trans (((hBr.trans (hBc.mono hwr)).trans hB1).mono hB0.size)⟩
          · go_wp2_with (at_builtin; refine U8.wpList_append_rd rfl _ _ 57 rfl Tryd.underlying57 w0.heap.size _ _ _ _ rfl rfl hOw2 hRd (by rw [hl2]; omega) (by omega) ?_; rw [hl1]; intro a1 c1 w2 hO1 hB1)
            obtain ⟨g1, rfl⟩ : ∃ g1, a1 = some ⟨g1, 0, none⟩ := by
              rcases hO1.shape with ⟨hv, hv2⟩ | ⟨g1, cp, hv, _⟩
              · simp only [Value.slice.injEq] at hv; omega
              · simp only [Value.slice.injEq] at hv; exact ⟨g1, hv.1⟩
            rw [HR.out] at hO1
            go_roundw
            case rel => exact ⟨k + 1, g1, m + s.size, c1, .inl (by omega), fun h => by omega, by go_num, HS.out, by omega, by go_num, hO1, (hBr.trans (hBc.mono hwr)).trans hB1⟩
            case measure => first | (simp [intOf]; done) | (simp [intOf]; omega)
        · have hfin : A = ([], 0) := by
            rw [← HA.out]; unfold timesAns
            rw [if_pos HO.out, if_pos (by omega)]
          obtain rfl : k = 0 := HK.out (by omega)
          have hm0 : m = 0 := by rw [HM.out]; omega
          subst hm0
          have hcv := bytes_back wr w0.heap.size g co [] 0 rfl hOw
          clear HA HO HM HK
          go_wp2
          refine bodyPost_ret (v := .tuple #[.string ⟨#[]⟩, .int .i64 0]) (by simp [results, Tryd.results25, go_sem]) rfl ?_
          try rw [hfin]
          exact ⟨rfl, hB0.trans (hBr.mono hB0.size)⟩
      · have hcv := bytes_back wr w0.heap.size g co (repeatL s.data.toList k) m (by rw [repeat_len, HM.out]) hOw
        have hfin : A = (repeatL s.data.toList k, 0) := by
          rw [← HA.out]; unfold timesAns
          rw [if_pos HO.out]
          by_cases h1 : s.size = 0 ∨ n < 1
          · rw [if_pos h1]
            have : k = 0 := by
              rcases h1 with h1 | h1
              · exact HK.out h1
              · omega
            subst this; rfl
          · rw [if_neg h1]
            obtain rfl : n = (k : Int) := by omega
            rw [show ((k : Int)).toNat = k from rfl, ← HM.out, if_neg (by omega)]
        clear HA HO HM HK
        go_wp2
        refine bodyPost_ret (v := .tuple #[.string ⟨(repeatL s.data.toList k).toArray⟩, .int .i64 0]) (by simp [results, Tryd.results25, go_sem]) rfl ?_
        try rw [hfin]
        exact ⟨rfl, hB0.trans (hBr.mono hB0.size)⟩
end Go.Proofs.YtakbmjndhejfpaaDoor
