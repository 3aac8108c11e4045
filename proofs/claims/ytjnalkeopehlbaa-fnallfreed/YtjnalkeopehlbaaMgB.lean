import Derived.Test.YtjnalkeopehlbaaMgA
import Derived.Deep.RegionLaw
import Derived.Lib.SliceRun
namespace Go.Proofs.Ytjnalkeopehlbaa
open Go.RowKit Go.Maps
set_option linter.unusedVariables false
set_option linter.unusedSimpArgs false

theorem binop_pk (w : World) (a b : Nat) (ha : Pl w a) (hb : Pl w b) : (binOp BinOp.eql 56 (.pointer (some ⟨a, 0, none⟩)) (.pointer (some ⟨b, 0, none⟩))).run Try.prog w = .ok (.bool (decide (a = b))) w := by
  have hq := eq_pk w a b ha hb
  unfold pk at hq
  simp [binOp, hq]
set_option maxRecDepth 100000 in
theorem indexT_any (B g cap b K : Nat) (xs : List Nat) (w : World) (h : OwnG shT 56 w B (.slice (some ⟨g, 0, none⟩) xs.length cap) xs) (hp : ∀ x ∈ xs, Pl w x) (hb : Pl w b) (hK : K < xs.length) (he : xs[K] = b) (hne : ∀ q (hq : q < xs.length), q < K → xs[q] ≠ b) (hl : xs.length ≤ 16777216) :
    Calls Try.prog 69 #[.slice (some ⟨g, 0, none⟩) xs.length cap, .pointer (some ⟨b, 0, none⟩)] w fun e w' => e = .returned (.int .i64 (K : Nat)) ∧ w' = w := by
  have H : Hid (OwnG shT 56 w B (.slice (some ⟨g, 0, none⟩) xs.length cap) xs) := h
  have HP : Hid (∀ x ∈ xs, Pl w x) := hp
  have HNE : Hid (∀ q (hq : q < xs.length), q < K → xs[q] ≠ b) := hne
  have HE : Hid (xs[K] = b) := he
  obtain ⟨LL, hLL⟩ : ∃ LL, xs.length = LL := ⟨_, rfl⟩
  have HLL : Hid (xs.length = LL) := hLL
  rw [hLL] at hK hl ⊢
  clear h hp hne he hLL
  go_enter Try.func69, Try.ntmps69
  go_wp2
  go_loopw [8] (fun i wr => ∃ k : Nat, k ≤ K ∧ i = .int .i64 (k : Nat) ∧ wr = w) (fun i _ => K + 1 - (intOf i).toNat)
  case atStart => exact ⟨0, Nat.zero_le _, rfl, rfl⟩
  case round =>
    obtain ⟨k, hk, rfl, rfl⟩ := hrel
    have hkl : k < xs.length := by rw [HLL.out]; omega
    have hki : (k : Int) < (LL : Int) := by omega
    obtain ⟨y, hy⟩ : ∃ y, xs[k] = y := ⟨_, rfl⟩
    have ck : wr.cell? ⟨g, k, none⟩ = some (.pointer (some ⟨y, 0, none⟩)) := by
      have := H.out.cell k hkl 0 (by decide)
      rw [show k * shT.n + 0 = k by show k * 1 + 0 = k; omega, hy] at this
      exact this
    have hq := binop_pk wr b y hb (HP.out y (by rw [← hy]; exact List.getElem_mem _))
    have hwk : IntKind.i64.wrap ((k : Int) + 1) = (k : Int) + 1 := wrap_small (by omega) (by omega)
    by_cases e : k = K
    · subst e
      have e9 : y = b := by rw [← HE.out]; exact hy.symm
      subst e9
      rw [decide_eq_true rfl] at hq
      clear hy
      go_wp2
      go_ret
      exact ⟨rfl, rfl⟩
    · have : b ≠ y := fun e2 => HNE.out k hkl (by omega) (hy.trans e2.symm)
      rw [decide_eq_false this] at hq
      go_wp2
      go_roundw
      case rel => exact ⟨k + 1, by omega, by simp, by first | rfl | trivial⟩
      case measure => simp [intOf]; omega
end Go.Proofs.Ytjnalkeopehlbaa

namespace Go.Proofs.Ytjnalkeopehlbaa
open Go.RowKit Go.Maps
set_option linter.unusedVariables false
set_option linter.unusedSimpArgs false

def csSet : Array Value → Nat → List Value → Array Value
  | cur, _, [] => cur
  | cur, o, v :: r => csSet (cur.setIfInBounds o v) (o + 1) r
theorem csSet_size : ∀ (vs : List Value) (cur : Array Value) (o : Nat), (csSet cur o vs).size = cur.size
  | [], cur, o => rfl
  | v :: r, cur, o => by rw [csSet, csSet_size r]; simp
theorem csSet_get : ∀ (vs : List Value) (cur : Array Value) (o k : Nat), o + vs.length ≤ cur.size → (csSet cur o vs)[k]? = if o ≤ k ∧ k < o + vs.length then vs[k - o]? else cur[k]?
  | [], cur, o, k, h => by rw [csSet, if_neg (by rintro ⟨h1, h2⟩; simp at h2; omega)]
  | v :: r, cur, o, k, h => by
    simp only [List.length_cons] at h ⊢
    rw [csSet, csSet_get r _ (o + 1) k (by simp; omega)]
    by_cases e : k = o
    · subst e
      rw [if_neg (by omega), if_pos (by omega), Nat.sub_self]
      simp [show k < cur.size by omega]
    · by_cases e2 : o + 1 ≤ k ∧ k < o + 1 + r.length
      · rw [if_pos e2, if_pos (by omega)]
        rw [show k - o = (k - (o + 1)) + 1 by omega]
        simp
      · rw [if_neg e2, if_neg (by omega)]
        rw [Array.getElem?_setIfInBounds_ne (fun e3 => e e3.symm)]
theorem heap_setCells (g : Nat) (T : TypeId) : ∀ (vs : List Value) (cur : Array Value) (o : Nat) (w : World), w.heap[g]? = some (.cells cur T (0, 0)) → (w.setCells g o vs).heap[g]? = some (.cells (csSet cur o vs) T (0, 0))
  | [], cur, o, w, h => h
  | v :: r, cur, o, w, h => by
    rw [World.setCells, csSet]
    exact heap_setCells g T r _ _ _ (by rw [heap_setCell_same w g o _ _ _ h])
theorem gb_cells (g : Nat) : ∀ (vs : List Value) (o : Nat) (w : World), w.grownBy (w.setCells g o vs) (some g)
  | [], o, w => World.grownBy.refl _ _
  | v :: r, o, w => by
    have h1 := gb_set w g o v
    have h2 := gb_cells g r (o + 1) (w.setCell ⟨g, o, none⟩ v)
    exact ⟨h2.os.trans h1.os, h2.tape.trans h1.tape, h2.output.trans h1.output, Nat.le_trans h1.size h2.size, fun b hb hn => (h2.block b (Nat.lt_of_lt_of_le hb h1.size) hn).trans (h1.block b hb hn)⟩
set_option maxRecDepth 100000 in
set_option maxHeartbeats 1000000 in
/-- slices.Delete of one element. -/
theorem deleteT_any (g cap i n : Nat) (xs : List Nat) (w : World) (hn : xs.length = n) (hc : ∀ k (hk : k < xs.length), w.cell? ⟨g, k, none⟩ = some (pk xs[k])) (hf : ∀ k, w.frozen? ⟨g, k, none⟩ = false) (hcap : n ≤ cap) (hm : cap ≤ 9223372036854775807) (hi : i < n) (hn2 : n ≤ 16777216) :
    Calls Try.prog 70 #[.slice (some ⟨g, 0, none⟩) n cap, .int .i64 (i : Nat), .int .i64 ((i : Int) + 1)] w fun e w' => e = .returned (.slice (some ⟨g, 0, none⟩) (n - 1) cap) ∧ w' = (w.drew.setCells g i ((xs.drop (i + 1)).map pk)).setCells g (n - 1) [.pointer none] := by
  obtain ⟨i0, hi0, hz0, hz1, hz2⟩ := info_parts Try.info56
  obtain ⟨news, hnews⟩ : ∃ news, news = (xs.drop (i + 1)).map pk := ⟨_, rfl⟩
  have hlen : news.length = n - (i + 1) := by rw [hnews]; simp [hn]
  obtain ⟨A, hA, hsrc⟩ : ∃ A : Addr, (if cap = i + 1 then some (⟨g, 0, none⟩ : Addr) else some ⟨g, i + 1, none⟩) = some A ∧ Hid (∀ t u, news[t]? = some u → w.drew.cell? (A.add t) = some u) := by
    by_cases h : cap = i + 1
    · refine ⟨⟨g, 0, none⟩, by simp [h], fun t u hu => ?_⟩
      have h0 : news.length = 0 := by rw [hlen]; omega
      rw [List.length_eq_zero_iff.1 h0] at hu
      simp at hu
    · refine ⟨⟨g, i + 1, none⟩, by simp [h], fun t u hu => ?_⟩
      have ht : t < n - (i + 1) := by
        have := (List.getElem?_eq_some_iff.1 hu).1
        rwa [hlen] at this
      have e : (⟨g, i + 1, none⟩ : Addr).add t = ⟨g, i + 1 + t, none⟩ := by unfold Addr.add; split <;> simp_all
      rw [e]
      have hk : i + 1 + t < xs.length := by omega
      rw [hnews, List.getElem?_map, List.getElem?_drop, List.getElem?_eq_getElem hk] at hu
      exact (hc _ hk).trans hu
  have s1 : Hid (news.length = (n - (i + 1)) * 1) := by show _ = _; rw [Nat.mul_one]; exact hlen
  have s2 : Hid (∀ u ∈ news, u.oneCell' = true) := by
    intro u hu
    rw [hnews] at hu
    obtain ⟨x, _, rfl⟩ := List.mem_map.1 hu
    rfl
  have s3 : Hid (∀ t, t < news.length → (w.drew.cell? ⟨g, 0 + i * 1 + t, none⟩).isSome = true ∧ w.drew.frozen? ⟨g, 0 + i * 1 + t, none⟩ = false) := by
    intro t ht
    rw [hlen] at ht
    refine ⟨?_, hf _⟩
    show (w.cell? _).isSome = true
    rw [show 0 + i * 1 + t = i + t by omega, hc (i + t) (by omega)]; rfl
  obtain ⟨W1, hW1⟩ : ∃ W1, W1 = w.drew.setCells g (0 + i * 1) news := ⟨_, rfl⟩
  have hlast : (W1.cell? ⟨g, n - 1, none⟩).isSome = true := by
    rw [hW1]
    exact World.isSome_setCells g _ _ _ _ (by show (w.cell? _).isSome = true; rw [hc (n - 1) (by omega)]; rfl)
  have hcl : ∀ ty, (Builtin.clear_ #[55] ty #[.slice (some ⟨g, i + (n - (i + 1)), none⟩) (n - (i + (n - (i + 1)))) (cap - (i + (n - (i + 1))))]).run Try.prog W1 = .ok (.tuple #[]) (W1.setCells g (i + (n - (i + 1))) (List.replicate (n - (i + (n - (i + 1)))) (.pointer none))) :=
    fun ty => Lib.run_clear_slice W1 _ _ ty _ Try.underlying55 (fun w => by kernel_rfl) rfl rfl g (i + (n - (i + 1))) _ _ (by omega) (fun t ht => by rw [show i + (n - (i + 1)) + t = n - 1 by omega]; exact hlast) (fun t ht => by rw [hW1, World.frozen?_setCells]; exact hf _)
  have hW : Hid (W1 = w.drew.setCells g (0 + i * 1) news) := hW1
  have HN : Hid (news = (xs.drop (i + 1)).map pk) := hnews
  have hic : i ≤ cap := by omega
  have hjc : i + 1 ≤ cap := by omega
  have hijn : (i : Int) + 1 ≤ (n : Int) := by omega
  have hi0p : (0 : Int) ≤ (i : Int) + 1 := by omega
  have hwi : IntKind.i64.wrap ((i : Int) + 1) = (i : Int) + 1 := wrap_small (by omega) (by omega)
  clear hW1 hlast hc hf hnews hlen
  go_enter Try.func70, Try.ntmps70
  go_wp2_with fail
  go_region_law (refine step_append_room rfl (.tmp 22) (.tmp 25) 55 rfl 56 i0 1 Try.underlying55 hi0 hz1 g 0 i cap (by simp [Act.eval, Act.put]) A (n - (i + 1)) (cap - (i + 1)) news (by simp [Act.eval, Act.put]) s1.out hsrc.out s2.out (by omega) s3.out ?_; rw [← hW.out])
  go_wp2
  go_ret
  refine ⟨by rw [show n - 1 = i + (n - (i + 1)) by omega]; rfl, ?_⟩
  rw [hW.out, HN.out, show n - (i + (n - (i + 1))) = 1 by omega, show i + (n - (i + 1)) = n - 1 by omega, show 0 + i * 1 = i by omega]
  rfl
end Go.Proofs.Ytjnalkeopehlbaa

namespace Go.Proofs.Ytjnalkeopehlbaa
open Go.RowKit Go.Maps
set_option linter.unusedVariables false
set_option linter.unusedSimpArgs false

theorem flatT (zs : List Nat) : zs.flatMap shT.cs = zs.map pk := by
  induction zs with
  | nil => rfl
  | cons z r ih => rw [List.flatMap_cons, ih]; rfl
/-- The row behind slices.Delete. -/
theorem OwnG.erased {W : World} {B g n cap i : Nat} {xs : List Nat} (h : OwnG shT 56 W B (.slice (some ⟨g, 0, none⟩) n cap) xs) (hn : xs.length = n) (hi : i < n) :
    OwnG shT 56 ((W.drew.setCells g i ((xs.drop (i + 1)).map pk)).setCells g (n - 1) [.pointer none]) B (.slice (some ⟨g, 0, none⟩) (n - 1) cap) (xs.eraseIdx i) := by
  obtain ⟨⟨h1, h2⟩, hl, hz⟩ := h
  have hel : (xs.eraseIdx i).length = n - 1 := by rw [List.length_eraseIdx_of_lt (by omega), hn]
  refine ⟨⟨by rw [flat_length], ?_⟩, by omega, fun _ _ => trivial⟩
  rcases h2 with ⟨e, _⟩ | ⟨g', cap', cur, e, hg, hh, hc, hm, hs, ht⟩
  · cases e
  · simp at e
    obtain ⟨rfl, e2, rfl⟩ := e
    have hsz : cur.size = cap * 1 := hs
    have hh2 := heap_setCells g 56 [.pointer none] _ (n - 1) _ (heap_setCells g 56 ((xs.drop (i + 1)).map pk) cur i W.drew hh)
    refine .inr ⟨g, cap, _, by rw [hel], hg, hh2, by omega, hm, by rw [csSet_size, csSet_size]; exact hs, ?_⟩
    rw [hel, flatT]
    have hx : ∀ k, k < n → cur[k]? = (xs.map pk)[k]? := fun k hk => by
      rw [flatT] at ht
      rw [← ht, List.getElem?_take, if_pos (by rw [hn]; show k < n * 1; omega), Array.getElem?_toList]
    apply List.ext_getElem?
    intro k
    rw [List.getElem?_take]
    by_cases hk : k < (n - 1) * shT.n
    · have hk1 : k < n - 1 := by have : (n - 1) * shT.n = (n - 1) * 1 := rfl; omega
      have hnl : ((xs.drop (i + 1)).map pk).length = n - (i + 1) := by simp [hn]
      rw [if_pos hk, Array.getElem?_toList, csSet_get _ _ _ _ (by rw [csSet_size]; simp; omega), if_neg (by simp; omega), csSet_get _ _ _ _ (by rw [hnl]; omega), hnl, show (List.map pk (xs.eraseIdx i))[k]? = Option.map pk (xs.eraseIdx i)[k]? by rw [List.getElem?_map], List.getElem?_eraseIdx]
      by_cases hki : k < i
      · rw [if_neg (by omega), if_pos hki, hx k (by omega), List.getElem?_map]
      · rw [if_pos (by omega), if_neg hki, List.getElem?_map, List.getElem?_drop, show i + 1 + (k - i) = k + 1 by omega]
    · have hk1 : ¬ k < n - 1 := by have : (n - 1) * shT.n = (n - 1) * 1 := rfl; omega
      rw [if_neg hk, List.getElem?_eq_none (by rw [List.length_map, hel]; omega)]
theorem gb_erased (W : World) (g i n : Nat) (vs us : List Value) : W.grownBy ((W.drew.setCells g i vs).setCells g n us) (some g) := by
  have h1 := gb_cells g vs i W.drew
  have h2 := gb_cells g us n (W.drew.setCells g i vs)
  have h0 : Below W.heap.size W W.drew := (Below.refl _ _).drew
  exact ⟨h2.os.trans (h1.os.trans h0.os), h2.tape.trans (h1.tape.trans h0.tape), h2.output.trans (h1.output.trans h0.output), Nat.le_trans (Nat.le_trans h0.size h1.size) h2.size, fun b hb hn => (h2.block b (Nat.lt_of_lt_of_le (Nat.lt_of_lt_of_le hb h0.size) h1.size) hn).trans ((h1.block b (Nat.lt_of_lt_of_le hb h0.size) hn).trans (h0.block b hb))⟩
theorem TG.lookJ {W : World} {B n : Nat} {tb : Nat → Nat} {f : Nat → Tc} (h : TG W B n tb f) {a b j c : Nat} (ha : In n a) (hb : In n b) (hn : ((f a).mp.map (·.1)).Nodup) (hj : (f a).mp[j]? = some (b, c)) :
    (Instr.lookup 76 (.map (some (f a).mb)) (.pointer (some ⟨tb b, 0, none⟩)) false).run Try.prog W = .ok (.int .i64 (c : Nat)) W := by
  rcases h.lookH ha hb hn with ⟨h1, _⟩ | ⟨j', c', h1, h2⟩
  · exact absurd (List.mem_map.2 ⟨(b, c), List.mem_of_getElem? hj, rfl⟩) h1
  · have e1 : (((f a).mp.map (·.1)))[j']? = some b := by rw [List.getElem?_map, h1]; rfl
    have e2 : (((f a).mp.map (·.1)))[j]? = some b := by rw [List.getElem?_map, hj]; rfl
    have e := nodup_get hn e1 e2
    subst e
    rw [hj] at h1
    have : c = c' := by simpa using h1
    rw [this]; exact h2
theorem set_keys (l : List (Nat × Nat)) (j b c c' : Nat) (hj : l[j]? = some (b, c)) : (l.set j (b, c')).map (·.1) = l.map (·.1) := by
  apply List.ext_getElem?
  intro k
  rw [List.getElem?_map, List.getElem?_map, List.getElem?_set]
  by_cases e : j = k
  · subst e
    rw [if_pos rfl, hj]
    have := (List.getElem?_eq_some_iff.1 hj).1
    simp [this]
  · rw [if_neg e]
set_option maxRecDepth 100000 in
set_option maxHeartbeats 1500000 in
theorem dropT_any (B n a b j c : Nat) (tb : Nat → Nat) (f : Nat → Tc) (w : World) (h : TG w B n tb f) (ha : In n a) (hb : In n b) (hnd : ((f a).mp.map (·.1)).Nodup) (hj : (f a).mp[j]? = some (b, c)) (hc1 : 1 ≤ c) (hc2 : c ≤ 100000000) (hod : (f a).ord = (f a).mp.map (·.1)) (hcn : (f b).ct ≤ 100000000) (hct : 1 ≤ (f b).ct) (hol : (f a).ord.length ≤ 16777216) (hB : B ≤ w.heap.size) :
    Calls Try.prog 62 #[.pointer (some ⟨tb a, 0, none⟩), .pointer (some ⟨tb b, 0, none⟩)] w fun e w' => e = .returned (.tuple #[]) ∧ ∃ f', TG w' B n tb f' ∧ Fr (PT n tb f) w (PT n tb f') w' ∧ (∀ y, (f' y).mb = (f y).mb) ∧
      ∀ y, (f' y).rt = (f y).rt ∧ (f' y).wk = (f y).wk ∧ (f' y).fn = (f y).fn ∧ (f' y).rn = (f y).rn ∧ (f' y).ct = (f y).ct - (if y = b then 1 else 0) ∧ (f' y).ord = (if y = a then (decL (f a).mp b).map (·.1) else (f y).ord) ∧ (f' y).mp = if y = a then decL (f a).mp b else (f y).mp := by
  have hjl : j < (f a).mp.length := (List.getElem?_eq_some_iff.1 hj).1
  have hje : (f a).mp[j] = (b, c) := (List.getElem?_eq_some_iff.1 hj).2
  have hL := h.lookJ ha hb hnd hj
  have hjv : (mpV tb (f a).mp)[j]? = some (pk (tb b), .int .i64 (c : Nat)) := by unfold mpV; rw [List.getElem?_map, hj]; rfl
  obtain ⟨W1, gU, hM1, hg1, hs1⟩ := (h.map a ha).put (v := .int .i64 ((c : Int) - 1)) Try.underlying76 (fndP w (tb b) (h.pl hb)) (h.good ha) (h.mpnd ha hnd) hjv
  rw [show ((c : Int) - 1) = ((c - 1 : Nat) : Int) by omega, mpV_set] at hM1
  unfold pk at gU
  obtain ⟨t1, q1⟩ := h.mapped ha ((f a).mp.set j (b, c - 1)) hM1 (fun p hp => by
    rcases List.mem_or_eq_of_mem_set hp with h5 | h5
    · exact h.okm a ha p h5
    · rw [h5]; exact hb) hg1
  obtain ⟨f1, hf1⟩ : ∃ f1, upd f a { f a with mp := (f a).mp.set j (b, c - 1) } = f1 := ⟨_, rfl⟩
  rw [hf1] at t1 q1
  have hcf : (f1 b).ct = (f b).ct := by
    rw [← hf1]
    by_cases e : b = a
    · subst e; rw [upd_same]
    · rw [upd_ne _ _ e]
  obtain ⟨t2, q2⟩ := t1.cell1 hb 2 (.int .i64 (((f b).ct - 1 : Nat) : Int)) { f1 b with ct := (f b).ct - 1 } rfl rfl rfl rfl rfl
  rw [show (((f b).ct - 1 : Nat) : Int) = ((f b).ct : Int) - 1 by omega] at t2 q2
  obtain ⟨f2, hf2⟩ : ∃ f2, upd f1 b { f1 b with ct := (f b).ct - 1 } = f2 := ⟨_, rfl⟩
  rw [hf2] at t2 q2
  have hmb1 : ∀ y, (f2 y).mb = (f y).mb ∧ (f2 y).row = (f y).row ∧ (f2 y).ord = (f y).ord ∧ (f2 y).rt = (f y).rt ∧ (f2 y).wk = (f y).wk ∧ (f2 y).fn = (f y).fn ∧ (f2 y).rn = (f y).rn ∧ (f2 y).ct = (f y).ct - (if y = b then 1 else 0) ∧ (f2 y).mp = if y = a then (f a).mp.set j (b, c - 1) else (f y).mp := fun y => by
    rw [← hf2, ← hf1]
    unfold upd
    by_cases e1 : y = b <;> by_cases e2 : y = a <;> by_cases e3 : b = a <;> simp_all
  have hm2 : (f2 a).mp = (f a).mp.set j (b, c - 1) := by rw [(hmb1 a).2.2.2.2.2.2.2.2, if_pos rfl]
  have hj2 : (f2 a).mp[j]? = some (b, c - 1) := by rw [hm2, List.getElem?_set, if_pos rfl]; simp [hjl]
  have hnd2 : ((f2 a).mp.map (·.1)).Nodup := by rw [hm2, set_keys _ _ _ c _ hj]; exact hnd
  have hL2 := t2.lookJ ha hb hnd2 hj2
  rw [(hmb1 a).1] at hL2
  have c6 : w.cell? ⟨tb a, 6, none⟩ = some (.map (some (f a).mb)) := cell_obj (h.obj a ha) rfl
  have g2 : W1.cell? ⟨tb b, 2, none⟩ = some (.int .i64 ((f b).ct : Nat)) := by rw [← hcf]; exact cell_obj (t1.obj b hb) rfl
  have gf : W1.frozen? ⟨tb b, 2, none⟩ = false := frozen_obj (t1.obj b hb)
  have hw1 : IntKind.i64.wrap ((c : Int) - 1) = (c : Int) - 1 := wrap_small (by omega) (by omega)
  have hw2 : IntKind.i64.wrap (((f b).ct : Int) - 1) = ((f b).ct : Int) - 1 := wrap_small (by omega) (by omega)
  obtain ⟨W2, hW2⟩ : ∃ W2, W1.setCell ⟨tb b, 2, none⟩ (.int .i64 (((f b).ct : Int) - 1)) = W2 := ⟨_, rfl⟩
  rw [hW2] at t2 q2 hL2
  have d6 : W2.cell? ⟨tb a, 6, none⟩ = some (.map (some (f a).mb)) := by rw [← (hmb1 a).1]; exact cell_obj (t2.obj a ha) rfl
  have hda := dec_at (f a).mp b j hjl (by rw [hje]) (before_ne hnd hj)
  rw [hje] at hda
  have Q2 : Hid (Fr (PT n tb f) w (PT n tb f2) W2) := q1.trans q2
  have T2 : Hid (TG W2 B n tb f2) := t2
  by_cases e1 : c = 1
  · have hda1 : decL (f a).mp b = (f a).mp.eraseIdx j := by rw [hda, if_pos e1, List.eraseIdx_eq_take_drop_succ]
    have hci : ((c - 1 : Nat) : Int) = 0 := by omega
    have hcz : (c : Int) - 1 = 0 := by omega
    rw [hci] at hL2
    rw [hcz] at gU hw1
    have hj2v : (mpV tb (f2 a).mp)[j]? = some (pk (tb b), .int .i64 ((c - 1 : Nat) : Int)) := by unfold mpV; rw [List.getElem?_map, hj2]; rfl
    obtain ⟨W3, hdel, hM3, hg3, hs3⟩ := (t2.map a ha).del Try.underlying76 (fndP W2 (tb b) (t2.pl hb)) (t2.good ha) (t2.mpnd ha hnd2) hj2v
    have hes : (mpV tb (f2 a).mp).eraseIdx j = mpV tb ((f a).mp.eraseIdx j) := by
      rw [hm2, ← mpV_set]
      unfold mpV
      rw [ChangeMaps.map_eraseIdx]
      rw [List.eraseIdx_set_eq]
    rw [hes] at hM3
    obtain ⟨t3, q3⟩ := t2.mapped ha ((f a).mp.eraseIdx j) hM3 (fun p hp => h.okm a ha p (List.mem_of_mem_eraseIdx hp)) hg3
    obtain ⟨f3, hf3⟩ : ∃ f3, upd f2 a { f2 a with mp := (f a).mp.eraseIdx j } = f3 := ⟨_, rfl⟩
    rw [hf3] at t3 q3
    rw [(hmb1 a).1] at hdel
    unfold pk at hdel
    have h3 : (f3 a).row = (f a).row ∧ (f3 a).ord = (f a).ord := by rw [← hf3, upd_same]; exact ⟨(hmb1 a).2.1, (hmb1 a).2.2.1⟩
    have oR := t3.row a ha
    rw [h3.1, h3.2] at oR
    have d7 : W3.cell? ⟨tb a, 7, none⟩ = some (f a).row := by rw [← h3.1]; exact cell_obj (t3.obj a ha) rfl
    have hol2 : ((f a).ord.map tb).length = (f a).ord.length := by simp
    have hjo : j < (f a).ord.length := by rw [hod]; simpa using hjl
    obtain ⟨g, cap, hrow, hbg, hgl, hcp⟩ : ∃ g cap, (f a).row = .slice (some ⟨g, 0, none⟩) (f a).ord.length cap ∧ B ≤ g ∧ g < W3.heap.size ∧ (f a).ord.length ≤ cap := by
      rcases oR.shape with ⟨_, e⟩ | ⟨g, cap, e, k1, k2, k3⟩
      · have := congrArg List.length e; simp at this; rw [this] at hjo; simp at hjo
      · rw [hol2] at e k3; exact ⟨g, cap, e, k1, k2, k3⟩
    rw [hrow] at oR d7
    have hcm : cap ≤ 9223372036854775807 := by
      rcases oR.1.2 with ⟨e, _⟩ | ⟨g', cap', cur, e, _, _, _, hm, _⟩
      · cases e
      · simp at e
        obtain ⟨_, _, rfl⟩ := e
        unfold maxLen at hm; omega
    have hoj : (f a).ord[j] = b := by
      have : (f a).ord[j]? = some b := by rw [hod, List.getElem?_map, hj]; rfl
      exact (List.getElem?_eq_some_iff.1 this).2
    have hne : ∀ q (hq : q < ((f a).ord.map tb).length), q < j → ((f a).ord.map tb)[q] ≠ tb b := fun q hq hqj e => by
      rw [List.getElem_map] at e
      have hq2 : q < (f a).ord.length := by simpa using hq
      have e2 := h.inj _ _ (h.oko a ha _ (List.getElem_mem hq2)) hb e
      have k1 : ((f a).mp.map (·.1))[q]? = some b := by rw [← hod, List.getElem?_eq_getElem hq2, e2]
      have k2 : ((f a).mp.map (·.1))[j]? = some b := by rw [List.getElem?_map, hj]; rfl
      have := nodup_get hnd k1 k2
      omega
    have hIdx := indexT_any B g cap (tb b) j ((f a).ord.map tb) W3 (by rw [hol2]; exact oR) (fun x hx => by
      obtain ⟨y, hy, rfl⟩ := List.mem_map.1 hx
      exact t3.pl (h.oko a ha y hy)) (t3.pl hb) (by rw [hol2]; exact hjo) (by rw [List.getElem_map, hoj]) hne (by rw [hol2]; exact hol)
    have hDel := deleteT_any g cap j (f a).ord.length ((f a).ord.map tb) W3 hol2 (fun k hk => by
      have := oR.cell k hk 0 (by decide)
      rw [show k * shT.n + 0 = k by show k * 1 + 0 = k; omega] at this
      exact this) (fun k => oR.frozen k) hcp hcm hjo hol
    obtain ⟨LL, hLL⟩ : ∃ LL, (f a).ord.length = LL := ⟨_, rfl⟩
    have oE := oR.erased (i := j) hol2 hjo
    have hgE := gb_erased W3 g j ((f a).ord.length - 1) (((f a).ord.map tb).drop (j + 1) |>.map pk) [.pointer none]
    obtain ⟨W4, hW4⟩ : ∃ W4, (W3.drew.setCells g j ((((f a).ord.map tb).drop (j + 1)).map pk)).setCells g ((f a).ord.length - 1) [.pointer none] = W4 := ⟨_, rfl⟩
    rw [hW4] at hDel oE hgE
    have hme : ((f a).ord.map tb).eraseIdx j = ((f a).ord.eraseIdx j).map tb := by
      apply List.ext_getElem?
      intro k
      rw [List.getElem?_eraseIdx, List.getElem?_map, List.getElem?_map, List.getElem?_map, List.getElem?_eraseIdx]
      split <;> rfl
    rw [hme] at oE
    obtain ⟨t5, q5⟩ := t3.rowed ha (.slice (some ⟨g, 0, none⟩) ((f a).ord.length - 1) cap) ((f a).ord.eraseIdx j) oE (fun y hy => h.oko a ha y (List.mem_of_mem_eraseIdx hy)) (by rw [h3.1, hrow]; exact hgE) (fun q e => .inl (by rw [h3.1, hrow]; exact e))
    have hblk : W4.heap[tb a]? = W3.heap[tb a]? := hgE.block (tb a) (t3.lt ha).1 (fun e => t3.tr ha ha (by rw [h3.1, hrow]; exact e.symm))
    have k7 : W4.cell? ⟨tb a, 7, none⟩ = some (.slice (some ⟨g, 0, none⟩) (f a).ord.length cap) := (World.cell?_of_block (a := ⟨tb a, 7, none⟩) hblk).trans d7
    have kf : W4.frozen? ⟨tb a, 7, none⟩ = false := (World.frozen?_of_block (a := ⟨tb a, 7, none⟩) hblk).trans (frozen_obj (t3.obj a ha))
    rw [hol2] at hIdx
    have Q5 : Hid (Fr (PT n tb f) w (PT n tb (upd f3 a { f3 a with row := .slice (some ⟨g, 0, none⟩) ((f a).ord.length - 1) cap, ord := (f a).ord.eraseIdx j })) (W4.setCell ⟨tb a, 7, none⟩ (.slice (some ⟨g, 0, none⟩) ((f a).ord.length - 1) cap))) := (Q2.out.trans q3).trans q5
    have T5 : Hid (TG (W4.setCell ⟨tb a, 7, none⟩ (.slice (some ⟨g, 0, none⟩) ((f a).ord.length - 1) cap)) B n tb (upd f3 a { f3 a with row := .slice (some ⟨g, 0, none⟩) ((f a).ord.length - 1) cap, ord := (f a).ord.eraseIdx j })) := t5
    have hke : (decL (f a).mp b).map (·.1) = (f a).ord.eraseIdx j := by rw [hda1, hod, ChangeMaps.map_eraseIdx]
    have HP : Hid (∀ y, (upd f3 a { f3 a with row := .slice (some ⟨g, 0, none⟩) ((f a).ord.length - 1) cap, ord := (f a).ord.eraseIdx j } y).mb = (f y).mb ∧ ((upd f3 a { f3 a with row := .slice (some ⟨g, 0, none⟩) ((f a).ord.length - 1) cap, ord := (f a).ord.eraseIdx j } y).rt = (f y).rt ∧ (upd f3 a { f3 a with row := .slice (some ⟨g, 0, none⟩) ((f a).ord.length - 1) cap, ord := (f a).ord.eraseIdx j } y).wk = (f y).wk ∧ (upd f3 a { f3 a with row := .slice (some ⟨g, 0, none⟩) ((f a).ord.length - 1) cap, ord := (f a).ord.eraseIdx j } y).fn = (f y).fn ∧ (upd f3 a { f3 a with row := .slice (some ⟨g, 0, none⟩) ((f a).ord.length - 1) cap, ord := (f a).ord.eraseIdx j } y).rn = (f y).rn ∧ (upd f3 a { f3 a with row := .slice (some ⟨g, 0, none⟩) ((f a).ord.length - 1) cap, ord := (f a).ord.eraseIdx j } y).ct = (f y).ct - (if y = b then 1 else 0) ∧ (upd f3 a { f3 a with row := .slice (some ⟨g, 0, none⟩) ((f a).ord.length - 1) cap, ord := (f a).ord.eraseIdx j } y).ord = (if y = a then (decL (f a).mp b).map (·.1) else (f y).ord) ∧ (upd f3 a { f3 a with row := .slice (some ⟨g, 0, none⟩) ((f a).ord.length - 1) cap, ord := (f a).ord.eraseIdx j } y).mp = if y = a then decL (f a).mp b else (f y).mp)) := fun y => by
      obtain ⟨m1, m2, m3, m4, m5, m6, m7, m8, m9⟩ := hmb1 y
      rw [hke, hda1]
      by_cases e : y = a
      · subst e
        rw [upd_same, ← hf3, upd_same, if_pos rfl, if_pos rfl]
        exact ⟨m1, m4, m5, m6, m7, m8, rfl, rfl⟩
      · rw [upd_ne _ _ e, ← hf3, upd_ne _ _ e, if_neg e, if_neg e]
        rw [if_neg e] at m9
        exact ⟨m1, m4, m5, m6, m7, m8, m3, m9⟩
    obtain ⟨f5, hf5⟩ : ∃ f5, upd f3 a { f3 a with row := .slice (some ⟨g, 0, none⟩) ((f a).ord.length - 1) cap, ord := (f a).ord.eraseIdx j } = f5 := ⟨_, rfl⟩
    rw [hf5] at Q5 T5 HP
    have d7b : W3.cell? ⟨tb a, 7, none⟩ = some (.slice (some ⟨g, 0, none⟩) LL cap) := by rw [← hLL]; exact d7
    have hwj : IntKind.i64.wrap ((j : Int) + 1) = (j : Int) + 1 := wrap_small (by omega) (by omega)
    rw [hLL] at hIdx hDel k7 Q5 T5
    clear h t1 q1 t2 q2 t3 q3 t5 q5 hmb1 hm2 hj2 hnd2 hda hda1 hf1 hf2 hf3 hf5 hM1 hg1 hs1 hcf hod hke hme oE oR hgE hblk hW4 hne hoj hM3 hg3 hs3 hes hj2v h3 hrow d7 hol2 hjv hj hje hnd hjo hol hLL T2 Q2
    go_enter Try.func62, Try.ntmps62
    go_wp2_with fail
    refine hIdx.mono ?_
    rintro e w9 ⟨rfl, rfl⟩
    clear hIdx
    go_wp2_with fail
    refine hDel.mono ?_
    rintro e w10 ⟨rfl, rfl⟩
    clear hDel
    go_wp2
    go_end0
    exact ⟨rfl, f5, T5.out, Q5.out, fun y => (HP.out y).1, fun y => (HP.out y).2⟩
  · have hda2 : decL (f a).mp b = (f a).mp.set j (b, c - 1) := by rw [hda, if_neg e1]
    have hci : ((c - 1 : Nat) : Int) = (c : Int) - 1 := by omega
    rw [hci] at hL2
    have e0 : (((c : Int) - 1) == 0) = false := by rw [beq_eq_false_iff_ne]; omega
    have HP : Hid (∀ y, (f2 y).rt = (f y).rt ∧ (f2 y).wk = (f y).wk ∧ (f2 y).fn = (f y).fn ∧ (f2 y).rn = (f y).rn ∧ (f2 y).ct = (f y).ct - (if y = b then 1 else 0) ∧ (f2 y).ord = (if y = a then (decL (f a).mp b).map (·.1) else (f y).ord) ∧ (f2 y).mp = if y = a then decL (f a).mp b else (f y).mp) := fun y => by
      obtain ⟨k1, k2, k3, k4, k5, k6, k7, k8, k9⟩ := hmb1 y
      refine ⟨k4, k5, k6, k7, k8, ?_, by rw [hda2]; exact k9⟩
      rw [hda2, set_keys _ _ _ c _ hj, k3]
      by_cases e : y = a
      · subst e; rw [if_pos rfl, hod]
      · rw [if_neg e]
    have HM : Hid (∀ y, (f2 y).mb = (f y).mb) := fun y => (hmb1 y).1
    clear h t1 q1 t2 q2 hmb1 hm2 hj2 hnd2 hda hda2 hf1 hf2 hM1 hg1 hs1 hcf hod
    go_enter Try.func62, Try.ntmps62
    go_wp2
    go_end0
    exact ⟨rfl, f2, T2.out, Q2.out, HM.out, HP.out⟩
end Go.Proofs.Ytjnalkeopehlbaa

namespace Go.Proofs.Ytjnalkeopehlbaa
open Go.RowKit Go.Maps
set_option linter.unusedVariables false
set_option linter.unusedSimpArgs false

theorem cnt_drop (S : Gs) (a b y : Nat) (ha : In S.n a) (haa : S.al a = true) (h1 : ∀ p ∈ S.hl a, 1 ≤ p.2) (hb : b ∈ (S.hl a).map (·.1)) : cnt (dropS S a b) y + (if y = b then 1 else 0) = cnt S y := by
  have h := sm_upd (fun k => if S.al (k + 1) then tmo (S.hl (k + 1)) y else 0) (fun k => if S.al (k + 1) then tmo (upd S.hl a (decL (S.hl a) b) (k + 1)) y else 0) (a - 1) S.n (by have := ha.1; have := ha.2; omega) (fun k hk => by
    show (if S.al (k + 1) then tmo (upd S.hl a (decL (S.hl a) b) (k + 1)) y else 0) = _
    rw [upd_ne _ _ (by have := ha.1; omega)])
  have e : a - 1 + 1 = a := by have := ha.1; omega
  have hd := tmo_dec (S.hl a) b y h1 hb
  simp only [e, haa, upd_same, if_true] at h
  show S.rt y + sm S.n (fun k => if S.al (k + 1) then tmo (upd S.hl a (decL (S.hl a) b) (k + 1)) y else 0) + (if y = b then 1 else 0) = S.rt y + sm S.n (fun k => if S.al (k + 1) then tmo (S.hl (k + 1)) y else 0)
  omega
theorem Gi.dropped {S : Gs} {f f' : Nat → Tc} {AL : List Nat} (h : Gi S f AL) {a b : Nat} (ha : In S.n a) (haa : S.al a = true) (h1 : ∀ p ∈ S.hl a, 1 ≤ p.2) (hb : b ∈ (S.hl a).map (·.1))
    (hk : ∀ y, (f' y).rt = (f y).rt ∧ (f' y).wk = (f y).wk ∧ (f' y).fn = (f y).fn ∧ (f' y).rn = (f y).rn ∧ (f' y).ct = (f y).ct - (if y = b then 1 else 0) ∧ (f' y).ord = (if y = a then (decL (f a).mp b).map (·.1) else (f y).ord) ∧ (f' y).mp = if y = a then decL (f a).mp b else (f y).mp) : Gi (dropS S a b) f' AL := by
  refine ⟨fun y hy => (hk y).1.trans (h.rt y hy), fun y hy => ?_, fun y hy => (hk y).2.1.trans (h.wk y hy), fun y hy => (hk y).2.2.1.trans (h.fn y hy), fun y hy => (hk y).2.2.2.1.trans (h.rn y hy), fun y hy => ?_, fun y hy => ?_, h.al⟩
  · have := cnt_drop S a b y ha haa h1 hb
    rw [(hk y).2.2.2.2.1, h.ct y hy]; omega
  · rw [(hk y).2.2.2.2.2.1]
    show _ = (upd S.hl a (decL (S.hl a) b) y).map (·.1)
    by_cases e : y = a
    · subst e; rw [if_pos rfl, upd_same, h.mp y ha]
    · rw [if_neg e, upd_ne _ _ e]; exact h.od y hy
  · rw [(hk y).2.2.2.2.2.2]
    show _ = upd S.hl a (decL (S.hl a) b) y
    by_cases e : y = a
    · subst e; rw [if_pos rfl, upd_same, h.mp y ha]
    · rw [if_neg e, upd_ne _ _ e]; exact h.mp y hy
section
variable (B hb am a b K : Nat) (ew : Value) (tb : Nat → Nat) (f : Nat → Tc) (AL : List Nat) (S : Gs) (w : World)
set_option maxRecDepth 100000 in
theorem both2 (h : GI w B hb am ew tb f AL S) (hO : Ok K S) (hK : K ≤ 2500) (haa : S.al a = true) (hbb : S.al b = true) (hB : B ≤ w.heap.size) :
    Calls Try.prog 49 #[.pointer (some ⟨hb, 0, none⟩), .int .i64 2, .pointer (some ⟨tb a, 0, none⟩), .pointer (some ⟨tb b, 0, none⟩)] w fun e w' => e = .returned (.int .i64 (cnt (holdS S a b) b : Nat)) ∧ GP B hb am tb ew f S (holdS S a b) w w' := by
  have ha : In S.n a := hO.iv.al a haa
  have hbn : In S.n b := hO.iv.al b hbb
  have hc := cnt_small hO.iv hK b
  have hn := hO.iv.n
  have hln := hO.iv.len a
  have hmp := h.gi.mp a ha
  have hH := holdT_any B S.n a b tb f w h.th.tg ha hbn (by rw [hmp]; exact hO.iv.nd a) (fun p hp => by rw [hmp] at hp; exact (hO.iv.hl a p hp).2.2.1) (by rw [hmp]; exact h.gi.od a ha) (by
    rw [hmp]
    have := tmo_le (c := K) (S.hl a) b (hO.iv.nd a) (fun p hp => (hO.iv.hl a p hp).2.2.2)
    omega) (by rw [h.gi.ct b hbn]; omega) (by rw [h.gi.od a ha, List.length_map]; omega) hB
  have H : Hid (GI w B hb am ew tb f AL S) := h
  clear h
  go_enter Try.func49, Try.ntmps49
  go_wp2_with fail
  refine hH.mono ?_
  rintro e W1 ⟨rfl, f1, t1, q1, m1, k1⟩
  clear hH
  obtain ⟨t2, q2⟩ := H.out.th.things t1 q1 m1
  have g2 := H.out.gi.held ha haa k1
  have c2 : W1.cell? ⟨tb b, 2, none⟩ = some (.int .i64 (cnt (holdS S a b) b : Nat)) := by rw [← g2.ct b hbn]; exact cell_obj (t1.obj b hbn) rfl
  have HG : Hid (GP B hb am tb ew f S (holdS S a b) w W1) := ⟨ew, f1, AL, ⟨t2, g2⟩, q2⟩
  clear t1 q1 m1 k1 t2 q2 g2
  go_wp2
  go_ret
  exact ⟨rfl, HG.out⟩
set_option maxRecDepth 100000 in
theorem both3n (h : GI w B hb am ew tb f AL S) (hO : Ok K S) (haa : S.al a = true) (hbb : S.al b = true) (hno : b ∉ (S.hl a).map (·.1)) :
    Calls Try.prog 49 #[.pointer (some ⟨hb, 0, none⟩), .int .i64 3, .pointer (some ⟨tb a, 0, none⟩), .pointer (some ⟨tb b, 0, none⟩)] w fun e w' => e = .returned (.int .i64 (-1)) ∧ GP B hb am tb ew f S S w w' := by
  have ha : In S.n a := hO.iv.al a haa
  have hbn : In S.n b := hO.iv.al b hbb
  have hmp := h.gi.mp a ha
  have c6 : w.cell? ⟨tb a, 6, none⟩ = some (.map (some (f a).mb)) := cell_obj (h.th.tg.obj a ha) rfl
  have HG : Hid (GP B hb am tb ew f S S w w) := ⟨ew, f, AL, h, Fr.refl _ _⟩
  rcases h.th.tg.lookH ha hbn (by rw [hmp]; exact hO.iv.nd a) with ⟨_, _, hL⟩ | ⟨j, c, h1, _⟩
  · clear h
    go_enter Try.func49, Try.ntmps49
    go_wp2
    go_ret
    exact ⟨rfl, HG.out⟩
  · rw [hmp] at h1
    exact absurd (List.mem_map.2 ⟨(b, c), List.mem_of_getElem? h1, rfl⟩) hno
set_option maxRecDepth 100000 in
theorem both3 (h : GI w B hb am ew tb f AL S) (hO : Ok K S) (hK : K ≤ 2500) (haa : S.al a = true) (hbb : S.al b = true) (hin : b ∈ (S.hl a).map (·.1)) (hB : B ≤ w.heap.size) :
    Calls Try.prog 49 #[.pointer (some ⟨hb, 0, none⟩), .int .i64 3, .pointer (some ⟨tb a, 0, none⟩), .pointer (some ⟨tb b, 0, none⟩)] w fun e w' => e = .returned (.int .i64 (leftS (look S.n (dropS S a b) b) b : Nat)) ∧ GP B hb am tb ew f S (look S.n (dropS S a b) b) w w' := by
  have ha : In S.n a := hO.iv.al a haa
  have hbn : In S.n b := hO.iv.al b hbb
  have hc := cnt_small hO.iv hK b
  have hn := hO.iv.n
  have hln := hO.iv.len a
  have hmp := h.gi.mp a ha
  have h1p : ∀ p ∈ S.hl a, 1 ≤ p.2 := fun p hp => (hO.iv.hl a p hp).2.2.1
  have c6 : w.cell? ⟨tb a, 6, none⟩ = some (.map (some (f a).mb)) := cell_obj (h.th.tg.obj a ha) rfl
  have hcd := cnt_drop S a b b ha haa h1p hin
  rw [if_pos rfl] at hcd
  rcases h.th.tg.lookH ha hbn (by rw [hmp]; exact hO.iv.nd a) with ⟨h1, _, _⟩ | ⟨j, c, hj, hL⟩
  · rw [hmp] at h1; exact absurd hin h1
  · have hj' := hj
    rw [hmp] at hj'
    have hcb := hO.iv.hl a (b, c) (List.mem_of_getElem? hj')
    have hD := dropT_any B S.n a b j c tb f w h.th.tg ha hbn (by rw [hmp]; exact hO.iv.nd a) hj hcb.2.2.1 (by have := hcb.2.2.2; simp at this; omega) (by rw [hmp]; exact h.gi.od a ha) (by rw [h.gi.ct b hbn]; omega) (by rw [h.gi.ct b hbn]; omega) (by rw [h.gi.od a ha, List.length_map]; omega) hB
    have hOd := hO.drop a b
    have hLE := left_eq (m := S.n) hOd.iv hOd.ev (b := b) hbb
    obtain ⟨_, _, hLk⟩ := look_all K S.n (dropS S a b) b hOd.iv hOd.ev
    have hLn : (look S.n (dropS S a b) b).n = S.n := hLk.n
    have hc0 := hcb.2.2.1
    have e0 : (((c : Nat) : Int) == 0) = false := by rw [beq_eq_false_iff_ne]; simp at hc0; omega
    have H : Hid (GI w B hb am ew tb f AL S) := h
    rw [hLE]
    obtain ⟨LM, hLM⟩ : ∃ LM, look S.n (dropS S a b) b = LM := ⟨_, rfl⟩
    have HLM : Hid (look S.n (dropS S a b) b = LM) := hLM
    rw [hLM] at hLn ⊢
    clear h hLE hLM hLk hcb hc0
    go_enter Try.func49, Try.ntmps49
    go_wp2_with fail
    refine hD.mono ?_
    rintro e W1 ⟨rfl, f1, t1, q1, m1, k1⟩
    clear hD
    obtain ⟨t2, q2⟩ := H.out.th.things t1 q1 m1
    have g2 := H.out.gi.dropped ha haa h1p hin k1
    have hDi := dieI_any B hb am K tb hK S.n b ew f1 AL (dropS S a b) W1 ⟨t2, g2⟩ hOd.iv hOd.ev hbb (alv_le (dropS S a b)) (Nat.le_trans hB q2.kp.size)
    rw [HLM.out] at hDi
    have Q2 : Hid (Fr (PH hb am S.n ew tb f) w (PH hb am S.n ew tb f1) W1) := q2
    clear t1 q1 m1 k1 t2 q2 g2 hOd
    go_wp2_with fail
    refine hDi.mono ?_
    rintro e W5 ⟨rfl, ew5, f5, AL5, h5, q5, _⟩
    clear hDi
    have hb5 : In LM.n b := by rw [hLn]; exact hbn
    have c2 : W5.cell? ⟨tb b, 2, none⟩ = some (.int .i64 (cnt LM b : Nat)) := by rw [← h5.gi.ct b hb5]; exact cell_obj (h5.th.tg.obj b hb5) rfl
    have HG : Hid (GP B hb am tb ew f S LM w W5) := ⟨ew5, f5, AL5, h5, by rw [hLn]; exact Q2.out.trans q5⟩
    clear h5 q5
    go_wp2
    go_ret
    exact ⟨rfl, HG.out⟩
end
end Go.Proofs.Ytjnalkeopehlbaa
