import Derived.Test.YtjnalkeopehlbaaGmF
import Derived.Test.YtjnalkeopehlbaaGdA
namespace Go.Proofs.Ytjnalkeopehlbaa
open Go.RowKit Go.Maps
set_option linter.unusedVariables false
set_option linter.unusedSimpArgs false

theorem tmo_at : ∀ (l : List (Nat × Nat)) (j b c : Nat), (l.map (·.1)).Nodup → l[j]? = some (b, c) → tmo l b = c
  | [], j, b, c, _, h => by simp at h
  | p :: r, 0, b, c, hn, h => by
    simp at h
    subst h
    rw [List.map_cons, List.nodup_cons] at hn
    rw [tmo_cons, if_pos rfl, tmo_none r b hn.1]; omega
  | p :: r, j + 1, b, c, hn, h => by
    simp at h
    rw [List.map_cons, List.nodup_cons] at hn
    have hm : b ∈ r.map (·.1) := List.mem_map.2 ⟨(b, c), List.mem_of_getElem? h, rfl⟩
    rw [tmo_cons, if_neg (fun e => hn.1 (by rw [e]; exact hm)), tmo_at r j b c hn.2 h]; omega
theorem inc_noneK : ∀ (l : List (Nat × Nat)) (b : Nat), b ∉ l.map (·.1) → incL l b = l ++ [(b, 1)]
  | [], b, _ => rfl
  | p :: r, b, h => by
    rw [List.map_cons, List.mem_cons, not_or] at h
    rw [incL, if_neg (fun e => h.1 e.symm), inc_noneK r b h.2]; rfl
theorem before_ne {l : List (Nat × Nat)} {j b c : Nat} (hn : (l.map (·.1)).Nodup) (hj : l[j]? = some (b, c)) : ∀ q (hq : q < l.length), q < j → l[q].1 ≠ b := by
  intro q hq hqj e
  have h1 : (l.map (·.1))[q]? = some b := by rw [List.getElem?_map, List.getElem?_eq_getElem hq]; simp [e]
  have h2 : (l.map (·.1))[j]? = some b := by rw [List.getElem?_map, hj]; rfl
  have := nodup_get hn h1 h2
  omega
theorem mpV_set (tb : Nat → Nat) (l : List (Nat × Nat)) (j b c : Nat) : (mpV tb l).set j (pk (tb b), .int .i64 (c : Nat)) = mpV tb (l.set j (b, c)) := by
  unfold mpV
  rw [List.map_set]
section
variable {W : World} {B n : Nat} {tb : Nat → Nat} {f : Nat → Tc}
theorem TG.good (h : TG W B n tb f) {a : Nat} (ha : In n a) : ∀ p ∈ mpV tb (f a).mp, gP W p.1 := fun p hp => by
  obtain ⟨q, hq, rfl⟩ := List.mem_map.1 hp
  exact ⟨tb q.1, rfl, h.pl (h.okm a ha q hq)⟩
theorem TG.mpnd (h : TG W B n tb f) {a : Nat} (ha : In n a) (hn : ((f a).mp.map (·.1)).Nodup) : ((mpV tb (f a).mp).map (·.1)).Nodup := by
  unfold mpV
  rw [List.map_map]
  have h1 := List.pairwise_map.1 hn
  refine List.pairwise_map.2 (h1.imp_of_mem (fun {p q} hp hq hne e => hne ?_))
  exact h.inj p.1 q.1 (h.okm a ha p hp) (h.okm a ha q hq) (pk_inj e)
/-- holds[other]. -/
theorem TG.lookH (h : TG W B n tb f) {a b : Nat} (ha : In n a) (hb : In n b) (hn : ((f a).mp.map (·.1)).Nodup) :
    (b ∉ (f a).mp.map (·.1) ∧ (∀ p ∈ mpV tb (f a).mp, p.1 ≠ pk (tb b)) ∧ (Instr.lookup 76 (.map (some (f a).mb)) (.pointer (some ⟨tb b, 0, none⟩)) false).run Try.prog W = .ok (.int .i64 0) W) ∨
    ∃ (j c : Nat), (f a).mp[j]? = some (b, c) ∧ (Instr.lookup 76 (.map (some (f a).mb)) (.pointer (some ⟨tb b, 0, none⟩)) false).run Try.prog W = .ok (.int .i64 (c : Nat)) W := by
  have hz : (zeroValue 2).run Try.prog W = .ok (.int .i64 0) W := by kernel_rfl
  rcases (h.map a ha).look Try.underlying76 hz (fndP W (tb b) (h.pl hb)) (h.good ha) with ⟨h1, h2⟩ | ⟨j, v, h1, h2⟩
  · refine .inl ⟨fun hm => ?_, h2, ?_⟩
    · obtain ⟨p, hp, e⟩ := List.mem_map.1 hm
      exact h2 (pk (tb p.1), .int .i64 (p.2 : Nat)) (List.mem_map.2 ⟨p, hp, rfl⟩) (by rw [e])
    · have := h1 false
      simpa [pk] using this
  · unfold mpV at h1
    rw [List.getElem?_map] at h1
    obtain ⟨q, hq, e⟩ := Option.map_eq_some_iff.1 h1
    have e1 : pk (tb q.1) = pk (tb b) := congrArg Prod.fst e
    have e2 : Value.int .i64 (q.2 : Nat) = v := congrArg Prod.snd e
    have e3 : q.1 = b := h.inj q.1 b (h.okm a ha q (List.mem_of_getElem? hq)) hb (pk_inj e1)
    refine .inr ⟨j, q.2, by rw [hq, ← e3], ?_⟩
    have := h2 false
    rw [← e2] at this
    simpa [pk] using this
/-- holds[other]++, other.count++. -/
theorem TG.tail (h : TG W B n tb f) {a b : Nat} (ha : In n a) (hb : In n b) (hn : ((f a).mp.map (·.1)).Nodup) (C : Nat) (hC : tmo (f a).mp b = C) :
    W.cell? ⟨tb a, 6, none⟩ = some (.map (some (f a).mb)) ∧ (Instr.lookup 76 (.map (some (f a).mb)) (.pointer (some ⟨tb b, 0, none⟩)) false).run Try.prog W = .ok (.int .i64 (C : Nat)) W ∧
    ∃ W3, (Instr.mapUpdate 76 (.map (some (f a).mb)) (.pointer (some ⟨tb b, 0, none⟩)) (.int .i64 ((C : Int) + 1))).run Try.prog W = .ok () W3 ∧ W3.cell? ⟨tb b, 2, none⟩ = some (.int .i64 ((f b).ct : Nat)) ∧ W3.frozen? ⟨tb b, 2, none⟩ = false ∧
      TG (W3.setCell ⟨tb b, 2, none⟩ (.int .i64 (((f b).ct : Int) + 1))) B n tb (upd (upd f a { f a with mp := incL (f a).mp b }) b { upd f a { f a with mp := incL (f a).mp b } b with ct := (f b).ct + 1 }) ∧
      Fr (PT n tb f) W (PT n tb (upd (upd f a { f a with mp := incL (f a).mp b }) b { upd f a { f a with mp := incL (f a).mp b } b with ct := (f b).ct + 1 })) (W3.setCell ⟨tb b, 2, none⟩ (.int .i64 (((f b).ct : Int) + 1))) := by
  have key : (Instr.lookup 76 (.map (some (f a).mb)) (.pointer (some ⟨tb b, 0, none⟩)) false).run Try.prog W = .ok (.int .i64 (C : Nat)) W ∧ ∃ W3, (Instr.mapUpdate 76 (.map (some (f a).mb)) (.pointer (some ⟨tb b, 0, none⟩)) (.int .i64 ((C : Int) + 1))).run Try.prog W = .ok () W3 ∧ MM W3 (f a).mb (mpV tb (incL (f a).mp b)) ∧ W.grownBy W3 (some (f a).mb) := by
    rcases h.lookH ha hb hn with ⟨h1, h2, h3⟩ | ⟨j, c, h1, h2⟩
    · rw [tmo_none _ _ h1] at hC
      subst hC
      obtain ⟨W3, k1, k2, k3, k4⟩ := (h.map a ha).add (v := .int .i64 1) Try.underlying76 (fndP W (tb b) (h.pl hb)) (h.good ha) h2
      refine ⟨h3, W3, k1, ?_, k3⟩
      rw [inc_noneK _ _ h1]
      unfold mpV at k2 ⊢
      rw [List.map_append]
      exact k2
    · rw [tmo_at _ j b c hn h1] at hC
      subst hC
      have hj : (mpV tb (f a).mp)[j]? = some (pk (tb b), .int .i64 (c : Nat)) := by unfold mpV; rw [List.getElem?_map, h1]; rfl
      obtain ⟨W3, k1, k2, k3, k4⟩ := (h.map a ha).put (v := .int .i64 ((c : Int) + 1)) Try.underlying76 (fndP W (tb b) (h.pl hb)) (h.good ha) (h.mpnd ha hn) hj
      refine ⟨h2, W3, k1, ?_, k3⟩
      obtain ⟨hl, e⟩ := List.getElem?_eq_some_iff.1 h1
      rw [inc_at _ b j hl (by rw [e]) (before_ne hn h1), e, ← mpV_set]
      exact k2
  have hab : (f b).ct = (upd f a { f a with mp := incL (f a).mp b } b).ct := by
    by_cases e : b = a
    · subst e; rw [upd_same]
    · rw [upd_ne _ _ e]
  obtain ⟨k0, W3, k1, k2, k3⟩ := key
  obtain ⟨t1, q1⟩ := h.mapped ha (incL (f a).mp b) k2 (fun p hp => by
    rcases inc_mem _ _ p hp with h1 | ⟨h1, _⟩
    · exact h.okm a ha p h1
    · rw [h1]; exact hb) k3
  have ho := t1.obj b hb
  obtain ⟨t2, q2⟩ := t1.cell1 hb 2 (.int .i64 (((f b).ct + 1 : Nat) : Nat)) { upd f a { f a with mp := incL (f a).mp b } b with ct := (f b).ct + 1 } rfl rfl rfl rfl rfl
  have hc : (((f b).ct + 1 : Nat) : Int) = ((f b).ct : Int) + 1 := by omega
  rw [hc] at t2 q2
  exact ⟨cell_obj (h.obj a ha) rfl, k0, W3, k1, by rw [hab]; exact cell_obj ho rfl, frozen_obj ho, t2, q1.trans q2⟩
end
end Go.Proofs.Ytjnalkeopehlbaa

namespace Go.Proofs.Ytjnalkeopehlbaa
open Go.RowKit Go.Maps
set_option linter.unusedVariables false
set_option linter.unusedSimpArgs false

theorem cnt_hold (S : Gs) (a b y : Nat) (ha : In S.n a) (haa : S.al a = true) : cnt (holdS S a b) y = cnt S y + if y = b then 1 else 0 := by
  have h := sm_upd (fun k => if S.al (k + 1) then tmo (S.hl (k + 1)) y else 0) (fun k => if S.al (k + 1) then tmo (upd S.hl a (incL (S.hl a) b) (k + 1)) y else 0) (a - 1) S.n (by have := ha.1; have := ha.2; omega) (fun k hk => by
    show (if S.al (k + 1) then tmo (upd S.hl a (incL (S.hl a) b) (k + 1)) y else 0) = _
    rw [upd_ne _ _ (by have := ha.1; omega)])
  have e : a - 1 + 1 = a := by have := ha.1; omega
  simp only [e, haa, upd_same, if_true, tmo_inc] at h
  show S.rt y + sm S.n (fun k => if S.al (k + 1) then tmo (upd S.hl a (incL (S.hl a) b) (k + 1)) y else 0) = S.rt y + sm S.n (fun k => if S.al (k + 1) then tmo (S.hl (k + 1)) y else 0) + if y = b then 1 else 0
  omega
theorem Gi.held {S : Gs} {f f' : Nat → Tc} {AL : List Nat} (h : Gi S f AL) {a b : Nat} (ha : In S.n a) (haa : S.al a = true)
    (hk : ∀ y, (f' y).rt = (f y).rt ∧ (f' y).wk = (f y).wk ∧ (f' y).fn = (f y).fn ∧ (f' y).rn = (f y).rn ∧ (f' y).ct = (f y).ct + (if y = b then 1 else 0) ∧ (f' y).ord = (if y = a then (incL (f a).mp b).map (·.1) else (f y).ord) ∧ (f' y).mp = if y = a then incL (f a).mp b else (f y).mp) : Gi (holdS S a b) f' AL := by
  refine ⟨fun y hy => (hk y).1.trans (h.rt y hy), fun y hy => ?_, fun y hy => (hk y).2.1.trans (h.wk y hy), fun y hy => (hk y).2.2.1.trans (h.fn y hy), fun y hy => (hk y).2.2.2.1.trans (h.rn y hy), fun y hy => ?_, fun y hy => ?_, h.al⟩
  · rw [(hk y).2.2.2.2.1, cnt_hold S a b y ha haa, h.ct y hy]
  · rw [(hk y).2.2.2.2.2.1]
    show _ = (upd S.hl a (incL (S.hl a) b) y).map (·.1)
    by_cases e : y = a
    · subst e; rw [if_pos rfl, upd_same, h.mp y ha]
    · rw [if_neg e, upd_ne _ _ e]; exact h.od y hy
  · rw [(hk y).2.2.2.2.2.2]
    show _ = upd S.hl a (incL (S.hl a) b) y
    by_cases e : y = a
    · subst e; rw [if_pos rfl, upd_same, h.mp y ha]
    · rw [if_neg e, upd_ne _ _ e]; exact h.mp y hy
set_option maxRecDepth 100000 in
set_option maxHeartbeats 1500000 in
theorem holdT_any (B n a b : Nat) (tb : Nat → Nat) (f : Nat → Tc) (w : World) (h : TG w B n tb f) (ha : In n a) (hb : In n b) (hnd : ((f a).mp.map (·.1)).Nodup) (h1p : ∀ p ∈ (f a).mp, 1 ≤ p.2) (hod : (f a).ord = (f a).mp.map (·.1)) (hc : tmo (f a).mp b ≤ 16777216) (hcn : (f b).ct ≤ 100000000) (hol : (f a).ord.length + 1 ≤ 16777216) (hB : B ≤ w.heap.size) :
    Calls Try.prog 30 #[.pointer (some ⟨tb a, 0, none⟩), .pointer (some ⟨tb b, 0, none⟩)] w fun e w' => e = .returned (.tuple #[]) ∧ ∃ f', TG w' B n tb f' ∧ Fr (PT n tb f) w (PT n tb f') w' ∧ (∀ y, (f' y).mb = (f y).mb) ∧
      ∀ y, (f' y).rt = (f y).rt ∧ (f' y).wk = (f y).wk ∧ (f' y).fn = (f y).fn ∧ (f' y).rn = (f y).rn ∧ (f' y).ct = (f y).ct + (if y = b then 1 else 0) ∧ (f' y).ord = (if y = a then (incL (f a).mp b).map (·.1) else (f y).ord) ∧ (f' y).mp = if y = a then incL (f a).mp b else (f y).mp := by
  obtain ⟨C, hC⟩ : ∃ C, tmo (f a).mp b = C := ⟨_, rfl⟩
  rw [hC] at hc
  have hw1 : IntKind.i64.wrap ((C : Int) + 1) = (C : Int) + 1 := wrap_small (by omega) (by omega)
  have hw2 : IntKind.i64.wrap (((f b).ct : Int) + 1) = ((f b).ct : Int) + 1 := wrap_small (by omega) (by omega)
  by_cases e0 : C = 0
  · have hnb : b ∉ (f a).mp.map (·.1) := fun hm => by have := tmo_pos _ b h1p hm; omega
    have c7 : w.cell? ⟨tb a, 7, none⟩ = some (f a).row := cell_obj (h.obj a ha) rfl
    obtain ⟨c6, hL, -⟩ := h.tail ha hb hnd C hC
    have al : Below w.heap.size w (w.alloc (.cells #[.pointer (some ⟨tb b, 0, none⟩)] 56)) := (Below.refl _ _).alloc (Nat.le_refl _) _
    have hTA := h.keep al
    have HTA : Hid (TG (w.alloc (.cells #[.pointer (some ⟨tb b, 0, none⟩)] 56)) B n tb f) := hTA
    have oR := hTA.row a ha
    have cA : (w.alloc (.cells #[.pointer (some ⟨tb b, 0, none⟩)] 56)).cell? ⟨w.heap.size, 0, none⟩ = some (.pointer (some ⟨tb b, 0, none⟩)) := by rw [World.cell?_alloc_at _ _ _ _ rfl]; rfl
    have hcc : ∀ k (h : k < [tb b].length), (w.alloc (.cells #[.pointer (some ⟨tb b, 0, none⟩)] 56)).cell? ⟨w.heap.size, k, none⟩ = some (pk [tb b][k]) := fun k hk => by
      obtain rfl : k = 0 := by simpa using hk
      exact cA
    have HCC : Hid (∀ k (h : k < [tb b].length), (w.alloc (.cells #[.pointer (some ⟨tb b, 0, none⟩)] 56)).cell? ⟨w.heap.size, k, none⟩ = some (pk [tb b][k])) := hcc
    have hml : ((f a).ord.map tb).length = (f a).ord.length := by simp
    have hsA := al.size
    have hszA : (w.alloc (.cells #[.pointer (some ⟨tb b, 0, none⟩)] 56)).heap.size = w.heap.size + 1 := by simp
    have QA : Hid (Fr (PT n tb f) w (PT n tb f) (w.alloc (.cells #[.pointer (some ⟨tb b, 0, none⟩)] 56))) := Fr.below al
    have HAF : Hid (∀ w' b' c', OwnG shT 56 w' B (.slice (some ⟨b', 0, none⟩) ((f a).ord.length + 1) c') ((f a).ord.map tb ++ [tb b]) → (w.alloc (.cells #[.pointer (some ⟨tb b, 0, none⟩)] 56)).grownBy w' (f a).row.ownBlock → ((f a).row.ownBlock = some b' ∨ b' = (w.alloc (.cells #[.pointer (some ⟨tb b, 0, none⟩)] 56)).heap.size) →
        (w'.cell? ⟨tb a, 7, none⟩ = some (f a).row ∧ w'.frozen? ⟨tb a, 7, none⟩ = false) ∧ TG (w'.setCell ⟨tb a, 7, none⟩ (.slice (some ⟨b', 0, none⟩) ((f a).ord.length + 1) c')) B n tb (upd f a { f a with row := .slice (some ⟨b', 0, none⟩) ((f a).ord.length + 1) c', ord := (f a).ord ++ [b] }) ∧
        Fr (PT n tb f) w (PT n tb (upd f a { f a with row := .slice (some ⟨b', 0, none⟩) ((f a).ord.length + 1) c', ord := (f a).ord ++ [b] })) (w'.setCell ⟨tb a, 7, none⟩ (.slice (some ⟨b', 0, none⟩) ((f a).ord.length + 1) c'))) := fun w' b' c' oO hg hl => by
      have hw := (hg.block (tb a) (HTA.out.lt ha).1 (fun e => HTA.out.tr ha ha e.symm)).trans (HTA.out.obj a ha)
      obtain ⟨t1, q1⟩ := HTA.out.rowed ha (.slice (some ⟨b', 0, none⟩) ((f a).ord.length + 1) c') ((f a).ord ++ [b]) (by rw [List.map_append]; exact oO) (fun j hj => by
        rcases List.mem_append.1 hj with h5 | h5
        · exact HTA.out.oko a ha j h5
        · simp at h5; subst h5; exact hb) hg (fun q e => by
        have e2 : b' = q := Option.some.inj e
        rcases hl with h5 | h5
        · exact .inl (by rw [h5, e2])
        · exact .inr (by omega))
      exact ⟨⟨cell_obj hw rfl, frozen_obj hw⟩, t1, QA.out.trans q1⟩
    have HCT : Hid (∀ r o (q : Nat), (upd f a { f a with row := r, ord := o } b).ct = (f b).ct) := fun r o q => by
      by_cases e : b = a
      · subst e; rw [upd_same]
      · rw [upd_ne _ _ e]
    have HOD : Hid ((f a).ord = (f a).mp.map (·.1)) := hod
    clear hcc hTA h hod
    subst e0
    go_enter Try.func30, Try.ntmps30
    go_wp2_with (at_builtin; refine wpList_append_T rfl (.tmp 15) (.tmp 17) 55 rfl Try.underlying55 B (f a).row ((f a).ord.map tb) [tb b] rfl oR w.heap.size 1 rfl Nat.zero_lt_one HCC.out (by rw [hml]; exact hol) (by omega) ?_; intro b' c' w' oF4 hg4 hl4 hz4; obtain ⟨⟨d7, f7⟩, hT5, hF5⟩ := HAF.out w' b' c' (by rw [hml] at oF4; exact oF4) hg4 hl4; obtain ⟨g6, gL, W3, gU, g2, gf, hT3, hF3⟩ := hT5.tail ha hb (by rw [upd_same]; exact hnd) 0 (by rw [upd_same]; exact hC); rw [upd_same] at g6 gL gU hT3 hF3; rw [show ((0 : Nat) : Int) = 0 from rfl] at gL gU; rw [Int.zero_add] at gU; have hcq : (upd f a { f a with row := .slice (some ⟨b', 0, none⟩) ((f a).ord.length + 1) c', ord := (f a).ord ++ [b] } b).ct = (f b).ct := HCT.out _ _ 0; rw [hcq] at g2 hT3 hF3; have HT3 : Hid (TG _ _ _ _ _) := hT3; have HF3 : Hid (Fr _ _ _ _) := hF5.trans hF3; clear hT3 hF3 hT5 hF5)
    go_end0
    refine ⟨rfl, _, HT3.out, HF3.out, fun y => ?_, fun y => ?_⟩
    · unfold upd
      by_cases e1 : y = b <;> by_cases e2 : y = a <;> by_cases e3 : b = a <;> simp_all
    · have hio : (f a).ord ++ [b] = (incL (f a).mp b).map (·.1) := by rw [inc_noneK _ _ hnb, HOD.out, List.map_append]; rfl
      unfold upd
      by_cases e1 : y = b <;> by_cases e2 : y = a <;> by_cases e3 : b = a <;> simp_all
  · have hbm : b ∈ (f a).mp.map (·.1) := Classical.byContradiction (fun hn => e0 (by rw [← hC]; exact tmo_none _ _ hn))
    have hko : (incL (f a).mp b).map (·.1) = (f a).ord := by rw [inc_keys, if_pos hbm, hod]
    obtain ⟨g6, gL, W3, gU, g2, gf, hT3, hF3⟩ := h.tail ha hb hnd C hC
    have HT3 : Hid (TG _ _ _ _ _) := hT3
    have HF3 : Hid (Fr _ _ _ _) := hF3
    have HKO : Hid ((incL (f a).mp b).map (·.1) = (f a).ord) := hko
    have eC : (((C : Nat) : Int) == 0) = false := by rw [beq_eq_false_iff_ne]; omega
    clear h hT3 hF3 hko hod
    go_enter Try.func30, Try.ntmps30
    go_wp2
    go_end0
    have hio := HKO.out
    refine ⟨rfl, _, HT3.out, HF3.out, fun y => ?_, fun y => ?_⟩
    · unfold upd
      by_cases e1 : y = b <;> by_cases e2 : y = a <;> by_cases e3 : b = a <;> simp_all
    · unfold upd
      by_cases e1 : y = b <;> by_cases e2 : y = a <;> by_cases e3 : b = a <;> simp_all
end Go.Proofs.Ytjnalkeopehlbaa

namespace Go.Proofs.Ytjnalkeopehlbaa
open Go.RowKit Go.Maps
set_option linter.unusedVariables false
set_option linter.unusedSimpArgs false

theorem left_eq {K m b : Nat} {S : Gs} (hI : Iv K S) (hE : EvB S) (hb : S.al b = true) : leftS (look m S b) b = cnt (look m S b) b := by
  unfold leftS
  cases e : (look m S b).al b with
  | true => rw [if_pos rfl]
  | false => rw [if_neg (by simp), look_left hI hE hb e]
theorem cnt_ge (S : Gs) (x : Nat) : S.rt x ≤ cnt S x := by unfold cnt; omega
theorem Gi.weakened {S : Gs} {f : Nat → Tc} {AL : List Nat} (h : Gi S f AL) (x : Nat) (hx : In S.n x) (b : Nat) : Gi { S with wk := upd S.wk x b } (upd f x { f x with wk := b }) AL := by
  have key : ∀ y, (upd f x { f x with wk := b } y).wk = upd (fun y => (f y).wk) x b y ∧ (upd f x { f x with wk := b } y).rt = (f y).rt ∧ (upd f x { f x with wk := b } y).ct = (f y).ct ∧ (upd f x { f x with wk := b } y).rn = (f y).rn ∧ (upd f x { f x with wk := b } y).fn = (f y).fn ∧ (upd f x { f x with wk := b } y).ord = (f y).ord ∧ (upd f x { f x with wk := b } y).mp = (f y).mp := by
    intro y
    by_cases e : y = x
    · subst e; rw [upd_same, upd_same]; exact ⟨rfl, rfl, rfl, rfl, rfl, rfl, rfl⟩
    · rw [upd_ne _ _ e, upd_ne _ _ e]; exact ⟨rfl, rfl, rfl, rfl, rfl, rfl, rfl⟩
  refine ⟨fun y hy => (key y).2.1.trans (h.rt y hy), fun y hy => (key y).2.2.1.trans (h.ct y hy), fun y hy => ?_, fun y hy => (key y).2.2.2.2.1.trans (h.fn y hy), fun y hy => (key y).2.2.2.1.trans (h.rn y hy), fun y hy => (key y).2.2.2.2.2.1.trans (h.od y hy), fun y hy => (key y).2.2.2.2.2.2.trans (h.mp y hy), h.al⟩
  rw [(key y).1]
  show _ = upd S.wk x b y
  by_cases e : y = x
  · subst e; rw [upd_same, upd_same]
  · rw [upd_ne _ _ e, upd_ne _ _ e]; exact h.wk y hy
theorem Gi.finaled {S : Gs} {f : Nat → Tc} {AL : List Nat} (h : Gi S f AL) (x : Nat) (hx : In S.n x) (b : Nat) : Gi { S with fn := upd S.fn x b } (upd f x { f x with fn := b }) AL := by
  have key : ∀ y, (upd f x { f x with fn := b } y).fn = upd (fun y => (f y).fn) x b y ∧ (upd f x { f x with fn := b } y).rt = (f y).rt ∧ (upd f x { f x with fn := b } y).ct = (f y).ct ∧ (upd f x { f x with fn := b } y).rn = (f y).rn ∧ (upd f x { f x with fn := b } y).wk = (f y).wk ∧ (upd f x { f x with fn := b } y).ord = (f y).ord ∧ (upd f x { f x with fn := b } y).mp = (f y).mp := by
    intro y
    by_cases e : y = x
    · subst e; rw [upd_same, upd_same]; exact ⟨rfl, rfl, rfl, rfl, rfl, rfl, rfl⟩
    · rw [upd_ne _ _ e, upd_ne _ _ e]; exact ⟨rfl, rfl, rfl, rfl, rfl, rfl, rfl⟩
  refine ⟨fun y hy => (key y).2.1.trans (h.rt y hy), fun y hy => (key y).2.2.1.trans (h.ct y hy), fun y hy => (key y).2.2.2.2.1.trans (h.wk y hy), fun y hy => ?_, fun y hy => (key y).2.2.2.1.trans (h.rn y hy), fun y hy => (key y).2.2.2.2.2.1.trans (h.od y hy), fun y hy => (key y).2.2.2.2.2.2.trans (h.mp y hy), h.al⟩
  rw [(key y).1]
  show _ = upd S.fn x b y
  by_cases e : y = x
  · subst e; rw [upd_same, upd_same]
  · rw [upd_ne _ _ e, upd_ne _ _ e]; exact h.fn y hy
theorem upd_mb (f : Nat → Tc) (x : Nat) (t : Tc) (h : t.mb = (f x).mb) (y : Nat) : (upd f x t y).mb = (f y).mb := by
  by_cases e : y = x
  · subst e; rw [upd_same]; exact h
  · rw [upd_ne _ _ e]
theorem cnt_small {K : Nat} {S : Gs} (hI : Iv K S) (hK : K ≤ 2500) (x : Nat) : cnt S x ≤ 100000000 := by
  have := hI.cnt x
  have hn := hI.n
  have : S.n * K ≤ 2500 * 2500 := Nat.mul_le_mul (by omega) (by omega)
  omega
theorem rt_small {K : Nat} {S : Gs} (hI : Iv K S) (hK : K ≤ 2500) (x : Nat) : S.rt x ≤ 2501 := by have := hI.rt x; split at this <;> omega
section
variable (B hb am a K : Nat) (ew : Value) (tb : Nat → Nat) (f : Nat → Tc) (AL : List Nat) (S : Gs) (w : World)
set_option maxRecDepth 100000 in
theorem one4 (h : GI w B hb am ew tb f AL S) (hO : Ok K S) (hK : K ≤ 2500) (haa : S.al a = true) :
    Calls Try.prog 51 #[.pointer (some ⟨hb, 0, none⟩), .int .i64 4, .pointer (some ⟨tb a, 0, none⟩)] w fun e w' => e = .returned (.int .i64 (cnt (rootS S a) a : Nat)) ∧ GP B hb am tb ew f S (rootS S a) w w' := by
  have ha : In S.n a := hO.iv.al a haa
  have h1 := cnt_small hO.iv hK a
  have h2 := rt_small hO.iv hK a
  have hR := root_any (tb a) a _ w (h.th.tg.obj a ha) (by rw [h.gi.rt a ha]; omega) (by rw [h.gi.ct a ha]; omega)
  obtain ⟨t1, q1⟩ := h.th.tg.rooted ha ((f a).rt + 1) ((f a).ct + 1)
  obtain ⟨t2, q2⟩ := h.th.things t1 q1 (upd_mb f a _ rfl)
  have g2 := h.gi.rooted a ha ((f a).rt + 1) ((f a).ct + 1) (by rw [h.gi.rt a ha, h.gi.ct a ha]; omega)
  rw [show (((f a).rt + 1 : Nat) : Int) = ((f a).rt : Int) + 1 by omega, show (((f a).ct + 1 : Nat) : Int) = ((f a).ct : Int) + 1 by omega] at t2 q2
  have hS : rootS S a = { S with rt := upd S.rt a ((f a).rt + 1) } := by unfold rootS; rw [h.gi.rt a ha]
  have hC : cnt (rootS S a) a = (f a).ct + 1 := by
    rw [hS]
    have := g2.ct a ha
    rw [upd_same] at this
    exact this.symm
  have HG : Hid (GP B hb am tb ew f S (rootS S a) w ((w.setCell ⟨tb a, 1, none⟩ (.int .i64 (((f a).rt : Int) + 1))).setCell ⟨tb a, 2, none⟩ (.int .i64 (((f a).ct : Int) + 1)))) := by
    refine ⟨ew, _, AL, ⟨t2, ?_⟩, q2⟩
    rw [hS]; exact g2
  have c2 : ((w.setCell ⟨tb a, 1, none⟩ (.int .i64 (((f a).rt : Int) + 1))).setCell ⟨tb a, 2, none⟩ (.int .i64 (((f a).ct : Int) + 1))).cell? ⟨tb a, 2, none⟩ = some (.int .i64 (((f a).ct : Int) + 1)) := by
    have := cell_obj (o := 2) (v := .int .i64 (((f a).ct + 1 : Nat) : Int)) (t2.tg.obj a ha) (by rw [upd_same]; rfl)
    rw [this, show (((f a).ct + 1 : Nat) : Int) = ((f a).ct : Int) + 1 by omega]
  rw [hC, show (((f a).ct + 1 : Nat) : Int) = ((f a).ct : Int) + 1 by omega]
  clear h t1 q1 t2 q2 g2 hS hC
  go_enter Try.func51, Try.ntmps51
  go_wp2_with fail
  refine hR.mono ?_
  rintro e W4 ⟨rfl, rfl⟩
  clear hR
  go_wp2
  go_ret
  exact ⟨rfl, HG.out⟩
set_option maxRecDepth 100000 in
theorem one9 (h : GI w B hb am ew tb f AL S) (hO : Ok K S) (haa : S.al a = true) :
    Calls Try.prog 51 #[.pointer (some ⟨hb, 0, none⟩), .int .i64 9, .pointer (some ⟨tb a, 0, none⟩)] w fun e w' => e = .returned (.int .i64 (cnt S a : Nat)) ∧ GP B hb am tb ew f S S w w' := by
  have ha : In S.n a := hO.iv.al a haa
  have c2 : w.cell? ⟨tb a, 2, none⟩ = some (.int .i64 (cnt S a : Nat)) := by rw [← h.gi.ct a ha]; exact cell_obj (h.th.tg.obj a ha) rfl
  have HG : Hid (GP B hb am tb ew f S S w w) := ⟨ew, f, AL, h, Fr.refl _ _⟩
  clear h
  go_enter Try.func51, Try.ntmps51
  go_wp2
  go_ret
  exact ⟨rfl, HG.out⟩
set_option maxRecDepth 100000 in
theorem one6 (h : GI w B hb am ew tb f AL S) (hO : Ok K S) (hK : K ≤ 2500) (haa : S.al a = true) :
    Calls Try.prog 51 #[.pointer (some ⟨hb, 0, none⟩), .int .i64 6, .pointer (some ⟨tb a, 0, none⟩)] w fun e w' => e = .returned (.int .i64 ((S.wk a : Int) + 1)) ∧ GP B hb am tb ew f S (weakenS S a) w w' := by
  have ha : In S.n a := hO.iv.al a haa
  have hwb := hO.iv.wk a
  have ho := h.th.tg.obj a ha
  have c3 : w.cell? ⟨tb a, 3, none⟩ = some (.int .i64 (S.wk a : Nat)) := by rw [← h.gi.wk a ha]; exact cell_obj ho rfl
  have f3 : w.frozen? ⟨tb a, 3, none⟩ = false := frozen_obj ho
  obtain ⟨t1, q1⟩ := h.th.tg.cell1 ha 3 (.int .i64 ((S.wk a + 1 : Nat) : Int)) { f a with wk := S.wk a + 1 } rfl rfl rfl rfl rfl
  obtain ⟨t2, q2⟩ := h.th.things t1 q1 (upd_mb f a _ rfl)
  have g2 := h.gi.weakened a ha (S.wk a + 1)
  have c3' : (w.setCell ⟨tb a, 3, none⟩ (.int .i64 ((S.wk a : Int) + 1))).cell? ⟨tb a, 3, none⟩ = some (.int .i64 ((S.wk a : Int) + 1)) := by
    have := cell_obj (o := 3) (v := .int .i64 ((S.wk a + 1 : Nat) : Int)) (t2.tg.obj a ha) (by rw [upd_same]; rfl)
    rw [show ((S.wk a + 1 : Nat) : Int) = (S.wk a : Int) + 1 by omega] at this
    exact this
  rw [show ((S.wk a + 1 : Nat) : Int) = (S.wk a : Int) + 1 by omega] at t2 q2
  have hw1 : IntKind.i64.wrap ((S.wk a : Int) + 1) = (S.wk a : Int) + 1 := wrap_small (by omega) (by omega)
  have HG : Hid (GP B hb am tb ew f S (weakenS S a) w (w.setCell ⟨tb a, 3, none⟩ (.int .i64 ((S.wk a : Int) + 1)))) := ⟨ew, _, AL, ⟨t2, g2⟩, q2⟩
  clear h t1 q1 t2 q2 g2 ho
  go_enter Try.func51, Try.ntmps51
  go_wp2
  go_ret
  exact ⟨rfl, HG.out⟩
set_option maxRecDepth 100000 in
theorem one0 (kd : Int) (h : GI w B hb am ew tb f AL S) (h4 : kd ≠ 4) (h5 : kd ≠ 5) (h6 : kd ≠ 6) (h9 : kd ≠ 9) :
    Calls Try.prog 51 #[.pointer (some ⟨hb, 0, none⟩), .int .i64 kd, .pointer (some ⟨tb a, 0, none⟩)] w fun e w' => e = .returned (.int .i64 (-1)) ∧ GP B hb am tb ew f S S w w' := by
  have HG : Hid (GP B hb am tb ew f S S w w) := ⟨ew, f, AL, h, Fr.refl _ _⟩
  have e4 : (kd == 4) = false := by rw [beq_eq_false_iff_ne]; exact h4
  have e5 : (kd == 5) = false := by rw [beq_eq_false_iff_ne]; exact h5
  have e6 : (kd == 6) = false := by rw [beq_eq_false_iff_ne]; exact h6
  have e9 : (kd == 9) = false := by rw [beq_eq_false_iff_ne]; exact h9
  clear h
  go_enter Try.func51, Try.ntmps51
  go_wp2
  go_ret
  exact ⟨rfl, HG.out⟩
set_option maxRecDepth 100000 in
theorem one5n (h : GI w B hb am ew tb f AL S) (hO : Ok K S) (haa : S.al a = true) (hr : S.rt a = 0) :
    Calls Try.prog 51 #[.pointer (some ⟨hb, 0, none⟩), .int .i64 5, .pointer (some ⟨tb a, 0, none⟩)] w fun e w' => e = .returned (.int .i64 (-1)) ∧ GP B hb am tb ew f S S w w' := by
  have ha : In S.n a := hO.iv.al a haa
  have c1 : w.cell? ⟨tb a, 1, none⟩ = some (.int .i64 0) := by
    have : w.cell? ⟨tb a, 1, none⟩ = some (.int .i64 ((f a).rt : Nat)) := cell_obj (h.th.tg.obj a ha) rfl
    rw [h.gi.rt a ha, hr] at this
    exact this
  have HG : Hid (GP B hb am tb ew f S S w w) := ⟨ew, f, AL, h, Fr.refl _ _⟩
  clear h
  go_enter Try.func51, Try.ntmps51
  go_wp2
  go_ret
  exact ⟨rfl, HG.out⟩
set_option maxRecDepth 100000 in
theorem one5 (h : GI w B hb am ew tb f AL S) (hO : Ok K S) (hK : K ≤ 2500) (haa : S.al a = true) (hr : S.rt a ≠ 0) (hB : B ≤ w.heap.size) :
    Calls Try.prog 51 #[.pointer (some ⟨hb, 0, none⟩), .int .i64 5, .pointer (some ⟨tb a, 0, none⟩)] w fun e w' => e = .returned (.int .i64 (leftS (look S.n (unrootS S a) a) a : Nat)) ∧ GP B hb am tb ew f S (look S.n (unrootS S a) a) w w' := by
  have ha : In S.n a := hO.iv.al a haa
  have h1 := cnt_small hO.iv hK a
  have h2 := rt_small hO.iv hK a
  have hge := cnt_ge S a
  have c1 : w.cell? ⟨tb a, 1, none⟩ = some (.int .i64 (S.rt a : Nat)) := by rw [← h.gi.rt a ha]; exact cell_obj (h.th.tg.obj a ha) rfl
  have hR := unroot_any (tb a) a _ w (h.th.tg.obj a ha) (by rw [h.gi.rt a ha]; omega) (by rw [h.gi.ct a ha]; omega)
  obtain ⟨t1, q1⟩ := h.th.tg.rooted ha ((f a).rt - 1) ((f a).ct - 1)
  obtain ⟨t2, q2⟩ := h.th.things t1 q1 (upd_mb f a _ rfl)
  have g2 := h.gi.rooted a ha ((f a).rt - 1) ((f a).ct - 1) (by rw [h.gi.rt a ha, h.gi.ct a ha]; omega)
  have hrf := h.gi.rt a ha
  have hcf := h.gi.ct a ha
  rw [show (((f a).rt - 1 : Nat) : Int) = ((f a).rt : Int) - 1 by omega, show (((f a).ct - 1 : Nat) : Int) = ((f a).ct : Int) - 1 by omega] at t2 q2
  have hS : unrootS S a = { S with rt := upd S.rt a ((f a).rt - 1) } := by unfold unrootS; rw [h.gi.rt a ha]
  have hG2 : GI ((w.setCell ⟨tb a, 1, none⟩ (.int .i64 (((f a).rt : Int) - 1))).setCell ⟨tb a, 2, none⟩ (.int .i64 (((f a).ct : Int) - 1))) B hb am ew tb (upd f a { f a with rt := (f a).rt - 1, ct := (f a).ct - 1 }) AL (unrootS S a) := by rw [hS]; exact ⟨t2, g2⟩
  have hOu := hO.unroot a
  have hD := dieI_any B hb am K tb hK S.n a ew _ AL (unrootS S a) _ hG2 hOu.iv hOu.ev haa (alv_le (unrootS S a)) (Nat.le_trans hB q2.kp.size)
  have hLE := left_eq (m := S.n) hOu.iv hOu.ev (b := a) haa
  obtain ⟨_, _, hLk⟩ := look_all K S.n (unrootS S a) a hOu.iv hOu.ev
  have hLn : (look S.n (unrootS S a) a).n = S.n := hLk.n
  have Q2 : Hid (Fr (PH hb am S.n ew tb f) w (PH hb am S.n ew tb (upd f a { f a with rt := (f a).rt - 1, ct := (f a).ct - 1 })) ((w.setCell ⟨tb a, 1, none⟩ (.int .i64 (((f a).rt : Int) - 1))).setCell ⟨tb a, 2, none⟩ (.int .i64 (((f a).ct : Int) - 1)))) := q2
  rw [hLE]
  have e1 : (((S.rt a : Nat) : Int) == 0) = false := by rw [beq_eq_false_iff_ne]; omega
  obtain ⟨LM, hLM⟩ : ∃ LM, look S.n (unrootS S a) a = LM := ⟨_, rfl⟩
  rw [hLM] at hD hLn ⊢
  clear h t1 q1 t2 q2 g2 hS hG2 hLE hLM hLk hrf hcf hOu
  go_enter Try.func51, Try.ntmps51
  go_wp2_with fail
  refine hR.mono ?_
  rintro e W4 ⟨rfl, rfl⟩
  clear hR
  go_wp2_with fail
  refine hD.mono ?_
  rintro e W5 ⟨rfl, ew5, f5, AL5, h5, q5, _⟩
  clear hD
  have ha5 : In LM.n a := by rw [hLn]; exact ha
  have c2 : W5.cell? ⟨tb a, 2, none⟩ = some (.int .i64 (cnt LM a : Nat)) := by rw [← h5.gi.ct a ha5]; exact cell_obj (h5.th.tg.obj a ha5) rfl
  have HG : Hid (GP B hb am tb ew f S LM w W5) := ⟨ew5, f5, AL5, h5, by rw [hLn]; exact Q2.out.trans q5⟩
  clear h5 q5
  go_wp2
  go_ret
  exact ⟨rfl, HG.out⟩
end
end Go.Proofs.Ytjnalkeopehlbaa

namespace Go.Proofs.Ytjnalkeopehlbaa
open Go.RowKit Go.Maps
set_option linter.unusedVariables false
set_option linter.unusedSimpArgs false

def tc0 (m : Nat) : Tc := ⟨0, 0, 0, 0, false, m, .slice none 0 0, [], []⟩
theorem In.cases {n y : Nat} (h : In (n + 1) y) : y = n + 1 ∨ In n y := by
  unfold In at *
  omega
theorem In.up {n y : Nat} (h : In n y) : In (n + 1) y ∧ y ≠ n + 1 := by
  unfold In at *
  omega
theorem mpV_upd {tb : Nat → Nat} {n q : Nat} {l : List (Nat × Nat)} (h : ∀ p ∈ l, In n p.1) : mpV (upd tb (n + 1) q) l = mpV tb l := by
  unfold mpV
  apply List.map_congr_left
  intro p hp
  rw [upd_ne _ _ (h p hp).up.2]
theorem map_upd {tb : Nat → Nat} {n q : Nat} {l : List Nat} (h : ∀ p ∈ l, In n p) : l.map (upd tb (n + 1) q) = l.map tb := by
  apply List.map_congr_left
  intro p hp
  rw [upd_ne _ _ (h p hp).up.2]
/-- One thing more. -/
theorem TG.new {w : World} {B n : Nat} {tb : Nat → Nat} {f : Nat → Tc} (h : TG w B n tb f) (hB : B ≤ w.heap.size) :
    TG ((w.alloc (.map #[] 0)).alloc (.cells (thC ((n + 1 : Nat) : Int) 0 w.heap.size (.slice none 0 0)) 78)) B (n + 1) (upd tb (n + 1) (w.heap.size + 1)) (upd f (n + 1) (tc0 w.heap.size)) := by
  have al : Below w.heap.size w ((w.alloc (.map #[] 0)).alloc (.cells (thC ((n + 1 : Nat) : Int) 0 w.heap.size (.slice none 0 0)) 78)) := ((Below.refl _ _).alloc (Nat.le_refl _) _).alloc (by simp) _
  have hK := h.keep al
  have hs1 : (w.alloc (.map #[] 0)).heap.size = w.heap.size + 1 := by simp
  have ho : ((w.alloc (.map #[] 0)).alloc (.cells (thC ((n + 1 : Nat) : Int) 0 w.heap.size (.slice none 0 0)) 78)).heap[w.heap.size + 1]? = some (.cells (thC ((n + 1 : Nat) : Int) 0 w.heap.size (.slice none 0 0)) 78 (0, 0)) := by
    rw [← hs1]; exact heap_alloc_new _ _
  have hm : MM ((w.alloc (.map #[] 0)).alloc (.cells (thC ((n + 1 : Nat) : Int) 0 w.heap.size (.slice none 0 0)) 78)) w.heap.size [] := (MM.made w).same ((MapKept.heap_alloc _ _).2 _ (by simp))
  refine ⟨fun y hy => ?_, fun y hy => ?_, fun y z hy hz e => ?_, fun y z hy hz e => ?_, fun y hy => ?_, fun y hy => ?_, fun y z hy hz e => ?_, fun y hy => ?_, fun y hy => ?_⟩
  · rcases hy.cases with rfl | h1
    · rw [upd_same, upd_same]; exact ho
    · rw [upd_ne _ _ h1.up.2, upd_ne _ _ h1.up.2]; exact hK.obj y h1
  · rcases hy.cases with rfl | h1
    · rw [upd_same, upd_same]; exact ⟨by omega, hB⟩
    · rw [upd_ne _ _ h1.up.2, upd_ne _ _ h1.up.2]; exact h.low y h1
  · rcases hy.cases with rfl | h1
    · rcases hz.cases with rfl | h2
      · rfl
      · rw [upd_same, upd_ne _ _ h2.up.2] at e
        have := (h.lt h2).1; omega
    · rcases hz.cases with rfl | h2
      · rw [upd_same, upd_ne _ _ h1.up.2] at e
        have := (h.lt h1).1; omega
      · rw [upd_ne _ _ h1.up.2, upd_ne _ _ h2.up.2] at e
        exact h.inj y z h1 h2 e
  · rcases hy.cases with rfl | h1
    · rcases hz.cases with rfl | h2
      · rfl
      · rw [upd_same, upd_ne _ _ h2.up.2] at e
        have e2 : w.heap.size = (f z).mb := e
        have := (h.lt h2).2; omega
    · rcases hz.cases with rfl | h2
      · rw [upd_same, upd_ne _ _ h1.up.2] at e
        have e2 : (f y).mb = w.heap.size := e
        have := (h.lt h1).2; omega
      · rw [upd_ne _ _ h1.up.2, upd_ne _ _ h2.up.2] at e
        exact h.injm y z h1 h2 e
  · rcases hy.cases with rfl | h1
    · rw [upd_same]; exact hm
    · rw [upd_ne _ _ h1.up.2, mpV_upd (h.okm y h1)]; exact hK.map y h1
  · rcases hy.cases with rfl | h1
    · rw [upd_same]; exact ⟨⟨rfl, .inl ⟨rfl, rfl⟩⟩, by simp [tc0], fun x hx => by simp [tc0] at hx⟩
    · rw [upd_ne _ _ h1.up.2, map_upd (h.oko y h1)]; exact hK.row y h1
  · rcases hy.cases with rfl | h1
    · rw [upd_same]; exact .inl rfl
    · rcases hz.cases with rfl | h2
      · rw [upd_ne _ _ h1.up.2, upd_same]
        cases e3 : (f y).row.ownBlock with
        | none => exact .inl e3
        | some g => right; rw [e3]; intro e4; cases e4
      · rw [upd_ne _ _ h1.up.2, upd_ne _ _ h2.up.2]; exact h.apart y z h1 h2 e
  · rcases hy.cases with rfl | h1
    · rw [upd_same]; intro p hp; cases hp
    · rw [upd_ne _ _ h1.up.2]; exact fun p hp => (h.okm y h1 p hp).up.1
  · rcases hy.cases with rfl | h1
    · rw [upd_same]; intro p hp; cases hp
    · rw [upd_ne _ _ h1.up.2]; exact fun p hp => (h.oko y h1 p hp).up.1
end Go.Proofs.Ytjnalkeopehlbaa

namespace Go.Proofs.Ytjnalkeopehlbaa
open Go.RowKit Go.Maps
set_option linter.unusedVariables false
set_option linter.unusedSimpArgs false

theorem cnt_newS {K : Nat} {S : Gs} (hI : Iv K S) (y : Nat) (hy : In (S.n + 1) y) : cnt (newS S) y = if y = S.n + 1 then 1 else cnt S y := by
  have h1 : cnt (newS S) y = upd S.rt (S.n + 1) 1 y + sm S.n (fun k => if S.al (k + 1) then tmo (S.hl (k + 1)) y else 0) := by
    show upd S.rt (S.n + 1) 1 y + sm (S.n + 1) (fun k => if upd S.al (S.n + 1) true (k + 1) then tmo (upd S.hl (S.n + 1) [] (k + 1)) y else 0) = _
    rw [sm_succ, upd_same, upd_same, tmo_nil]
    rw [sm_congr (g := fun k => if S.al (k + 1) then tmo (S.hl (k + 1)) y else 0) S.n (fun k hk => by
      show (if upd S.al (S.n + 1) true (k + 1) then tmo (upd S.hl (S.n + 1) [] (k + 1)) y else 0) = _
      rw [upd_ne _ _ (by omega), upd_ne _ _ (by omega)])]
    simp
  rw [h1]
  rcases hy.cases with rfl | h2
  · rw [upd_same, if_pos rfl]
    rw [sm_congr (g := fun _ => 0) S.n (fun k hk => by
      show (if S.al (k + 1) then tmo (S.hl (k + 1)) (S.n + 1) else 0) = 0
      rw [tmo_none _ _ (fun hm => by
        obtain ⟨p, hp, e⟩ := List.mem_map.1 hm
        have := (hI.hl _ p hp).2.1
        omega)]
      simp)]
    have := sm_le (fun _ => 0) 0 S.n (fun k _ => Nat.le_refl _)
    omega
  · rw [upd_ne _ _ h2.up.2, if_neg h2.up.2]; rfl
theorem Gi.new {K : Nat} {S : Gs} {f : Nat → Tc} {AL : List Nat} (h : Gi S f AL) (hI : Iv K S) (m : Nat) : Gi (newS S) (upd f (S.n + 1) { tc0 m with rt := 1, ct := 1 }) (AL ++ [S.n + 1]) := by
  refine ⟨fun y hy => ?_, fun y hy => ?_, fun y hy => ?_, fun y hy => ?_, fun y hy => ?_, fun y hy => ?_, fun y hy => ?_, fun y => ?_⟩
  · rcases In.cases hy with rfl | h1
    · show _ = upd S.rt (S.n + 1) 1 (S.n + 1); rw [upd_same, upd_same]
    · show _ = upd S.rt (S.n + 1) 1 y; rw [upd_ne _ _ h1.up.2, upd_ne _ _ h1.up.2]; exact h.rt y h1
  · rw [cnt_newS hI y hy]
    rcases In.cases hy with rfl | h1
    · rw [upd_same, if_pos rfl]
    · rw [upd_ne _ _ h1.up.2, if_neg h1.up.2]; exact h.ct y h1
  · rcases In.cases hy with rfl | h1
    · show _ = upd S.wk (S.n + 1) 0 (S.n + 1); rw [upd_same, upd_same]; rfl
    · show _ = upd S.wk (S.n + 1) 0 y; rw [upd_ne _ _ h1.up.2, upd_ne _ _ h1.up.2]; exact h.wk y h1
  · rcases In.cases hy with rfl | h1
    · show _ = upd S.fn (S.n + 1) 0 (S.n + 1); rw [upd_same, upd_same]; rfl
    · show _ = upd S.fn (S.n + 1) 0 y; rw [upd_ne _ _ h1.up.2, upd_ne _ _ h1.up.2]; exact h.fn y h1
  · rcases In.cases hy with rfl | h1
    · show _ = upd S.rn (S.n + 1) false (S.n + 1); rw [upd_same, upd_same]; rfl
    · show _ = upd S.rn (S.n + 1) false y; rw [upd_ne _ _ h1.up.2, upd_ne _ _ h1.up.2]; exact h.rn y h1
  · rcases In.cases hy with rfl | h1
    · show _ = (upd S.hl (S.n + 1) [] (S.n + 1)).map (·.1); rw [upd_same, upd_same]; rfl
    · show _ = (upd S.hl (S.n + 1) [] y).map (·.1); rw [upd_ne _ _ h1.up.2, upd_ne _ _ h1.up.2]; exact h.od y h1
  · rcases In.cases hy with rfl | h1
    · show _ = upd S.hl (S.n + 1) [] (S.n + 1); rw [upd_same, upd_same]; rfl
    · show _ = upd S.hl (S.n + 1) [] y; rw [upd_ne _ _ h1.up.2, upd_ne _ _ h1.up.2]; exact h.mp y h1
  · rw [List.mem_append, List.mem_singleton, h.al y]
    show _ ↔ upd S.al (S.n + 1) true y = true
    by_cases e : y = S.n + 1
    · subst e; rw [upd_same]; simp
    · rw [upd_ne _ _ e]; simp [e]
set_option maxRecDepth 100000 in
set_option maxHeartbeats 1000000 in
theorem addI_any (B hb am K : Nat) (ew : Value) (tb : Nat → Nat) (f : Nat → Tc) (AL : List Nat) (S : Gs) (w : World) (h : GI w B hb am ew tb f AL S) (hI : Iv K S) (hK : K ≤ 2500) (hB : B ≤ w.heap.size) :
    Calls Try.prog 47 #[.pointer (some ⟨hb, 0, none⟩)] w fun e w' => e = .returned (.int .i64 ((S.n : Int) + 1)) ∧ ∃ tb' f' AL', GI w' B hb am ew tb' f' AL' (newS S) ∧ Fr (PH hb am S.n ew tb f) w (PH hb am (S.n + 1) ew tb' f') w' := by
  have hn := hI.n
  obtain ⟨b0, b1, b2, bf⟩ := h.th.boxc
  have f1 := bf 1
  have hw1 : IntKind.i64.wrap ((S.n : Int) + 1) = (S.n : Int) + 1 := wrap_small (by omega) (by omega)
  have hbl := h.th.lt
  have hne := h.th.hb_am
  obtain ⟨W1, hW1⟩ : ∃ W1, w.setCell ⟨hb, 1, none⟩ (.int .i64 ((S.n : Int) + 1)) = W1 := ⟨_, rfl⟩
  have hoth1 : ∀ b, b ≠ hb → W1.heap[b]? = w.heap[b]? := fun b hb => by rw [← hW1]; exact Below.heap_setCell _ _ _ _ hb
  have hg1 := gb_set w hb 1 (.int .i64 ((S.n : Int) + 1))
  rw [hW1] at hg1
  have hbox1 : W1.heap[hb]? = some (.cells #[.map (some am), .int .i64 ((S.n : Int) + 1), ew] 69 (0, 0)) := by
    rw [← hW1, heap_setCell_same w hb 1 _ _ _ h.th.box]; rfl
  have hsz1 : W1.heap.size = w.heap.size := by rw [← hW1]; exact World.size_setCell _ _ _
  have t1 : TG W1 B S.n tb f := h.th.tg.same (fun b hp => hoth1 b (fun e => h.th.pt_hb (e ▸ hp)))
  have t2 := t1.new (by rw [hsz1]; exact hB)
  have hNew := newThing_any ((S.n + 1 : Nat) : Int) W1
  rw [hsz1] at t2 hNew
  obtain ⟨W2, hW2⟩ : ∃ W2, (W1.alloc (.map #[] 0)).alloc (.cells (thC ((S.n + 1 : Nat) : Int) 0 w.heap.size (.slice none 0 0)) 78) = W2 := ⟨_, rfl⟩
  have al2 : Below w.heap.size W1 W2 := by rw [← hW2, ← hsz1]; exact ((Below.refl _ _).alloc (Nat.le_refl _) _).alloc (by simp) _
  rw [hW2] at t2 hNew
  have hin : In (S.n + 1) (S.n + 1) := ⟨by omega, Nat.le_refl _⟩
  have ho2 := t2.obj (S.n + 1) hin
  rw [upd_same, upd_same] at ho2
  have hR := root_any (w.heap.size + 1) (S.n + 1) (tc0 w.heap.size) W2 ho2 (by show 0 ≤ _; omega) (by show 0 ≤ _; omega)
  obtain ⟨t3, q3⟩ := t2.rooted hin 1 1
  rw [upd_same, upd_same, upd_upd] at t3 q3
  have hRe : ((((tc0 w.heap.size).rt : Nat) : Int) + 1) = ((1 : Nat) : Int) ∧ ((((tc0 w.heap.size).ct : Nat) : Int) + 1) = ((1 : Nat) : Int) := ⟨rfl, rfl⟩
  rw [hRe.1, hRe.2] at hR
  obtain ⟨W3, hW3⟩ : ∃ W3, (W2.setCell ⟨w.heap.size + 1, 1, none⟩ (.int .i64 ((1 : Nat) : Int))).setCell ⟨w.heap.size + 1, 2, none⟩ (.int .i64 ((1 : Nat) : Int)) = W3 := ⟨_, rfl⟩
  rw [hW3] at hR t3 q3
  have hoth3 : ∀ b, b < w.heap.size → W3.heap[b]? = W1.heap[b]? := fun b hb => by
    rw [← hW3, Below.heap_setCell _ _ _ _ (show b ≠ w.heap.size + 1 by omega), Below.heap_setCell _ _ _ _ (show b ≠ w.heap.size + 1 by omega)]
    exact al2.block b hb
  have al3 : Below W3.heap.size W3 W3.drew := (Below.refl _ _).drew
  have t4 := t3.keep al3
  have haml := h.th.alive.lt
  have hM3 : MM W3.drew am (AL.map fun x => (.int .i64 (x : Nat), pk (tb x))) := h.th.alive.same ((hoth3 am haml).trans (hoth1 am (fun e => hne e.symm)))
  obtain ⟨hg, hd⟩ := h.th.aliveAt (by omega)
  obtain ⟨W4, gU, hM4, hgr, hs4⟩ := hM3.add (v := .pointer (some ⟨w.heap.size + 1, 0, none⟩)) Try.underlying67 (fndI W3.drew ((S.n + 1 : Nat) : Int) (wf_i64 (by omega) (by omega))) hg (fun p hp e => by
    obtain ⟨x, hx, rfl⟩ := List.mem_map.1 hp
    have e2 : (x : Int) = ((S.n + 1 : Nat) : Int) := by simpa using e
    have := (h.th.alok x hx).2
    omega)
  have hsz3 : w.heap.size + 2 ≤ W3.heap.size := by
    have e1 : W2.heap.size = w.heap.size + 2 := by rw [← hW2]; simp [hsz1]
    have := q3.kp.size
    omega
  have hpam : ¬ PT (S.n + 1) (upd tb (S.n + 1) (w.heap.size + 1)) (upd f (S.n + 1) { tc0 w.heap.size with rt := 1, ct := 1 }) am := by
    rintro ⟨x, hx, h5⟩
    rcases hx.cases with rfl | h6
    · rw [upd_same, upd_same] at h5
      rcases h5 with h5 | h5 | h5
      · omega
      · have : w.heap.size = am := h5; omega
      · cases h5
    · rw [upd_ne _ _ h6.up.2, upd_ne _ _ h6.up.2] at h5
      exact h.th.pt_am ⟨x, h6, h5⟩
  have t5 : TG W4 B (S.n + 1) _ _ := t4.same (fun b hp => hgr.block b (t4.pt hp).2 (fun e => hpam (by rw [← Option.some.inj e]; exact hp)))
  have hoth4 : ∀ b, b < w.heap.size → b ≠ am → W4.heap[b]? = W1.heap[b]? := fun b hb hn => (hgr.block b (show b < W3.heap.size by omega) (fun e => hn (Option.some.inj e))).trans (hoth3 b hb)
  have hTH : TH W4 B hb am (S.n + 1) ew (upd tb (S.n + 1) (w.heap.size + 1)) (upd f (S.n + 1) { tc0 w.heap.size with rt := 1, ct := 1 }) (AL ++ [S.n + 1]) S.ev := by
    refine ⟨t5, (hoth4 hb hbl hne).trans hbox1, h.th.low, ?_, h.th.evs.same (fun g e => ?_), fun x hx => ?_, ?_, fun x hx => ?_⟩
    · rw [List.map_append, List.map_congr_left (g := fun x => ((.int .i64 (x : Nat), pk (tb x)) : Value × Value)) (fun x hx => by rw [upd_ne _ _ (h.th.alok x hx).up.2])]
      rw [List.map_singleton, upd_same]
      exact hM4
    · have hgl := (h.th.evs.lt g e).2
      rw [hoth4 g hgl (fun e2 => h.th.ev_am (by rw [e, e2]))]
      exact hoth1 g (fun e2 => h.th.ev_hb (by rw [e, e2]))
    · rcases List.mem_append.1 hx with h5 | h5
      · exact (h.th.alok x h5).up.1
      · simp at h5; subst h5; exact hin
    · rw [List.nodup_append]
      refine ⟨h.th.nd, by simp, fun x hx y hy => ?_⟩
      simp at hy
      subst hy
      exact (h.th.alok x hx).up.2
    · rcases hx.cases with rfl | h6
      · rw [upd_same]; intro e; have : w.heap.size = am := e; omega
      · rw [upd_ne _ _ h6.up.2]; exact h.th.ma x h6
  have hFr : Fr (PH hb am S.n ew tb f) w (PH hb am (S.n + 1) ew (upd tb (S.n + 1) (w.heap.size + 1)) (upd f (S.n + 1) { tc0 w.heap.size with rt := 1, ct := 1 })) W4 := by
    refine ⟨⟨hgr.os.trans (al3.os.trans (q3.kp.os.trans (al2.os.trans hg1.os))), hgr.tape.trans (al3.tape.trans (q3.kp.tape.trans (al2.tape.trans hg1.tape))), hgr.output.trans (al3.output.trans (q3.kp.output.trans (al2.output.trans hg1.output))), ?_, fun b hb hp => ?_⟩, fun b hp => ?_⟩
    · rw [hs4]; show _ ≤ W3.heap.size; omega
    · rw [hoth4 b hb (fun e => hp (.inr (.inl e)))]
      exact hoth1 b (fun e => hp (.inl e))
    · rcases hp with h5 | h5 | h5 | ⟨x, hx, h5⟩
      · exact .inl (.inl h5)
      · exact .inl (.inr (.inl h5))
      · exact .inl (.inr (.inr (.inl h5)))
      · rcases hx.cases with rfl | h6
        · rw [upd_same, upd_same] at h5
          rcases h5 with h5 | h5 | h5
          · exact .inr (by omega)
          · exact .inr (by have : w.heap.size = b := h5; omega)
          · cases h5
        · rw [upd_ne _ _ h6.up.2, upd_ne _ _ h6.up.2] at h5
          exact .inl (.inr (.inr (.inr ⟨x, h6, h5⟩)))
  have HG : Hid (GI W4 B hb am ew (upd tb (S.n + 1) (w.heap.size + 1)) (upd f (S.n + 1) { tc0 w.heap.size with rt := 1, ct := 1 }) (AL ++ [S.n + 1]) (newS S)) := ⟨hTH, h.gi.new hI _⟩
  have HF : Hid (Fr (PH hb am S.n ew tb f) w (PH hb am (S.n + 1) ew (upd tb (S.n + 1) (w.heap.size + 1)) (upd f (S.n + 1) { tc0 w.heap.size with rt := 1, ct := 1 })) W4) := hFr
  have hci : ((S.n + 1 : Nat) : Int) = (S.n : Int) + 1 := by omega
  have d1 : W1.cell? ⟨hb, 1, none⟩ = some (.int .i64 ((S.n : Int) + 1)) := cell_obj hbox1 rfl
  have d3 : W3.cell? ⟨hb, 0, none⟩ = some (.map (some am)) := cell_obj ((hoth3 hb hbl).trans hbox1) rfl
  have ho3 := t3.obj (S.n + 1) hin
  rw [upd_same, upd_same] at ho3
  have x3 : W3.cell? ⟨w.heap.size + 1, 0, none⟩ = some (.int .i64 ((S.n : Int) + 1)) := by rw [← hci]; exact cell_obj ho3 rfl
  have d4 : W4.cell? ⟨hb, 0, none⟩ = some (.map (some am)) := hTH.boxc.1
  have ho4 := t5.obj (S.n + 1) hin
  rw [upd_same, upd_same] at ho4
  have x4 : W4.cell? ⟨w.heap.size + 1, 0, none⟩ = some (.int .i64 ((S.n : Int) + 1)) := by rw [← hci]; exact cell_obj ho4 rfl
  rw [hci] at hNew gU
  clear h hTH hFr t1 t2 t3 t4 t5 q3 ho2 ho3 ho4 hM3 hM4 hgr hs4 hoth1 hoth3 hoth4 hg hd hbox1 hRe hW2 hW3 al2 al3 hpam hg1 hci bf
  go_enter Try.func47, Try.ntmps47
  go_wp2_with fail
  refine hNew.mono ?_
  rintro e w2 ⟨rfl, rfl⟩
  clear hNew
  go_wp2_with fail
  refine hR.mono ?_
  rintro e w3 ⟨rfl, rfl⟩
  clear hR
  go_wp2_with fail
  go_region_held3 (fun W => W.cell? ⟨hb, 0, none⟩ = some (.map (some am)) ∧ W.cell? ⟨w.heap.size + 1, 0, none⟩ = some (.int .i64 ((S.n : Int) + 1))) (go_keep) (fail)
  go_wp2
  go_ret
  exact ⟨rfl, _, _, _, HG.out, HF.out⟩
end Go.Proofs.Ytjnalkeopehlbaa
