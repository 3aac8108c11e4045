import Derived.Test.YtnpjlmnhailipaaDfI
namespace Go.Proofs.Ytnpjlmnhailipaa
open Go.RowKit Go.Maps
set_option linter.unusedVariables false
set_option linter.unusedSimpArgs false

/-- The map d lies at g. -/
def MapAt (w : World) (g : Nat) (d : Dt) : Prop := ∃ vs ve, Box3 w g vs ve (.int .i64 d.l) ∧ Own w (g + 1) vs d.s ∧ OwnE 97 w (g + 1) ve d.e ∧ (vs.ownBlock = none ∨ vs.ownBlock ≠ ve.ownBlock) ∧ ∀ o, w.frozen? ⟨g, o, none⟩ = false
theorem MapAt.keep {w w' : World} {g : Nat} {d : Dt} (h : MapAt w g d) (hb : Below w.heap.size w w') : MapAt w' g d := by
  obtain ⟨vs, ve, b, s, e, hne, f⟩ := h
  exact ⟨vs, ve, b.keep hb, s.keep hb, e.keep hb, hne, fun o => (hb.frozen (p := ⟨g, o, none⟩) b.1).trans (f o)⟩

/-- The block b is none of the map's at g: not its slots, and no row of entries. -/
def Off (w : World) (g b : Nat) : Prop := (∀ vs ve l, Box3 w g vs ve l → vs.ownBlock ≠ some b) ∧ ∀ cur fz, w.heap[b]? ≠ some (.cells cur 97 fz)
/-- What is not the map's stays, and stays so. -/
def Fr (w w' : World) (g : Nat) : Prop := ∀ b, b < w.heap.size → b ≠ g → Off w g b → w'.heap[b]? = w.heap[b]? ∧ Off w' g b
theorem Box3.uniq {w : World} {b : Nat} {x y z x' y' z' : Value} (h : Box3 w b x y z) (h' : Box3 w b x' y' z') : x = x' ∧ y = y' ∧ z = z' := by
  refine ⟨?_, ?_, ?_⟩
  · have := h.2.1.symm.trans h'.2.1; simpa using this
  · have := h.2.2.1.symm.trans h'.2.2.1; simpa using this
  · have := h.2.2.2.symm.trans h'.2.2.2; simpa using this
theorem Off.ne {w : World} {g b B : Nat} {v : Value} {es : List En} (h : Off w g b) (hO : OwnE 97 w B v es) : v.ownBlock ≠ some b := by
  rcases hO.1.2 with ⟨e, _⟩ | ⟨g', cap, cur, e, _, hh, _⟩
  · subst e; simp [Value.ownBlock]
  · subst e; intro e; simp [Value.ownBlock] at e; subst e; exact h.2 _ _ hh
theorem Off.of {w w' : World} {g b : Nat} {vs ve l : Value} (h : Box3 w' g vs ve l) (h1 : vs.ownBlock ≠ some b) (ho : Off w g b) (he : w'.heap[b]? = w.heap[b]?) : w'.heap[b]? = w.heap[b]? ∧ Off w' g b := ⟨he, fun vs' ve' l' h' => by
  obtain ⟨rfl, _⟩ := h.uniq h'; exact h1, fun cur fz => by rw [he]; exact ho.2 cur fz⟩
theorem Fr.keep {w w' : World} {g : Nat} (hB : Below w.heap.size w w') (hg : g < w.heap.size) : Fr w w' g := fun b hb _ ho => ⟨hB.block b hb, fun vs ve l h' => by
  have e := hB.block g hg
  exact ho.1 vs ve l ⟨hg, (World.cell?_of_block (a := ⟨g, 0, none⟩) e).symm.trans h'.2.1, (World.cell?_of_block (a := ⟨g, 1, none⟩) e).symm.trans h'.2.2.1, (World.cell?_of_block (a := ⟨g, 2, none⟩) e).symm.trans h'.2.2.2⟩, fun cur fz => by rw [hB.block b hb]; exact ho.2 cur fz⟩
theorem Fr.trans {w w1 w2 : World} {g : Nat} (h : Fr w w1 g) (h' : Fr w1 w2 g) (hs : w.heap.size ≤ w1.heap.size) : Fr w w2 g := fun b hb hn ho => by
  obtain ⟨a1, a2⟩ := h b hb hn ho
  obtain ⟨b1, b2⟩ := h' b (by omega) hn a2
  exact ⟨b1.trans a1, b2⟩

noncomputable def cutD (d : Dt) (h k : Int) : Dt × Bool := if (fnd d h k).1 < 0 then (d, false) else (⟨d.s, d.e.set (fnd d h k).1.toNat ⟨h, 0, 0, true⟩, d.l - 1⟩, true)

/-- What a search finds in a table: -1, or the place of a live entry with this name. -/
theorem fnd_val {d : Dt} (hok : OkD d) (h k : Int) (hh0 : 0 ≤ h) (hh1 : h < 18446744073709551616) : (fnd d h k).1 = -1 ∨ (0 ≤ (fnd d h k).1 ∧ ∃ hl : (fnd d h k).1.toNat < d.e.length, d.e[(fnd d h k).1.toNat].g = false ∧ d.e[(fnd d h k).1.toNat].h = h ∧ d.e[(fnd d h k).1.toNat].k = k) := by
  obtain ⟨m, _, hm, ht, hl, hs, _⟩ := hok.tab
  obtain ⟨j, hj, hF⟩ := tab_fd (m := m) (es := d.e) hl h k (by omega)
  rw [← ht] at hF
  have hfn : (fnd d h k).1 = d.s.getD (it (2 ^ m) (r0 (2 ^ m) h.toNat) j).1 0 := by simp only [fnd, hs, fdj_eq hF]
  have hlt := it_lt (Nat.two_pow_pos m) (p := r0 (2 ^ m) h.toNat) (Nat.mod_lt _ (Nat.two_pow_pos m)) j
  have hv := tabOf_val (es := d.e) _ hlt
  rw [← ht, ← hfn] at hv
  have h1 := hF.1
  rw [← hfn] at h1
  generalize (fnd d h k).1 = z at *
  rcases hv with hv | hv
  · exact .inl hv
  · right
    refine ⟨hv.1, by omega, ?_⟩
    rcases h1 with h1 | h1
    · omega
    · have : z.toNat < d.e.length := by omega
      simpa [hit, this] using h1

set_option maxRecDepth 100000 in
set_option maxHeartbeats 1000000 in
theorem cut_anyF (g : Nat) (d : Dt) (h k : Int) (w : World) (hM : MapAt w g d) (hok : OkD d) (hh0 : 0 ≤ h) (hh1 : h < 18446744073709551616) :
    Calls Try.prog 56 #[.pointer (some ⟨g, 0, none⟩), .int .u64 h, .int .i64 k] w fun e w' => e = .returned (.bool (cutD d h k).2) ∧ MapAt w' g (cutD d h k).1 ∧ Below g w w' ∧ Fr w w' g := by
  obtain ⟨m, _, hm, ht, hl, hs, _⟩ := hok.tab
  have hv := fnd_val hok h k hh0 hh1
  have hlv : d.l = livN d.e := hok.2.2.2.1
  have hll : livN d.e ≤ 65536 := Nat.le_trans (List.countP_le_length) (by have := sz_le hm; omega)
  obtain ⟨vs, ve, bM, oS, oE, hne, hfz⟩ := id hM
  have HF := fun W b r1 r2 => find_tab g m vs ve (.int .i64 d.l) d h k W b r1 r2 hm ht hl hh0 hh1
  generalize hZ : cutD d h k = Z
  simp only [cutD] at hZ
  generalize hFn : fnd d h k = F at hv hZ HF
  obtain ⟨F0, F1⟩ := F
  simp only at hv hZ HF
  go_enter Try.func56, Try.ntmps56
  go_wp2_with fail
  refine (HF _ bM oS.rd oE.rd).mono ?_
  rintro e w1 ⟨rfl, hB1⟩
  have hM1 := hM.keep hB1
  have bM1 := bM.keep hB1
  have oS1 := oS.keep hB1
  have oE1 := oE.keep hB1
  have hB1' : Below g w w1 := hB1.mono (Nat.le_of_lt bM.1)
  have f1 : ∀ o, w1.frozen? ⟨g, o, none⟩ = false := fun o => (hB1.frozen (p := ⟨g, o, none⟩) bM.1).trans (hfz o)
  clear HF
  rcases hv with rfl | ⟨hF0, hlt, hg, hhh, hkk⟩
  · rw [if_pos (by omega)] at hZ
    subst hZ
    go_wp2
    go_ret
    exact ⟨rfl, hM1, hB1', Fr.keep hB1 bM.1⟩
  · rw [if_neg (by omega)] at hZ
    subst hZ
    obtain ⟨P, rfl⟩ : ∃ P : Nat, F0 = (P : Int) := ⟨F0.toNat, by omega⟩
    simp only [Int.toNat_natCast] at hlt hg hhh hkk ⊢
    obtain ⟨ea, ec, hve⟩ := oE1.form
    subst hve
    have hsh := oE1.shape
    rcases hsh with ⟨-, he⟩ | ⟨gb, cap, he, hgb, hgs, hcap⟩
    · rw [he] at hlt; simp at hlt
    simp only [Value.slice.injEq, true_and] at he
    obtain ⟨rfl, rfl⟩ := he
    obtain ⟨-, k0, k1, k2⟩ := id bM1
    have q1 := f1 1
    have q2 := f1 2
    obtain ⟨c0, c1, c2, c3⟩ := RdE.at (off := 0) (fun k hk j hj => by rw [Nat.zero_add]; exact oE1.cell k hk j hj) P hlt
    simp only [Nat.zero_add] at c0 c1 c2 c3
    have z0 := oE1.frozen (P * 4)
    have z1 := oE1.frozen (P * 4 + 1)
    have z2 := oE1.frozen (P * 4 + 2)
    have z3 := oE1.frozen (P * 4 + 3)
    have hgg : g ≠ gb := by omega
    have oE2 := OwnE.store4 oE1 P hlt ⟨h, 0, 0, true⟩ ⟨⟨hh0, hh1⟩, ⟨by show -9223372036854775808 ≤ (0 : Int); omega, by show (0 : Int) < 9223372036854775808; omega⟩, ⟨by show -9223372036854775808 ≤ (0 : Int); omega, by show (0 : Int) < 9223372036854775808; omega⟩⟩
    have bM2 := (((bM1.far (c := gb) (o := P * 4) (by omega) (.int .u64 h)).far (c := gb) (o := P * 4 + 1) (by omega) (.int .i64 0)).far (c := gb) (o := P * 4 + 2) (by omega) (.int .i64 0)).far (c := gb) (o := P * 4 + 3) (by omega) (.bool true)
    have hob : (Value.slice (some ⟨gb, 0, none⟩) d.e.length ec).ownBlock = some gb := rfl
    have oS2 := (((oS1.but (gb_set w1 gb (P * 4) (.int .u64 h)) hne).but (gb_set _ gb (P * 4 + 1) (.int .i64 0)) hne).but (gb_set _ gb (P * 4 + 2) (.int .i64 0)) hne).but (gb_set _ gb (P * 4 + 3) (.bool true)) hne
    have hlp : 0 < livN d.e := by
      unfold livN; rw [List.countP_pos_iff]; exact ⟨d.e[P], List.getElem_mem hlt, by simp [hg]⟩
    have hl0 : 0 < d.l ∧ d.l ≤ 65536 := by omega
    clear hg hhh hkk hll hlv hM hok ht hs
    generalize hL : d.l = L at *
    go_wp2_with fail
    go_ret
    have hsz := hB1'.size
    have hgz : g ≤ w1.heap.size := by omega
    refine ⟨rfl, ⟨_, _, bM2.p2 (.int .i64 (L - 1)), oS2.setBelow (by show g < g + 1; omega) _, oE2.setBelow (by show g < g + 1; omega) _, hne, fun o => ?_⟩, ?_, Fr.trans (Fr.keep hB1 bM.1) (fun b hb hn ho => ?_) hB1.size⟩
    · rw [World.frozen?_setCell, World.frozen?_setCell, World.frozen?_setCell, World.frozen?_setCell, World.frozen?_setCell]; exact f1 o
    · exact below_set (below_set (below_set (below_set (below_set hB1' hgz (by omega) _) (by simpa [World.setCell] using hgz) (by omega) _) (by simpa [World.setCell] using hgz) (by omega) _) (by simpa [World.setCell] using hgz) (by omega) _) (by simpa [World.setCell] using hgz) (by omega) _
    · have n1 := ho.1 _ _ _ bM1
      have n2 := ho.ne oE1
      have n3 : some b ≠ some gb := fun e => n2 (by rw [e]; rfl)
      have n4 : some b ≠ some g := fun e => hn (by simpa using e)
      have hz5 : ∀ (W : World) a u, (W.setCell a u).heap.size = W.heap.size := fun W a u => by simp [World.setCell]
      refine Off.of (bM2.p2 (.int .i64 (L - 1))) n1 ho ?_
      rw [(gb_set _ g 2 _).block b (by simp only [hz5]; exact hb) n4, (gb_set _ gb (P * 4 + 3) _).block b (by simp only [hz5]; exact hb) n3, (gb_set _ gb (P * 4 + 2) _).block b (by simp only [hz5]; exact hb) n3, (gb_set _ gb (P * 4 + 1) _).block b (by simp only [hz5]; exact hb) n3, (gb_set _ gb (P * 4) _).block b hb n3]
theorem cut_any (g : Nat) (d : Dt) (h k : Int) (w : World) (hM : MapAt w g d) (hok : OkD d) (hh0 : 0 ≤ h) (hh1 : h < 18446744073709551616) :
    Calls Try.prog 56 #[.pointer (some ⟨g, 0, none⟩), .int .u64 h, .int .i64 k] w fun e w' => e = .returned (.bool (cutD d h k).2) ∧ MapAt w' g (cutD d h k).1 ∧ Below g w w' :=
  (cut_anyF g d h k w hM hok hh0 hh1).mono fun _ _ ⟨a, b, c, _⟩ => ⟨a, b, c⟩

/-- What a map has been made of is handed out. -/
theorem handed (g : Nat) (d : Dt) (w : World) (hM : MapAt w g d) (hlen : d.e.length ≤ 65536) :
    Calls Try.prog 40 #[.pointer (some ⟨g, 0, none⟩)] w fun e w' => ∃ v, e = .returned v ∧ OwnD w' (g + 1) v d ∧ Below w.heap.size w w' := by
  obtain ⟨vs, ve, bM, oS, oE, hne, hfz⟩ := hM
  obtain ⟨a, c, rfl⟩ := oS.form
  refine (dictOf_any g _ ve d.l d.e w bM ⟨_, _, _, rfl⟩ oE.rd hlen).mono ?_
  rintro e w1 ⟨ve', rfl, oE', hB⟩
  refine ⟨_, rfl, ⟨_, _, rfl, oS.keep hB, oE'.mono bM.1, ?_⟩, hB⟩
  cases hb : (Value.slice a d.s.length c).ownBlock with
  | none => exact .inl rfl
  | some b => right; intro e; have h1 := oS.lt b hb; have h2 := oE'.lt b e.symm; omega

theorem OwnD.setBelow {w : World} {B : Nat} {v : Value} {d : Dt} (h : OwnD w B v d) {a : Addr} (ha : a.block < B) (u : Value) : OwnD (w.setCell a u) B v d := by
  obtain ⟨vs, ve, e, s, en, hne⟩ := h
  exact ⟨vs, ve, e, s.setBelow ha u, en.setBelow ha u, hne⟩
theorem OwnD.nil (w : World) (B : Nat) : OwnD w B (dv (.slice none 0 0) (.slice none 0 0) 0) ⟨[], [], 0⟩ := ⟨_, _, rfl, Own.nil _ _, OwnG.nil _ _ _ _, .inl rfl⟩
def noD : Dt := ⟨[], [], 0⟩
open Classical in
noncomputable def cutA (d : Dt) (h k : Int) : Dt × Bool := if OkD d then cutD d h k else (noD, false)
theorem cutD_len (d : Dt) (h k : Int) : (cutD d h k).1.s = d.s ∧ (cutD d h k).1.e.length = d.e.length := by
  unfold cutD; split <;> simp

set_option maxRecDepth 100000 in
theorem cutI_any (v : Value) (d : Dt) (h k : Int) (w : World) (hr : RdD w v d) (hb : -9223372036854775808 ≤ d.l ∧ d.l < 9223372036854775808) (hh0 : 0 ≤ h) (hh1 : h < 18446744073709551616) :
    Calls Try.prog 25 #[v, .int .u64 h, .int .i64 k] w fun e w' => ∃ u, e = .returned (.tuple #[u, .bool (cutA d h k).2]) ∧ OwnD w' w.heap.size u (cutA d h k).1 ∧ Below w.heap.size w w' := by
  obtain ⟨a1, n1, c1, a2, n2, c2, e0⟩ := hr.form
  subst e0
  have bW := Below.three (w := w) (.slice a1 n1 c1) (.slice a2 n2 c2) (.int .i64 d.l) 25
  have bX := Box3.new w (.slice a1 n1 c1) (.slice a2 n2 c2) (.int .i64 d.l) 25
  have HO := fun W r => orderedOf_any (.agg #[.slice a1 n1 c1, .slice a2 n2 c2, .int .i64 d.l]) d W r hb
  have bW2 := bW.alloc bW.size (.cells #[.slice none 0 0, .slice none 0 0, .int .i64 0] 25)
  have bR0 := Box3.new (w.alloc (.cells #[.slice a1 n1 c1, .slice a2 n2 c2, .int .i64 d.l] 25)) (.slice none 0 0) (.slice none 0 0) (.int .i64 0) 25
  have fR0 : ∀ o, ((w.alloc (.cells #[.slice a1 n1 c1, .slice a2 n2 c2, .int .i64 d.l] 25)).alloc (.cells #[.slice none 0 0, .slice none 0 0, .int .i64 0] 25)).frozen? ⟨w.heap.size + 1, o, none⟩ = false := fun o => World.frozen?_alloc_at _ _ _ _ (by simp)
  simp only [World.size_alloc] at bR0
  obtain ⟨-, k0, k1, k2⟩ := id bX
  by_cases hok : OkD d
  · simp only [cutA, if_pos hok]
    simp only [okD_true hok] at HO
    obtain ⟨m, _, hm, ht, hl, _⟩ := hok.tab
    have hsz := sz_le hm
    have hlen := (cutD_len d h k).2
    generalize hA : cutD d h k = Z at hlen ⊢
    have HA : Hid (cutD d h k = Z) := hA
    clear hA
    obtain ⟨Zd, Zb⟩ := Z
    simp only at hlen ⊢
    go_enter Try.func25, Try.ntmps25
    go_wp2_with fail
    refine (HO _ (hr.keep bW2)).mono ?_
    rintro e w1 ⟨g, rfl, hg, hB1, hM⟩
    have hM1 : MapAt w1 g d := hM hok
    have V1 := bW2.trans (hB1.mono bW2.size)
    simp only [World.size_alloc] at hg
    have bR1 := bR0.keep hB1
    have fR1 : ∀ o, w1.frozen? ⟨w.heap.size + 1, o, none⟩ = false := fun o => (hB1.frozen (p := ⟨w.heap.size + 1, o, none⟩) bR0.1).trans (fR0 o)
    clear k0 k1 k2 hM
    go_wp2_with fail
    refine (cut_any g d h k _ hM1 hok hh0 hh1).mono ?_
    rw [HA.out]
    simp only
    rintro e w2 ⟨rfl, hM2, hB2⟩
    have V2 := V1.trans (hB2.mono (by omega))
    have bR2 : Box3 w2 (w.heap.size + 1) (.slice none 0 0) (.slice none 0 0) (.int .i64 0) := bR1.keepB (hB2.block (w.heap.size + 1) (by omega)) hB2.size
    have fR2 : ∀ o, w2.frozen? ⟨w.heap.size + 1, o, none⟩ = false := fun o => by
      rw [World.frozen?_of_block (hB2.block (w.heap.size + 1) (by omega))]; exact fR1 o
    go_wp2_with fail
    refine (handed g Zd _ hM2 (by omega)).mono ?_
    rintro e w3 ⟨u, rfl, hO3, hB3⟩
    obtain ⟨b1, m1, p1, b2, m2, p2, e1⟩ := hO3.rd.form
    subst e1
    have V3 := V2.trans (hB3.mono V2.size)
    have bR3 := bR2.keep hB3
    have fR3 : ∀ o, w3.frozen? ⟨w.heap.size + 1, o, none⟩ = false := fun o => (hB3.frozen (p := ⟨w.heap.size + 1, o, none⟩) bR2.1).trans (fR2 o)
    obtain ⟨-, r0, r1, r2⟩ := id bR3
    have f0 := fR3 0
    have f1 := fR3 1
    have f2 := fR3 2
    have q0 := bR3.p0 (.slice b1 m1 p1)
    have q1 := q0.p1 (.slice b2 m2 p2)
    have q2 := q1.p2 (.int .i64 Zd.l)
    go_wp2_with fail
    have hz := V3.size
    refine bodyPost_ret (v := .tuple #[.agg #[.slice b1 m1 p1, .slice b2 m2 p2, .int .i64 Zd.l], .bool Zb]) (by simp [results, Try.results25, go_sem, q0.2.1, q1.2.2.1, q2.2.2.2]) rfl ⟨_, rfl, ?_, ?_⟩
    · exact (((hO3.setBelow (by show w.heap.size + 1 < g + 1; omega) _).setBelow (by show w.heap.size + 1 < g + 1; omega) _).setBelow (by show w.heap.size + 1 < g + 1; omega) _).mono (by omega)
    · exact below_set (below_set (below_set V3 hz (by omega) _) (by simpa [World.setCell] using hz) (by omega) _) (by simpa [World.setCell] using hz) (by omega) _
  · simp only [cutA, if_neg hok]
    simp only [okD_false hok] at HO
    go_enter Try.func25, Try.ntmps25
    go_wp2_with fail
    refine (HO _ (hr.keep bW2)).mono ?_
    rintro e w1 ⟨g, rfl, hg, hB1, hM⟩
    have V1 := bW2.trans (hB1.mono bW2.size)
    have bR3 := bR0.keep hB1
    have fR3 : ∀ o, w1.frozen? ⟨w.heap.size + 1, o, none⟩ = false := fun o => (hB1.frozen (p := ⟨w.heap.size + 1, o, none⟩) bR0.1).trans (fR0 o)
    obtain ⟨-, r0, r1, r2⟩ := id bR3
    have f0 := fR3 0
    have f1 := fR3 1
    have f2 := fR3 2
    have q0 := bR3.p0 (.slice none 0 0)
    have q1 := q0.p1 (.slice none 0 0)
    have q2 := q1.p2 (.int .i64 0)
    go_wp2
    have hz := V1.size
    refine bodyPost_ret (v := .tuple #[.agg #[.slice none 0 0, .slice none 0 0, .int .i64 0], .bool false]) (by simp [results, Try.results25, go_sem, q0.2.1, q1.2.2.1, q2.2.2.2]) rfl ⟨_, rfl, OwnD.nil _ _, ?_⟩
    exact below_set (below_set (below_set V1 hz (by omega) _) (by simpa [World.setCell] using hz) (by omega) _) (by simpa [World.setCell] using hz) (by omega) _
end Go.Proofs.Ytnpjlmnhailipaa
