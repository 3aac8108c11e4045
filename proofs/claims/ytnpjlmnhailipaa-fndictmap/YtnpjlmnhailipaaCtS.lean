import Derived.Test.YtnpjlmnhailipaaCpy
namespace Go.Proofs.Ytnpjlmnhailipaa
open Go.RowKit Go.Maps
set_option linter.unusedVariables false
set_option linter.unusedSimpArgs false

theorem apart {α : Type} {S : Sh α} {T : TypeId} {w : World} {B B' : Nat} {v u : Value} {xs : List Int} {ys : List α} (h : Own w B v xs) (k : OwnG S T w B' u ys) (hT : T ≠ 2) : v.ownBlock = none ∨ v.ownBlock ≠ u.ownBlock := by
  rcases h.1.2 with ⟨e, _⟩ | ⟨g, cap, cur, e, _, hh, _⟩
  · subst e; exact .inl rfl
  · rcases k.1.2 with ⟨e', _⟩ | ⟨g', cap', cur', e', _, hh', _⟩
    · subst e e'; right; simp [Value.ownBlock]
    · subst e e'
      right
      intro hb
      simp [Value.ownBlock] at hb
      subst hb
      rw [hh] at hh'
      simp at hh'
      exact hT hh'.2.symm

set_option maxRecDepth 100000 in
theorem copy_any (v : Value) (d : Dt) (w : World) (hr : RdD w v d) :
    Calls Try.prog 77 #[v] w fun e w' => ∃ u, e = .returned u ∧ OwnD w' w.heap.size u d ∧ Below w.heap.size w w' := by
  obtain ⟨vs, ve, rfl, h1, h2⟩ := hr
  obtain ⟨a1, c1, e1, hl1, hz1, hn1, hc1⟩ := id h1
  obtain ⟨a2, c2, e2, hl2, hz2, hn2, hc2⟩ := id h2
  subst e1 e2
  unfold dv
  have bX := Box3.new w (.slice a1 d.s.length c1) (.slice a2 d.e.length c2) (.int .i64 d.l) 25
  obtain ⟨-, k0, k1, k2⟩ := id bX
  have hW0 : Below w.heap.size w ((w.alloc (.cells #[.slice a1 d.s.length c1, .slice a2 d.e.length c2, .int .i64 d.l] 25)).alloc (.cells #[.slice none 0 0, .slice none 0 0, .int .i64 0] 25)) := ((Below.refl _ w).alloc (Nat.le_refl _) _).alloc (by simp) _
  have bR0 := Box3.new (w.alloc (.cells #[.slice a1 d.s.length c1, .slice a2 d.e.length c2, .int .i64 d.l] 25)) (.slice none 0 0) (.slice none 0 0) (.int .i64 0) 25
  have fR0 : ∀ o, ((w.alloc (.cells #[.slice a1 d.s.length c1, .slice a2 d.e.length c2, .int .i64 d.l] 25)).alloc (.cells #[.slice none 0 0, .slice none 0 0, .int .i64 0] 25)).frozen? ⟨w.heap.size + 1, o, none⟩ = false := fun o => World.frozen?_alloc_at _ _ _ _ (by simp)
  simp only [World.size_alloc] at bR0
  have bX0 := bX.alloc (.cells #[.slice none 0 0, .slice none 0 0, .int .i64 0] 25)
  go_enter Try.func77, Try.ntmps77
  go_wp2_with fail
  clear k0 k1 k2
  have hsz0 : ((w.alloc (.cells #[.slice a1 d.s.length c1, .slice a2 d.e.length c2, .int .i64 d.l] 25)).alloc (.cells #[.slice none 0 0, .slice none 0 0, .int .i64 0] 25)).heap.size = w.heap.size + 2 := by simp
  generalize ((w.alloc (.cells #[.slice a1 d.s.length c1, .slice a2 d.e.length c2, .int .i64 d.l] 25)).alloc (.cells #[.slice none 0 0, .slice none 0 0, .int .i64 0] 25)) = W0 at *
  obtain ⟨-, k0, k1, k2⟩ := id bX0
  have V0 : Below (w.heap.size + 2) W0 W0.drew := (Below.refl _ _).drew
  go_region_held3 (fun W => W.cell? ⟨w.heap.size, 0, none⟩ = some (.slice a1 d.s.length c1) ∧ W.cell? ⟨w.heap.size, 1, none⟩ = some (.slice a2 d.e.length c2) ∧ W.cell? ⟨w.heap.size, 2, none⟩ = some (.int .i64 d.l)) (go_keep)
    (first
      | (refine step_append_rd rfl (.tmp 3) (.tmp 5) 22 rfl Try.underlying22 (w.heap.size + 2) _ _ [] d.s rfl rfl (by first | exact Own.empty' _ _ (by first | omega | (simp [hsz0]; done) | (simp [hsz0]; omega)) _ (by first | omega | (simp [hsz0]; done) | (simp [hsz0]; omega)) | exact (Own.empty' _ _ (by first | omega | (simp [hsz0]; done) | (simp [hsz0]; omega)) _ (by first | omega | (simp [hsz0]; done) | (simp [hsz0]; omega))).alloc _) (h1.keep (by first | exact hW0.drew.alloc (by first | omega | (simp [hsz0]; done) | (simp [hsz0]; omega)) _ | exact (hW0.drew.alloc (by first | omega | (simp [hsz0]; done) | (simp [hsz0]; omega)) _).alloc (by first | omega | (simp [hsz0]; done) | (simp [hsz0]; omega)) _)) (by simpa using hl1) (by first | omega | (simp [hsz0]; done) | (simp [hsz0]; omega)) ?_; intro aS cS wS oS gS; have VS : Below (w.heap.size + 2) W0 wS := (by first | exact (V0.alloc (by first | omega | (simp [hsz0]; done) | (simp [hsz0]; omega)) _).grown (show World.grownBy _ wS (some (w.heap.size + 2)) from gS) (by first | omega | (simp [hsz0]; done) | (simp [hsz0]; omega)) (fun k hk => by cases hk; omega) | exact ((V0.alloc (by first | omega | (simp [hsz0]; done) | (simp [hsz0]; omega)) _).alloc (by first | omega | (simp [hsz0]; done) | (simp [hsz0]; omega)) _).grown (show World.grownBy _ wS (some (w.heap.size + 2)) from gS) (by first | omega | (simp [hsz0]; done) | (simp [hsz0]; omega)) (fun k hk => by cases hk; omega) | exact ((V0.alloc (by first | omega | (simp [hsz0]; done) | (simp [hsz0]; omega)) _).alloc (by first | omega | (simp [hsz0]; done) | (simp [hsz0]; omega)) _).grown (show World.grownBy _ wS (some (w.heap.size + 3)) from gS) (by first | omega | (simp [hsz0]; done) | (simp [hsz0]; omega)) (fun k hk => by cases hk; omega)); have bS : Box3 wS w.heap.size (.slice a1 d.s.length c1) (.slice a2 d.e.length c2) (.int .i64 d.l) := bX0.keepB (VS.block w.heap.size (by omega)) VS.size; obtain ⟨-, y0, y1, y2⟩ := id bS)
      | (have oE0 := OwnG.empty shE 63 wS wS.heap.size rfl (w.heap.size + 2) (by have := VS.size; first | omega | (simp; omega)); have oS0 := oS.alloc (.cells #[] 63); refine step_append_rdG (S := shE) Try.info63 rfl (by omega) rfl (.tmp 7) (.tmp 9) 23 rfl Try.underlying23 (w.heap.size + 2) _ _ [] d.e rfl rfl oE0 (h2.keep ((hW0.trans (VS.mono (by omega))).alloc (by have := VS.size; first | omega | (simp; omega)) _)) (by simpa using hl2) (by have := VS.size; first | omega | (simp; omega)) ?_; intro aE cE wE oE gE; have VE : Below (w.heap.size + 2) W0 wE := (VS.alloc (by have := VS.size; first | omega | (simp; omega)) _).grown (show World.grownBy _ wE (some wS.heap.size) from gE) (by have := VS.size; first | omega | (simp; omega)) (fun k hk => by have := VS.size; cases hk; omega); have oS' := oS0.but gE (apart oS0 oE0 (by decide)); have hne := apart oS' oE (by decide); have bE : Box3 wE w.heap.size (.slice a1 d.s.length c1) (.slice a2 d.e.length c2) (.int .i64 d.l) := bX0.keepB (VE.block w.heap.size (by omega)) VE.size; obtain ⟨-, z0, z1, z2⟩ := id bE; have bR : Box3 wE (w.heap.size + 1) (.slice none 0 0) (.slice none 0 0) (.int .i64 0) := bR0.keepB (VE.block (w.heap.size + 1) (by omega)) VE.size; have fR : ∀ o, wE.frozen? ⟨w.heap.size + 1, o, none⟩ = false := (fun o => (World.frozen?_of_block (VE.block (w.heap.size + 1) (by omega))).trans (fR0 o)); have f0 := fR 0; have f1 := fR 1; have f2 := fR 2; obtain ⟨-, r0, r1, r2⟩ := id bR)
      | (have oE0 := (OwnG.empty shE 63 (W0.alloc (.cells #[] 2)) (w.heap.size + 2 + 1) (by first | omega | (simp [hsz0]; done) | (simp [hsz0]; omega)) (w.heap.size + 2) (by omega)).drew.but (show World.grownBy _ wS (some (w.heap.size + 2)) from gS) (.inr (by simp [Value.ownBlock])); have oS0 := oS; refine step_append_rdG (S := shE) Try.info63 rfl (by omega) rfl (.tmp 7) (.tmp 9) 23 rfl Try.underlying23 (w.heap.size + 2) _ _ [] d.e rfl rfl oE0 (h2.keep (hW0.trans (VS.mono (by omega)))) (by simpa using hl2) (by have := VS.size; first | omega | (simp; omega)) ?_; intro aE cE wE oE gE; have VE : Below (w.heap.size + 2) W0 wE := VS.grown (show World.grownBy _ wE (some (w.heap.size + 2 + 1)) from gE) (by have := VS.size; first | omega | (simp; omega)) (fun k hk => by cases hk; omega); have oS' := oS0.but gE (apart oS0 oE0 (by decide)); have hne := apart oS' oE (by decide); have bE : Box3 wE w.heap.size (.slice a1 d.s.length c1) (.slice a2 d.e.length c2) (.int .i64 d.l) := bX0.keepB (VE.block w.heap.size (by omega)) VE.size; obtain ⟨-, z0, z1, z2⟩ := id bE; have bR : Box3 wE (w.heap.size + 1) (.slice none 0 0) (.slice none 0 0) (.int .i64 0) := bR0.keepB (VE.block (w.heap.size + 1) (by omega)) VE.size; have fR : ∀ o, wE.frozen? ⟨w.heap.size + 1, o, none⟩ = false := (fun o => (World.frozen?_of_block (VE.block (w.heap.size + 1) (by omega))).trans (fR0 o)); have f0 := fR 0; have f1 := fR 1; have f2 := fR 2; obtain ⟨-, r0, r1, r2⟩ := id bR)
      | (have oE0 := ((OwnG.empty shE 63 W0 (w.heap.size + 2) (by first | omega | (simp [hsz0]; done) | (simp [hsz0]; omega)) (w.heap.size + 2) (by omega)).alloc (.cells #[] 2)).drew.but (show World.grownBy _ wS (some (w.heap.size + 2 + 1)) from gS) (.inr (by simp [Value.ownBlock])); have oS0 := oS; refine step_append_rdG (S := shE) Try.info63 rfl (by omega) rfl (.tmp 7) (.tmp 9) 23 rfl Try.underlying23 (w.heap.size + 2) _ _ [] d.e rfl rfl oE0 (h2.keep (hW0.trans (VS.mono (by omega)))) (by simpa using hl2) (by have := VS.size; first | omega | (simp; omega)) ?_; intro aE cE wE oE gE; have VE : Below (w.heap.size + 2) W0 wE := VS.grown (show World.grownBy _ wE (some (w.heap.size + 2)) from gE) (by have := VS.size; first | omega | (simp; omega)) (fun k hk => by cases hk; omega); have oS' := oS0.but gE (apart oS0 oE0 (by decide)); have hne := apart oS' oE (by decide); have bE : Box3 wE w.heap.size (.slice a1 d.s.length c1) (.slice a2 d.e.length c2) (.int .i64 d.l) := bX0.keepB (VE.block w.heap.size (by omega)) VE.size; obtain ⟨-, z0, z1, z2⟩ := id bE; have bR : Box3 wE (w.heap.size + 1) (.slice none 0 0) (.slice none 0 0) (.int .i64 0) := bR0.keepB (VE.block (w.heap.size + 1) (by omega)) VE.size; have fR : ∀ o, wE.frozen? ⟨w.heap.size + 1, o, none⟩ = false := (fun o => (World.frozen?_of_block (VE.block (w.heap.size + 1) (by omega))).trans (fR0 o)); have f0 := fR 0; have f1 := fR 1; have f2 := fR 2; obtain ⟨-, r0, r1, r2⟩ := id bR))
  all_goals
    have q0 := bR.p0 (.slice aS ([] ++ d.s).length cS)
    have q1 := q0.p1 (.slice aE ([] ++ d.e).length cE)
    have q2 := q1.p2 (.int .i64 d.l)
    simp only [List.nil_append] at *
    go_wp2
    have hz : w.heap.size + 2 ≤ wE.heap.size := by have := VE.size; omega
    refine bodyPost_ret (v := .agg #[.slice aS d.s.length cS, .slice aE d.e.length cE, .int .i64 d.l]) (by simp [results, Try.results77, go_sem, q0.2.1, q1.2.2.1, q2.2.2.2]) rfl ⟨_, rfl, ?_, ?_⟩
    · have hO : OwnD wE (w.heap.size + 2) (.agg #[.slice aS d.s.length cS, .slice aE d.e.length cE, .int .i64 d.l]) d := ⟨_, _, rfl, oS', oE, hne⟩
      exact (((hO.setBelow (by show w.heap.size + 1 < w.heap.size + 2; omega) _).setBelow (by show w.heap.size + 1 < w.heap.size + 2; omega) _).setBelow (by show w.heap.size + 1 < w.heap.size + 2; omega) _).mono (by omega)
    · have VV := hW0.trans (VE.mono (by omega))
      have hz' := VV.size
      exact below_set (below_set (below_set VV hz' (by omega) _) (by simpa [World.setCell] using hz') (by omega) _) (by simpa [World.setCell] using hz') (by omega) _
end Go.Proofs.Ytnpjlmnhailipaa
