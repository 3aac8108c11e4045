import Derived.Test.YtfbibbjiomfncaaAtN
namespace Go.Proofs.Ytfbibbjiomfncaa
open Go.RowKit
set_option linter.unusedVariables false
set_option linter.unusedSimpArgs false

/-- The first of a name along a line; its kind is -1 when there is none. -/
def frst (cs : List Cl) (s : ByteArray) : List Int → At
  | [] => ⟨⟨#[]⟩, -1, 0⟩
  | y :: r => match ((cs.getD y.toNat ⟨[], []⟩).a).find? (fun x => decide (x.n = s)) with
    | some x => x
    | none => frst cs s r
set_option maxRecDepth 100000 in
set_option maxHeartbeats 1000000 in
theorem first_any (v u : Value) (cs : List Cl) (l : List Int) (s : ByteArray) (w : World) (hr : RdC w v cs) (hl : Rd w u l) (hb : ∀ y ∈ l, 0 ≤ y ∧ y < (cs.length : Int)) :
    Calls Try.prog 52 #[v, u, .string s] w fun e w' => e = .returned (frst cs s l).val ∧ Below w.heap.size w w' := by
  obtain ⟨ps, ⟨a, cap, rfl, hlx, hz, hn0, hc⟩, hpl, hK⟩ := hr
  obtain ⟨a2, cap2, rfl, hl2, hz2, hn2, hc2⟩ := hl
  have HPL : Hid (ps.length = cs.length) := hpl
  clear hpl
  have bR : Below w.heap.size w (w.alloc (.cells #[.string ⟨#[]⟩, .int .i64 0, .int .i64 0] 58)) := (Below.refl _ w).alloc (Nat.le_refl _) _
  have q0 : (w.alloc (.cells #[.string ⟨#[]⟩, .int .i64 0, .int .i64 0] 58)).cell? ⟨w.heap.size, 0, none⟩ = some (.string ⟨#[]⟩) := by rw [World.cell?_alloc_at _ _ _ _ rfl]; rfl
  have q1 : (w.alloc (.cells #[.string ⟨#[]⟩, .int .i64 0, .int .i64 0] 58)).cell? ⟨w.heap.size, 1, none⟩ = some (.int .i64 0) := by rw [World.cell?_alloc_at _ _ _ _ rfl]; rfl
  have q2 : (w.alloc (.cells #[.string ⟨#[]⟩, .int .i64 0, .int .i64 0] 58)).cell? ⟨w.heap.size, 2, none⟩ = some (.int .i64 0) := by rw [World.cell?_alloc_at _ _ _ _ rfl]; rfl
  have qf : ∀ o, (w.alloc (.cells #[.string ⟨#[]⟩, .int .i64 0, .int .i64 0] 58)).frozen? ⟨w.heap.size, o, none⟩ = false := fun o => World.frozen?_alloc_at _ _ _ _ (by simp)
  have qz : w.heap.size < (w.alloc (.cells #[.string ⟨#[]⟩, .int .i64 0, .int .i64 0] 58)).heap.size := by simp
  generalize hFR : frst cs s l = FR
  have HFR : Hid (frst cs s l = FR) := hFR
  clear hFR
  go_enter Try.func52, Try.ntmps52
  go_wp2_with fail
  generalize w.alloc (.cells #[.string ⟨#[]⟩, .int .i64 0, .int .i64 0] 58) = W0 at *
  go_loopw [7] (fun i wr => ∃ k : Nat, k ≤ l.length ∧ i = .int .i64 k ∧ Hid (frst cs s (l.drop k) = FR) ∧ wr = W0) (fun i _ => l.length - (intOf i).toNat)
  case atStart => exact ⟨0, Nat.zero_le _, rfl, HFR, rfl⟩
  case round =>
    obtain ⟨k, hk, rfl, hF, hw⟩ := hrel
    have hw' := hw.symm
    subst hw'
    have f0 := qf 0
    have f1 := qf 1
    have f2 := qf 2
    by_cases hlt : k < l.length
    · have hlti : (k : Int) < (l.length : Int) := by omega
      obtain ⟨b2, off2, rfl, hb2, hcell2⟩ := hc2 (by omega)
      have d0 := (bR.cell (p := ⟨b2, off2 + k, none⟩) hb2).trans (hcell2 k hlt)
      have hgd : l.getD k 0 = l[k] := by simp [List.getD, hlt]
      rw [hgd] at d0
      obtain ⟨hy0, hy1⟩ := hb l[k] (List.getElem_mem hlt)
      obtain ⟨y, hy⟩ : ∃ y : Nat, l[k] = (y : Int) := ⟨l[k].toNat, by omega⟩
      rw [hy] at d0 hy1
      have hyc : y < cs.length := by omega
      have hyp : y < ps.length := by rw [HPL.out]; exact hyc
      obtain ⟨b, off, rfl, hbb, hcell⟩ := hc (by omega)
      have d1 := (RdP.at (fun k hk j hj => (bR.cell (p := ⟨b, _, none⟩) hbb).trans (hcell k hk j hj)) y hyp).2
      have hRy := (hK y hyp hyc).2.keep bR
      have hdr : l.drop k = (y : Int) :: l.drop (k + 1) := by rw [List.drop_eq_getElem_cons hlt, hy]
      have hcy : cs.getD y ⟨[], []⟩ = cs[y] := by simp [List.getD, hyc]
      have hFs : frst cs s (l.drop k) = match (cs[y].a).find? (fun x => decide (x.n = s)) with
          | some x => x
          | none => frst cs s (l.drop (k + 1)) := by rw [hdr]; simp only [frst, Int.toNat_natCast, hcy]
      have HFs : Hid _ := hFs
      have hyi : (y : Int) < (ps.length : Int) := by omega
      generalize ps[y].s2 = sv at *
      obtain ⟨sa, sc, es⟩ := hRy.form
      subst es
      generalize cs[y].a = ats at *
      clear hFs hdr hcy hy hgd hcell hcell2 hc hc2 hy0
      go_wp2_with fail
      refine (named_any _ ats s _ hRy).mono ?_
      rintro e w1 ⟨r, rfl, hN, rfl⟩
      rcases hN with ⟨rfl, hno⟩ | ⟨i, hi, rfl, hin, hib⟩
      · have hfn : ats.find? (fun x => decide (x.n = s)) = none := by rw [List.find?_eq_none]; intro x hx; simpa using hno x hx
        have hF2 : Hid (frst cs s (l.drop (k + 1)) = FR) := by have h1 := HFs.out; rw [hfn] at h1; have h2 := hF.out; rw [h1] at h2; exact h2
        clear hno hfn
        go_wp2_with fail
        go_roundw
        case rel => exact ⟨k + 1, by omega, by go_num, hF2, by trivial⟩
        case measure => simp [intOf]; omega
      · have hfs : ats.find? (fun x => decide (x.n = s)) = some ats[i] := by
          rw [List.find?_eq_some_iff_append]
          refine ⟨by simpa using hin, ats.take i, ats.drop (i + 1), ?_, fun x hx => by simpa using hib x hx⟩
          rw [← List.drop_eq_getElem_cons hi, List.take_append_drop]
        have hFR : FR = ats[i] := by have h1 := HFs.out; rw [hfs] at h1; have h2 := hF.out; rw [h1] at h2; exact h2.symm
        subst hFR
        obtain ⟨ra, rc, er, _, hzr, _, hcr⟩ := hRy
        simp only [Value.slice.injEq, true_and] at er
        obtain ⟨e1, e2⟩ := er
        subst e1 e2
        obtain ⟨ab, ao, rfl, hab, hac⟩ := hcr (by omega)
        obtain ⟨c0, c1, c2⟩ := RdA.at hac i hi
        have hii : (i : Int) < (ats.length : Int) := by omega
        have hi0 : (0 : Int) ≤ (i : Int) := by omega
        generalize hE : ats[i] = E at *
        obtain ⟨En, Ek, Ev⟩ := E
        simp only at c0 c1 c2
        have HE : Hid _ := hE
        clear hE
        clear hfs hin hib hac hcr hzr
        go_wp2_with fail
        have b1 := fun (u0 u1 u2 : Value) => ((bR.setCell (show w.heap.size ≤ (⟨w.heap.size, 0, none⟩ : Addr).block from Nat.le_refl _) u0).setCell (show w.heap.size ≤ (⟨w.heap.size, 1, none⟩ : Addr).block from Nat.le_refl _) u1).setCell (show w.heap.size ≤ (⟨w.heap.size, 2, none⟩ : Addr).block from Nat.le_refl _) u2
        exact bodyPost_ret (v := .agg #[.string En, .int .i64 Ek, .int .i64 Ev]) (by simp [results, Try.results52, go_sem, q0, q1, q2, qz, f0, f1, f2]) rfl ⟨by first | rfl | (rw [HE.out]; rfl), b1 _ _ _⟩
    · obtain rfl : k = l.length := by omega
      have hF2 : FR = ⟨⟨#[]⟩, -1, 0⟩ := by have := hF.out; simp [frst] at this; exact this.symm
      subst hF2
      have hlti : ¬ (l.length : Int) < (l.length : Int) := by omega
      go_wp2_with fail
      have b1 := fun (u0 u1 u2 : Value) => ((bR.setCell (show w.heap.size ≤ (⟨w.heap.size, 0, none⟩ : Addr).block from Nat.le_refl _) u0).setCell (show w.heap.size ≤ (⟨w.heap.size, 1, none⟩ : Addr).block from Nat.le_refl _) u1).setCell (show w.heap.size ≤ (⟨w.heap.size, 2, none⟩ : Addr).block from Nat.le_refl _) u2
      exact bodyPost_ret (v := .agg #[.string ⟨#[]⟩, .int .i64 (-1), .int .i64 0]) (by simp [results, Try.results52, go_sem, q0, q1, q2, qz, f0, f1, f2]) rfl ⟨rfl, b1 _ _ _⟩
end Go.Proofs.Ytfbibbjiomfncaa
