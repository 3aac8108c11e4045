import Derived.Test.YtfbibbjiomfncaaAtN
import Derived.Test.YtfbibbjiomfncaaHelpZ
namespace Go.Proofs.Ytfbibbjiomfncaa
open Go.RowKit
set_option linter.unusedVariables false
set_option linter.unusedSimpArgs false

/-- What was found, or nothing. -/
def FdV : Option At → Value
  | some x => .agg #[.string x.n, .int .i64 x.k, .int .i64 x.v, .bool true]
  | none => .agg #[.string ⟨#[]⟩, .int .i64 0, .int .i64 0, .bool false]

set_option maxRecDepth 100000 in
set_option maxHeartbeats 1000000 in
theorem attrIn_any (v : Value) (xs : List At) (s : ByteArray) (w : World) (hr : RdA w v xs) :
    Calls Try.prog 56 #[v, .string s] w fun e w' => e = .returned (FdV (xs.find? (fun x => decide (x.n = s)))) ∧ Below w.heap.size w w' := by
  obtain ⟨a, cap, rfl, hl, hz, hn0, hc⟩ := hr
  generalize hFR : xs.find? (fun x => decide (x.n = s)) = FR
  have HFR : Hid (xs.find? (fun x => decide (x.n = s)) = FR) := hFR
  clear hFR
  have bR : Below w.heap.size w (w.alloc (.cells #[.string ⟨#[]⟩, .int .i64 0, .int .i64 0, .bool false] 78)) := (Below.refl _ w).alloc (Nat.le_refl _) _
  have q0 : (w.alloc (.cells #[.string ⟨#[]⟩, .int .i64 0, .int .i64 0, .bool false] 78)).cell? ⟨w.heap.size, 0, none⟩ = some (.string ⟨#[]⟩) := by rw [World.cell?_alloc_at _ _ _ _ rfl]; rfl
  have q1 : (w.alloc (.cells #[.string ⟨#[]⟩, .int .i64 0, .int .i64 0, .bool false] 78)).cell? ⟨w.heap.size, 1, none⟩ = some (.int .i64 0) := by rw [World.cell?_alloc_at _ _ _ _ rfl]; rfl
  have q2 : (w.alloc (.cells #[.string ⟨#[]⟩, .int .i64 0, .int .i64 0, .bool false] 78)).cell? ⟨w.heap.size, 2, none⟩ = some (.int .i64 0) := by rw [World.cell?_alloc_at _ _ _ _ rfl]; rfl
  have q3 : (w.alloc (.cells #[.string ⟨#[]⟩, .int .i64 0, .int .i64 0, .bool false] 78)).cell? ⟨w.heap.size, 3, none⟩ = some (.bool false) := by rw [World.cell?_alloc_at _ _ _ _ rfl]; rfl
  have qf : ∀ o, (w.alloc (.cells #[.string ⟨#[]⟩, .int .i64 0, .int .i64 0, .bool false] 78)).frozen? ⟨w.heap.size, o, none⟩ = false := fun o => World.frozen?_alloc_at _ _ _ _ (by simp)
  have qz : w.heap.size < (w.alloc (.cells #[.string ⟨#[]⟩, .int .i64 0, .int .i64 0, .bool false] 78)).heap.size := by simp
  go_enter Try.func56, Try.ntmps56
  go_wp2_with fail
  generalize w.alloc (.cells #[.string ⟨#[]⟩, .int .i64 0, .int .i64 0, .bool false] 78) = W0 at *
  go_loopw [9] (fun i wr => ∃ k : Nat, k ≤ xs.length ∧ i = .int .i64 k ∧ Hid ((xs.drop k).find? (fun x => decide (x.n = s)) = FR) ∧ Below W0.heap.size W0 wr) (fun i _ => xs.length - (intOf i).toNat)
  case atStart => exact ⟨0, Nat.zero_le _, rfl, HFR, Below.refl _ _⟩
  case round =>
    obtain ⟨k, hk, rfl, hF, hB⟩ := hrel
    generalize wr = W1 at *
    have p0 := (hB.cell (p := ⟨w.heap.size, 0, none⟩) qz).trans q0
    have p1 := (hB.cell (p := ⟨w.heap.size, 1, none⟩) qz).trans q1
    have p2 := (hB.cell (p := ⟨w.heap.size, 2, none⟩) qz).trans q2
    have p3 := (hB.cell (p := ⟨w.heap.size, 3, none⟩) qz).trans q3
    have f0 := (hB.frozen (p := ⟨w.heap.size, 0, none⟩) qz).trans (qf 0)
    have f1 := (hB.frozen (p := ⟨w.heap.size, 1, none⟩) qz).trans (qf 1)
    have f2 := (hB.frozen (p := ⟨w.heap.size, 2, none⟩) qz).trans (qf 2)
    have f3 := (hB.frozen (p := ⟨w.heap.size, 3, none⟩) qz).trans (qf 3)
    have hz1 := hB.size
    have hB' := bR.trans (hB.mono bR.size)
    by_cases hlt : k < xs.length
    · have hlti : (k : Int) < (xs.length : Int) := by omega
      obtain ⟨b, off, rfl, hb, hcell⟩ := hc (by omega)
      obtain ⟨d0, d1, d2⟩ := RdA.at (fun k hk j hj => (hB'.cell (p := ⟨b, _, none⟩) hb).trans (hcell k hk j hj)) k hlt
      have Hdr : Hid _ := List.drop_eq_getElem_cons hlt
      obtain ⟨E, hE⟩ : ∃ E, xs[k] = E := ⟨_, rfl⟩
      rw [hE] at d0 d1 d2
      have HE : Hid (xs[k] = E) := hE
      obtain ⟨En, Ek, Ev⟩ := E
      simp only at d0 d1 d2
      clear hE hcell hc q0 q1 q2 q3
      by_cases hs : En = s
      · have hsb : (En.toList == s.toList) = true := by simp [hs]
        have hFR : FR = some ⟨En, Ek, Ev⟩ := by have := hF.out; rw [Hdr.out, HE.out, List.find?_cons_of_pos (by simpa using hs)] at this; exact this.symm
        subst hFR
        clear hs
        have hzs : w.heap.size < W1.heap.size := Nat.lt_of_lt_of_le qz hz1
        have bL : Below W1.heap.size W1 (W1.alloc (.cells #[.string En, .int .i64 Ek, .int .i64 Ev] 58)) := (Below.refl _ W1).alloc (Nat.le_refl _) _
        have r0 := (bL.cell (p := ⟨w.heap.size, 0, none⟩) hzs).trans p0
        have r1 := (bL.cell (p := ⟨w.heap.size, 1, none⟩) hzs).trans p1
        have r2 := (bL.cell (p := ⟨w.heap.size, 2, none⟩) hzs).trans p2
        have r3 := (bL.cell (p := ⟨w.heap.size, 3, none⟩) hzs).trans p3
        have e0 := (bL.frozen (p := ⟨w.heap.size, 0, none⟩) hzs).trans f0
        have e1 := (bL.frozen (p := ⟨w.heap.size, 1, none⟩) hzs).trans f1
        have e2 := (bL.frozen (p := ⟨w.heap.size, 2, none⟩) hzs).trans f2
        have e3 := (bL.frozen (p := ⟨w.heap.size, 3, none⟩) hzs).trans f3
        have hBL := hB'.trans (bL.mono hB'.size)
        go_wp2_with fail
        have hfin := fun (u0 u1 u2 u3 : Value) => (((hB'.setCell (show w.heap.size ≤ (⟨w.heap.size, 0, none⟩ : Addr).block from Nat.le_refl _) u0).setCell (show w.heap.size ≤ (⟨w.heap.size, 1, none⟩ : Addr).block from Nat.le_refl _) u1).setCell (show w.heap.size ≤ (⟨w.heap.size, 2, none⟩ : Addr).block from Nat.le_refl _) u2).setCell (show w.heap.size ≤ (⟨w.heap.size, 3, none⟩ : Addr).block from Nat.le_refl _) u3
        have hne : w.heap.size ≠ W1.heap.size := by omega
        exact bodyPost_ret (v := .agg #[.string En, .int .i64 Ek, .int .i64 Ev, .bool true]) (by simp [results, Try.results56, go_sem, p0, p1, p2, p3, f0, f1, f2, f3, hzs, hne]) rfl ⟨rfl, (hfin _ _ _ _).alloc (hfin _ _ _ _).size _⟩
      · have hsb := str_ne hs
        have hF2 : Hid ((xs.drop (k + 1)).find? (fun x => decide (x.n = s)) = FR) := by have := hF.out; rw [Hdr.out, HE.out, List.find?_cons_of_neg (by simpa using hs)] at this; exact this
        go_wp2_with fail
        go_roundw
        case rel => exact ⟨k + 1, by omega, by go_num, hF2, hB.alloc hz1 _⟩
        case measure => simp [intOf]; omega
    · obtain rfl : k = xs.length := by omega
      have hlti : ¬ (xs.length : Int) < (xs.length : Int) := by omega
      have hFR : FR = none := by have := hF.out; rw [List.drop_length] at this; exact this.symm
      subst hFR
      go_wp2_with fail
      exact bodyPost_ret (v := .agg #[.string ⟨#[]⟩, .int .i64 0, .int .i64 0, .bool false]) (by simp [results, Try.results56, go_sem, p0, p1, p2, p3, f0, f1, f2, f3]) rfl ⟨rfl, ((((hB'.setCell (show w.heap.size ≤ (⟨w.heap.size, 0, none⟩ : Addr).block from Nat.le_refl _) _).setCell (show w.heap.size ≤ (⟨w.heap.size, 1, none⟩ : Addr).block from Nat.le_refl _) _).setCell (show w.heap.size ≤ (⟨w.heap.size, 2, none⟩ : Addr).block from Nat.le_refl _) _).setCell (show w.heap.size ≤ (⟨w.heap.size, 3, none⟩ : Addr).block from Nat.le_refl _) _)⟩
end Go.Proofs.Ytfbibbjiomfncaa
