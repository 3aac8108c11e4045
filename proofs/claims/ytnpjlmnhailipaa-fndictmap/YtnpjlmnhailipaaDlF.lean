import Derived.Test.YtnpjlmnhailipaaCpy
import Derived.Lib.SliceRun
import Derived.Deep.Cut
namespace Go.Proofs.Ytnpjlmnhailipaa
open Go.RowKit Go.Maps
set_option linter.unusedVariables false
set_option linter.unusedSimpArgs false

theorem OwnG.upto {α : Type} {S : Sh α} {T : TypeId} {w : World} {B g n cap : Nat} {xs : List α} (h : OwnG S T w B (.slice (some ⟨g, 0, none⟩) n cap) xs) (i : Nat) (hi : i ≤ xs.length) : OwnG S T w B (.slice (some ⟨g, 0, none⟩) i cap) (xs.take i) := by
  obtain ⟨⟨h1, h2⟩, hl, hz⟩ := h
  have hlen : (xs.take i).length = i := by simp; omega
  refine ⟨⟨by rw [flat_length], ?_⟩, by omega, fun x hx => hz x (List.mem_of_mem_take hx)⟩
  rcases h2 with ⟨e, _⟩ | ⟨g', cap', cur, e, hg, hh, hc, hm, hs, ht⟩
  · cases e
  · simp at e
    obtain ⟨rfl, rfl, rfl⟩ := e
    refine .inr ⟨g, cap, cur, by rw [hlen], hg, hh, by omega, hm, hs, ?_⟩
    have e1 : ((xs.take i).flatMap S.cs) = (xs.flatMap S.cs).take (i * S.n) := by
      have e2 : xs.flatMap S.cs = (xs.take i).flatMap S.cs ++ (xs.drop i).flatMap S.cs := by rw [← List.flatMap_append, List.take_append_drop]
      rw [e2, List.take_append_of_le_length (by rw [flat_length, hlen]; exact Nat.le_refl _)]
      exact (List.take_of_length_le (by rw [flat_length, hlen]; exact Nat.le_refl _)).symm
    rw [hlen, e1, ← ht, List.take_take, Nat.min_eq_left (Nat.mul_le_mul_right _ hi)]

theorem drop_next {α : Type} (L : List α) (J : Nat) : L.drop (J + 1) = (L.drop J).drop 1 := by rw [List.drop_drop]
def zE : List Value := [.int .u64 0, .int .i64 0, .int .i64 0, .bool false]
def zV : Value := .agg zE.toArray
def e0 : En := ⟨0, 0, 0, false⟩
theorem e0_ok : shE.ok e0 := ⟨⟨by decide, by decide⟩, ⟨by decide, by decide⟩, ⟨by decide, by decide⟩⟩
/-- The cells of several zero entries, stored. -/
theorem OwnE.wipe {T : TypeId} {B g n cap : Nat} : ∀ (m : Nat) (w : World) (xs : List En) (i : Nat), OwnE T w B (.slice (some ⟨g, 0, none⟩) n cap) xs → i + m ≤ xs.length →
    OwnE T (w.setCells g (i * 4) ((List.replicate m zE).flatten)) B (.slice (some ⟨g, 0, none⟩) n cap) (xs.take i ++ List.replicate m e0 ++ xs.drop (i + m))
  | 0, w, xs, i, h, _ => by simpa [World.setCells] using h
  | m + 1, w, xs, i, h, hl => by
    have h1 := OwnE.store4 h i (by omega) e0 e0_ok
    have h2 := OwnE.wipe m _ (xs.set i e0) (i + 1) h1 (by simp; omega)
    have e : (i + 1) * 4 = i * 4 + 1 + 1 + 1 + 1 := by omega
    rw [e] at h2
    have e2 : (xs.set i e0).take (i + 1) ++ List.replicate m e0 ++ (xs.set i e0).drop (i + 1 + m) = xs.take i ++ List.replicate (m + 1) e0 ++ xs.drop (i + (m + 1)) := by
      rw [List.take_succ_eq_append_getElem (by simp; omega), List.getElem_set_self, List.take_set_of_le (by omega), List.drop_set_of_lt (by omega), List.replicate_succ, show i + 1 + m = i + (m + 1) by omega]
      simp
    rw [e2] at h2
    exact h2
theorem gb_cells (g : Nat) : ∀ (vs : List Value) (w : World) (o : Nat), w.grownBy (w.setCells g o vs) (some g)
  | [], w, o => World.grownBy.refl _ _
  | v :: r, w, o => gb_trans (gb_set w g o v) (gb_cells g r _ _)
theorem zeroE (w : World) : (zeroValue 97).run Try.prog w = .ok zV w := by kernel_rfl
theorem zero_cells (n : Nat) : (Builtin.zeroCells zV.cells n).toList = (List.replicate n zE).flatten := by
  have e : zV.cells = zE.toArray := rfl
  rw [e]
  unfold Builtin.zeroCells
  simp only [Array.toList_map, Array.toList_range]
  show (List.range (n * 4)).map (fun i => zE.toArray[i % 4]!) = _
  induction n with
  | zero => rfl
  | succ n ih =>
    rw [Nat.succ_mul, List.range_add, List.map_append, ih, List.replicate_succ', List.flatten_append]
    congr 1
    simp [List.range_succ, zE]

/-- 'clear(s[i:])' of an owned row of entries. -/
theorem run_clear_E (w : World) (ty : TypeId) (g i m c : Nat) (hm : 0 < m) (hc : ∀ j, j < m * 4 → (w.cell? ⟨g, i * 4 + j, none⟩).isSome = true) (hf : ∀ j, j < m * 4 → w.frozen? ⟨g, i * 4 + j, none⟩ = false) :
    (Builtin.clear_ #[91] ty #[.slice (some ⟨g, i * 4, none⟩) m c]).run Try.prog w = .ok (.tuple #[]) (w.setCells g (i * 4) ((List.replicate m zE).flatten)) := by
  have hlen : ((List.replicate m zE).flatten).length = m * 4 := by simp [List.length_flatten, zE]
  have hst := run_storeCells_cells (P := Try.prog) g (i * 4) ((List.replicate m zE).flatten) 0 w (by rw [hlen]; simpa using hc) (by rw [hlen]; simpa using hf) (by
    intro v hv
    rw [List.mem_flatten] at hv
    obtain ⟨l, hl, hv⟩ := hv
    obtain rfl := List.eq_of_mem_replicate hl
    simp [zE] at hv
    rcases hv with rfl | rfl | rfl | rfl <;> rfl)
  simp only [Nat.add_zero] at hst
  obtain ⟨k, rfl⟩ : ∃ k, m = k + 1 := ⟨m - 1, by omega⟩
  have hz : (Builtin.zeroCells (Value.agg #[.int .u64 0, .int .i64 0, .int .i64 0, .bool false]).cells (k + 1)).toList = _ := zero_cells (k + 1)
  simp [Builtin.clear_, run_underlying Try.underlying91]
  rw [hz, hst]
  rfl

set_option maxRecDepth 100000 in
/-- The function that tells whether an entry is gone. -/
theorem gone_any (x : En) (w : World) : Calls Try.prog 87 #[x.val] w fun e w' => e = .returned (.bool x.g) ∧ Below w.heap.size w w' := by
  obtain ⟨h, k, v, g⟩ := x
  simp only [En.val]
  go_enter Try.func87, Try.ntmps87
  go_wp2
  go_ret
  exact ⟨rfl, (Below.refl _ w).alloc (Nat.le_refl _) _⟩

def ixG (es : List En) : Int := if es.all (fun e => !e.g) then -1 else (es.findIdx (fun e => e.g) : Nat)
set_option maxRecDepth 100000 in
set_option maxHeartbeats 1000000 in
theorem indexF_any (v : Value) (es : List En) (w : World) (hr : RdE w v es) :
    Calls Try.prog 91 #[v, .func (.func 87) #[] #[]] w fun e w' => ((e = .returned (.int .i64 (-1)) ∧ ∀ x ∈ es, x.g = false) ∨ ∃ i : Nat, ∃ hi : i < es.length, e = .returned (.int .i64 i) ∧ es[i].g = true ∧ ∀ x ∈ es.take i, x.g = false) ∧ Below w.heap.size w w' := by
  obtain ⟨a, cap, rfl, hlx, hzx, hnx, hcx⟩ := id hr
  go_enter Try.func91, Try.ntmps91
  go_wp2_with fail
  go_loopw [8] (fun i wr => ∃ k : Nat, k ≤ es.length ∧ i = .int .i64 k ∧ (∀ x ∈ es.take k, x.g = false) ∧ Below w.heap.size w wr) (fun i _ => es.length - (intOf i).toNat)
  case atStart => exact ⟨0, Nat.zero_le _, rfl, by simp, Below.refl _ _⟩
  case round =>
    obtain ⟨k, hk, rfl, hA, hBr⟩ := hrel
    by_cases hlt : k < es.length
    · obtain ⟨b, off, rfl, hb, hcell⟩ := hcx (by omega)
      obtain ⟨d0, d1, d2, d3⟩ := RdE.at (fun k hk j hj => (hBr.cell (p := ⟨b, _, none⟩) hb).trans (hcell k hk j hj)) k hlt
      have htk := List.take_succ_eq_append_getElem hlt
      have HG := fun W => gone_any es[k] W
      have hEq : Hid (es[k] = es[k]) := rfl
      generalize hE : es[k] = E at *
      obtain ⟨Eh, Ek, Ev, Eg⟩ := E
      simp only [En.val] at HG d0 d1 d2 d3
      have HE : Hid _ := hE
      clear hcell hcx hE
      go_wp2_with fail
      refine (HG _).mono ?_
      rintro e w1 ⟨rfl, hB1⟩
      have V1 := hBr.trans (hB1.mono hBr.size)
      cases Eg
      · go_wp2
        go_roundw
        case rel =>
          refine ⟨k + 1, by omega, by go_num, fun x hx => ?_, V1⟩
          rw [htk] at hx
          rcases List.mem_append.1 hx with h | h
          · exact hA x h
          · simp at h; subst h; rfl
        case measure => simp [intOf]; omega
      · go_wp2
        go_ret
        exact ⟨.inr ⟨k, hlt, rfl, by rw [HE.out], hA⟩, V1⟩
    · obtain rfl : k = es.length := by omega
      rw [List.take_length] at hA
      go_wp2
      go_ret
      exact ⟨.inl ⟨rfl, hA⟩, hBr⟩

set_option maxRecDepth 100000 in
set_option maxHeartbeats 1000000 in
theorem deleteF_any (B : Nat) (v : Value) (es : List En) (w : World) (hO : OwnE 97 w B v es) :
    Calls Try.prog 86 #[v, .func (.func 87) #[] #[]] w fun e w' => ∃ u, e = .returned u ∧ OwnE 97 w' B u (es.filter fun e => !e.g) ∧ u.ownBlock = v.ownBlock ∧ w.grownBy w' v.ownBlock := by
  obtain ⟨a, cap, rfl⟩ := hO.form
  go_enter Try.func86, Try.ntmps86
  go_wp2_with fail
  refine (indexF_any _ es _ hO.rd).mono ?_
  rintro e w1 ⟨h1, hB1⟩
  have hO1 := hO.keep hB1
  have hg1 := gb_below (Value.slice a es.length cap).ownBlock hB1
  rcases h1 with ⟨rfl, hA⟩ | ⟨i0, hi0, rfl, hgi, hA⟩
  · have hf : es.filter (fun e => !e.g) = es := List.filter_eq_self.2 (fun x hx => by simp [hA x hx])
    go_wp2
    go_ret
    rw [hf]
    exact ⟨_, rfl, hO1, rfl, hg1⟩
  · rcases hO1.shape with ⟨-, he⟩ | ⟨gb, cap', he, hgb, hgs, hcap⟩
    · subst he; simp at hi0
    simp only [Value.slice.injEq, true_and] at he
    obtain ⟨rfl, rfl⟩ := he
    have hlen := hO.2.1
    have hf0 : (es.take (i0 + 1)).filter (fun e => !e.g) = es.take i0 := by
      rw [List.take_succ_eq_append_getElem hi0, List.filter_append, List.filter_eq_self.2 (fun x hx => by simp [hA x hx])]
      simp [hgi]
    have hE0 : ((i0 : Int) == -1) = false := by simp
    go_wp2_with fail
    go_loopw [5, 6] (fun i j wr => ∃ (I J : Nat) (L : List En), i = .int .i64 I ∧ j = .int .i64 J ∧ J ≤ es.length ∧ I < J ∧ L.length = es.length ∧ L.take I = (es.take J).filter (fun e => !e.g) ∧ L.drop J = es.drop J ∧ OwnE 97 wr B (.slice (some ⟨gb, 0, none⟩) es.length cap) L ∧ w1.grownBy wr (some gb)) (fun _ j _ => es.length - (intOf j).toNat)
    case atStart => exact ⟨i0, i0 + 1, es, rfl, by go_num, by omega, by omega, rfl, hf0.symm, rfl, hO1, World.grownBy.refl _ _⟩
    case round =>
      obtain ⟨I, J, L, rfl, rfl, hJ, hIJ, hL, hT, hD, hOr, hgr⟩ := hrel
      have hHT : Hid (L.take I = (es.take J).filter (fun e => !e.g)) := hT
      have hHD : Hid (L.drop J = es.drop J) := hD
      have hsr := hgr.size
      clear hT hD
      by_cases hlt : J < es.length
      · have hJL : J < L.length := by omega
        have hIL : I < L.length := by omega
        have hEJ : L[J] = es[J] := by
          have h1 := List.drop_eq_getElem_cons hJL
          have h2 := List.drop_eq_getElem_cons hlt
          rw [hHD.out, h2] at h1
          exact (List.cons.inj h1).1.symm
        obtain ⟨d0, d1, d2, d3⟩ := RdE.at (off := 0) (fun k hk j hj => by rw [Nat.zero_add]; exact hOr.cell k hk j hj) J hJL
        simp only [Nat.zero_add] at d0 d1 d2 d3
        have hEok := hOr.2.2 L[J] (List.getElem_mem hJL)
        have HG := fun W => gone_any L[J] W
        have hfl : (es.take (J + 1)).filter (fun e => !e.g) = (es.take J).filter (fun e => !e.g) ++ (if es[J].g then [] else [es[J]]) := by
          rw [List.take_succ_eq_append_getElem hlt, List.filter_append]
          cases h : es[J].g <;> simp [h]
        rw [← hEJ] at hfl
        clear hEJ
        generalize hE : L[J] = E at *
        obtain ⟨Eh, Ek, Ev, Eg⟩ := E
        simp only [En.val] at HG d0 d1 d2 d3 hfl
        have hfH : Hid _ := hfl
        clear hE hfl
        have bV := Box4.new wr (.int .u64 Eh) (.int .i64 Ek) (.int .i64 Ev) (.bool Eg) 97
        have hOa := hOr.alloc (.cells #[.int .u64 Eh, .int .i64 Ek, .int .i64 Ev, .bool Eg] 97)
        have hga := gb_trans hgr (World.grownBy_alloc wr (.cells #[.int .u64 Eh, .int .i64 Ek, .int .i64 Ev, .bool Eg] 97) (some gb))
        go_wp2_with fail
        refine (HG _).mono ?_
        rintro e w2 ⟨rfl, hB2⟩
        have bV2 := bV.keep hB2
        have hO2 := hOa.keep hB2
        have hg2 := gb_trans hga (gb_below (some gb) hB2)
        have hs2 : wr.heap.size + 1 ≤ w2.heap.size := by have := hB2.size; simpa using this
        clear d0 d1 d2 d3 bV hOa hga hB2 hOr hgr
        cases Eg
        · obtain ⟨c0, c1, c2, c3⟩ := RdE.at (off := 0) (fun k hk j hj => by rw [Nat.zero_add]; exact hO2.cell k hk j hj) I hIL
          simp only [Nat.zero_add] at c0 c1 c2 c3
          have z0 := hO2.frozen (I * 4)
          have z1 := hO2.frozen (I * 4 + 1)
          have z2 := hO2.frozen (I * 4 + 2)
          have z3 := hO2.frozen (I * 4 + 3)
          have hO3 := OwnE.store4 hO2 I hIL ⟨Eh, Ek, Ev, false⟩ hEok
          obtain ⟨-, v0, v1, v2, v3⟩ := id bV2
          have hgV : wr.heap.size ≠ gb := by omega
          go_wp2_with fail
          go_roundw
          case rel =>
            refine ⟨I + 1, J + 1, L.set I ⟨Eh, Ek, Ev, false⟩, by go_num, by go_num, by omega, by omega, by simpa using hL, ?_, ?_, hO3, gb_trans (gb_trans (gb_trans (gb_trans hg2 (gb_set _ _ _ _)) (gb_set _ _ _ _)) (gb_set _ _ _ _)) (gb_set _ _ _ _)⟩
            · rw [hfH.out, ← hHT.out, List.take_succ_eq_append_getElem (by simp; omega), List.getElem_set_self, List.take_set_of_le (Nat.le_refl _)]
              simp
            · rw [List.drop_set_of_lt (by omega), drop_next L J, drop_next es J, hHD.out]
          case measure => simp [intOf]; omega
        · go_wp2_with fail
          go_roundw
          case rel =>
            refine ⟨I, J + 1, L, rfl, by go_num, by omega, by omega, hL, ?_, ?_, hO2, hg2⟩
            · rw [hfH.out, ← hHT.out]; simp
            · rw [drop_next L J, drop_next es J, hHD.out]
          case measure => simp [intOf]; omega
      · obtain rfl : J = es.length := by omega
        have hT := hHT.out
        rw [List.take_length] at hT
        have hW := OwnE.wipe (es.length - I) wr L I hOr (by omega)
        have hcl : ∀ ty, (Builtin.clear_ #[91] ty #[.slice (some ⟨gb, I * 4, none⟩) (es.length - I) (cap - I)]).run Try.prog wr = .ok (.tuple #[]) (wr.setCells gb (I * 4) ((List.replicate (es.length - I) zE).flatten)) := fun ty => run_clear_E wr ty gb I (es.length - I) (cap - I) (by omega) (fun j hj => by
            have := hOr.cell (I + j / 4) (by omega) (j % 4) (Nat.mod_lt _ (by decide))
            rw [show (I + j / 4) * shE.n + j % 4 = I * 4 + j by show (I + j / 4) * 4 + j % 4 = _; omega] at this
            rw [this, List.getElem?_eq_getElem (by rw [shE.len]; exact Nat.mod_lt _ (by decide))]; rfl) (fun j _ => hOr.frozen _)
        have hgW := gb_trans hgr (gb_cells gb ((List.replicate (es.length - I) zE).flatten) wr (I * 4))
        generalize wr.setCells gb (I * 4) ((List.replicate (es.length - I) zE).flatten) = W3 at *
        go_wp2_with fail
        go_ret
        have hIL : I ≤ L.length := by omega
        have hU := OwnG.upto hW I (by simp; omega)
        rw [List.append_assoc, List.take_append_of_le_length (by simp; omega), List.take_take, Nat.min_self, hT] at hU
        exact ⟨_, rfl, hU, rfl, gb_trans hg1 hgW⟩
end Go.Proofs.Ytnpjlmnhailipaa
