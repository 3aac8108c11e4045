import Derived.Test.YtfbibbjiomfncaaClU
import Derived.Test.YtfbibbjiomfncaaClP
namespace Go.Proofs.Ytfbibbjiomfncaa
open Go.RowKit
set_option linter.unusedVariables false
set_option linter.unusedSimpArgs false

set_option maxRecDepth 100000 in
theorem bases_any (i : Nat) (v : Value) (bs : List Int) (w : World) (hr : Rd w v bs) :
    Calls Try.prog 40 #[.int .i64 i, v] w fun e w' => e = .returned (.bool (dec (OkB i bs))) ∧ Below w.heap.size w w' := by
  obtain ⟨a, cap, rfl, hl, hz, hn0, hc⟩ := id hr
  generalize hR : dec (OkB i bs) = R
  have HR : Hid (dec (OkB i bs) = R) := hR
  clear hR
  have HU := fun W h => unlikeI_any (.slice a bs.length cap) bs W h
  go_enter Try.func40, Try.ntmps40
  go_wp2
  go_loopw [9] (fun q wr => ∃ k : Nat, k ≤ bs.length ∧ q = .int .i64 k ∧ (∀ x ∈ bs.take k, 0 ≤ x ∧ x < (i : Int)) ∧ Below w.heap.size w wr) (fun q _ => bs.length - (intOf q).toNat)
  case atStart => exact ⟨0, Nat.zero_le _, rfl, by simp, Below.refl _ _⟩
  case round =>
    obtain ⟨k, hk, rfl, hJ, hBr⟩ := hrel
    by_cases hlt : k < bs.length
    · obtain ⟨b, off, rfl, hb, hcell⟩ := hc (by omega)
      have hg : bs.getD k 0 = bs[k] := by simp [List.getD, hlt]
      have d0 : wr.cell? ⟨b, off + k, none⟩ = some (.int .i64 (bs.getD k 0)) := (hBr.cell (p := ⟨b, off + k, none⟩) hb).trans (hcell k hlt)
      have hzk := hz.get k
      have HF : Hid (¬ (0 ≤ bs.getD k 0 ∧ bs.getD k 0 < (i : Int)) → R = false) := fun hn => by
        rw [← HR.out]; exact dec_false fun h => hn (by rw [hg]; exact h.1 _ (List.getElem_mem hlt))
      have HT : Hid (0 ≤ bs.getD k 0 ∧ bs.getD k 0 < (i : Int) → ∀ x ∈ bs.take (k + 1), 0 ≤ x ∧ x < (i : Int)) := fun h x hx => by
        rw [List.take_succ_eq_append_getElem hlt] at hx
        rcases List.mem_append.mp hx with h1 | h1
        · exact hJ x h1
        · simp at h1; subst h1; rw [← hg]; exact h
      clear hcell hc hg hJ HU
      generalize bs.getD k 0 = Z at *
      by_cases h0 : Z < 0
      · obtain rfl := HF.out (by omega)
        go_wp2
        go_ret
        exact ⟨rfl, hBr⟩
      · by_cases h1 : (i : Int) ≤ Z
        · obtain rfl := HF.out (by omega)
          go_wp2
          go_ret
          exact ⟨rfl, hBr⟩
        · have HT' := HT.out ⟨by omega, by omega⟩
          have H' : Hid _ := HT'
          have h2 : Z < (i : Int) := by omega
          clear HT' HF HT
          go_wp2
          go_roundw
          case rel => exact ⟨k + 1, by omega, by go_num, H'.out, hBr⟩
          case measure => simp [intOf]; omega
    · have hJ' : ∀ x ∈ bs, 0 ≤ x ∧ x < (i : Int) := by
        have e : bs.take k = bs := List.take_of_length_le (by omega)
        rw [e] at hJ; exact hJ
      have HE : Hid (dec bs.Nodup = R) := by
        rw [← HR.out]
        by_cases h : bs.Nodup
        · rw [dec_true h, dec_true ⟨hJ', h⟩]; rfl
        · rw [dec_false h, dec_false (fun h2 => h h2.2)]; rfl
      clear hc hJ hJ'
      go_wp2_with fail
      refine (HU _ (hr.keep hBr)).mono ?_
      rintro e w2 ⟨rfl, hB2⟩
      rw [HE.out]
      go_wp2
      go_ret
      exact ⟨rfl, hBr.trans (hB2.mono hBr.size)⟩

set_option maxRecDepth 100000 in
theorem kinds_any (v : Value) (xs : List At) (w : World) (hr : RdA w v xs) :
    Calls Try.prog 42 #[v] w fun e w' => e = .returned (.bool (dec (OkT xs))) ∧ Below w.heap.size w w' := by
  obtain ⟨a, cap, rfl, hl, hz, hn0, hc⟩ := id hr
  generalize hR : dec (OkT xs) = R
  have HR : Hid (dec (OkT xs) = R) := hR
  clear hR
  go_enter Try.func42, Try.ntmps42
  go_wp2
  go_loopw [7] (fun q wr => ∃ k : Nat, k ≤ xs.length ∧ q = .int .i64 k ∧ OkT (xs.take k) ∧ Below w.heap.size w wr) (fun q _ => xs.length - (intOf q).toNat)
  case atStart => exact ⟨0, Nat.zero_le _, rfl, by simp [OkT], Below.refl _ _⟩
  case round =>
    obtain ⟨k, hk, rfl, hJ, hBr⟩ := hrel
    by_cases hlt : k < xs.length
    · obtain ⟨b, off, rfl, hb, hcell⟩ := hc (by omega)
      obtain ⟨d0, d1, d2⟩ := RdA.at (fun k hk j hj => (hBr.cell (p := ⟨b, _, none⟩) hb).trans (hcell k hk j hj)) k hlt
      have HF : Hid (¬ (0 ≤ xs[k].k ∧ xs[k].k ≤ 2) → R = false) := fun hn => by
        rw [← HR.out]; exact dec_false fun h => hn (h _ (List.getElem_mem hlt))
      have HT : Hid (0 ≤ xs[k].k ∧ xs[k].k ≤ 2 → OkT (xs.take (k + 1))) := fun h x hx => by
        rw [List.take_succ_eq_append_getElem hlt] at hx
        rcases List.mem_append.mp hx with h1 | h1
        · exact hJ x h1
        · simp at h1; subst h1; exact h
      clear hcell hc hJ
      generalize xs[k] = X at *
      have hsz := hBr.size
      by_cases h0 : X.k < 0
      · obtain rfl := HF.out (by omega)
        go_wp2
        go_ret
        exact ⟨rfl, hBr.alloc hsz _⟩
      · by_cases h1 : 2 < X.k
        · obtain rfl := HF.out (by omega)
          go_wp2
          go_ret
          exact ⟨rfl, hBr.alloc hsz _⟩
        · have H' : Hid _ := HT.out ⟨by omega, by omega⟩
          clear HF HT
          go_wp2
          go_roundw
          case rel => exact ⟨k + 1, by omega, by go_num, H'.out, hBr.alloc hsz _⟩
          case measure => simp [intOf]; omega
    · obtain rfl : R = true := by
        rw [← HR.out]
        have e : xs.take k = xs := List.take_of_length_le (by omega)
        rw [e] at hJ; exact dec_true hJ
      go_wp2
      go_ret
      exact ⟨rfl, hBr⟩

theorem Try.info9 : (Try.prog.info? 9).map (fun i => (i.zero, i.size, i.bytes)) = some (some (.string ⟨#[]⟩), 1, 16) := by kernel_rfl
theorem str_new (w : World) (s : ByteArray) (t : TypeId) (g : Nat) (hg : g = w.heap.size) : ∀ j, j < shS.n → (w.alloc (.cells #[.string s] t)).cell? ⟨g, j, none⟩ = (shS.cs s)[j]? := by
  intro j _; rw [World.cell?_alloc_at _ _ _ _ hg]; simp [shS]

set_option maxRecDepth 100000 in
theorem unlikeA_any (v : Value) (xs : List At) (w : World) (hr : RdA w v xs) :
    Calls Try.prog 41 #[v] w fun e w' => e = .returned (.bool (dec (OkN xs))) ∧ Below w.heap.size w w' := by
  obtain ⟨i0, hi, hz0, hz1, hz2⟩ := info_parts Try.info9
  obtain ⟨a, cap, rfl, hl, hz, hn0, hc⟩ := id hr
  by_cases h100 : xs.length ≤ 100
  · have hg : ¬ (100 : Int) < xs.length := by omega
    go_enter Try.func41, Try.ntmps41
    go_wp2_with (at_make; refine wpList_make_own _ rfl _ _ 92 rfl w.heap.size 9 i0 _ 1 Try.underlying92 hi hz0 hz1 .i64 .i64 _ xs.length rfl rfl (by go_num) (by rw [hz2]; omega) (by unfold maxLen; omega) (by simp) ?_; intro w1 hown hgrow; have hB1 := (Below.refl w.heap.size w).grown hgrow (Nat.le_refl _) (by intro k h; cases h))
    have hO1 : OwnS w1 w.heap.size (.slice (some ⟨w.heap.size, 0, none⟩) 0 xs.length) [] := ⟨hown, by simp, by simp⟩
    clear hown hgrow
    go_loopw [3, 14] (fun v i wr => ∃ k : Nat, k ≤ xs.length ∧ i = .int .i64 k ∧ OwnS wr w.heap.size v ((xs.take k).map At.n) ∧ Below w.heap.size w wr) (fun _ i _ => xs.length - (intOf i).toNat)
    case atStart => exact ⟨0, Nat.zero_le _, rfl, by simpa using hO1, hB1⟩
    case round =>
      obtain ⟨k, hk, rfl, hO, hBr⟩ := hrel
      clear hO1 hB1
      by_cases hlt : k < xs.length
      · obtain ⟨b, off, rfl, hb, hcell⟩ := hc (by omega)
        obtain ⟨d0, d1, d2⟩ := RdA.at (fun k hk j hj => (hBr.cell (p := ⟨b, _, none⟩) hb).trans (hcell k hk j hj)) k hlt
        have hok : At.ok xs[k] := hz xs[k] (List.getElem_mem hlt)
        have Hlv : Hid ((xs.take (k + 1)).map At.n = (xs.take k).map At.n ++ [xs[k].n]) := by
          show _ = _
          rw [List.take_succ_eq_append_getElem hlt, List.map_append]; rfl
        have hlk : ((xs.take k).map At.n).length ≤ 100 := by simp; omega
        generalize xs[k] = E at *
        obtain ⟨En, Ek, Ev⟩ := E
        obtain ⟨va, vc, hv⟩ := hO.form
        subst hv
        generalize (xs.take k).map At.n = XS at *
        simp only at d0 d1 d2 Hlv
        have hlo := hO.lt
        have hzz := hBr.size
        clear hcell hc
        go_wp2_with (at_builtin; refine wpList_append_one (S := shS) Try.info9 rfl (by omega) rfl _ _ 92 rfl Try.underlying92 w.heap.size _ XS En hok.1 (wr.heap.size + 1) 1 rfl rfl ((hO.alloc _).alloc _) (str_new _ En _ _ (by simp)) (by omega) (by simp; omega) ?_; intro a' c' w' hO' hg')
        have hga := gb_trans (gb_trans (World.grownBy_alloc wr (.cells #[.string En, .int .i64 Ek, .int .i64 Ev] 58) (Value.slice va XS.length vc).ownBlock) (World.grownBy_alloc _ (.cells #[.string En] 9) _)) hg'
        go_roundw
        case rel =>
          refine ⟨k + 1, by omega, by go_num, ?_, hBr.grown hga hzz (fun j hj => (hlo j hj).1)⟩
          rw [Hlv.out]
          simpa using hO'
        case measure => simp [intOf]; omega
      · obtain rfl : k = xs.length := by omega
        rw [List.take_length] at hO
        clear hc
        obtain ⟨va, vc, hv⟩ := hO.form
        rw [List.length_map] at hv
        subst hv
        have HU := unlikeS_any (.slice va xs.length vc) (xs.map At.n) wr hO.rd
        have HE : Hid (dec (xs.map At.n).Nodup = dec (OkN xs)) := by
          show _ = _
          by_cases h : (xs.map At.n).Nodup
          · rw [dec_true h, dec_true ⟨h100, h⟩]
          · rw [dec_false h, dec_false (fun h2 => h h2.2)]
        go_wp2_with fail
        refine HU.mono ?_
        rintro e w2 ⟨rfl, hB2⟩
        rw [HE.out]
        go_wp2
        go_ret
        exact ⟨rfl, hBr.trans (hB2.mono hBr.size)⟩
  · have hg : (100 : Int) < xs.length := by omega
    have hR : dec (OkN xs) = false := dec_false fun h => h100 h.1
    rw [hR]
    go_enter Try.func41, Try.ntmps41
    go_wp2
    go_ret
    exact ⟨rfl, Below.refl _ _⟩

set_option maxRecDepth 100000 in
theorem okCI_any (v : Value) (cs : List Cl) (w : World) (hr : RdC w v cs) :
    Calls Try.prog 13 #[v] w fun e w' => e = .returned (.bool (dec (OkCs cs))) ∧ Below w.heap.size w w' := by
  obtain ⟨ps, ⟨a, cap, rfl, hl, hz, hn0, hc⟩, hpl, hK⟩ := hr
  have HP : Hid (ps.length = cs.length) := hpl
  generalize hR : dec (OkCs cs) = R
  have HR : Hid (dec (OkCs cs) = R) := hR
  rw [hpl] at hl ⊢
  clear hpl hR
  by_cases h200 : cs.length ≤ 200
  · have hg : ¬ (200 : Int) < cs.length := by omega
    go_enter Try.func13, Try.ntmps13
    go_wp2
    go_loopw [10] (fun q wr => ∃ k : Nat, k ≤ cs.length ∧ q = .int .i64 k ∧ (∀ j (h : j < cs.length), j < k → OkB j cs[j].b ∧ OkN cs[j].a ∧ OkT cs[j].a) ∧ Below w.heap.size w wr) (fun q _ => cs.length - (intOf q).toNat)
    case atStart => exact ⟨0, Nat.zero_le _, rfl, fun j _ h => absurd h (by omega), Below.refl _ _⟩
    case round =>
      obtain ⟨k, hk, rfl, hJ, hBr⟩ := hrel
      by_cases hlt : k < cs.length
      · have hlt' : k < ps.length := by rw [HP.out]; exact hlt
        obtain ⟨b, off, rfl, hb, hcell⟩ := hc (by omega)
        obtain ⟨d0, d1⟩ := RdP.at (fun k hk j hj => (hBr.cell (p := ⟨b, _, none⟩) hb).trans (hcell k hk j hj)) k hlt'
        have hKk := (hK k hlt' hlt).keep hBr
        have HF : Hid (¬ (OkB k cs[k].b ∧ OkN cs[k].a ∧ OkT cs[k].a) → R = false) := fun hn => by rw [← HR.out]; exact dec_false fun h => hn (h.2 k hlt)
        have HT : Hid (OkB k cs[k].b ∧ OkN cs[k].a ∧ OkT cs[k].a → ∀ j (h : j < cs.length), j < k + 1 → OkB j cs[j].b ∧ OkN cs[j].a ∧ OkT cs[j].a) := fun hx j h hj => by
          by_cases e : j = k
          · subst e; exact hx
          · exact hJ j h (by omega)
        clear hcell hc hK hz hJ
        generalize cs[k] = C at *
        generalize ps[k] = P at *
        obtain ⟨bs, ats⟩ := C
        obtain ⟨p1, p2, p3, p4, p5, p6⟩ := P
        obtain ⟨h1, h2⟩ := hKk
        simp only [Sp.s1, Sp.s2] at *
        have hsz := hBr.size
        have bW : Below wr.heap.size wr (wr.alloc (.cells #[.slice p1 p2 p3, .slice p4 p5 p6] 54)) := (Below.refl _ wr).alloc (Nat.le_refl _) _
        have bX := Box.new wr (.slice p1 p2 p3) (.slice p4 p5 p6) 54
        have V0 := hBr.alloc hsz (.cells #[.slice p1 p2 p3, .slice p4 p5 p6] 54)
        have HB := bases_any k (.slice p1 p2 p3) bs _ (h1.keep bW)
        have HU := fun W h => unlikeA_any (.slice p4 p5 p6) ats W h
        have HKd := fun W h => kinds_any (.slice p4 p5 p6) ats W h
        have h2a := h2.keep bW
        clear h1 h2 bW
        go_wp2_with fail
        refine HB.mono ?_
        rintro e w2 ⟨rfl, hB2⟩
        have V2 := V0.trans (hB2.mono V0.size)
        have bX2 := bX.keep hB2
        have h22 := h2a.keep hB2
        have hsz0 := V0.size
        clear bX h2a V0 HB
        by_cases D1 : OkB k bs
        · rw [dec_true D1]
          obtain ⟨-, k0, k1⟩ := id bX2
          go_wp2_with fail
          refine (HU _ h22).mono ?_
          rintro e w3 ⟨rfl, hB3⟩
          have V3 := V2.trans (hB3.mono V2.size)
          have bX3 := bX2.keep hB3
          have h23 := h22.keep hB3
          clear k0 k1 bX2 h22 HU
          by_cases D2 : OkN ats
          · rw [dec_true D2]
            obtain ⟨-, k0, k1⟩ := id bX3
            go_wp2_with fail
            refine (HKd _ h23).mono ?_
            rintro e w4 ⟨rfl, hB4⟩
            have V4 := V3.trans (hB4.mono V3.size)
            clear k0 k1 bX3 h23 HKd
            by_cases D3 : OkT ats
            · rw [dec_true D3]
              have H' : Hid _ := HT.out ⟨D1, D2, D3⟩
              clear HT HF
              go_wp2
              go_roundw
              case rel => exact ⟨k + 1, by omega, by go_num, H'.out, V4⟩
              case measure => simp [intOf]; omega
            · rw [dec_false D3]
              obtain rfl := HF.out fun h => D3 h.2.2
              go_wp2
              go_ret
              exact ⟨rfl, V4⟩
          · rw [dec_false D2]
            obtain rfl := HF.out fun h => D2 h.2.1
            go_wp2
            go_ret
            exact ⟨rfl, V3⟩
        · rw [dec_false D1]
          obtain rfl := HF.out fun h => D1 h.1
          go_wp2
          go_ret
          exact ⟨rfl, V2⟩
      · obtain rfl : R = true := by rw [← HR.out]; exact dec_true ⟨h200, fun j h => hJ j h (by omega)⟩
        go_wp2
        go_ret
        exact ⟨rfl, hBr⟩
  · have hg : (200 : Int) < cs.length := by omega
    obtain rfl : R = false := by rw [← HR.out]; exact dec_false (fun h => h200 h.1)
    go_enter Try.func13, Try.ntmps13
    go_wp2
    go_ret
    exact ⟨rfl, Below.refl _ _⟩
end Go.Proofs.Ytfbibbjiomfncaa
