import Derived.Test.YtfoofbcfcekleaaGreatDoorQtM
import Derived.Test.YtfoofbcfcekleaaGreatDoorQtF
namespace Go.Proofs.YtfoofbcfcekleaaGreatDoor
open Go.RowKit Go.Lib Go.Shelf
set_option linter.unusedVariables false
set_option linter.unusedSimpArgs false

theorem cnc : CNc := fun s W h => (Any.strings_Count_one Tryz.laysCountS s 10 W).mono (fun e w' ⟨h1, h2⟩ => ⟨by rw [h1, show Lib.countByte s.data.toList 10 = 0 from List.count_eq_zero.2 h]; rfl, h2⟩)
theorem bigQt_any (w : World) (a : Option Addr) (n c : Nat) :
    Calls Tryz.prog 4 #[.slice a n c] w fun e w' => e = .returned (.bool (decide ((1048576 : Int) < (n : Int)))) ∧ w' = w := by
  go_enter Tryz.func4, Tryz.ntmps4
  go_wp2
  go_ret
  exact ⟨by simp, rfl⟩
theorem Wr.tokens {s : ByteArray} {rs : List Nat} {q : Nat} {ins : List UInt8} (h : Wr s rs q ins) (hl : ins.length + 2 ≤ 16384) (w : World) (hT : Tabs w) (hM : MaxK w) (hE : ErrS w) :
    Calls Tryz.prog 8 #[.string (bz' (q.toUInt8 :: ins ++ [q.toUInt8]))] w fun e w' => ∃ ta tc B, e = .returned (.tuple #[.slice ta 3 tc, .agg #[.int .i64 0, .int .i64 0]]) ∧ w.heap.size ≤ B ∧ OwnG shTk 33 w' B (.slice ta 3 tc) [⟨5, s, 1⟩, ⟨8, ⟨#[]⟩, 1⟩, ⟨11, ⟨#[]⟩, 1⟩] ∧ Below w.heap.size w w' := by
  have hqs := h.qs hl
  obtain ⟨q1, q2, q3, q4⟩ := h.q
  have hsz : (bz' (q.toUInt8 :: ins ++ [q.toUInt8])).size = ins.length + 2 := by rw [bz_size]; simp
  have hno : (10 : UInt8) ∉ (bz' (q.toUInt8 :: ins ++ [q.toUInt8])).data.toList := fun hm => by rw [bz_data] at hm; exact (h.out_no 10 hm).1 rfl
  have hcr : (bz' (q.toUInt8 :: ins ++ [q.toUInt8])).data.toList.contains 13 = false := by
    cases hc : (bz' (q.toUInt8 :: ins ++ [q.toUInt8])).data.toList.contains 13 with
    | false => rfl
    | true => rw [bz_data] at hc; exact absurd rfl (h.out_no 13 (List.contains_iff_mem.1 hc)).2
  have hto := h.text hl
  have al : Below w.heap.size w (w.alloc (.cells #[.int .i64 0, .int .i64 0] 29)) := (Below.refl _ _).alloc (Nat.le_refl _) _
  have hK := textOk_any (bz' (q.toUInt8 :: ins ++ [q.toUInt8])) (w.alloc (.cells #[.int .i64 0, .int .i64 0] 29)) (by omega) (hT.below al)
  rw [hto] at hK
  exact Tokens_any _ s ins.length w hK (fun W => by have k := has_any (bz' (q.toUInt8 :: ins ++ [q.toUInt8])) 13 W; rw [hcr] at k; exact k) (fun W sb hsc hb => scan_any sb _ s q ins.length W hsc hqs hsz hpc (fun W2 t2 z2 b2 => token_any (W.heap.size + 1) sb _ s q ins.length W2 t2 z2 hqs hsz hno cnc (fun W3 b3 => readToken_any q.toUInt8 ins s q W3 hqs q1 q2 h.gd (by omega) hpc rpc ibc clc (h.sv hl W3 (((hT.below hb).below b2).below b3) (((hM.below hb).below b2).below b3) (((hE.below hb).below b2).below b3)))))
set_option maxRecDepth 100000 in
set_option maxHeartbeats 2000000 in
theorem law_quoted (a : Option Addr) (ZL c : Nat) (zs : List Int) (w : World) (hr : ZL ≤ 1048576 → Src w a ZL c zs) (hT : Tabs w) (hM : MaxK w) (hE : ErrS w) :
    Calls Tryz.prog 3 #[.slice a ZL c] w fun e w' => e = .returned (.bool true) ∧ Below w.heap.size w w' := by
  have HB := fun W => bigQt_any W a ZL c
  by_cases hbig : 1048576 < ZL
  · rw [decide_eq_true (by omega)] at HB
    go_enter Tryz.func3, Tryz.ntmps3
    go_wp2_with fail
    refine (HB _).mono ?_
    rintro e w2 ⟨rfl, rfl⟩
    go_wp2
    go_ret
    exact ⟨rfl, Below.refl _ _⟩
  rw [decide_eq_false (by omega)] at HB
  have HD := fun W hb => drawTextRepr_any W a ZL c zs ((hr (by omega)).keep hb)
  clear hr
  go_enter Tryz.func3, Tryz.ntmps3
  go_wp2_with fail
  refine (HB _).mono ?_
  rintro e w ⟨rfl, rfl⟩
  go_wp2_with fail
  refine (HD _ (Below.refl _ _)).mono ?_
  rintro e w1 ⟨s, rfl, hs, b1⟩
  clear HD HB
  cases hrs : textOf s with
  | none =>
    have hR := reprNo_any s w1 hs hrs (hT.below b1)
    have hK := fun W => textOkS_any s W (by omega)
    rw [hrs, show (none : Option (List Nat)).isSome = false from rfl] at hK
    clear hrs hT hM hE
    go_wp2_with fail
    refine hR.mono ?_
    rintro e w2 ⟨rfl, b2⟩
    go_wp2_with fail
    refine (hK _).mono ?_
    rintro e w3 ⟨rfl, b3⟩
    go_wp2
    go_ret
    exact ⟨by simp, (b1.trans (b2.mono b1.size)).trans (b3.mono (Nat.le_trans b1.size b2.size))⟩
  | some rs =>
    obtain ⟨q, hq, hR⟩ := reprQ_any s rs w1 hrs (hT.below b1)
    obtain ⟨ins, hins⟩ : ∃ ins, ins = rs.flatMap (reprR q) := ⟨_, rfl⟩
    have hW : Wr s rs q ins := ⟨hrs, hq, hins⟩
    rw [← hins] at hR
    have hK := fun W => textOkS_any s W (by omega)
    rw [hrs, show (some rs).isSome = true from rfl] at hK
    have hsz : (bz' (q.toUInt8 :: ins ++ [q.toUInt8])).size = ins.length + 2 := by rw [bz_size]; simp
    clear hrs hins hq
    by_cases hl : ins.length + 2 ≤ 16384
    · have HT := fun W (hb : Below w.heap.size w W) => hW.tokens hl W (hT.below hb) (hM.below hb) (hE.below hb)
      have HS := fun W (hb : Below w.heap.size w W) => hW.sv hl W (hT.below hb) (hM.below hb) (hE.below hb) W (Below.refl _ _)
      have hx := hW.ext
      obtain ⟨src, hsrc⟩ : ∃ src, src = bz' (q.toUInt8 :: ins ++ [q.toUInt8]) := ⟨_, rfl⟩
      obtain ⟨mid, hmid⟩ : ∃ mid, mid = bz' ins := ⟨_, rfl⟩
      obtain ⟨LN, hLN⟩ : ∃ LN, LN = ins.length := ⟨_, rfl⟩
      rw [← hsrc, ← hmid, ← hLN] at hx
      rw [← hsrc] at hR hsz
      rw [← hLN] at hsz hl
      simp only [← hsrc] at HT
      simp only [← hmid] at HS
      clear hsrc hmid hLN hW hT hM hE
      have hgt : ¬ ((16384 : Int) < (src.size : Int)) := by omega
      have hgt2 : ¬ ((16384 : Int) < (LN : Int) + 2) := by omega
      have hwr : IntKind.i64.wrap ((LN : Int) + 1) = (LN : Int) + 1 := by simp [IntKind.wrap, IntKind.bits, IntKind.signed]; omega
      go_wp2_with fail
      refine hR.mono ?_
      rintro e w2 ⟨rfl, b2⟩
      have c2 := b1.trans (b2.mono b1.size)
      clear hR
      go_wp2_with fail
      refine (hK _).mono ?_
      rintro e w3 ⟨rfl, b3⟩
      have c3 := c2.trans (b3.mono c2.size)
      clear hK
      go_wp2_with fail
      refine (HT _ c3).mono ?_
      rintro e w4 ⟨ta, tc, B, rfl, hB4, o4, b4⟩
      have c4 := c3.trans (b4.mono c3.size)
      clear HT
      obtain ⟨g, hg⟩ : ∃ g, ta = some ⟨g, 0, none⟩ := by
        rcases o4.shape with ⟨e1, e2⟩ | ⟨g, cp, e1, _, _, e2⟩
        · simp at e2
        · simp only [Value.slice.injEq] at e1
          exact ⟨g, e1.1⟩
      subst hg
      have x0 : w4.cell? ⟨g, 0, none⟩ = some (.int .i64 5) := o4.cell 0 (by simp) 0 (by decide)
      have x1 : w4.cell? ⟨g, 1, none⟩ = some (.string s) := o4.cell 0 (by simp) 1 (by decide)
      have hgl := (o4.lt g rfl).2
      go_wp2_with fail
      have al : Below w4.heap.size w4 (w4.alloc (.cells #[.int .i64 0, .int .i64 0] 29)) := (Below.refl _ _).alloc (Nat.le_refl _) _
      have c5 := c4.trans (al.mono c4.size)
      refine (HS _ c5).mono ?_
      rintro e w6 ⟨rfl, b6⟩
      go_wp2
      go_ret
      exact ⟨by simp, c5.trans (b6.mono c5.size)⟩
    · obtain ⟨src, hsrc⟩ : ∃ src, src = bz' (q.toUInt8 :: ins ++ [q.toUInt8]) := ⟨_, rfl⟩
      obtain ⟨LN, hLN⟩ : ∃ LN, LN = ins.length := ⟨_, rfl⟩
      rw [← hsrc] at hR hsz
      rw [← hLN] at hsz hl
      clear hsrc hLN hW hT hM hE
      have hgt : (16384 : Int) < (src.size : Int) := by omega
      have hgt2 : (16384 : Int) < (LN : Int) + 2 := by omega
      go_wp2_with fail
      refine hR.mono ?_
      rintro e w2 ⟨rfl, b2⟩
      have c2 := b1.trans (b2.mono b1.size)
      clear hR
      go_wp2_with fail
      refine (hK _).mono ?_
      rintro e w3 ⟨rfl, b3⟩
      have c3 := c2.trans (b3.mono c2.size)
      clear hK
      go_wp2
      go_ret
      exact ⟨rfl, c3⟩
end Go.Proofs.YtfoofbcfcekleaaGreatDoor
