import Derived.Test.YtfbibbjiomfncaaAtF
import Derived.Test.YtfbibbjiomfncaaMrU
namespace Go.Proofs.Ytfbibbjiomfncaa
open Go.RowKit
set_option linter.unusedVariables false
set_option linter.unusedSimpArgs false

def ArgOk (cs : List Cl) (cl : Int) (own : List At) : Prop := OkCs cs ∧ 0 ≤ cl ∧ cl < (cs.length : Int) ∧ OkN own
def lnAt (cs : List Cl) (cl : Int) : List Int := (lnsC cs cs.length).getD cl.toNat []
set_option maxRecDepth 100000 in
set_option maxHeartbeats 1000000 in
theorem argsS_any (v u : Value) (cs : List Cl) (cl : Int) (own : List At) (w : World) (hr : RdC w v cs) (ho : RdA w u own) (hc0 : -9223372036854775808 ≤ cl) (hc1 : cl < 9223372036854775808) :
    Calls Try.prog 51 #[v, .int .i64 cl, u] w fun e w' => ∃ a n c b, e = .returned (.tuple #[.slice a n c, .bool b]) ∧ (b = true → ArgOk cs cl own ∧ lnAt cs cl ≠ [] ∧ Rd w' (.slice a n c) (lnAt cs cl)) ∧ (b = false → ¬ (ArgOk cs cl own ∧ lnAt cs cl ≠ [])) ∧ Below w.heap.size w w' := by
  obtain ⟨va, vc, ev⟩ := hr.form
  subst ev
  obtain ⟨ua, uc, eu⟩ := ho.form
  subst eu
  have hmx := hr.max
  go_enter Try.func51, Try.ntmps51
  go_wp2_with fail
  refine (okCS_any _ cs _ hr).mono ?_
  rintro e w1 ⟨rfl, hB1⟩
  by_cases hok : OkCs cs
  · rw [dec_true hok]
    by_cases h0 : cl < 0
    · go_wp2_with fail
      exact bodyPost_ret (v := .tuple #[.slice (some ⟨w1.heap.size, 0, none⟩) 0 0, .bool false]) (by simp [results, Try.results51, go_sem]) rfl ⟨_, _, _, _, rfl, (fun h => by cases h), (fun _ h => by have := h.1.2.1; omega), hB1.alloc hB1.size _⟩
    · by_cases h1 : cl < (cs.length : Int)
      · have h1' : ¬ (cs.length : Int) ≤ cl := by omega
        have ho1 := ho.keep hB1
        go_wp2_with fail
        refine (attrsOk_false _ own _ ho1).mono ?_
        rintro e w2 ⟨rfl, hB2⟩
        have hB12 := hB1.trans (hB2.mono hB1.size)
        by_cases hn : OkN own
        · rw [dec_true hn]
          have hr2 := hr.keep hB12
          go_wp2_with fail
          refine (linesS_any _ cs _ hr2 hok).mono ?_
          rintro e w3 ⟨g, gc, rfl, hL, hB3⟩
          have hB13 := hB12.trans (hB3.mono hB12.size)
          obtain ⟨y, rfl⟩ : ∃ y : Nat, cl = (y : Int) := ⟨cl.toNat, by omega⟩
          have hyl : y < (lnsC cs cs.length).length := by rw [lns_len]; omega
          obtain ⟨xa, xc, d0, hrx⟩ := LL.at hL y hyl
          have hln : lnAt cs (y : Int) = (lnsC cs cs.length)[y] := by simp [lnAt, List.getD, hyl]
          rw [← hln] at d0 hrx
          have HOK : Hid (ArgOk cs (y : Int) own) := ⟨hok, by omega, h1, hn⟩
          have hrm := hrx.1.max
          generalize hLN : lnAt cs (y : Int) = LN at *
          have HLN : Hid (lnAt cs (y : Int) = LN) := hLN
          clear hLN hln hok hn
          obtain ⟨XN, hXN⟩ : ∃ XN, LN.length = XN := ⟨_, rfl⟩
          have HXN : Hid (LN.length = XN) := hXN
          rw [hXN] at d0 hrx hrm
          clear hXN
          go_wp2_with fail
          have hne : LN ≠ [] ↔ 0 < XN := by rw [← HXN.out]; exact ⟨fun h => List.length_pos_iff.mpr h, fun h => List.length_pos_iff.mp h⟩
          exact bodyPost_ret (v := .tuple #[.slice xa XN xc, .bool (decide (0 < XN))]) (by simp [results, Try.results51, go_sem]) rfl ⟨_, _, _, _, rfl, (fun h => ⟨HOK.out, by rw [HLN.out]; exact hne.mpr (by simpa using h), by rw [HLN.out]; exact hrx.1⟩), (fun h h2 => by rw [HLN.out] at h2; have := hne.mp h2.2; simp at h; omega), hB13⟩
        · rw [dec_false hn]
          go_wp2_with fail
          exact bodyPost_ret (v := .tuple #[.slice (some ⟨w2.heap.size, 0, none⟩) 0 0, .bool false]) (by simp [results, Try.results51, go_sem]) rfl ⟨_, _, _, _, rfl, (fun h => by cases h), (fun _ h => hn h.1.2.2.2), hB12.alloc hB12.size _⟩
      · have h1' : (cs.length : Int) ≤ cl := by omega
        go_wp2_with fail
        exact bodyPost_ret (v := .tuple #[.slice (some ⟨w1.heap.size, 0, none⟩) 0 0, .bool false]) (by simp [results, Try.results51, go_sem]) rfl ⟨_, _, _, _, rfl, (fun h => by cases h), (fun _ h => by have := h.1.2.2.1; omega), hB1.alloc hB1.size _⟩
  · rw [dec_false hok]
    go_wp2_with fail
    exact bodyPost_ret (v := .tuple #[.slice (some ⟨w1.heap.size, 0, none⟩) 0 0, .bool false]) (by simp [results, Try.results51, go_sem]) rfl ⟨_, _, _, _, rfl, (fun h => by cases h), (fun _ h => hok h.1.1), hB1.alloc hB1.size _⟩
end Go.Proofs.Ytfbibbjiomfncaa
