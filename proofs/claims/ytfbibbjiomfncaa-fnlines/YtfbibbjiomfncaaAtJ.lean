import Derived.Test.YtfbibbjiomfncaaAtD
import Derived.Test.YtfbibbjiomfncaaAtI
namespace Go.Proofs.Ytfbibbjiomfncaa
open Go.RowKit
set_option linter.unusedVariables false
set_option linter.unusedSimpArgs false

/-- What AttrGet answers, out of what the class's line and the thing itself have. -/
def getO (o m : Option At) : Int × Int :=
  match o, m with
  | some x, some y => if x.k = 1 then (3, x.v) else (1, y.v)
  | some x, none => if x.k = 1 then (3, x.v) else if x.k = 2 then (3, x.v) else if x.k = 0 then (2, x.v) else (0, 0)
  | none, some y => (1, y.v)
  | none, none => (0, 0)
theorem aget_eq {cs : List Cl} {cl : Int} {own : List At} (s : ByteArray) (h : ArgOk cs cl own ∧ lnAt cs cl ≠ []) : agetA cs cl own s = getO (fstO cs s (lnAt cs cl)) (own.find? (fun x => decide (x.n = s))) := by
  unfold agetA
  rw [dec_true h, if_pos rfl, frst_eq]
  cases fstO cs s (lnAt cs cl) with
  | none =>
    cases own.find? (fun x => decide (x.n = s)) with
    | none => simp [getO]
    | some y => simp [getO]
  | some x =>
    cases own.find? (fun x => decide (x.n = s)) with
    | none => simp [getO]
    | some y => simp [getO]

set_option maxRecDepth 100000 in
set_option maxHeartbeats 4000000 in
theorem attrGetI_any (v u : Value) (cs : List Cl) (cl : Int) (own : List At) (s : ByteArray) (w : World) (hr : RdC w v cs) (ho : RdA w u own) (hc0 : -9223372036854775808 ≤ cl) (hc1 : cl < 9223372036854775808) :
    Calls Try.prog 29 #[v, .int .i64 cl, u, .string s] w fun e w' => e = .returned (.tuple #[.int .i64 (agetA cs cl own s).1, .int .i64 (agetA cs cl own s).2]) ∧ Below w.heap.size w w' := by
  generalize hA : agetA cs cl own s = A
  have HA : Hid (agetA cs cl own s = A) := hA
  clear hA
  obtain ⟨ua, uc, eu⟩ := ho.form
  subst eu
  go_enter Try.func29, Try.ntmps29
  go_wp2_with fail
  refine (classAttr_any v _ cs cl own s _ hr ho hc0 hc1).mono ?_
  rintro e w1 ⟨b, o, rfl, ht, hf, hB1⟩
  cases b
  · obtain rfl : A = (-1, 0) := by rw [← HA.out]; unfold agetA; rw [dec_false (hf rfl)]; rfl
    clear ht hf
    cases o
    · simp only [FdV]
      go_wp2_with fail
      exact bodyPost_ret (v := .tuple #[.int .i64 (-1), .int .i64 0]) (by simp [results, Try.results29, go_sem]) rfl ⟨rfl, hB1.alloc hB1.size _⟩
    · simp only [FdV]
      go_wp2_with fail
      exact bodyPost_ret (v := .tuple #[.int .i64 (-1), .int .i64 0]) (by simp [results, Try.results29, go_sem]) rfl ⟨rfl, hB1.alloc hB1.size _⟩
  · obtain ⟨h1, h2, rfl⟩ := ht rfl
    have HA2 : Hid _ := HA.out.symm.trans (aget_eq s ⟨h1, h2⟩)
    clear ht hf
    generalize fstO cs s (lnAt cs cl) = o at *
    have HT : ∀ W, RdA W (.slice ua own.length uc) own → _ := fun W g => attrIn_any (.slice ua own.length uc) own s W g
    generalize own.find? (fun x => decide (x.n = s)) = m at *
    have ho1 := ho.keep hB1
    have HI := fun k W => isF_any o k W
    have hnq := fun W => neq_fd m W
    rcases o with _ | ⟨xn, xk, xv⟩
    · simp only [FdV] at HI ⊢
      rcases m with _ | ⟨yn, yk, yv⟩
      · simp only [FdV, Option.isSome_none] at HT hnq ⊢
        have bA : Below w1.heap.size w1 (w1.alloc (.cells #[.string ⟨#[]⟩, .int .i64 0, .int .i64 0, .bool false] 78)) := (Below.refl _ w1).alloc (Nat.le_refl _) _
        have bB := Bx4.new w1 (.string ⟨#[]⟩) (.int .i64 0) (.int .i64 0) (.bool false) 78
        have VA := hB1.trans (bA.mono hB1.size)
        have ho2 := ho1.keep bA
        go_wp2_with fail
        refine (HT _ ho2).mono ?_
        rintro e w2 ⟨rfl, hB2⟩
        have bB2 := bB.keep hB2
        have VB := VA.trans (hB2.mono VA.size)
        have bC : Below w2.heap.size w2 (w2.alloc (.cells #[.string ⟨#[]⟩, .int .i64 0, .int .i64 0, .bool false] 78)) := (Below.refl _ w2).alloc (Nat.le_refl _) _
        have bm0 := Bx4.new w2 (.string ⟨#[]⟩) (.int .i64 0) (.int .i64 0) (.bool false) 78
        have bc0 := bB2.keep bC
        have V0 := VB.trans (bC.mono VB.size)
        obtain ⟨-, c00, c10, c20, c30, -⟩ := id bc0
        obtain ⟨-, m00, m10, m20, m30, -⟩ := id bm0
        clear bB bB2 bA VA VB hB2 ho1 ho2
        have hd1 : decide (Option.map At.k (none : Option At) = some 1) = false := by simp
        go_wp2_with fail
        refine (HI 1 _).mono ?_
        rintro e v1 ⟨rfl, hC1⟩
        rw [show decide (Option.map At.k (none : Option At) = some 1) = false from hd1]
        have bc1 := bc0.keep hC1
        have bm1 := bm0.keep hC1
        have V1 := V0.trans (hC1.mono V0.size)
        obtain ⟨-, c01, c11, c21, c31, -⟩ := id bc1
        obtain ⟨-, m01, m11, m21, m31, -⟩ := id bm1
        clear c00 c10 c20 c30 m00 m10 m20 m30
        have hd2 : decide (Option.map At.k (none : Option At) = some 2) = false := by simp
        have hd0 : decide (Option.map At.k (none : Option At) = some 0) = false := by simp
        obtain rfl : A = (0, 0) := by rw [HA2.out]; rfl
        go_wp2_with fail
        refine (HI 2 _).mono ?_
        rintro e v2 ⟨rfl, hC2⟩
        rw [show decide (Option.map At.k (none : Option At) = some 2) = false from hd2]
        have bc2 := bc1.keep hC2
        have bm2 := bm1.keep hC2
        have V2 := V1.trans (hC2.mono V1.size)
        obtain ⟨-, c02, c12, c22, c32, -⟩ := id bc2
        obtain ⟨-, m02, m12, m22, m32, -⟩ := id bm2
        clear c01 c11 c21 c31 m01 m11 m21 m31
        go_wp2_with fail
        refine (HI 0 _).mono ?_
        rintro e v3 ⟨rfl, hC3⟩
        rw [show decide (Option.map At.k (none : Option At) = some 0) = false from hd0]
        have bc3 := bc2.keep hC3
        have bm3 := bm2.keep hC3
        have V3 := V2.trans (hC3.mono V2.size)
        obtain ⟨-, c03, c13, c23, c33, -⟩ := id bc3
        obtain ⟨-, m03, m13, m23, m33, -⟩ := id bm3
        clear c02 c12 c22 c32 m02 m12 m22 m32
        go_wp2_with fail
        exact bodyPost_ret (v := .tuple #[.int .i64 0, .int .i64 0]) (by simp [results, Try.results29, go_sem]) rfl ⟨rfl, V3⟩
      · simp only [FdV, Option.isSome_some] at HT hnq ⊢
        have bA : Below w1.heap.size w1 (w1.alloc (.cells #[.string ⟨#[]⟩, .int .i64 0, .int .i64 0, .bool false] 78)) := (Below.refl _ w1).alloc (Nat.le_refl _) _
        have bB := Bx4.new w1 (.string ⟨#[]⟩) (.int .i64 0) (.int .i64 0) (.bool false) 78
        have VA := hB1.trans (bA.mono hB1.size)
        have ho2 := ho1.keep bA
        go_wp2_with fail
        refine (HT _ ho2).mono ?_
        rintro e w2 ⟨rfl, hB2⟩
        have bB2 := bB.keep hB2
        have VB := VA.trans (hB2.mono VA.size)
        have bC : Below w2.heap.size w2 (w2.alloc (.cells #[.string yn, .int .i64 yk, .int .i64 yv, .bool true] 78)) := (Below.refl _ w2).alloc (Nat.le_refl _) _
        have bm0 := Bx4.new w2 (.string yn) (.int .i64 yk) (.int .i64 yv) (.bool true) 78
        have bc0 := bB2.keep bC
        have V0 := VB.trans (bC.mono VB.size)
        obtain ⟨-, c00, c10, c20, c30, -⟩ := id bc0
        obtain ⟨-, m00, m10, m20, m30, -⟩ := id bm0
        clear bB bB2 bA VA VB hB2 ho1 ho2
        have hd1 : decide (Option.map At.k (none : Option At) = some 1) = false := by simp
        go_wp2_with fail
        refine (HI 1 _).mono ?_
        rintro e v1 ⟨rfl, hC1⟩
        rw [show decide (Option.map At.k (none : Option At) = some 1) = false from hd1]
        have bc1 := bc0.keep hC1
        have bm1 := bm0.keep hC1
        have V1 := V0.trans (hC1.mono V0.size)
        obtain ⟨-, c01, c11, c21, c31, -⟩ := id bc1
        obtain ⟨-, m01, m11, m21, m31, -⟩ := id bm1
        clear c00 c10 c20 c30 m00 m10 m20 m30
        obtain rfl : A = (1, yv) := by rw [HA2.out]; rfl
        go_wp2_with fail
        go_region_held3 (fun W => W.cell? ⟨w2.heap.size, 2, none⟩ = some (.int .i64 yv)) (go_keep) (fail)
        all_goals
          go_wp2_with fail
          exact bodyPost_ret (v := .tuple #[.int .i64 1, .int .i64 yv]) (by simp [results, Try.results29, go_sem]) rfl ⟨rfl, V1.drew⟩
    · simp only [FdV] at HI ⊢
      rcases m with _ | ⟨yn, yk, yv⟩
      · simp only [FdV, Option.isSome_none] at HT hnq ⊢
        have bA : Below w1.heap.size w1 (w1.alloc (.cells #[.string xn, .int .i64 xk, .int .i64 xv, .bool true] 78)) := (Below.refl _ w1).alloc (Nat.le_refl _) _
        have bB := Bx4.new w1 (.string xn) (.int .i64 xk) (.int .i64 xv) (.bool true) 78
        have VA := hB1.trans (bA.mono hB1.size)
        have ho2 := ho1.keep bA
        go_wp2_with fail
        refine (HT _ ho2).mono ?_
        rintro e w2 ⟨rfl, hB2⟩
        have bB2 := bB.keep hB2
        have VB := VA.trans (hB2.mono VA.size)
        have bC : Below w2.heap.size w2 (w2.alloc (.cells #[.string ⟨#[]⟩, .int .i64 0, .int .i64 0, .bool false] 78)) := (Below.refl _ w2).alloc (Nat.le_refl _) _
        have bm0 := Bx4.new w2 (.string ⟨#[]⟩) (.int .i64 0) (.int .i64 0) (.bool false) 78
        have bc0 := bB2.keep bC
        have V0 := VB.trans (bC.mono VB.size)
        obtain ⟨-, c00, c10, c20, c30, -⟩ := id bc0
        obtain ⟨-, m00, m10, m20, m30, -⟩ := id bm0
        clear bB bB2 bA VA VB hB2 ho1 ho2
        by_cases h1k : xk = 1
        · subst h1k
          obtain rfl : A = (3, xv) := by rw [HA2.out]; rfl
          have hd1 : decide (Option.map At.k (some (⟨xn, 1, xv⟩ : At)) = some 1) = true := by simp
          go_wp2_with fail
          refine (HI 1 _).mono ?_
          rintro e v1 ⟨rfl, hC1⟩
          rw [show decide (Option.map At.k (some (⟨xn, 1, xv⟩ : At)) = some 1) = true from hd1]
          have bc1 := bc0.keep hC1
          have bm1 := bm0.keep hC1
          have V1 := V0.trans (hC1.mono V0.size)
          obtain ⟨-, c01, c11, c21, c31, -⟩ := id bc1
          obtain ⟨-, m01, m11, m21, m31, -⟩ := id bm1
          clear c00 c10 c20 c30 m00 m10 m20 m30
          go_wp2_with fail
          go_region_held3 (fun W => W.cell? ⟨w1.heap.size, 2, none⟩ = some (.int .i64 xv)) (go_keep) (fail)
          all_goals
            go_wp2_with fail
            exact bodyPost_ret (v := .tuple #[.int .i64 3, .int .i64 xv]) (by simp [results, Try.results29, go_sem]) rfl ⟨rfl, V1.drew⟩
        · have hd1 : decide (Option.map At.k (some (⟨xn, xk, xv⟩ : At)) = some 1) = false := by simp [h1k]
          go_wp2_with fail
          refine (HI 1 _).mono ?_
          rintro e v1 ⟨rfl, hC1⟩
          rw [show decide (Option.map At.k (some (⟨xn, xk, xv⟩ : At)) = some 1) = false from hd1]
          have bc1 := bc0.keep hC1
          have bm1 := bm0.keep hC1
          have V1 := V0.trans (hC1.mono V0.size)
          obtain ⟨-, c01, c11, c21, c31, -⟩ := id bc1
          obtain ⟨-, m01, m11, m21, m31, -⟩ := id bm1
          clear c00 c10 c20 c30 m00 m10 m20 m30
          by_cases h2k : xk = 2
          · subst h2k
            obtain rfl : A = (3, xv) := by rw [HA2.out]; rfl
            have hd2 : decide (Option.map At.k (some (⟨xn, 2, xv⟩ : At)) = some 2) = true := by simp
            go_wp2_with fail
            refine (HI 2 _).mono ?_
            rintro e v2 ⟨rfl, hC2⟩
            rw [show decide (Option.map At.k (some (⟨xn, 2, xv⟩ : At)) = some 2) = true from hd2]
            have bc2 := bc1.keep hC2
            have bm2 := bm1.keep hC2
            have V2 := V1.trans (hC2.mono V1.size)
            obtain ⟨-, c02, c12, c22, c32, -⟩ := id bc2
            obtain ⟨-, m02, m12, m22, m32, -⟩ := id bm2
            clear c01 c11 c21 c31 m01 m11 m21 m31
            go_wp2_with fail
            go_region_held3 (fun W => W.cell? ⟨w1.heap.size, 2, none⟩ = some (.int .i64 xv)) (go_keep) (fail)
            all_goals
              go_wp2_with fail
              exact bodyPost_ret (v := .tuple #[.int .i64 3, .int .i64 xv]) (by simp [results, Try.results29, go_sem]) rfl ⟨rfl, V2.drew⟩
          · have hd2 : decide (Option.map At.k (some (⟨xn, xk, xv⟩ : At)) = some 2) = false := by simp [h2k]
            go_wp2_with fail
            refine (HI 2 _).mono ?_
            rintro e v2 ⟨rfl, hC2⟩
            rw [show decide (Option.map At.k (some (⟨xn, xk, xv⟩ : At)) = some 2) = false from hd2]
            have bc2 := bc1.keep hC2
            have bm2 := bm1.keep hC2
            have V2 := V1.trans (hC2.mono V1.size)
            obtain ⟨-, c02, c12, c22, c32, -⟩ := id bc2
            obtain ⟨-, m02, m12, m22, m32, -⟩ := id bm2
            clear c01 c11 c21 c31 m01 m11 m21 m31
            by_cases h0k : xk = 0
            · subst h0k
              obtain rfl : A = (2, xv) := by rw [HA2.out]; rfl
              have hd0 : decide (Option.map At.k (some (⟨xn, 0, xv⟩ : At)) = some 0) = true := by simp
              go_wp2_with fail
              refine (HI 0 _).mono ?_
              rintro e v3 ⟨rfl, hC3⟩
              rw [show decide (Option.map At.k (some (⟨xn, 0, xv⟩ : At)) = some 0) = true from hd0]
              have bc3 := bc2.keep hC3
              have bm3 := bm2.keep hC3
              have V3 := V2.trans (hC3.mono V2.size)
              obtain ⟨-, c03, c13, c23, c33, -⟩ := id bc3
              obtain ⟨-, m03, m13, m23, m33, -⟩ := id bm3
              clear c02 c12 c22 c32 m02 m12 m22 m32
              go_wp2_with fail
              go_region_held3 (fun W => W.cell? ⟨w1.heap.size, 2, none⟩ = some (.int .i64 xv)) (go_keep) (fail)
              all_goals
                go_wp2_with fail
                exact bodyPost_ret (v := .tuple #[.int .i64 2, .int .i64 xv]) (by simp [results, Try.results29, go_sem]) rfl ⟨rfl, V3.drew⟩
            · have hd0 : decide (Option.map At.k (some (⟨xn, xk, xv⟩ : At)) = some 0) = false := by simp [h0k]
              obtain rfl : A = (0, 0) := by rw [HA2.out]; simp [getO, h1k, h2k, h0k]
              go_wp2_with fail
              refine (HI 0 _).mono ?_
              rintro e v3 ⟨rfl, hC3⟩
              rw [show decide (Option.map At.k (some (⟨xn, xk, xv⟩ : At)) = some 0) = false from hd0]
              have bc3 := bc2.keep hC3
              have bm3 := bm2.keep hC3
              have V3 := V2.trans (hC3.mono V2.size)
              obtain ⟨-, c03, c13, c23, c33, -⟩ := id bc3
              obtain ⟨-, m03, m13, m23, m33, -⟩ := id bm3
              clear c02 c12 c22 c32 m02 m12 m22 m32
              go_wp2_with fail
              exact bodyPost_ret (v := .tuple #[.int .i64 0, .int .i64 0]) (by simp [results, Try.results29, go_sem]) rfl ⟨rfl, V3⟩
      · simp only [FdV, Option.isSome_some] at HT hnq ⊢
        have bA : Below w1.heap.size w1 (w1.alloc (.cells #[.string xn, .int .i64 xk, .int .i64 xv, .bool true] 78)) := (Below.refl _ w1).alloc (Nat.le_refl _) _
        have bB := Bx4.new w1 (.string xn) (.int .i64 xk) (.int .i64 xv) (.bool true) 78
        have VA := hB1.trans (bA.mono hB1.size)
        have ho2 := ho1.keep bA
        go_wp2_with fail
        refine (HT _ ho2).mono ?_
        rintro e w2 ⟨rfl, hB2⟩
        have bB2 := bB.keep hB2
        have VB := VA.trans (hB2.mono VA.size)
        have bC : Below w2.heap.size w2 (w2.alloc (.cells #[.string yn, .int .i64 yk, .int .i64 yv, .bool true] 78)) := (Below.refl _ w2).alloc (Nat.le_refl _) _
        have bm0 := Bx4.new w2 (.string yn) (.int .i64 yk) (.int .i64 yv) (.bool true) 78
        have bc0 := bB2.keep bC
        have V0 := VB.trans (bC.mono VB.size)
        obtain ⟨-, c00, c10, c20, c30, -⟩ := id bc0
        obtain ⟨-, m00, m10, m20, m30, -⟩ := id bm0
        clear bB bB2 bA VA VB hB2 ho1 ho2
        by_cases h1k : xk = 1
        · subst h1k
          obtain rfl : A = (3, xv) := by rw [HA2.out]; rfl
          have hd1 : decide (Option.map At.k (some (⟨xn, 1, xv⟩ : At)) = some 1) = true := by simp
          go_wp2_with fail
          refine (HI 1 _).mono ?_
          rintro e v1 ⟨rfl, hC1⟩
          rw [show decide (Option.map At.k (some (⟨xn, 1, xv⟩ : At)) = some 1) = true from hd1]
          have bc1 := bc0.keep hC1
          have bm1 := bm0.keep hC1
          have V1 := V0.trans (hC1.mono V0.size)
          obtain ⟨-, c01, c11, c21, c31, -⟩ := id bc1
          obtain ⟨-, m01, m11, m21, m31, -⟩ := id bm1
          clear c00 c10 c20 c30 m00 m10 m20 m30
          go_wp2_with fail
          go_region_held3 (fun W => W.cell? ⟨w1.heap.size, 2, none⟩ = some (.int .i64 xv)) (go_keep) (fail)
          all_goals
            go_wp2_with fail
            exact bodyPost_ret (v := .tuple #[.int .i64 3, .int .i64 xv]) (by simp [results, Try.results29, go_sem]) rfl ⟨rfl, V1.drew⟩
        · have hd1 : decide (Option.map At.k (some (⟨xn, xk, xv⟩ : At)) = some 1) = false := by simp [h1k]
          go_wp2_with fail
          refine (HI 1 _).mono ?_
          rintro e v1 ⟨rfl, hC1⟩
          rw [show decide (Option.map At.k (some (⟨xn, xk, xv⟩ : At)) = some 1) = false from hd1]
          have bc1 := bc0.keep hC1
          have bm1 := bm0.keep hC1
          have V1 := V0.trans (hC1.mono V0.size)
          obtain ⟨-, c01, c11, c21, c31, -⟩ := id bc1
          obtain ⟨-, m01, m11, m21, m31, -⟩ := id bm1
          clear c00 c10 c20 c30 m00 m10 m20 m30
          obtain rfl : A = (1, yv) := by rw [HA2.out]; exact if_neg h1k
          go_wp2_with fail
          go_region_held3 (fun W => W.cell? ⟨w2.heap.size, 2, none⟩ = some (.int .i64 yv)) (go_keep) (fail)
          all_goals
            go_wp2_with fail
            exact bodyPost_ret (v := .tuple #[.int .i64 1, .int .i64 yv]) (by simp [results, Try.results29, go_sem]) rfl ⟨rfl, V1.drew⟩
end Go.Proofs.Ytfbibbjiomfncaa
