import Derived.Test.YtfoofbcfcekleaaGreatDoorRuneB
import Derived.LoopN
namespace Go.Proofs.YtfoofbcfcekleaaGreatDoor
open Go.RowKit Go.Lib
set_option linter.unusedVariables false
set_option linter.unusedSimpArgs false

/-- The numbers of what was found, none where it is no text. -/
def ansL (o : Option (List Nat)) : List Int := (o.getD []).map fun (n : Nat) => (n : Int)
theorem wrap_id {a : Int} (h0 : 0 ≤ a) (h1 : a < 9223372036854775808) : IntKind.i64.wrap a = a := by
  simp [IntKind.wrap, IntKind.bits, IntKind.signed]; omega
theorem or64' {a b : Int} (h0 : 0 ≤ a) (h1 : a < 1000000000) (h2 : 0 ≤ b) (h3 : b < 64) : bits .or .i64 (a * 64) b = a * 64 + b := by
  obtain ⟨A, rfl⟩ := Int.eq_ofNat_of_zero_le h0
  obtain ⟨B, rfl⟩ := Int.eq_ofNat_of_zero_le h2
  rw [or64 A B (by omega) (by omega)]; omega
/-- What is known at a place: so many code points lie behind, the rest is still to come. -/
def At (s : ByteArray) (A : Option (List Nat)) (k : Nat) (P : List Nat) : Prop := A = (vgo s (s.size - k) k).map (P ++ ·) ∧ P.length ≤ k ∧ ∀ n ∈ P, n ≤ 1114111
theorem At.start (s : ByteArray) : At s (runesOf s) 0 [] := ⟨by unfold runesOf; simp, by simp, by simp⟩
theorem At.stop {s : ByteArray} {A : Option (List Nat)} {k : Nat} {P : List Nat} (h : At s A k P) (hk : ¬ k < s.size) : A = some P := by
  rw [h.1, vgo_end s _ k hk]; simp
theorem At.bad {s : ByteArray} {A : Option (List Nat)} {k : Nat} {P : List Nat} (h : At s A k P) (hk : k < s.size) (hb : (Utf8.decode s k).1 = 65533 ∧ (Utf8.decode s k).2 = 1) : A = none := by
  rw [h.1, vgo_bad hk hb]; rfl
theorem At.good {s : ByteArray} {A : Option (List Nat)} {k c m : Nat} {P : List Nat} (h : At s A k P) (hk : k < s.size) (hd : Utf8.decode s k = (c, m)) (hn : ¬ (c = 65533 ∧ m = 1)) (hm : 1 ≤ m) (hc : c ≤ 1114111) : At s A (k + m) (P ++ [c]) := by
  refine ⟨?_, by have := h.2.1; simp; omega, fun n hn => ?_⟩
  · rw [h.1, vgo_good hk hd hn]
    cases vgo s (s.size - (k + m)) (k + m) with
    | none => rfl
    | some r => simp
  · rcases List.mem_append.1 hn with h1 | h1
    · exact h.2.2 n h1
    · simp at h1; omega

set_option maxHeartbeats 8000000 in
set_option maxRecDepth 100000 in
theorem l3Runes_fit (s : ByteArray) (w : World) (hs : s.size ≤ 16384) :
    Calls Tryz.prog 18 #[.string s] w fun e w' => ∃ a c, e = .returned (.tuple #[.slice a (ansL (runesOf s)).length c, .bool (runesOf s).isSome]) ∧ Own w' w.heap.size (.slice a (ansL (runesOf s)).length c) (ansL (runesOf s)) ∧ Below w.heap.size w w' := by
  have hsz : ¬ (16384 : Int) < (s.size : Int) := by omega
  have HV0 : Hid (At s (runesOf s) 0 []) := At.start s
  generalize runesOf s = A at HV0 ⊢
  go_enter Tryz.func18, Tryz.ntmps18
  go_wp2
  go_loopw [4, 5] (fun o i wr => ∃ (k : Nat) (P : List Nat) (O : List Int) (ao : Option Addr) (co : Nat), k ≤ s.size ∧ i = .int .i64 k ∧ o = .slice ao O.length co ∧ O = P.map (fun (n : Nat) => (n : Int)) ∧ At s A k P ∧ Own wr w.heap.size (.slice ao O.length co) O ∧ Below w.heap.size w wr) (fun _ i _ => s.size - (intOf i).toNat)
  case atStart => exact ⟨0, [], [], _, _, by omega, rfl, rfl, rfl, HV0.out, Own.empty w, (Below.refl _ _).alloc (Nat.le_refl _) _⟩
  case round =>
    obtain ⟨k, P, O, ao, co, hk, rfl, rfl, hOe, HV1, hOw, hBr⟩ := hrel
    have HV : Hid (At s A k P) := HV1
    have hOl : O.length ≤ k := by rw [hOe]; have := HV1.2.1; simpa using this
    have HOe : Hid (O = P.map (fun (n : Nat) => (n : Int))) := hOe
    clear HV0 HV1 hOe
    by_cases hi : k < s.size
    · have hiz : (k : Int) < (s.size : Int) := by omega
      obtain ⟨x0, hx0⟩ : ∃ x0, s.get! (k) = x0 := ⟨_, rfl⟩
      have hs0 : s[k]'(by omega) = x0 := (get_at s (k) (by omega)).trans hx0
      have hl0 : x0.toNat < 256 := x0.toNat_lt
      obtain ⟨X0, hX0⟩ : ∃ X0 : Int, (x0.toNat : Int) = X0 := ⟨_, rfl⟩
      have hv0 : wrap64 X0 = X0 := by unfold wrap64; omega
      by_cases h0 : X0 < 128
      · have z1 : ¬ 240 ≤ X0 := by omega
        have z2 : ¬ 224 ≤ X0 := by omega
        have z3 : ¬ 192 ≤ X0 := by omega
        have z4 : ¬ 128 ≤ X0 := by omega
        have wa := wrap_id (a := (k : Int)) (by omega) (by omega)
        have hshz : ¬ (s.size : Int) ≤ (k : Int) := by omega
        have hdec := decode_1 (s := s) (i := k) (by rw [hx0]; omega)
        rw [hx0] at hdec
        obtain ⟨cN, hcN⟩ : ∃ cN : Nat, x0.toNat = cN := ⟨_, rfl⟩
        rw [hcN] at hdec
        have HcN : Hid ((cN : Int) = X0) := (by rw [← hcN]; exact hX0)
        have HG : Hid (At s A (k + 1) (P ++ [cN])) := HV.out.good hi hdec (by omega) (by omega) (by omega)
        have r1 : ¬ X0 < 0 := by omega
        have r2 : ¬ 1114111 < X0 := by omega
        have r3 : ¬ 55296 ≤ X0 := by omega
        have hA0 : 0 ≤ X0 := by omega
        have hA1 : X0 < 4294967296 := by omega
        clear HV hdec hcN
        try clear hCe
        try clear hC3
        try clear hC2
        try clear hC1
        try clear hC0
        try clear hD1
        try clear hD2
        try clear hD3
        try clear hr
        try clear hCl
        try clear hx0
        try clear hx1
        try clear hx2
        try clear hx3
        try clear hl0
        try clear hl1
        try clear hl2
        try clear hl3
        try clear hsh
        go_wp2
        refine wp_loop_rounds 1 ?_
        rw [rounds_succ]
        go_wp2_with (at_builtin; refine wpList_append_rd rfl _ _ 50 rfl Tryz.underlying50 w.heap.size _ _ O [X0] rfl rfl (hOw.alloc _) (Rd.one wr wr.heap.size rfl 2 hA0 hA1) (by simp; omega) (by have := hBr.size; simp; omega) ?_; intro a1 c1 w1 hO1 hB1)
        have hB2 := (hBr.alloc hBr.size (Obj.cells #[.int .i64 X0] 2)).trans hB1
        go_roundw
        case rel =>
          refine ⟨k + 1, P ++ [cN], O ++ [X0], a1, c1, by omega, by go_num, by simp, by simp [HOe.out, HcN.out], HG.out, hO1, hB2⟩
        case measure => first | (simp [intOf]; done) | (simp [intOf]; omega)
      · by_cases h1 : X0 < 192
        · have z0 : ¬ 240 ≤ X0 := by omega
          have z1 : ¬ 224 ≤ X0 := by omega
          have z2 : ¬ 192 ≤ X0 := by omega
          have z3 : 128 ≤ X0 := by omega
          have HB : A = none := HV.out.bad hi (decode_bad (by rw [hx0]; omega) (by rintro ⟨q0, -⟩; rw [hx0] at q0; omega) (by rintro ⟨q0, -⟩; rw [hx0] at q0; omega) (by rintro ⟨q0, -⟩; rw [hx0] at q0; omega))
          subst HB
          clear HV
          try clear hCe
          try clear hC3
          try clear hC2
          try clear hC1
          try clear hC0
          try clear hD1
          try clear hD2
          try clear hD3
          try clear hr
          try clear hCl
          try clear hx0
          try clear hx1
          try clear hx2
          try clear hx3
          try clear hl0
          try clear hl1
          try clear hl2
          try clear hl3
          try clear hsh
          go_wp2
          refine bodyPost_ret (v := .tuple #[.slice (some ⟨wr.heap.size, 0, none⟩) 0 0, .bool false]) (by simp [results, Tryz.results18, go_sem]) rfl ⟨some ⟨wr.heap.size, 0, none⟩, 0, rfl, (Own.empty wr).mono hBr.size, hBr.alloc hBr.size _⟩
        · by_cases h2 : X0 < 224
          · have z0 : ¬ 240 ≤ X0 := by omega
            have z1 : ¬ 224 ≤ X0 := by omega
            have z2 : 192 ≤ X0 := by omega
            have z3 : X0 < 224 := by omega
            have e0 := and31 x0.toNat (by omega)
            obtain ⟨C0, hC0⟩ : ∃ C0 : Int, ((x0.toNat % 32 : Nat) : Int) = C0 := ⟨_, rfl⟩
            rw [hC0, hX0] at e0
            have wa := wrap_id (a := (k : Int) + 1) (by omega) (by omega)
            by_cases hsh : k + 1 < s.size
            · have hshz : ¬ (s.size : Int) ≤ (k : Int) + 1 := by omega
              obtain ⟨x1, hx1⟩ : ∃ x1, s.get! (k + 1) = x1 := ⟨_, rfl⟩
              have hs1 : s[k + 1]'(by omega) = x1 := (get_at s (k + 1) (by omega)).trans hx1
              have hl1 : x1.toNat < 256 := x1.toNat_lt
              obtain ⟨X1, hX1⟩ : ∃ X1 : Int, (x1.toNat : Int) = X1 := ⟨_, rfl⟩
              have hv1 : wrap64 X1 = X1 := by unfold wrap64; omega
              by_cases hc1 : 128 ≤ X1 ∧ X1 < 192
              · skip
                have y1 : ¬ X1 < 128 := by omega
                have y1' : ¬ 192 ≤ X1 := by omega
                have wb1 := wrap_id (a := (k : Int) + 1) (by omega) (by omega)
                have f1 := and63 x1.toNat (by omega)
                obtain ⟨D1, hD1⟩ : ∃ D1 : Int, ((x1.toNat % 64 : Nat) : Int) = D1 := ⟨_, rfl⟩
                rw [hD1, hX1] at f1
                have ws1 := wrap_id (a := C0 * 64) (by omega) (by omega)
                have o1 := or64' (a := C0) (b := D1) (by omega) (by omega) (by omega) (by omega)
                obtain ⟨C1, hC1⟩ : ∃ C1 : Int, C0 * 64 + D1 = C1 := ⟨_, rfl⟩
                rw [hC1] at o1
                have hCe : ((x0.toNat % 32 * 64 + x1.toNat % 64 : Nat) : Int) = C1 := by omega
                have hCl : x0.toNat % 32 * 64 + x1.toNat % 64 ≤ 2097151 := by omega
                by_cases hr1 : C1 < 128
                · have r1 : C1 < 128 := by omega
                  have HB : A = none := HV.out.bad hi (decode_bad (by rw [hx0]; omega) (by rintro ⟨q0, q1, qc⟩; rw [hx0, hx1] at qc; omega) (by rintro ⟨q0, -⟩; rw [hx0] at q0; omega) (by rintro ⟨q0, -⟩; rw [hx0] at q0; omega))
                  subst HB
                  clear HV
                  try clear hCe
                  try clear hC3
                  try clear hC2
                  try clear hC1
                  try clear hC0
                  try clear hD1
                  try clear hD2
                  try clear hD3
                  try clear hr
                  try clear hCl
                  try clear hx0
                  try clear hx1
                  try clear hx2
                  try clear hx3
                  try clear hl0
                  try clear hl1
                  try clear hl2
                  try clear hl3
                  try clear hsh
                  go_wp2
                  refine wp_loop_rounds 2 ?_
                  rw [rounds_succ]
                  go_wp2
                  rw [rounds_succ]
                  go_wp2
                  refine bodyPost_ret (v := .tuple #[.slice (some ⟨wr.heap.size, 0, none⟩) 0 0, .bool false]) (by simp [results, Tryz.results18, go_sem]) rfl ⟨some ⟨wr.heap.size, 0, none⟩, 0, rfl, (Own.empty wr).mono hBr.size, hBr.alloc hBr.size _⟩
                · by_cases hr2 : 1114111 < C1
                  · have r1 : ¬ C1 < 128 := by omega
                    have r2 : 1114111 < C1 := by omega
                    have HB : A = none := HV.out.bad hi (decode_bad (by rw [hx0]; omega) (by rintro ⟨q0, q1, qc⟩; rw [hx0, hx1] at qc; omega) (by rintro ⟨q0, -⟩; rw [hx0] at q0; omega) (by rintro ⟨q0, -⟩; rw [hx0] at q0; omega))
                    subst HB
                    clear HV
                    try clear hCe
                    try clear hC3
                    try clear hC2
                    try clear hC1
                    try clear hC0
                    try clear hD1
                    try clear hD2
                    try clear hD3
                    try clear hr
                    try clear hCl
                    try clear hx0
                    try clear hx1
                    try clear hx2
                    try clear hx3
                    try clear hl0
                    try clear hl1
                    try clear hl2
                    try clear hl3
                    try clear hsh
                    go_wp2
                    refine wp_loop_rounds 2 ?_
                    rw [rounds_succ]
                    go_wp2
                    rw [rounds_succ]
                    go_wp2
                    refine bodyPost_ret (v := .tuple #[.slice (some ⟨wr.heap.size, 0, none⟩) 0 0, .bool false]) (by simp [results, Tryz.results18, go_sem]) rfl ⟨some ⟨wr.heap.size, 0, none⟩, 0, rfl, (Own.empty wr).mono hBr.size, hBr.alloc hBr.size _⟩
                  · by_cases hr3 : 55296 ≤ C1
                    · by_cases hr4 : C1 < 57344
                      · have r1 : ¬ C1 < 128 := by omega
                        have r2 : ¬ 1114111 < C1 := by omega
                        have HB : A = none := HV.out.bad hi (decode_bad (by rw [hx0]; omega) (by rintro ⟨q0, q1, qc⟩; rw [hx0, hx1] at qc; omega) (by rintro ⟨q0, -⟩; rw [hx0] at q0; omega) (by rintro ⟨q0, -⟩; rw [hx0] at q0; omega))
                        subst HB
                        clear HV
                        try clear hCe
                        try clear hC3
                        try clear hC2
                        try clear hC1
                        try clear hC0
                        try clear hD1
                        try clear hD2
                        try clear hD3
                        try clear hr
                        try clear hCl
                        try clear hx0
                        try clear hx1
                        try clear hx2
                        try clear hx3
                        try clear hl0
                        try clear hl1
                        try clear hl2
                        try clear hl3
                        try clear hsh
                        go_wp2
                        refine wp_loop_rounds 2 ?_
                        rw [rounds_succ]
                        go_wp2
                        rw [rounds_succ]
                        go_wp2
                        refine bodyPost_ret (v := .tuple #[.slice (some ⟨wr.heap.size, 0, none⟩) 0 0, .bool false]) (by simp [results, Tryz.results18, go_sem]) rfl ⟨some ⟨wr.heap.size, 0, none⟩, 0, rfl, (Own.empty wr).mono hBr.size, hBr.alloc hBr.size _⟩
                      · have r1 : ¬ C1 < 128 := by omega
                        have r2 : ¬ 1114111 < C1 := by omega
                        have hdec := decode_2 (by rw [hx0]; omega) ⟨by omega, by rw [hx1]; omega⟩ (by rw [hx0, hx1]; omega)
                        rw [hx0, hx1] at hdec
                        obtain ⟨cN, hcN⟩ : ∃ cN : Nat, x0.toNat % 32 * 64 + x1.toNat % 64 = cN := ⟨_, rfl⟩
                        rw [hcN] at hdec hCe hCl
                        have HcN : Hid ((cN : Int) = C1) := hCe
                        have HG : Hid (At s A (k + 2) (P ++ [cN])) := HV.out.good hi hdec (by omega) (by omega) (by omega)
                        have hA0 : 0 ≤ C1 := by omega
                        have hA1 : C1 < 4294967296 := by omega
                        clear HV hdec hcN
                        try clear hCe
                        try clear hC3
                        try clear hC2
                        try clear hC1
                        try clear hC0
                        try clear hD1
                        try clear hD2
                        try clear hD3
                        try clear hr
                        try clear hCl
                        try clear hx0
                        try clear hx1
                        try clear hx2
                        try clear hx3
                        try clear hl0
                        try clear hl1
                        try clear hl2
                        try clear hl3
                        try clear hsh
                        go_wp2
                        refine wp_loop_rounds 2 ?_
                        rw [rounds_succ]
                        go_wp2
                        rw [rounds_succ]
                        go_wp2_with (at_builtin; refine wpList_append_rd rfl _ _ 50 rfl Tryz.underlying50 w.heap.size _ _ O [C1] rfl rfl (hOw.alloc _) (Rd.one wr wr.heap.size rfl 2 hA0 hA1) (by simp; omega) (by have := hBr.size; simp; omega) ?_; intro a1 c1 w1 hO1 hB1)
                        have hB2 := (hBr.alloc hBr.size (Obj.cells #[.int .i64 C1] 2)).trans hB1
                        go_roundw
                        case rel =>
                          refine ⟨k + 2, P ++ [cN], O ++ [C1], a1, c1, by omega, by go_num, by simp, by simp [HOe.out, HcN.out], HG.out, hO1, hB2⟩
                        case measure => first | (simp [intOf]; done) | (simp [intOf]; omega)
                    · have r1 : ¬ C1 < 128 := by omega
                      have r2 : ¬ 1114111 < C1 := by omega
                      have hdec := decode_2 (by rw [hx0]; omega) ⟨by omega, by rw [hx1]; omega⟩ (by rw [hx0, hx1]; omega)
                      rw [hx0, hx1] at hdec
                      obtain ⟨cN, hcN⟩ : ∃ cN : Nat, x0.toNat % 32 * 64 + x1.toNat % 64 = cN := ⟨_, rfl⟩
                      rw [hcN] at hdec hCe hCl
                      have HcN : Hid ((cN : Int) = C1) := hCe
                      have HG : Hid (At s A (k + 2) (P ++ [cN])) := HV.out.good hi hdec (by omega) (by omega) (by omega)
                      have hA0 : 0 ≤ C1 := by omega
                      have hA1 : C1 < 4294967296 := by omega
                      clear HV hdec hcN
                      try clear hCe
                      try clear hC3
                      try clear hC2
                      try clear hC1
                      try clear hC0
                      try clear hD1
                      try clear hD2
                      try clear hD3
                      try clear hr
                      try clear hCl
                      try clear hx0
                      try clear hx1
                      try clear hx2
                      try clear hx3
                      try clear hl0
                      try clear hl1
                      try clear hl2
                      try clear hl3
                      try clear hsh
                      go_wp2
                      refine wp_loop_rounds 2 ?_
                      rw [rounds_succ]
                      go_wp2
                      rw [rounds_succ]
                      go_wp2_with (at_builtin; refine wpList_append_rd rfl _ _ 50 rfl Tryz.underlying50 w.heap.size _ _ O [C1] rfl rfl (hOw.alloc _) (Rd.one wr wr.heap.size rfl 2 hA0 hA1) (by simp; omega) (by have := hBr.size; simp; omega) ?_; intro a1 c1 w1 hO1 hB1)
                      have hB2 := (hBr.alloc hBr.size (Obj.cells #[.int .i64 C1] 2)).trans hB1
                      go_roundw
                      case rel =>
                        refine ⟨k + 2, P ++ [cN], O ++ [C1], a1, c1, by omega, by go_num, by simp, by simp [HOe.out, HcN.out], HG.out, hO1, hB2⟩
                      case measure => first | (simp [intOf]; done) | (simp [intOf]; omega)
              · have wb1 := wrap_id (a := (k : Int) + 1) (by omega) (by omega)
                have HB : A = none := HV.out.bad hi (decode_bad (by rw [hx0]; omega) (by rintro ⟨q0, q1, qc⟩; have h9 := q1.2; rw [hx1] at h9; omega) (by rintro ⟨q0, -⟩; rw [hx0] at q0; omega) (by rintro ⟨q0, -⟩; rw [hx0] at q0; omega))
                subst HB
                clear HV
                by_cases y1 : X1 < 128
                · clear hc1
                  try clear hCe
                  try clear hC3
                  try clear hC2
                  try clear hC1
                  try clear hC0
                  try clear hD1
                  try clear hD2
                  try clear hD3
                  try clear hr
                  try clear hCl
                  try clear hx0
                  try clear hx1
                  try clear hx2
                  try clear hx3
                  try clear hl0
                  try clear hl1
                  try clear hl2
                  try clear hl3
                  try clear hsh
                  go_wp2
                  refine wp_loop_rounds 1 ?_
                  rw [rounds_succ]
                  go_wp2
                  refine bodyPost_ret (v := .tuple #[.slice (some ⟨wr.heap.size, 0, none⟩) 0 0, .bool false]) (by simp [results, Tryz.results18, go_sem]) rfl ⟨some ⟨wr.heap.size, 0, none⟩, 0, rfl, (Own.empty wr).mono hBr.size, hBr.alloc hBr.size _⟩
                · have y1' : 192 ≤ X1 := by omega
                  clear hc1
                  try clear hCe
                  try clear hC3
                  try clear hC2
                  try clear hC1
                  try clear hC0
                  try clear hD1
                  try clear hD2
                  try clear hD3
                  try clear hr
                  try clear hCl
                  try clear hx0
                  try clear hx1
                  try clear hx2
                  try clear hx3
                  try clear hl0
                  try clear hl1
                  try clear hl2
                  try clear hl3
                  try clear hsh
                  go_wp2
                  refine wp_loop_rounds 1 ?_
                  rw [rounds_succ]
                  go_wp2
                  refine bodyPost_ret (v := .tuple #[.slice (some ⟨wr.heap.size, 0, none⟩) 0 0, .bool false]) (by simp [results, Tryz.results18, go_sem]) rfl ⟨some ⟨wr.heap.size, 0, none⟩, 0, rfl, (Own.empty wr).mono hBr.size, hBr.alloc hBr.size _⟩
            · have hshz : (s.size : Int) ≤ (k : Int) + 1 := by omega
              have HB : A = none := HV.out.bad hi (decode_bad (by rw [hx0]; omega) (by rintro ⟨q0, q1, qc⟩; have h9 := q1.1; omega) (by rintro ⟨q0, -⟩; rw [hx0] at q0; omega) (by rintro ⟨q0, -⟩; rw [hx0] at q0; omega))
              subst HB
              clear HV
              try clear hCe
              try clear hC3
              try clear hC2
              try clear hC1
              try clear hC0
              try clear hD1
              try clear hD2
              try clear hD3
              try clear hr
              try clear hCl
              try clear hx0
              try clear hx1
              try clear hx2
              try clear hx3
              try clear hl0
              try clear hl1
              try clear hl2
              try clear hl3
              try clear hsh
              go_wp2
              refine bodyPost_ret (v := .tuple #[.slice (some ⟨wr.heap.size, 0, none⟩) 0 0, .bool false]) (by simp [results, Tryz.results18, go_sem]) rfl ⟨some ⟨wr.heap.size, 0, none⟩, 0, rfl, (Own.empty wr).mono hBr.size, hBr.alloc hBr.size _⟩
          · by_cases h3 : X0 < 240
            · have z0 : ¬ 240 ≤ X0 := by omega
              have z1 : 224 ≤ X0 := by omega
              have z2 : X0 < 240 := by omega
              have e0 := and15 x0.toNat (by omega)
              obtain ⟨C0, hC0⟩ : ∃ C0 : Int, ((x0.toNat % 16 : Nat) : Int) = C0 := ⟨_, rfl⟩
              rw [hC0, hX0] at e0
              have wa := wrap_id (a := (k : Int) + 2) (by omega) (by omega)
              by_cases hsh : k + 2 < s.size
              · have hshz : ¬ (s.size : Int) ≤ (k : Int) + 2 := by omega
                obtain ⟨x1, hx1⟩ : ∃ x1, s.get! (k + 1) = x1 := ⟨_, rfl⟩
                have hs1 : s[k + 1]'(by omega) = x1 := (get_at s (k + 1) (by omega)).trans hx1
                have hl1 : x1.toNat < 256 := x1.toNat_lt
                obtain ⟨X1, hX1⟩ : ∃ X1 : Int, (x1.toNat : Int) = X1 := ⟨_, rfl⟩
                have hv1 : wrap64 X1 = X1 := by unfold wrap64; omega
                by_cases hc1 : 128 ≤ X1 ∧ X1 < 192
                · skip
                  have y1 : ¬ X1 < 128 := by omega
                  have y1' : ¬ 192 ≤ X1 := by omega
                  have wb1 := wrap_id (a := (k : Int) + 1) (by omega) (by omega)
                  have f1 := and63 x1.toNat (by omega)
                  obtain ⟨D1, hD1⟩ : ∃ D1 : Int, ((x1.toNat % 64 : Nat) : Int) = D1 := ⟨_, rfl⟩
                  rw [hD1, hX1] at f1
                  have ws1 := wrap_id (a := C0 * 64) (by omega) (by omega)
                  have o1 := or64' (a := C0) (b := D1) (by omega) (by omega) (by omega) (by omega)
                  obtain ⟨C1, hC1⟩ : ∃ C1 : Int, C0 * 64 + D1 = C1 := ⟨_, rfl⟩
                  rw [hC1] at o1
                  obtain ⟨x2, hx2⟩ : ∃ x2, s.get! (k + 2) = x2 := ⟨_, rfl⟩
                  have hs2 : s[k + 2]'(by omega) = x2 := (get_at s (k + 2) (by omega)).trans hx2
                  have hl2 : x2.toNat < 256 := x2.toNat_lt
                  obtain ⟨X2, hX2⟩ : ∃ X2 : Int, (x2.toNat : Int) = X2 := ⟨_, rfl⟩
                  have hv2 : wrap64 X2 = X2 := by unfold wrap64; omega
                  by_cases hc2 : 128 ≤ X2 ∧ X2 < 192
                  · skip
                    have y2 : ¬ X2 < 128 := by omega
                    have y2' : ¬ 192 ≤ X2 := by omega
                    have wb2 := wrap_id (a := (k : Int) + 2) (by omega) (by omega)
                    have f2 := and63 x2.toNat (by omega)
                    obtain ⟨D2, hD2⟩ : ∃ D2 : Int, ((x2.toNat % 64 : Nat) : Int) = D2 := ⟨_, rfl⟩
                    rw [hD2, hX2] at f2
                    have ws2 := wrap_id (a := C1 * 64) (by omega) (by omega)
                    have o2 := or64' (a := C1) (b := D2) (by omega) (by omega) (by omega) (by omega)
                    obtain ⟨C2, hC2⟩ : ∃ C2 : Int, C1 * 64 + D2 = C2 := ⟨_, rfl⟩
                    rw [hC2] at o2
                    have hCe : ((x0.toNat % 16 * 4096 + x1.toNat % 64 * 64 + x2.toNat % 64 : Nat) : Int) = C2 := by omega
                    have hCl : x0.toNat % 16 * 4096 + x1.toNat % 64 * 64 + x2.toNat % 64 ≤ 2097151 := by omega
                    by_cases hr1 : C2 < 2048
                    · have r1 : C2 < 2048 := by omega
                      have HB : A = none := HV.out.bad hi (decode_bad (by rw [hx0]; omega) (by rintro ⟨q0, -⟩; rw [hx0] at q0; omega) (by rintro ⟨q0, q1, q2, qc, qv⟩; rw [hx0, hx1, hx2] at qc; rw [hx0, hx1, hx2] at qv; have qv' := (valid_iff _ hCl).1 qv; omega) (by rintro ⟨q0, -⟩; rw [hx0] at q0; omega))
                      subst HB
                      clear HV
                      try clear hCe
                      try clear hC3
                      try clear hC2
                      try clear hC1
                      try clear hC0
                      try clear hD1
                      try clear hD2
                      try clear hD3
                      try clear hr
                      try clear hCl
                      try clear hx0
                      try clear hx1
                      try clear hx2
                      try clear hx3
                      try clear hl0
                      try clear hl1
                      try clear hl2
                      try clear hl3
                      try clear hsh
                      go_wp2
                      refine wp_loop_rounds 3 ?_
                      rw [rounds_succ]
                      go_wp2
                      rw [rounds_succ]
                      go_wp2
                      rw [rounds_succ]
                      go_wp2
                      refine bodyPost_ret (v := .tuple #[.slice (some ⟨wr.heap.size, 0, none⟩) 0 0, .bool false]) (by simp [results, Tryz.results18, go_sem]) rfl ⟨some ⟨wr.heap.size, 0, none⟩, 0, rfl, (Own.empty wr).mono hBr.size, hBr.alloc hBr.size _⟩
                    · by_cases hr2 : 1114111 < C2
                      · have r1 : ¬ C2 < 2048 := by omega
                        have r2 : 1114111 < C2 := by omega
                        have HB : A = none := HV.out.bad hi (decode_bad (by rw [hx0]; omega) (by rintro ⟨q0, -⟩; rw [hx0] at q0; omega) (by rintro ⟨q0, q1, q2, qc, qv⟩; rw [hx0, hx1, hx2] at qc; rw [hx0, hx1, hx2] at qv; have qv' := (valid_iff _ hCl).1 qv; omega) (by rintro ⟨q0, -⟩; rw [hx0] at q0; omega))
                        subst HB
                        clear HV
                        try clear hCe
                        try clear hC3
                        try clear hC2
                        try clear hC1
                        try clear hC0
                        try clear hD1
                        try clear hD2
                        try clear hD3
                        try clear hr
                        try clear hCl
                        try clear hx0
                        try clear hx1
                        try clear hx2
                        try clear hx3
                        try clear hl0
                        try clear hl1
                        try clear hl2
                        try clear hl3
                        try clear hsh
                        go_wp2
                        refine wp_loop_rounds 3 ?_
                        rw [rounds_succ]
                        go_wp2
                        rw [rounds_succ]
                        go_wp2
                        rw [rounds_succ]
                        go_wp2
                        refine bodyPost_ret (v := .tuple #[.slice (some ⟨wr.heap.size, 0, none⟩) 0 0, .bool false]) (by simp [results, Tryz.results18, go_sem]) rfl ⟨some ⟨wr.heap.size, 0, none⟩, 0, rfl, (Own.empty wr).mono hBr.size, hBr.alloc hBr.size _⟩
                      · by_cases hr3 : 55296 ≤ C2
                        · by_cases hr4 : C2 < 57344
                          · have r1 : ¬ C2 < 2048 := by omega
                            have r2 : ¬ 1114111 < C2 := by omega
                            have HB : A = none := HV.out.bad hi (decode_bad (by rw [hx0]; omega) (by rintro ⟨q0, -⟩; rw [hx0] at q0; omega) (by rintro ⟨q0, q1, q2, qc, qv⟩; rw [hx0, hx1, hx2] at qc; rw [hx0, hx1, hx2] at qv; have qv' := (valid_iff _ hCl).1 qv; omega) (by rintro ⟨q0, -⟩; rw [hx0] at q0; omega))
                            subst HB
                            clear HV
                            try clear hCe
                            try clear hC3
                            try clear hC2
                            try clear hC1
                            try clear hC0
                            try clear hD1
                            try clear hD2
                            try clear hD3
                            try clear hr
                            try clear hCl
                            try clear hx0
                            try clear hx1
                            try clear hx2
                            try clear hx3
                            try clear hl0
                            try clear hl1
                            try clear hl2
                            try clear hl3
                            try clear hsh
                            go_wp2
                            refine wp_loop_rounds 3 ?_
                            rw [rounds_succ]
                            go_wp2
                            rw [rounds_succ]
                            go_wp2
                            rw [rounds_succ]
                            go_wp2
                            refine bodyPost_ret (v := .tuple #[.slice (some ⟨wr.heap.size, 0, none⟩) 0 0, .bool false]) (by simp [results, Tryz.results18, go_sem]) rfl ⟨some ⟨wr.heap.size, 0, none⟩, 0, rfl, (Own.empty wr).mono hBr.size, hBr.alloc hBr.size _⟩
                          · have r1 : ¬ C2 < 2048 := by omega
                            have r2 : ¬ 1114111 < C2 := by omega
                            have hdec := decode_3 (by rw [hx0]; omega) ⟨by omega, by rw [hx1]; omega⟩ ⟨by omega, by rw [hx2]; omega⟩ (by rw [hx0, hx1, hx2]; omega) (by rw [hx0, hx1, hx2]; exact (valid_iff _ hCl).2 (by omega))
                            rw [hx0, hx1, hx2] at hdec
                            obtain ⟨cN, hcN⟩ : ∃ cN : Nat, x0.toNat % 16 * 4096 + x1.toNat % 64 * 64 + x2.toNat % 64 = cN := ⟨_, rfl⟩
                            rw [hcN] at hdec hCe hCl
                            have HcN : Hid ((cN : Int) = C2) := hCe
                            have HG : Hid (At s A (k + 3) (P ++ [cN])) := HV.out.good hi hdec (by omega) (by omega) (by omega)
                            have hA0 : 0 ≤ C2 := by omega
                            have hA1 : C2 < 4294967296 := by omega
                            clear HV hdec hcN
                            try clear hCe
                            try clear hC3
                            try clear hC2
                            try clear hC1
                            try clear hC0
                            try clear hD1
                            try clear hD2
                            try clear hD3
                            try clear hr
                            try clear hCl
                            try clear hx0
                            try clear hx1
                            try clear hx2
                            try clear hx3
                            try clear hl0
                            try clear hl1
                            try clear hl2
                            try clear hl3
                            try clear hsh
                            go_wp2
                            refine wp_loop_rounds 3 ?_
                            rw [rounds_succ]
                            go_wp2
                            rw [rounds_succ]
                            go_wp2
                            rw [rounds_succ]
                            go_wp2_with (at_builtin; refine wpList_append_rd rfl _ _ 50 rfl Tryz.underlying50 w.heap.size _ _ O [C2] rfl rfl (hOw.alloc _) (Rd.one wr wr.heap.size rfl 2 hA0 hA1) (by simp; omega) (by have := hBr.size; simp; omega) ?_; intro a1 c1 w1 hO1 hB1)
                            have hB2 := (hBr.alloc hBr.size (Obj.cells #[.int .i64 C2] 2)).trans hB1
                            go_roundw
                            case rel =>
                              refine ⟨k + 3, P ++ [cN], O ++ [C2], a1, c1, by omega, by go_num, by simp, by simp [HOe.out, HcN.out], HG.out, hO1, hB2⟩
                            case measure => first | (simp [intOf]; done) | (simp [intOf]; omega)
                        · have r1 : ¬ C2 < 2048 := by omega
                          have r2 : ¬ 1114111 < C2 := by omega
                          have hdec := decode_3 (by rw [hx0]; omega) ⟨by omega, by rw [hx1]; omega⟩ ⟨by omega, by rw [hx2]; omega⟩ (by rw [hx0, hx1, hx2]; omega) (by rw [hx0, hx1, hx2]; exact (valid_iff _ hCl).2 (by omega))
                          rw [hx0, hx1, hx2] at hdec
                          obtain ⟨cN, hcN⟩ : ∃ cN : Nat, x0.toNat % 16 * 4096 + x1.toNat % 64 * 64 + x2.toNat % 64 = cN := ⟨_, rfl⟩
                          rw [hcN] at hdec hCe hCl
                          have HcN : Hid ((cN : Int) = C2) := hCe
                          have HG : Hid (At s A (k + 3) (P ++ [cN])) := HV.out.good hi hdec (by omega) (by omega) (by omega)
                          have hA0 : 0 ≤ C2 := by omega
                          have hA1 : C2 < 4294967296 := by omega
                          clear HV hdec hcN
                          try clear hCe
                          try clear hC3
                          try clear hC2
                          try clear hC1
                          try clear hC0
                          try clear hD1
                          try clear hD2
                          try clear hD3
                          try clear hr
                          try clear hCl
                          try clear hx0
                          try clear hx1
                          try clear hx2
                          try clear hx3
                          try clear hl0
                          try clear hl1
                          try clear hl2
                          try clear hl3
                          try clear hsh
                          go_wp2
                          refine wp_loop_rounds 3 ?_
                          rw [rounds_succ]
                          go_wp2
                          rw [rounds_succ]
                          go_wp2
                          rw [rounds_succ]
                          go_wp2_with (at_builtin; refine wpList_append_rd rfl _ _ 50 rfl Tryz.underlying50 w.heap.size _ _ O [C2] rfl rfl (hOw.alloc _) (Rd.one wr wr.heap.size rfl 2 hA0 hA1) (by simp; omega) (by have := hBr.size; simp; omega) ?_; intro a1 c1 w1 hO1 hB1)
                          have hB2 := (hBr.alloc hBr.size (Obj.cells #[.int .i64 C2] 2)).trans hB1
                          go_roundw
                          case rel =>
                            refine ⟨k + 3, P ++ [cN], O ++ [C2], a1, c1, by omega, by go_num, by simp, by simp [HOe.out, HcN.out], HG.out, hO1, hB2⟩
                          case measure => first | (simp [intOf]; done) | (simp [intOf]; omega)
                  · have wb2 := wrap_id (a := (k : Int) + 2) (by omega) (by omega)
                    have HB : A = none := HV.out.bad hi (decode_bad (by rw [hx0]; omega) (by rintro ⟨q0, -⟩; rw [hx0] at q0; omega) (by rintro ⟨q0, q1, q2, qc, qv⟩; have h9 := q2.2; rw [hx2] at h9; omega) (by rintro ⟨q0, -⟩; rw [hx0] at q0; omega))
                    subst HB
                    clear HV
                    by_cases y2 : X2 < 128
                    · clear hc2
                      try clear hCe
                      try clear hC3
                      try clear hC2
                      try clear hC1
                      try clear hC0
                      try clear hD1
                      try clear hD2
                      try clear hD3
                      try clear hr
                      try clear hCl
                      try clear hx0
                      try clear hx1
                      try clear hx2
                      try clear hx3
                      try clear hl0
                      try clear hl1
                      try clear hl2
                      try clear hl3
                      try clear hsh
                      go_wp2
                      refine wp_loop_rounds 2 ?_
                      rw [rounds_succ]
                      go_wp2
                      rw [rounds_succ]
                      go_wp2
                      refine bodyPost_ret (v := .tuple #[.slice (some ⟨wr.heap.size, 0, none⟩) 0 0, .bool false]) (by simp [results, Tryz.results18, go_sem]) rfl ⟨some ⟨wr.heap.size, 0, none⟩, 0, rfl, (Own.empty wr).mono hBr.size, hBr.alloc hBr.size _⟩
                    · have y2' : 192 ≤ X2 := by omega
                      clear hc2
                      try clear hCe
                      try clear hC3
                      try clear hC2
                      try clear hC1
                      try clear hC0
                      try clear hD1
                      try clear hD2
                      try clear hD3
                      try clear hr
                      try clear hCl
                      try clear hx0
                      try clear hx1
                      try clear hx2
                      try clear hx3
                      try clear hl0
                      try clear hl1
                      try clear hl2
                      try clear hl3
                      try clear hsh
                      go_wp2
                      refine wp_loop_rounds 2 ?_
                      rw [rounds_succ]
                      go_wp2
                      rw [rounds_succ]
                      go_wp2
                      refine bodyPost_ret (v := .tuple #[.slice (some ⟨wr.heap.size, 0, none⟩) 0 0, .bool false]) (by simp [results, Tryz.results18, go_sem]) rfl ⟨some ⟨wr.heap.size, 0, none⟩, 0, rfl, (Own.empty wr).mono hBr.size, hBr.alloc hBr.size _⟩
                · have wb1 := wrap_id (a := (k : Int) + 1) (by omega) (by omega)
                  have HB : A = none := HV.out.bad hi (decode_bad (by rw [hx0]; omega) (by rintro ⟨q0, -⟩; rw [hx0] at q0; omega) (by rintro ⟨q0, q1, q2, qc, qv⟩; have h9 := q1.2; rw [hx1] at h9; omega) (by rintro ⟨q0, -⟩; rw [hx0] at q0; omega))
                  subst HB
                  clear HV
                  by_cases y1 : X1 < 128
                  · clear hc1
                    try clear hCe
                    try clear hC3
                    try clear hC2
                    try clear hC1
                    try clear hC0
                    try clear hD1
                    try clear hD2
                    try clear hD3
                    try clear hr
                    try clear hCl
                    try clear hx0
                    try clear hx1
                    try clear hx2
                    try clear hx3
                    try clear hl0
                    try clear hl1
                    try clear hl2
                    try clear hl3
                    try clear hsh
                    go_wp2
                    refine wp_loop_rounds 1 ?_
                    rw [rounds_succ]
                    go_wp2
                    refine bodyPost_ret (v := .tuple #[.slice (some ⟨wr.heap.size, 0, none⟩) 0 0, .bool false]) (by simp [results, Tryz.results18, go_sem]) rfl ⟨some ⟨wr.heap.size, 0, none⟩, 0, rfl, (Own.empty wr).mono hBr.size, hBr.alloc hBr.size _⟩
                  · have y1' : 192 ≤ X1 := by omega
                    clear hc1
                    try clear hCe
                    try clear hC3
                    try clear hC2
                    try clear hC1
                    try clear hC0
                    try clear hD1
                    try clear hD2
                    try clear hD3
                    try clear hr
                    try clear hCl
                    try clear hx0
                    try clear hx1
                    try clear hx2
                    try clear hx3
                    try clear hl0
                    try clear hl1
                    try clear hl2
                    try clear hl3
                    try clear hsh
                    go_wp2
                    refine wp_loop_rounds 1 ?_
                    rw [rounds_succ]
                    go_wp2
                    refine bodyPost_ret (v := .tuple #[.slice (some ⟨wr.heap.size, 0, none⟩) 0 0, .bool false]) (by simp [results, Tryz.results18, go_sem]) rfl ⟨some ⟨wr.heap.size, 0, none⟩, 0, rfl, (Own.empty wr).mono hBr.size, hBr.alloc hBr.size _⟩
              · have hshz : (s.size : Int) ≤ (k : Int) + 2 := by omega
                have HB : A = none := HV.out.bad hi (decode_bad (by rw [hx0]; omega) (by rintro ⟨q0, -⟩; rw [hx0] at q0; omega) (by rintro ⟨q0, q1, q2, qc, qv⟩; have h9 := q2.1; omega) (by rintro ⟨q0, -⟩; rw [hx0] at q0; omega))
                subst HB
                clear HV
                try clear hCe
                try clear hC3
                try clear hC2
                try clear hC1
                try clear hC0
                try clear hD1
                try clear hD2
                try clear hD3
                try clear hr
                try clear hCl
                try clear hx0
                try clear hx1
                try clear hx2
                try clear hx3
                try clear hl0
                try clear hl1
                try clear hl2
                try clear hl3
                try clear hsh
                go_wp2
                refine bodyPost_ret (v := .tuple #[.slice (some ⟨wr.heap.size, 0, none⟩) 0 0, .bool false]) (by simp [results, Tryz.results18, go_sem]) rfl ⟨some ⟨wr.heap.size, 0, none⟩, 0, rfl, (Own.empty wr).mono hBr.size, hBr.alloc hBr.size _⟩
            · by_cases h4 : X0 < 248
              · have z0 : 240 ≤ X0 := by omega
                have z1 : X0 < 248 := by omega
                have e0 := and7 x0.toNat (by omega)
                obtain ⟨C0, hC0⟩ : ∃ C0 : Int, ((x0.toNat % 8 : Nat) : Int) = C0 := ⟨_, rfl⟩
                rw [hC0, hX0] at e0
                have wa := wrap_id (a := (k : Int) + 3) (by omega) (by omega)
                by_cases hsh : k + 3 < s.size
                · have hshz : ¬ (s.size : Int) ≤ (k : Int) + 3 := by omega
                  obtain ⟨x1, hx1⟩ : ∃ x1, s.get! (k + 1) = x1 := ⟨_, rfl⟩
                  have hs1 : s[k + 1]'(by omega) = x1 := (get_at s (k + 1) (by omega)).trans hx1
                  have hl1 : x1.toNat < 256 := x1.toNat_lt
                  obtain ⟨X1, hX1⟩ : ∃ X1 : Int, (x1.toNat : Int) = X1 := ⟨_, rfl⟩
                  have hv1 : wrap64 X1 = X1 := by unfold wrap64; omega
                  by_cases hc1 : 128 ≤ X1 ∧ X1 < 192
                  · skip
                    have y1 : ¬ X1 < 128 := by omega
                    have y1' : ¬ 192 ≤ X1 := by omega
                    have wb1 := wrap_id (a := (k : Int) + 1) (by omega) (by omega)
                    have f1 := and63 x1.toNat (by omega)
                    obtain ⟨D1, hD1⟩ : ∃ D1 : Int, ((x1.toNat % 64 : Nat) : Int) = D1 := ⟨_, rfl⟩
                    rw [hD1, hX1] at f1
                    have ws1 := wrap_id (a := C0 * 64) (by omega) (by omega)
                    have o1 := or64' (a := C0) (b := D1) (by omega) (by omega) (by omega) (by omega)
                    obtain ⟨C1, hC1⟩ : ∃ C1 : Int, C0 * 64 + D1 = C1 := ⟨_, rfl⟩
                    rw [hC1] at o1
                    obtain ⟨x2, hx2⟩ : ∃ x2, s.get! (k + 2) = x2 := ⟨_, rfl⟩
                    have hs2 : s[k + 2]'(by omega) = x2 := (get_at s (k + 2) (by omega)).trans hx2
                    have hl2 : x2.toNat < 256 := x2.toNat_lt
                    obtain ⟨X2, hX2⟩ : ∃ X2 : Int, (x2.toNat : Int) = X2 := ⟨_, rfl⟩
                    have hv2 : wrap64 X2 = X2 := by unfold wrap64; omega
                    by_cases hc2 : 128 ≤ X2 ∧ X2 < 192
                    · skip
                      have y2 : ¬ X2 < 128 := by omega
                      have y2' : ¬ 192 ≤ X2 := by omega
                      have wb2 := wrap_id (a := (k : Int) + 2) (by omega) (by omega)
                      have f2 := and63 x2.toNat (by omega)
                      obtain ⟨D2, hD2⟩ : ∃ D2 : Int, ((x2.toNat % 64 : Nat) : Int) = D2 := ⟨_, rfl⟩
                      rw [hD2, hX2] at f2
                      have ws2 := wrap_id (a := C1 * 64) (by omega) (by omega)
                      have o2 := or64' (a := C1) (b := D2) (by omega) (by omega) (by omega) (by omega)
                      obtain ⟨C2, hC2⟩ : ∃ C2 : Int, C1 * 64 + D2 = C2 := ⟨_, rfl⟩
                      rw [hC2] at o2
                      obtain ⟨x3, hx3⟩ : ∃ x3, s.get! (k + 3) = x3 := ⟨_, rfl⟩
                      have hs3 : s[k + 3]'(by omega) = x3 := (get_at s (k + 3) (by omega)).trans hx3
                      have hl3 : x3.toNat < 256 := x3.toNat_lt
                      obtain ⟨X3, hX3⟩ : ∃ X3 : Int, (x3.toNat : Int) = X3 := ⟨_, rfl⟩
                      have hv3 : wrap64 X3 = X3 := by unfold wrap64; omega
                      by_cases hc3 : 128 ≤ X3 ∧ X3 < 192
                      · skip
                        have y3 : ¬ X3 < 128 := by omega
                        have y3' : ¬ 192 ≤ X3 := by omega
                        have wb3 := wrap_id (a := (k : Int) + 3) (by omega) (by omega)
                        have f3 := and63 x3.toNat (by omega)
                        obtain ⟨D3, hD3⟩ : ∃ D3 : Int, ((x3.toNat % 64 : Nat) : Int) = D3 := ⟨_, rfl⟩
                        rw [hD3, hX3] at f3
                        have ws3 := wrap_id (a := C2 * 64) (by omega) (by omega)
                        have o3 := or64' (a := C2) (b := D3) (by omega) (by omega) (by omega) (by omega)
                        obtain ⟨C3, hC3⟩ : ∃ C3 : Int, C2 * 64 + D3 = C3 := ⟨_, rfl⟩
                        rw [hC3] at o3
                        have hCe : ((x0.toNat % 8 * 262144 + x1.toNat % 64 * 4096 + x2.toNat % 64 * 64 + x3.toNat % 64 : Nat) : Int) = C3 := by omega
                        have hCl : x0.toNat % 8 * 262144 + x1.toNat % 64 * 4096 + x2.toNat % 64 * 64 + x3.toNat % 64 ≤ 2097151 := by omega
                        by_cases hr1 : C3 < 65536
                        · have r1 : C3 < 65536 := by omega
                          have HB : A = none := HV.out.bad hi (decode_bad (by rw [hx0]; omega) (by rintro ⟨q0, -⟩; rw [hx0] at q0; omega) (by rintro ⟨q0, -⟩; rw [hx0] at q0; omega) (by rintro ⟨q0, q1, q2, q3, qc, qv⟩; rw [hx0, hx1, hx2, hx3] at qc; rw [hx0, hx1, hx2, hx3] at qv; have qv' := (valid_iff _ hCl).1 qv; omega))
                          subst HB
                          clear HV
                          try clear hCe
                          try clear hC3
                          try clear hC2
                          try clear hC1
                          try clear hC0
                          try clear hD1
                          try clear hD2
                          try clear hD3
                          try clear hr
                          try clear hCl
                          try clear hx0
                          try clear hx1
                          try clear hx2
                          try clear hx3
                          try clear hl0
                          try clear hl1
                          try clear hl2
                          try clear hl3
                          try clear hsh
                          go_wp2
                          refine wp_loop_rounds 4 ?_
                          rw [rounds_succ]
                          go_wp2
                          rw [rounds_succ]
                          go_wp2
                          rw [rounds_succ]
                          go_wp2
                          rw [rounds_succ]
                          go_wp2
                          refine bodyPost_ret (v := .tuple #[.slice (some ⟨wr.heap.size, 0, none⟩) 0 0, .bool false]) (by simp [results, Tryz.results18, go_sem]) rfl ⟨some ⟨wr.heap.size, 0, none⟩, 0, rfl, (Own.empty wr).mono hBr.size, hBr.alloc hBr.size _⟩
                        · by_cases hr2 : 1114111 < C3
                          · have r1 : ¬ C3 < 65536 := by omega
                            have r2 : 1114111 < C3 := by omega
                            have HB : A = none := HV.out.bad hi (decode_bad (by rw [hx0]; omega) (by rintro ⟨q0, -⟩; rw [hx0] at q0; omega) (by rintro ⟨q0, -⟩; rw [hx0] at q0; omega) (by rintro ⟨q0, q1, q2, q3, qc, qv⟩; rw [hx0, hx1, hx2, hx3] at qc; rw [hx0, hx1, hx2, hx3] at qv; have qv' := (valid_iff _ hCl).1 qv; omega))
                            subst HB
                            clear HV
                            try clear hCe
                            try clear hC3
                            try clear hC2
                            try clear hC1
                            try clear hC0
                            try clear hD1
                            try clear hD2
                            try clear hD3
                            try clear hr
                            try clear hCl
                            try clear hx0
                            try clear hx1
                            try clear hx2
                            try clear hx3
                            try clear hl0
                            try clear hl1
                            try clear hl2
                            try clear hl3
                            try clear hsh
                            go_wp2
                            refine wp_loop_rounds 4 ?_
                            rw [rounds_succ]
                            go_wp2
                            rw [rounds_succ]
                            go_wp2
                            rw [rounds_succ]
                            go_wp2
                            rw [rounds_succ]
                            go_wp2
                            refine bodyPost_ret (v := .tuple #[.slice (some ⟨wr.heap.size, 0, none⟩) 0 0, .bool false]) (by simp [results, Tryz.results18, go_sem]) rfl ⟨some ⟨wr.heap.size, 0, none⟩, 0, rfl, (Own.empty wr).mono hBr.size, hBr.alloc hBr.size _⟩
                          · by_cases hr3 : 55296 ≤ C3
                            · by_cases hr4 : C3 < 57344
                              · exfalso; omega
                              · have r1 : ¬ C3 < 65536 := by omega
                                have r2 : ¬ 1114111 < C3 := by omega
                                have hdec := decode_4 (by rw [hx0]; omega) ⟨by omega, by rw [hx1]; omega⟩ ⟨by omega, by rw [hx2]; omega⟩ ⟨by omega, by rw [hx3]; omega⟩ (by rw [hx0, hx1, hx2, hx3]; omega) (by rw [hx0, hx1, hx2, hx3]; exact (valid_iff _ hCl).2 (by omega))
                                rw [hx0, hx1, hx2, hx3] at hdec
                                obtain ⟨cN, hcN⟩ : ∃ cN : Nat, x0.toNat % 8 * 262144 + x1.toNat % 64 * 4096 + x2.toNat % 64 * 64 + x3.toNat % 64 = cN := ⟨_, rfl⟩
                                rw [hcN] at hdec hCe hCl
                                have HcN : Hid ((cN : Int) = C3) := hCe
                                have HG : Hid (At s A (k + 4) (P ++ [cN])) := HV.out.good hi hdec (by omega) (by omega) (by omega)
                                have hA0 : 0 ≤ C3 := by omega
                                have hA1 : C3 < 4294967296 := by omega
                                clear HV hdec hcN
                                try clear hCe
                                try clear hC3
                                try clear hC2
                                try clear hC1
                                try clear hC0
                                try clear hD1
                                try clear hD2
                                try clear hD3
                                try clear hr
                                try clear hCl
                                try clear hx0
                                try clear hx1
                                try clear hx2
                                try clear hx3
                                try clear hl0
                                try clear hl1
                                try clear hl2
                                try clear hl3
                                try clear hsh
                                go_wp2
                                refine wp_loop_rounds 4 ?_
                                rw [rounds_succ]
                                go_wp2
                                rw [rounds_succ]
                                go_wp2
                                rw [rounds_succ]
                                go_wp2
                                rw [rounds_succ]
                                go_wp2_with (at_builtin; refine wpList_append_rd rfl _ _ 50 rfl Tryz.underlying50 w.heap.size _ _ O [C3] rfl rfl (hOw.alloc _) (Rd.one wr wr.heap.size rfl 2 hA0 hA1) (by simp; omega) (by have := hBr.size; simp; omega) ?_; intro a1 c1 w1 hO1 hB1)
                                have hB2 := (hBr.alloc hBr.size (Obj.cells #[.int .i64 C3] 2)).trans hB1
                                go_roundw
                                case rel =>
                                  refine ⟨k + 4, P ++ [cN], O ++ [C3], a1, c1, by omega, by go_num, by simp, by simp [HOe.out, HcN.out], HG.out, hO1, hB2⟩
                                case measure => first | (simp [intOf]; done) | (simp [intOf]; omega)
                            · exfalso; omega
                      · have wb3 := wrap_id (a := (k : Int) + 3) (by omega) (by omega)
                        have HB : A = none := HV.out.bad hi (decode_bad (by rw [hx0]; omega) (by rintro ⟨q0, -⟩; rw [hx0] at q0; omega) (by rintro ⟨q0, -⟩; rw [hx0] at q0; omega) (by rintro ⟨q0, q1, q2, q3, qc, qv⟩; have h9 := q3.2; rw [hx3] at h9; omega))
                        subst HB
                        clear HV
                        by_cases y3 : X3 < 128
                        · clear hc3
                          try clear hCe
                          try clear hC3
                          try clear hC2
                          try clear hC1
                          try clear hC0
                          try clear hD1
                          try clear hD2
                          try clear hD3
                          try clear hr
                          try clear hCl
                          try clear hx0
                          try clear hx1
                          try clear hx2
                          try clear hx3
                          try clear hl0
                          try clear hl1
                          try clear hl2
                          try clear hl3
                          try clear hsh
                          go_wp2
                          refine wp_loop_rounds 3 ?_
                          rw [rounds_succ]
                          go_wp2
                          rw [rounds_succ]
                          go_wp2
                          rw [rounds_succ]
                          go_wp2
                          refine bodyPost_ret (v := .tuple #[.slice (some ⟨wr.heap.size, 0, none⟩) 0 0, .bool false]) (by simp [results, Tryz.results18, go_sem]) rfl ⟨some ⟨wr.heap.size, 0, none⟩, 0, rfl, (Own.empty wr).mono hBr.size, hBr.alloc hBr.size _⟩
                        · have y3' : 192 ≤ X3 := by omega
                          clear hc3
                          try clear hCe
                          try clear hC3
                          try clear hC2
                          try clear hC1
                          try clear hC0
                          try clear hD1
                          try clear hD2
                          try clear hD3
                          try clear hr
                          try clear hCl
                          try clear hx0
                          try clear hx1
                          try clear hx2
                          try clear hx3
                          try clear hl0
                          try clear hl1
                          try clear hl2
                          try clear hl3
                          try clear hsh
                          go_wp2
                          refine wp_loop_rounds 3 ?_
                          rw [rounds_succ]
                          go_wp2
                          rw [rounds_succ]
                          go_wp2
                          rw [rounds_succ]
                          go_wp2
                          refine bodyPost_ret (v := .tuple #[.slice (some ⟨wr.heap.size, 0, none⟩) 0 0, .bool false]) (by simp [results, Tryz.results18, go_sem]) rfl ⟨some ⟨wr.heap.size, 0, none⟩, 0, rfl, (Own.empty wr).mono hBr.size, hBr.alloc hBr.size _⟩
                    · have wb2 := wrap_id (a := (k : Int) + 2) (by omega) (by omega)
                      have HB : A = none := HV.out.bad hi (decode_bad (by rw [hx0]; omega) (by rintro ⟨q0, -⟩; rw [hx0] at q0; omega) (by rintro ⟨q0, -⟩; rw [hx0] at q0; omega) (by rintro ⟨q0, q1, q2, q3, qc, qv⟩; have h9 := q2.2; rw [hx2] at h9; omega))
                      subst HB
                      clear HV
                      by_cases y2 : X2 < 128
                      · clear hc2
                        try clear hCe
                        try clear hC3
                        try clear hC2
                        try clear hC1
                        try clear hC0
                        try clear hD1
                        try clear hD2
                        try clear hD3
                        try clear hr
                        try clear hCl
                        try clear hx0
                        try clear hx1
                        try clear hx2
                        try clear hx3
                        try clear hl0
                        try clear hl1
                        try clear hl2
                        try clear hl3
                        try clear hsh
                        go_wp2
                        refine wp_loop_rounds 2 ?_
                        rw [rounds_succ]
                        go_wp2
                        rw [rounds_succ]
                        go_wp2
                        refine bodyPost_ret (v := .tuple #[.slice (some ⟨wr.heap.size, 0, none⟩) 0 0, .bool false]) (by simp [results, Tryz.results18, go_sem]) rfl ⟨some ⟨wr.heap.size, 0, none⟩, 0, rfl, (Own.empty wr).mono hBr.size, hBr.alloc hBr.size _⟩
                      · have y2' : 192 ≤ X2 := by omega
                        clear hc2
                        try clear hCe
                        try clear hC3
                        try clear hC2
                        try clear hC1
                        try clear hC0
                        try clear hD1
                        try clear hD2
                        try clear hD3
                        try clear hr
                        try clear hCl
                        try clear hx0
                        try clear hx1
                        try clear hx2
                        try clear hx3
                        try clear hl0
                        try clear hl1
                        try clear hl2
                        try clear hl3
                        try clear hsh
                        go_wp2
                        refine wp_loop_rounds 2 ?_
                        rw [rounds_succ]
                        go_wp2
                        rw [rounds_succ]
                        go_wp2
                        refine bodyPost_ret (v := .tuple #[.slice (some ⟨wr.heap.size, 0, none⟩) 0 0, .bool false]) (by simp [results, Tryz.results18, go_sem]) rfl ⟨some ⟨wr.heap.size, 0, none⟩, 0, rfl, (Own.empty wr).mono hBr.size, hBr.alloc hBr.size _⟩
                  · have wb1 := wrap_id (a := (k : Int) + 1) (by omega) (by omega)
                    have HB : A = none := HV.out.bad hi (decode_bad (by rw [hx0]; omega) (by rintro ⟨q0, -⟩; rw [hx0] at q0; omega) (by rintro ⟨q0, -⟩; rw [hx0] at q0; omega) (by rintro ⟨q0, q1, q2, q3, qc, qv⟩; have h9 := q1.2; rw [hx1] at h9; omega))
                    subst HB
                    clear HV
                    by_cases y1 : X1 < 128
                    · clear hc1
                      try clear hCe
                      try clear hC3
                      try clear hC2
                      try clear hC1
                      try clear hC0
                      try clear hD1
                      try clear hD2
                      try clear hD3
                      try clear hr
                      try clear hCl
                      try clear hx0
                      try clear hx1
                      try clear hx2
                      try clear hx3
                      try clear hl0
                      try clear hl1
                      try clear hl2
                      try clear hl3
                      try clear hsh
                      go_wp2
                      refine wp_loop_rounds 1 ?_
                      rw [rounds_succ]
                      go_wp2
                      refine bodyPost_ret (v := .tuple #[.slice (some ⟨wr.heap.size, 0, none⟩) 0 0, .bool false]) (by simp [results, Tryz.results18, go_sem]) rfl ⟨some ⟨wr.heap.size, 0, none⟩, 0, rfl, (Own.empty wr).mono hBr.size, hBr.alloc hBr.size _⟩
                    · have y1' : 192 ≤ X1 := by omega
                      clear hc1
                      try clear hCe
                      try clear hC3
                      try clear hC2
                      try clear hC1
                      try clear hC0
                      try clear hD1
                      try clear hD2
                      try clear hD3
                      try clear hr
                      try clear hCl
                      try clear hx0
                      try clear hx1
                      try clear hx2
                      try clear hx3
                      try clear hl0
                      try clear hl1
                      try clear hl2
                      try clear hl3
                      try clear hsh
                      go_wp2
                      refine wp_loop_rounds 1 ?_
                      rw [rounds_succ]
                      go_wp2
                      refine bodyPost_ret (v := .tuple #[.slice (some ⟨wr.heap.size, 0, none⟩) 0 0, .bool false]) (by simp [results, Tryz.results18, go_sem]) rfl ⟨some ⟨wr.heap.size, 0, none⟩, 0, rfl, (Own.empty wr).mono hBr.size, hBr.alloc hBr.size _⟩
                · have hshz : (s.size : Int) ≤ (k : Int) + 3 := by omega
                  have HB : A = none := HV.out.bad hi (decode_bad (by rw [hx0]; omega) (by rintro ⟨q0, -⟩; rw [hx0] at q0; omega) (by rintro ⟨q0, -⟩; rw [hx0] at q0; omega) (by rintro ⟨q0, q1, q2, q3, qc, qv⟩; have h9 := q3.1; omega))
                  subst HB
                  clear HV
                  try clear hCe
                  try clear hC3
                  try clear hC2
                  try clear hC1
                  try clear hC0
                  try clear hD1
                  try clear hD2
                  try clear hD3
                  try clear hr
                  try clear hCl
                  try clear hx0
                  try clear hx1
                  try clear hx2
                  try clear hx3
                  try clear hl0
                  try clear hl1
                  try clear hl2
                  try clear hl3
                  try clear hsh
                  go_wp2
                  refine bodyPost_ret (v := .tuple #[.slice (some ⟨wr.heap.size, 0, none⟩) 0 0, .bool false]) (by simp [results, Tryz.results18, go_sem]) rfl ⟨some ⟨wr.heap.size, 0, none⟩, 0, rfl, (Own.empty wr).mono hBr.size, hBr.alloc hBr.size _⟩
              · have z0 : 240 ≤ X0 := by omega
                have z1 : ¬ X0 < 248 := by omega
                have z2 : 224 ≤ X0 := by omega
                have z3 : ¬ X0 < 240 := by omega
                have z4 : 192 ≤ X0 := by omega
                have z5 : ¬ X0 < 224 := by omega
                have z6 : 128 ≤ X0 := by omega
                have HB : A = none := HV.out.bad hi (decode_bad (by rw [hx0]; omega) (by rintro ⟨q0, -⟩; rw [hx0] at q0; omega) (by rintro ⟨q0, -⟩; rw [hx0] at q0; omega) (by rintro ⟨q0, -⟩; rw [hx0] at q0; omega))
                subst HB
                clear HV
                try clear hCe
                try clear hC3
                try clear hC2
                try clear hC1
                try clear hC0
                try clear hD1
                try clear hD2
                try clear hD3
                try clear hr
                try clear hCl
                try clear hx0
                try clear hx1
                try clear hx2
                try clear hx3
                try clear hl0
                try clear hl1
                try clear hl2
                try clear hl3
                try clear hsh
                go_wp2
                refine bodyPost_ret (v := .tuple #[.slice (some ⟨wr.heap.size, 0, none⟩) 0 0, .bool false]) (by simp [results, Tryz.results18, go_sem]) rfl ⟨some ⟨wr.heap.size, 0, none⟩, 0, rfl, (Own.empty wr).mono hBr.size, hBr.alloc hBr.size _⟩
    · have hiz : ¬ (k : Int) < (s.size : Int) := by omega
      obtain rfl : A = some P := HV.out.stop hi
      obtain rfl := HOe.out
      clear HV HOe
      go_wp2
      refine bodyPost_ret (v := .tuple #[.slice ao (P.map (fun (n : Nat) => (n : Int))).length co, .bool true]) (by simp [results, Tryz.results18, go_sem]) rfl ⟨ao, co, rfl, hOw, hBr⟩

end Go.Proofs.YtfoofbcfcekleaaGreatDoor
