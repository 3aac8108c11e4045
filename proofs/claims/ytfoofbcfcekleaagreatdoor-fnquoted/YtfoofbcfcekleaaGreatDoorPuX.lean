import Derived.Test.YtfoofbcfcekleaaGreatDoorSvS
import Derived.Test.YtfoofbcfcekleaaGreatDoorTimesS
import Derived.Test.YtfoofbcfcekleaaGreatDoorLaidQt
namespace Go.Proofs.YtfoofbcfcekleaaGreatDoor
open Go.RowKit Go.Lib Go.Shelf
set_option linter.unusedVariables false
set_option linter.unusedSimpArgs false

def lowN (c : Nat) : Nat := (bits .or .u8 (c : Int) 32).toNat
def lowOk (c : Nat) : Bool := decide (bits .or .u8 (c : Int) 32 = (lowN c : Int)) && decide (lowN c < 256) &&
  (if 97 ≤ lowN c ∧ lowN c ≤ 122 then decide (¬ (48 ≤ c ∧ c ≤ 57)) && (if lowN c ≤ 102 then decide (hxV c = some (lowN c - 87)) else decide (hxV c = none)) else (decide (48 ≤ c ∧ c ≤ 57) || decide (hxV c = none)))
theorem lowOk_all : (List.range 256).all lowOk = true := by decide +kernel
theorem low_cases (c : Nat) (h : c < 256) : ∃ L : Nat, bits .or .u8 (c : Int) 32 = (L : Int) ∧ L < 256 ∧ ((97 ≤ L ∧ L ≤ 122) → ¬ (48 ≤ c ∧ c ≤ 57) ∧ (L ≤ 102 → hxV c = some (L - 87)) ∧ (¬ L ≤ 102 → hxV c = none)) ∧ (¬ (97 ≤ L ∧ L ≤ 122) → ¬ (48 ≤ c ∧ c ≤ 57) → hxV c = none) := by
  have h1 := List.all_eq_true.1 lowOk_all c (List.mem_range.2 h)
  unfold lowOk at h1
  simp only [Bool.and_eq_true, decide_eq_true_eq] at h1
  obtain ⟨⟨h2, h3⟩, h4⟩ := h1
  refine ⟨lowN c, h2, h3, fun hl => ?_, fun hl hd => ?_⟩
  · rw [if_pos hl] at h4
    simp only [Bool.and_eq_true, decide_eq_true_eq] at h4
    refine ⟨h4.1, fun hh => ?_, fun hh => ?_⟩
    · have := h4.2; rw [if_pos hh] at this; simpa using this
    · have := h4.2; rw [if_neg hh] at this; simpa using this
  · rw [if_neg hl] at h4
    simp only [Bool.or_eq_true, decide_eq_true_eq] at h4
    rcases h4 with h5 | h5
    · exact absurd h5 hd
    · exact h5
theorem u64_id {a : Int} (h0 : 0 ≤ a) (h1 : a < 18446744073709551616) : IntKind.u64.wrap a = a := by
  simp [IntKind.wrap, IntKind.bits, IntKind.signed]; omega
/-- What ParseUint answers to the base 16. -/
def puV (l : List UInt8) : Option Nat := hxN l.length 0 (l.map UInt8.toNat)
def puA : Option Nat → Value
  | some v => .tuple #[.int .u64 (v : Int), .nilIface]
  | none => .tuple #[.int .u64 0, .iface 117 (.int .i64 2)]
set_option maxHeartbeats 3000000 in
set_option maxRecDepth 100000 in
theorem parse16 (s : ByteArray) (w : World) (h0 : 0 < s.size) (h4 : s.size ≤ 4) :
    Calls Tryz.prog 66 #[.string s, .int .i64 16, .int .i64 32] w fun e w' => e = .returned (puA (puV s.data.toList)) ∧ Below w.heap.size w w' := by
  have hl : s.data.toList.length = s.size := (size_eq s).symm
  obtain ⟨cap, w1, hcv, hRd, hB1, _⟩ := bytes_of s w (by omega)
  have hLow := fun (c : Int) W => Any.internal_strconv_lower Tryz.laysLower c W
  have hemp : s.toList.isEmpty = false := by
    rw [Lib.toList_data]
    cases h : s.data.toList with
    | nil => rw [h, List.length_nil] at hl; omega
    | cons _ _ => rfl
  obtain ⟨t, ht⟩ : ∃ t, s.data.toList.map UInt8.toNat = t := ⟨_, rfl⟩
  have htl : t.length = s.size := by rw [← ht, List.length_map, hl]
  have HC : Hid (∀ (j c : Nat), t[j]? = some c → c < 256 ∧ w1.cell? ⟨w.heap.size, j, none⟩ = some (.int .u8 c)) := fun j c hj => by
    have hjl : j < s.data.toList.length := by
      have := (List.getElem?_eq_some_iff.1 hj).1
      omega
    obtain ⟨a1, cap1, e1, _, _, hn0, hc⟩ := hRd
    simp only [Value.slice.injEq] at e1
    obtain ⟨rfl, _, rfl⟩ := e1
    obtain ⟨b, off, e2, hb, hcell⟩ := hc (by simp [bz]; omega)
    simp only [Option.some.injEq, Addr.mk.injEq] at e2
    obtain ⟨rfl, rfl, _⟩ := e2
    have h5 := hcell j (by simp [bz]; omega)
    rw [bz_getD _ j hjl, Nat.zero_add] at h5
    rw [← ht, List.getElem?_map, List.getElem?_eq_getElem hjl] at hj
    simp only [Option.map_some, Option.some.injEq] at hj
    rw [hj] at h5
    exact ⟨by rw [← hj]; exact UInt8.toNat_lt _, h5⟩
  have hpv : puV s.data.toList = hxN s.size 0 t := by unfold puV; rw [hl, ht]
  rw [hpv]
  obtain ⟨A, hA⟩ : ∃ A, hxN s.size 0 t = A := ⟨_, rfl⟩
  have HA : Hid (hxN s.size 0 t = A) := hA
  rw [hA]
  clear hpv hA ht hl hRd
  go_enter Tryz.func66, Tryz.ntmps66
  go_wp2
  go_loopw [12, 13, 101] (fun un n i wr => ∃ (j : Nat) (V : Int), un = .bool false ∧ j ≤ s.size ∧ i = .int .i64 j ∧ n = .int .u64 V ∧ 0 ≤ V ∧ V ≤ 65535 ∧ HxAt s.size t (j + 1) V.toNat ∧ wr = w1) (fun _ _ i _ => s.size - (RowKit.intOf i).toNat)
  case atStart => exact ⟨0, 0, rfl, by omega, rfl, rfl, by omega, by omega, HxAt.start _ _, rfl⟩
  case round =>
    obtain ⟨j, V, rfl, hj, rfl, rfl, hV0, hVb, HX1, rfl⟩ := hrel
    obtain ⟨VN, hVN⟩ : ∃ VN, V.toNat = VN := ⟨_, rfl⟩
    rw [hVN] at HX1
    have HX : Hid (HxAt s.size t (j + 1) VN) := HX1
    have HVN : Hid (V = (VN : Int)) := by show _ = _; omega
    clear hVN
    clear HX1
    by_cases hjn : j < s.size
    · have hjz : (j : Int) < (s.size : Int) := by omega
      obtain ⟨c, hc⟩ : ∃ c, t[j]? = some c := ⟨t[j]'(by omega), List.getElem?_eq_getElem (by omega)⟩
      obtain ⟨hc256, hcell⟩ := HC.out j c hc
      obtain ⟨L, hL, hL256, hL1, hL2⟩ := low_cases c hc256
      have HT : Hid (t[j + 1 - 1]? = some c) := hc
      have HBAD : Hid (hxV c = none → A = none) := fun h => by
        rw [← HA.out]
        exact HX.out.bad (by omega) (fun c' hc' => by rw [HT.out] at hc'; cases hc'; exact h)
      have HGOOD : Hid (∀ d, hxV c = some d → HxAt s.size t (j + 1 + 1) (VN * 16 + d)) := fun d hd => HX.out.next (by omega) HT.out hd
      have hwj := wrap_id (a := (j : Int) + 1) (by omega) (by omega)
      have hcut : ¬ (1152921504606846976 : Int) ≤ V := by omega
      have hwm := u64_id (a := V * 16) (by omega) (by omega)
      clear hc HX HT
      by_cases hd : 48 ≤ c ∧ c ≤ 57
      · have hx : hxV c = some (c - 48) := by unfold hxV; rw [if_pos hd]
        have HX2 : Hid (HxAt s.size t (j + 1 + 1) (VN * 16 + (c - 48))) := HGOOD.out _ hx
        have hV2b : VN * 16 + (c - 48) ≤ 65535 := by
          have h1 := HX2.out.2.1
          rw [Nat.add_sub_cancel] at h1
          have h2 : 16 ^ (j + 1) ≤ 16 ^ 4 := Nat.pow_le_pow_right (by omega) (by omega)
          omega
        obtain ⟨V2, hV2⟩ : ∃ V2 : Int, ((VN * 16 + (c - 48) : Nat) : Int) = V2 := ⟨_, rfl⟩
        have HX3 : Hid (HxAt s.size t (j + 1 + 1) V2.toNat) := by rw [← hV2]; exact HX2
        have hv20 : 0 ≤ V2 := by omega
        have hv2b : V2 ≤ 65535 := by omega
        have hVN := HVN.out
        obtain ⟨C, hC⟩ : ∃ C : Int, (c : Int) = C := ⟨_, rfl⟩
        rw [hC] at hcell
        have e1 : (C == 95) = false := by rw [beq_eq_false_iff_ne]; omega
        have e2 : (48 : Int) ≤ C := by omega
        have e3 : C ≤ (57 : Int) := by omega
        have e4 := u8_id (a := C - 48) (by omega) (by omega)
        have e5 : ¬ (16 : Int) ≤ C - 48 := by omega
        have e6 := u64_id (a := C - 48) (by omega) (by omega)
        have e7 : IntKind.u64.wrap (V * 16 + (C - 48)) = V2 := by rw [u64_id (by omega) (by omega)]; omega
        have e8 : ¬ V2 < V * 16 := by omega
        have e9 : ¬ (4294967295 : Int) < V2 := by omega
        clear HBAD HGOOD hL hL1 hL2 hx hd hV2 hC hVN HX2 hV2b
        go_wp2
        go_roundw
        case rel => exact ⟨j + 1, V2, rfl, by omega, by go_num, rfl, by omega, by omega, HX3.out, (by first | rfl | trivial)⟩
        case measure => first | (simp [RowKit.intOf]; done) | (simp [RowKit.intOf]; omega)
      · have hLc := fun W => hLow (c : Int) W
        obtain ⟨Li, hLi⟩ : ∃ Li : Int, (L : Int) = Li := ⟨_, rfl⟩
        rw [hL, hLi] at hLc
        obtain ⟨C, hC⟩ : ∃ C : Int, (c : Int) = C := ⟨_, rfl⟩
        rw [hC] at hcell hLc
        by_cases hr : 97 ≤ L ∧ L ≤ 122
        · obtain ⟨_, hx1, hx2⟩ := hL1 hr
          have d1 : (97 : Int) ≤ Li := by omega
          have d2 : Li ≤ 122 := by omega
          have d3 := u8_id (a := Li - 97) (by omega) (by omega)
          obtain ⟨DN, hDN⟩ : ∃ DN : Nat, L - 87 = DN := ⟨_, rfl⟩
          obtain ⟨D, hD⟩ : ∃ D : Int, (DN : Int) = D := ⟨_, rfl⟩
          have d4 : IntKind.u8.wrap (Li - 97 + 10) = D := by rw [u8_id (by omega) (by omega)]; omega
          by_cases h102 : L ≤ 102
          · have hx := hx1 h102
            clear hL1 hL2 hL
            rw [hDN] at hx
            have HX2 : Hid (HxAt s.size t (j + 1 + 1) (VN * 16 + DN)) := HGOOD.out _ hx
            have hV2b : VN * 16 + DN ≤ 65535 := by
              have h1 := HX2.out.2.1
              rw [Nat.add_sub_cancel] at h1
              have h2 : 16 ^ (j + 1) ≤ 16 ^ 4 := Nat.pow_le_pow_right (by omega) (by omega)
              omega
            obtain ⟨V2, hV2⟩ : ∃ V2 : Int, ((VN * 16 + DN : Nat) : Int) = V2 := ⟨_, rfl⟩
            have HX3 : Hid (HxAt s.size t (j + 1 + 1) V2.toNat) := by rw [← hV2]; exact HX2
            have hv20 : 0 ≤ V2 := by omega
            have hv2b : V2 ≤ 65535 := by omega
            have hVN := HVN.out
            have e5 : ¬ (16 : Int) ≤ D := by omega
            have e6 := u64_id (a := D) (by omega) (by omega)
            have e7 : IntKind.u64.wrap (V * 16 + D) = V2 := by rw [u64_id (by omega) (by omega)]; omega
            have e8 : ¬ V2 < V * 16 := by omega
            have e9 : ¬ (4294967295 : Int) < V2 := by omega
            clear HBAD HGOOD hx hx1 hx2 hV2 hD hDN hLi h102 hr hVN HX2 hV2b
            by_cases hu : C = 95
            · subst hu
              go_wp2_with (go_at_call 85; refine (hLc _).mono ?_; rintro e w' ⟨rfl, rfl⟩)
              go_roundw
              case rel => exact ⟨j + 1, V2, rfl, by omega, by go_num, rfl, by omega, by omega, HX3.out, (by first | rfl | trivial)⟩
              case measure => first | (simp [RowKit.intOf]; done) | (simp [RowKit.intOf]; omega)
            · have e1 : (C == 95) = false := by rw [beq_eq_false_iff_ne]; exact hu
              by_cases h48 : (48 : Int) ≤ C
              · have e3 : ¬ C ≤ (57 : Int) := by omega
                clear hd hC hu
                go_wp2_with (go_at_call 85; refine (hLc _).mono ?_; rintro e w' ⟨rfl, rfl⟩)
                go_roundw
                case rel => exact ⟨j + 1, V2, rfl, by omega, by go_num, rfl, by omega, by omega, HX3.out, (by first | rfl | trivial)⟩
                case measure => first | (simp [RowKit.intOf]; done) | (simp [RowKit.intOf]; omega)
              · clear hd hC hu
                go_wp2_with (go_at_call 85; refine (hLc _).mono ?_; rintro e w' ⟨rfl, rfl⟩)
                go_roundw
                case rel => exact ⟨j + 1, V2, rfl, by omega, by go_num, rfl, by omega, by omega, HX3.out, (by first | rfl | trivial)⟩
                case measure => first | (simp [RowKit.intOf]; done) | (simp [RowKit.intOf]; omega)
          · obtain rfl := HBAD.out (hx2 h102)
            have e5 : (16 : Int) ≤ D := by omega
            clear HBAD HGOOD hL hL1 hL2 hx1 hx2 hD hDN hLi h102 hr HA
            by_cases hu : C = 95
            · subst hu
              go_wp2_with (go_at_call 85; refine (hLc _).mono ?_; rintro e w' ⟨rfl, rfl⟩)
              go_ret2
              exact ⟨rfl, hB1⟩
            · have e1 : (C == 95) = false := by rw [beq_eq_false_iff_ne]; exact hu
              by_cases h48 : (48 : Int) ≤ C
              · have e3 : ¬ C ≤ (57 : Int) := by omega
                clear hd hC hu
                go_wp2_with (go_at_call 85; refine (hLc _).mono ?_; rintro e w' ⟨rfl, rfl⟩)
                go_ret2
                exact ⟨rfl, hB1⟩
              · clear hd hC hu
                go_wp2_with (go_at_call 85; refine (hLc _).mono ?_; rintro e w' ⟨rfl, rfl⟩)
                go_ret2
                exact ⟨rfl, hB1⟩
        · obtain rfl := HBAD.out (hL2 hr hd)
          clear HBAD HGOOD hL hL1 hL2 HA
          try clear HVN
          by_cases d1 : (97 : Int) ≤ Li
          · have d2 : ¬ Li ≤ 122 := by omega
            clear hLi hr
            by_cases hu : C = 95
            · subst hu
              go_wp2_with (go_at_call 85; refine (hLc _).mono ?_; rintro e w' ⟨rfl, rfl⟩)
              go_ret2
              exact ⟨rfl, hB1⟩
            · have e1 : (C == 95) = false := by rw [beq_eq_false_iff_ne]; exact hu
              by_cases h48 : (48 : Int) ≤ C
              · have e3 : ¬ C ≤ (57 : Int) := by omega
                clear hd hC hu
                go_wp2_with (go_at_call 85; refine (hLc _).mono ?_; rintro e w' ⟨rfl, rfl⟩)
                go_ret2
                exact ⟨rfl, hB1⟩
              · clear hd hC hu
                go_wp2_with (go_at_call 85; refine (hLc _).mono ?_; rintro e w' ⟨rfl, rfl⟩)
                go_ret2
                exact ⟨rfl, hB1⟩
          · clear hLi hr
            by_cases hu : C = 95
            · subst hu
              go_wp2_with (go_at_call 85; refine (hLc _).mono ?_; rintro e w' ⟨rfl, rfl⟩)
              go_ret2
              exact ⟨rfl, hB1⟩
            · have e1 : (C == 95) = false := by rw [beq_eq_false_iff_ne]; exact hu
              by_cases h48 : (48 : Int) ≤ C
              · have e3 : ¬ C ≤ (57 : Int) := by omega
                clear hd hC hu
                go_wp2_with (go_at_call 85; refine (hLc _).mono ?_; rintro e w' ⟨rfl, rfl⟩)
                go_ret2
                exact ⟨rfl, hB1⟩
              · clear hd hC hu
                go_wp2_with (go_at_call 85; refine (hLc _).mono ?_; rintro e w' ⟨rfl, rfl⟩)
                go_ret2
                exact ⟨rfl, hB1⟩
    · have hjz : ¬ (j : Int) < (s.size : Int) := by omega
      obtain rfl : j = s.size := by omega
      have hv := HX.out.stop
      rw [HA.out] at hv
      subst hv
      have HPA : Hid (puA (some VN) = .tuple #[.int .u64 V, .nilIface]) := by show _ = _; rw [HVN.out]; rfl
      clear HX HC HA HVN
      go_wp2
      go_ret2
      exact ⟨congrArg Ending.returned HPA.out.symm, hB1⟩
end Go.Proofs.YtfoofbcfcekleaaGreatDoor
