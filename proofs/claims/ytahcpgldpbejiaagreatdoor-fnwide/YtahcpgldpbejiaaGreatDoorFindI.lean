import Derived.Test.YtahcpgldpbejiaaGreatDoorTLenA
import Derived.Test.YtahcpgldpbejiaaGreatDoorFindS
import Derived.Test.YtahcpgldpbejiaaGreatDoorTxI
namespace Go.Proofs.YtahcpgldpbejiaaGreatDoor
open Go.RowKit Go.Lib Go.Shelf
set_option linter.unusedVariables false
set_option linter.unusedSimpArgs false

set_option maxHeartbeats 1000000 in
set_option maxRecDepth 100000 in
theorem byteAt_any (s : ByteArray) (rs : List Nat) (n : Nat) (w : World) (hr : textOf s = some rs) (hn63 : n ≤ 9223372036854775807) :
    Calls Tryz.prog 51 #[.string s, .int .i64 n] w fun e w' => e = .returned (.tuple #[.int .i64 (offOf rs n), .bool (decide (n ≤ rs.length))]) ∧ Below w.heap.size w w' := by
  obtain ⟨hs, he, hsc⟩ := text_iff.1 hr
  have hsz : (encs rs).length = s.size := by rw [← he, ← size_eq]
  have HE : Hid (s.data.toList = encs rs ∧ ∀ r ∈ rs, Scalar r) := ⟨he, hsc⟩
  clear hr he hsc
  go_enter Tryz.func51, Tryz.ntmps51
  go_wp2_with fail
  go_loopw [1] (fun pl wr => ∃ (k : Nat) (p : Int), k ≤ rs.length ∧ (n : Int) = k + p ∧ 0 ≤ p ∧ pl = .int .i64 p ∧ wr.heap[w.heap.size]? = some (.stringIter s (offOf rs k)) ∧ Below w.heap.size w wr) (fun _ wr => s.size - wr.iterPos w.heap.size)
  case atStart =>
    exact ⟨0, n, by omega, by omega, by omega, rfl, World.iter_heap w s 0, (Below.refl _ w).alloc (Nat.le_refl _) _⟩
  case round =>
    obtain ⟨k, p, hk, hnk, hp0, rfl, hit, hbw⟩ := hrel
    have hsz2 : w.heap.size < wr.heap.size := (Array.getElem?_eq_some_iff.1 hit).1
    by_cases hp : k < rs.length
    · have hlt : offOf rs k < s.size := by rw [← hsz]; exact offOf_lt rs k hp HE.out.2
      have hnx0 := fun ty => Lib.run_next_any_at (P := Tryz.prog) wr w.heap.size s (offOf rs k) ty hit hlt
      have hdec := decode_off s rs k HE.out.1 HE.out.2 hp
      have hof := offOf_succ rs k hp
      have hof2 := offOf_le rs (k + 1)
      obtain ⟨c, hc⟩ : ∃ c, rs[k] = c := ⟨_, rfl⟩
      have hkk1 : 1 ≤ (encodeRune ((c : Nat) : Int)).length := enc_pos c (by rw [← hc]; exact HE.out.2 _ (List.getElem_mem hp))
      rw [hc] at hdec hof
      obtain ⟨kk, hkk⟩ : ∃ kk, (encodeRune ((c : Nat) : Int)).length = kk := ⟨_, rfl⟩
      rw [hkk] at hdec hof hkk1
      obtain ⟨o, ho⟩ : ∃ o, offOf rs k = o := ⟨_, rfl⟩
      rw [ho] at hnx0 hdec hof hit hlt
      simp only [hdec] at hnx0
      have hit2 := Lib.iterAt_heap wr w.heap.size s o (o + kk) hit
      have hbw2 := Lib.below_iterAt hbw (k := w.heap.size) (by omega) s (o + kk)
      have HO : Hid (offOf rs (k + 1) = o + kk) := hof
      have HO1 : Hid (offOf rs k = o) := ho
      rw [hof] at hof2
      clear hdec hof hkk hc ho
      have hnx : ∀ ty, (Instr.next (.pointer (some ⟨w.heap.size, 0, none⟩)) true ty).run Tryz.prog wr = _ := hnx0
      by_cases hz : p = 0
      · have hfin : offOf rs n = o := by rw [show n = k by omega]; exact HO1.out
        have hdn : decide (n ≤ rs.length) = true := by simp; omega
        subst hz
        clear HO HO1
        go_wp2
        refine bodyPost_ret (v := .tuple #[.int .i64 (o : Int), .bool true]) (by simp [results, Tryz.results51, go_sem]) rfl ?_
        rw [hfin, hdn]
        exact ⟨rfl, hbw2⟩
      · have hzb : (p == 0) = false := by simpa using hz
        have hwp := wrap_id' (a := p - 1) (by omega) (by omega)
        go_wp2
        go_roundw
        case rel => exact ⟨k + 1, p - 1, by omega, by omega, by omega, by go_num, by rw [HO.out]; exact hit2, hbw2⟩
        case measure =>
          simp only [World.iterPos, hit2, hit]
          omega
    · have hke : k = rs.length := by omega
      have hoe : offOf rs k = s.size := by rw [hke, offOf_all, hsz]
      rw [hoe] at hit
      have hnx : ∀ ty, (Instr.next (.pointer (some ⟨w.heap.size, 0, none⟩)) true ty).run Tryz.prog wr = _ := fun ty => Lib.run_next_end_at wr w.heap.size s s.size ty hit (by omega)
      have hfin : offOf rs n = s.size := by
        unfold offOf
        rw [List.take_of_length_le (by omega), hsz]
      by_cases hz : p = 0
      · have hdn : decide (n ≤ rs.length) = true := by simp; omega
        subst hz
        go_wp2
        refine bodyPost_ret (v := .tuple #[.int .i64 (s.size : Int), .bool true]) (by simp [results, Tryz.results51, go_sem]) rfl ?_
        rw [hfin, hdn]
        exact ⟨rfl, hbw⟩
      · have hzb : (p == 0) = false := by simpa using hz
        have hdn : decide (n ≤ rs.length) = false := by simp; omega
        go_wp2
        refine bodyPost_ret (v := .tuple #[.int .i64 (s.size : Int), .bool false]) (by simp [results, Tryz.results51, go_sem]) rfl ?_
        rw [hfin, hdn]
        exact ⟨rfl, hbw⟩
end Go.Proofs.YtahcpgldpbejiaaGreatDoor
