import Derived.Test.YtjnalkeopehlbaaDrwZ
import Derived.Test.YtjnalkeopehlbaaGrO
import Derived.Test.YtjnalkeopehlbaaGrB
import Derived.Deep.QuietTactic
import Derived.BigQuiet
namespace Go.Proofs.Ytjnalkeopehlbaa
open Go.RowKit Go.Maps
set_option linter.unusedVariables false
set_option linter.unusedSimpArgs false

theorem wpList_append_one {α : Type} {S : Sh α} {T : TypeId} {zv : Value} {by' : Nat} (hinfo : (Try.prog.info? T).map (fun i => (i.zero, i.size, i.bytes)) = some (some zv, S.n, by')) (hzc : zv.cells.size = S.n) (hby : by' ≤ 64)
    {w : World} {ops : Array Oper} {rest : List Oper} {o : Oper} {a : Act} {Q : Exit → Act → World → Prop} (hgd : o.guard = none) (s x : Operand) (t : TypeId)
    (ho : o.op = .call { callee := .builtin .append, args := #[s, x], argTypes := #[t, t] }) (ht : Try.prog.underlying t = some (.slice T)) (B : Nat) (v : Value) (xs : List α) (e : α) (he : S.ok e) (g c : Nat) (hs : a.eval s = v) (hx : a.eval x = .slice (some ⟨g, 0, none⟩) 1 c)
    (hown : OwnG S T w B v xs) (hc : ∀ j, j < S.n → w.cell? ⟨g, j, none⟩ = (S.cs e)[j]?) (hlen : xs.length + 1 ≤ 16777216) (hB : B ≤ w.heap.size)
    (h : ∀ a' c' w', OwnG S T w' B (.slice a' (xs ++ [e]).length c') (xs ++ [e]) → w.grownBy w' v.ownBlock → wpList Try.prog ops Q rest (a.put o.dst (.slice a' (xs ++ [e]).length c')) w') :
    wpList Try.prog ops Q (o :: rest) a w := by
  obtain ⟨i0, hi, hz0, hz1, hz2⟩ := info_parts hinfo
  refine wpList_append_own w hgd s x t ho B T i0 zv S.n by' ht hi hz0 hz1 hz2 hzc S.pos v _ _ hs hown.1 ⟨g, 0, none⟩ 1 c (S.cs e) hx (by rw [S.len]; omega) ?_ (fun u hu => S.one e u hu) (by unfold maxLen; omega) ?_ hB ?_
  · intro j u hj
    have hj' : j < S.n := by
      rcases Nat.lt_or_ge j S.n with h | h
      · exact h
      · rw [List.getElem?_eq_none (by rw [S.len]; exact h)] at hj; cases hj
    have e' : (⟨g, 0, none⟩ : Addr).add j = ⟨g, j, none⟩ := by unfold Addr.add; split <;> simp_all
    rw [e', hc j hj', hj]
  · have : (xs.length + 1) * by' ≤ (xs.length + 1) * 64 := Nat.mul_le_mul_left _ hby
    omega
  · intro v' w' h1 h2 _
    have hO : OwnG S T w' B v' (xs ++ [e]) := ⟨by simpa using h1, by simpa using hlen, fun y hy => by
      rcases List.mem_append.1 hy with h | h
      · exact hown.2.2 y h
      · simp at h; subst h; exact he⟩
    obtain ⟨a', c', rfl⟩ := hO.form
    exact h a' c' w' hO h2
theorem OwnG.emptyD {α : Type} (S : Sh α) (T : TypeId) (w : World) : OwnG S T (w.alloc (.cells #[] T)) w.heap.size (.slice (some ⟨w.heap.size, 0, none⟩) 0 0) [] :=
  ⟨World.ownsRow_lit w #[] 0 (Nat.le_refl _) (Nat.zero_le _) (by simp), by simp, by simp⟩
theorem OwnG.drawn {α : Type} {S : Sh α} {T : TypeId} {w w' : World} {B g : Nat} {a : Option Addr} {n c : Nat} {bs : List Int} {v : Value} {xs : List α} (h : OwnG S T w B v xs) (hB : g < B) (hD : Drawn w w' g a n c bs) : OwnG S T w' B v xs :=
  h.but hD.gb (.inr (fun e => by have := (h.lt _ e).1; omega))
theorem Own.drawn {w w' : World} {B g : Nat} {a : Option Addr} {n c : Nat} {bs : List Int} {v : Value} {xs : List Int} (h : Own w B v xs) (hB : g < B) (hD : Drawn w w' g a n c bs) : Own w' B v xs :=
  h.but hD.gb (.inr (fun e => by have := (h.lt _ e).1; omega))
/-- A step of our own beside the reader. -/
theorem Drawn.grown {w w1 w2 : World} {g : Nat} {a : Option Addr} {n c : Nat} {bs : List Int} (h : Drawn w w1 g a n c bs) {row : Option Nat} (k : w1.grownBy w2 row) (hr : ∀ j, row = some j → w.heap.size ≤ j) (hg : g < w.heap.size) (hbz : ∀ b off, 0 < n → a = some ⟨b, off, none⟩ → b < w.heap.size) : Drawn w w2 g a n c bs := by
  have hne : some g ≠ row := fun e => by have := hr g e.symm; omega
  refine ⟨⟨Nat.lt_of_lt_of_le h.rd.lt k.size, k.cell h.rd.c0 hne, ?_, ?_, h.rd.nb, h.rd.lim, fun h0 => ?_⟩, ?_⟩
  · obtain ⟨p, hp, hc⟩ := h.rd.c1; exact ⟨p, hp, k.cell hc hne⟩
  · have := k.block g h.rd.lt hne
    unfold World.frozen?; simp only; rw [this]; exact h.rd.fz
  · obtain ⟨b, off, e, hne2, hlt, hcs⟩ := h.rd.by_ h0
    have hb := hbz b off h0 e
    exact ⟨b, off, e, hne2, Nat.lt_of_lt_of_le hlt k.size, fun j hj => k.cell (hcs j hj) (fun e => by have := hr b e.symm; omega)⟩
  · exact ⟨k.os.trans h.gb.os, k.tape.trans h.gb.tape, k.output.trans h.gb.output, Nat.le_trans h.gb.size k.size, fun i hi hne2 => (k.block i (Nat.lt_of_lt_of_le hi h.gb.size) (fun e => by have := hr i e.symm; omega)).trans (h.gb.block i hi hne2)⟩
theorem wrap_smallD {x : Int} (h1 : -9223372036854775808 ≤ x) (h2 : x < 9223372036854775808) : IntKind.i64.wrap x = x := by
  simp [IntKind.wrap, IntKind.bits, IntKind.signed]; omega
theorem gp_new (w : World) (x : Gp) (t : TypeId) (g : Nat) (hg : g = w.heap.size) : ∀ j, j < shGo.n → (w.alloc (.cells #[.int .i64 x.c, .int .i64 x.a, .int .i64 x.b] t)).cell? ⟨g, j, none⟩ = (shGo.cs x)[j]? := by
  intro j _; rw [World.cell?_alloc_at _ _ _ _ hg]; simp [shGo, Gp.cs]
set_option maxRecDepth 100000 in
set_option maxHeartbeats 1000000 in
theorem drawGR_any (w : World) (a : Option Addr) (n c : Nat) (bs : List Int) (h : Src w a n c bs) :
    Calls Try.prog 23 #[.slice a n c] w fun e w' => ∃ (N : Nat) (hs : List Gp) (rs : List Int) (a1 a2 : Option Addr) (c1 c2 : Nat), e = .returned (.tuple #[.int .i64 (N : Nat), .slice a1 hs.length c1, .slice a2 rs.length c2]) ∧ 1 ≤ N ∧ N ≤ 30 ∧ hs.length ≤ 60 ∧ rs.length ≤ 4 ∧ (∀ e ∈ hs, 1 ≤ e.a ∧ e.a ≤ N ∧ 1 ≤ e.b ∧ e.b ≤ N) ∧ OwnGo 45 w' w.heap.size (.slice a1 hs.length c1) hs ∧ Own w' w.heap.size (.slice a2 rs.length c2) rs ∧ Below w.heap.size w w' := by
  have hOp := dr_open_any w a n c bs h
  have HSrc : Hid (∀ b off, 0 < n → a = some ⟨b, off, none⟩ → b < w.heap.size) := fun b off h0 e => by
    obtain ⟨b', off', e', hlt, _⟩ := h.by_ h0
    rw [e] at e'
    simp only [Option.some.injEq, Addr.mk.injEq] at e'
    rw [e'.1]; exact hlt
  clear h
  go_enter Try.func23, Try.ntmps23
  go_wp2_with fail
  refine hOp.mono ?_
  rintro e w1 ⟨g, rfl, hgz, hR, b1⟩
  clear hOp
  have hglt := hR.lt
  have hb1z := b1.size
  have HBZ : Hid (∀ b off, 0 < n → a = some ⟨b, off, none⟩ → b < w1.heap.size) := fun b off h0 e => Nat.lt_of_lt_of_le (HSrc.out b off h0 e) hb1z
  have hS := dr_size_any w1 g a n c bs 5 30 (by omega) (by omega) (by omega) (by omega) hR
  rw [show ((5 : Nat) : Int) = 5 from rfl, show ((30 : Nat) : Int) = 30 from rfl] at hS
  have HB1 : Hid (Below w.heap.size w w1) := b1
  clear b1 hR
  go_wp2_with fail
  refine hS.mono ?_
  rintro e w2 ⟨N, rfl, hN1, hN2, hD2⟩
  clear hS
  have hsz2 := hD2.gb.size
  have hO0 := OwnG.emptyD shGo 45 w2
  have hDa := hD2.below ((Below.refl _ w2).alloc (Nat.le_refl _) (.cells #[] 45))
  have hM := dr_below_any _ g a n c bs (2 * N) (by omega) (by omega) hDa.rd
  have hmul : IntKind.i64.wrap (2 * (N : Int)) = 2 * (N : Int) := wrap_smallD (by omega) (by omega)
  rw [show ((2 * N : Nat) : Int) = 2 * (N : Int) by omega] at hM
  go_wp2_with fail
  refine hM.mono ?_
  rintro e w3 ⟨M, rfl, hM2, hD3⟩
  clear hM
  have HO3 : Hid (OwnG shGo 45 w3 w1.heap.size (.slice (some ⟨w2.heap.size, 0, none⟩) 0 0) []) := (hO0.mono hsz2).drawn hglt hD3
  have HD3 : Hid (Drawn w1 w3 g a n c bs) := hDa.trans hD3
  clear hO0 hDa hD2 hD3 hmul
  have hBN := fun W (h : Rdr W g a n c bs) => dr_belowG_any W g a n c bs N (by omega) h
  go_wp2
  go_loopw [7, 9] (fun v i wr => ∃ (k : Nat) (hs : List Gp), k ≤ M ∧ hs.length = k ∧ i = .int .i64 k ∧ (∀ e ∈ hs, 1 ≤ e.a ∧ e.a ≤ N ∧ 1 ≤ e.b ∧ e.b ≤ N) ∧ OwnG shGo 45 wr w1.heap.size v hs ∧ Drawn w1 wr g a n c bs) (fun _ i _ => M - (RowKit.intOf i).toNat)
  case atStart => exact ⟨0, [], Nat.zero_le _, rfl, rfl, (fun e he => by cases he), HO3.out, HD3.out⟩
  case round =>
    obtain ⟨k, hs, hk, hlen, rfl, hin, hO, hD⟩ := hrel
    clear HO3 HD3
    obtain ⟨va, vc, hv⟩ := hO.form
    subst hv
    have HL : Hid (hs.length = k) := hlen
    have HIN : Hid (∀ e ∈ hs, 1 ≤ e.a ∧ e.a ≤ N ∧ 1 ≤ e.b ∧ e.b ≤ N) := hin
    have hopl : hs.length ≤ 256 := by omega
    clear hin
    by_cases hlt : k < M
    · clear hlen
      go_wp2_with fail
      refine (hBN _ hD.rd).mono ?_
      rintro e w4 ⟨x, rfl, hx, hD4⟩
      have hx2 : x < N := by omega
      have hO4 := hO.drawn hglt hD4
      have hDB := hD.trans hD4
      clear hO hD hD4 hx
      go_wp2_with fail
      refine (hBN _ hDB.rd).mono ?_
      rintro e w5 ⟨y, rfl, hy, hD5⟩
      have hy2 : y < N := by omega
      have hO5 := hO4.drawn hglt hD5
      have hDC := hDB.trans hD5
      clear hO4 hDB hD5 hy
      have hsz5 := hDC.gb.size
      have hwx : IntKind.i64.wrap (1 + (x : Int)) = 1 + (x : Int) := wrap_smallD (by omega) (by omega)
      have hwy : IntKind.i64.wrap (1 + (y : Int)) = 1 + (y : Int) := wrap_smallD (by omega) (by omega)
      have HDC : Hid (Drawn w1 w5 g a n c bs) := hDC
      have HLT : Hid (∀ j, (Value.slice va hs.length vc).ownBlock = some j → w1.heap.size ≤ j) := fun j hj => (hO5.lt j hj).1
      go_wp2_with (at_builtin; refine wpList_append_one (S := shGo) Try.info45 rfl (by omega) rfl _ _ 26 rfl Try.underlying26 w1.heap.size _ hs (⟨0, 1 + (x : Int), 1 + (y : Int)⟩ : Gp) ⟨⟨by show -9223372036854775808 ≤ (0 : Int); omega, by show (0 : Int) < _; omega⟩, ⟨by show -9223372036854775808 ≤ 1 + (x : Int); omega, by show 1 + (x : Int) < _; omega⟩, ⟨by show -9223372036854775808 ≤ 1 + (y : Int); omega, by show 1 + (y : Int) < _; omega⟩⟩ w5.heap.size 1 rfl rfl (hO5.alloc _) (gp_new _ (⟨0, 1 + (x : Int), 1 + (y : Int)⟩ : Gp) _ _ (by simp)) (by omega) (by simp; omega) ?_; intro a' c' w' hO' hg')
      have hDf : Drawn w1 w' g a n c bs := (HDC.out.below ((Below.refl _ _).alloc (Nat.le_refl _) _)).grown hg' HLT.out hglt HBZ.out
      go_roundw
      case rel =>
        refine ⟨k + 1, hs ++ [(⟨0, 1 + (x : Int), 1 + (y : Int)⟩ : Gp)], by omega, by simp [HL.out], by go_num, fun e he => ?_, by simpa using hO', hDf⟩
        rcases List.mem_append.1 he with h5 | h5
        · exact HIN.out e h5
        · rw [List.mem_singleton] at h5; subst h5
          exact ⟨by show 1 ≤ 1 + (x : Int); omega, by show 1 + (x : Int) ≤ N; omega, by show 1 ≤ 1 + (y : Int); omega, by show 1 + (y : Int) ≤ N; omega⟩
      case measure => simp [RowKit.intOf]; omega
    · obtain rfl : k = M := by omega
      obtain ⟨zr, hzr⟩ : ∃ zr, wr.heap.size = zr := ⟨_, rfl⟩
      have HH : Hid (∀ j, (Value.slice va k vc).ownBlock = some j → j < zr) := fun j hj => by rw [← hlen] at hj; have := (hO.lt j hj).2; omega
      have oR0 := Own.empty wr
      have hDa := hD.below ((Below.refl _ wr).alloc (Nat.le_refl _) (.cells #[] 2))
      have hOa := hO.alloc (.cells #[] 2)
      have hM4 := dr_below_any _ g a n c bs 4 (by omega) (by omega) hDa.rd
      rw [show ((4 : Nat) : Int) = 4 from rfl] at hM4
      rw [hlen] at hOa
      try rw [hlen]
      have hz1 := hD.gb.size
      clear hO hD hlen hlt
      go_wp2_with fail
      refine hM4.mono ?_
      rintro e w6 ⟨M2, rfl, hM4b, hD6⟩
      clear hM4
      have HO6 : Hid (OwnG shGo 45 w6 w1.heap.size (.slice va k vc) hs) := hOa.drawn hglt hD6
      have HR6 : Hid (Own w6 zr (.slice (some ⟨zr, 0, none⟩) 0 0) []) := by
        show Own _ _ _ _
        rw [← hzr]
        exact oR0.drawn (by omega) hD6
      have hz6 : zr ≤ w6.heap.size := by have := hD6.gb.size; rw [World.size_alloc] at this; omega
      have HD6 : Hid (Drawn w1 w6 g a n c bs) := hDa.trans hD6
      clear hOa oR0 hDa hD6
      go_wp2
      go_loopw [10, 11] (fun v i wq => ∃ (j : Nat) (rs : List Int), j ≤ M2 ∧ rs.length = j ∧ i = .int .i64 j ∧ Own wq zr v rs ∧ OwnG shGo 45 wq w1.heap.size (.slice va k vc) hs ∧ Drawn w1 wq g a n c bs ∧ zr ≤ wq.heap.size) (fun _ i _ => M2 - (RowKit.intOf i).toNat)
      case atStart => exact ⟨0, [], Nat.zero_le _, rfl, rfl, HR6.out, HO6.out, HD6.out, hz6⟩
      case round =>
        obtain ⟨j, rs, hj, hrl, rfl, hOr, hOh, hDr, hzq⟩ := hrel
        clear HR6 HO6 HD6 hz6
        generalize wr = Q at *
        obtain ⟨ra, rc, hv⟩ := hOr.form
        subst hv
        have HRL : Hid (rs.length = j) := hrl
        have hlr : rs.length ≤ 4 := by omega
        by_cases hlt : j < M2
        · clear hrl
          go_wp2_with fail
          refine (hBN _ hDr.rd).mono ?_
          rintro e w7 ⟨x, rfl, hx, hD7⟩
          have hx2 : x < N := by omega
          have hOr7 := hOr.drawn (by omega) hD7
          have hOh7 := hOh.drawn hglt hD7
          have hD8 := hDr.trans hD7
          have hD7z := hD7.gb.size
          clear hOr hOh hDr hD7 hx
          have hwx : IntKind.i64.wrap (1 + (x : Int)) = 1 + (x : Int) := wrap_smallD (by omega) (by omega)
          have HD8 : Hid (Drawn w1 w7 g a n c bs) := hD8
          have HOh : Hid (OwnG shGo 45 w7 w1.heap.size (.slice va k vc) hs) := hOh7
          have HLT : Hid (∀ j, (Value.slice ra rs.length rc).ownBlock = some j → zr ≤ j) := fun j hj => (hOr7.lt j hj).1
          have hz7 := hD8.gb.size
          have hzw : zr ≤ w7.heap.size := Nat.le_trans hzq hD7z
          have cA : (w7.alloc (.cells #[.int .i64 (1 + (x : Int))] 2)).cell? ⟨w7.heap.size, 0, none⟩ = some (.int .i64 (1 + (x : Int))) := by rw [World.cell?_alloc_at _ _ _ _ rfl]; rfl
          go_wp2_with (at_builtin; refine wpList_append_intL rfl (.tmp 46) (.tmp 51) 23 rfl Try.underlying23 zr _ rs (1 + (x : Int)) (by omega) w7.heap.size 1 rfl rfl (hOr7.alloc _) cA (by omega) (by simp; omega) ?_; intro xb xc w' hO' hg' hl' hz')
          have hOhf : OwnG shGo 45 w' w1.heap.size (.slice va k vc) hs := by
            refine (HOh.out.alloc (.cells #[.int .i64 (1 + (x : Int))] 2)).but hg' ?_
            cases hv : (Value.slice va k vc).ownBlock with
            | none => exact .inl rfl
            | some q => exact .inr (fun e => by have h5 := HH.out q hv; have h6 := HLT.out q e.symm; omega)
          have hDf : Drawn w1 w' g a n c bs := (HD8.out.below ((Below.refl _ _).alloc (Nat.le_refl _) _)).grown hg' (fun q hq => Nat.le_trans (by omega) (HLT.out q hq)) hglt HBZ.out
          have hzf : zr ≤ w'.heap.size := by have := hg'.size; rw [World.size_alloc] at this; omega
          go_roundw
          case rel => exact ⟨j + 1, rs ++ [1 + (x : Int)], by omega, by simp [HRL.out], by go_num, hO', hOhf, hDf, hzf⟩
          case measure => simp [RowKit.intOf]; omega
        · obtain rfl : j = M2 := by omega
          have hOn := dr_once_any _ g a n c bs 12 (by omega) (by omega) hDr.rd
          rw [show ((12 : Nat) : Int) = 12 from rfl] at hOn
          have HOh : Hid (OwnG shGo 45 Q w1.heap.size (.slice va k vc) hs) := hOh
          have HDr : Hid (Drawn w1 Q g a n c bs) := hDr
          clear hOh hDr hrl hlt
          go_wp2_with fail
          refine hOn.mono ?_
          rintro e w8 ⟨b, rfl, hD8⟩
          clear hOn
          have hOr8 := hOr.drawn (by omega) hD8
          have hOh8 := HOh.out.drawn hglt hD8
          have hD9 := HDr.out.trans hD8
          have hz8 : zr ≤ w8.heap.size := Nat.le_trans hzq hD8.gb.size
          clear hOr hD8
          have HFin : Hid (∀ (W : World) (rs' : List Int) (ra' : Option Addr) (rc' : Nat), rs'.length ≤ 4 → Own W zr (.slice ra' rs'.length rc') rs' → OwnG shGo 45 W w1.heap.size (.slice va k vc) hs → Drawn w1 W g a n c bs → OwnGo 45 W w.heap.size (.slice va hs.length vc) hs ∧ Own W w.heap.size (.slice ra' rs'.length rc') rs' ∧ Below w.heap.size w W) := fun W rs' ra' rc' h5 h6 h7 h8 => by
            rw [HL.out]
            exact ⟨h7.mono hb1z, h6.mono (by omega), HB1.out.trans (gb_to h8.gb (fun q hq => by have : g = q := Option.some.inj hq; omega) hb1z)⟩
          cases b
          · go_wp2
            obtain ⟨f1, f2, f3⟩ := HFin.out w8 rs ra rc hlr hOr8 hOh8 hD9
            go_ret3
            exact ⟨N, hs, rs, va, ra, vc, rc, by rw [HL.out]; rfl, hN1, hN2, by have := HL.out; omega, hlr, HIN.out, f1, f2, f3⟩
          · have hB3 := dr_below_any _ g a n c bs 3 (by omega) (by omega) hD9.rd
            rw [show ((3 : Nat) : Int) = 3 from rfl] at hB3
            have HOr8 : Hid (Own w8 zr (.slice ra rs.length rc) rs) := hOr8
            clear hOr8
            go_wp2_with fail
            refine hB3.mono ?_
            rintro e w9 ⟨x, rfl, hx, hD10⟩
            clear hB3
            have hOr9 := HOr8.out.drawn (by omega) hD10
            have HOh9 : Hid (OwnG shGo 45 w9 w1.heap.size (.slice va k vc) hs) := hOh8.drawn hglt hD10
            have HD9 : Hid (Drawn w1 w9 g a n c bs) := hD9.trans hD10
            have hz9 : zr ≤ w9.heap.size := Nat.le_trans hz8 hD10.gb.size
            have hpr : 0 ≤ (x : Int) * ((N : Int) + 1) ∧ (x : Int) * ((N : Int) + 1) ≤ 62 := by
              have : x * (N + 1) ≤ 2 * 31 := Nat.mul_le_mul (by omega) (by omega)
              have h5 : ((x * (N + 1) : Nat) : Int) = (x : Int) * ((N : Int) + 1) := by rw [Int.natCast_mul, Int.natCast_add]; rfl
              omega
            obtain ⟨PR, hPR⟩ : ∃ PR, (x : Int) * ((N : Int) + 1) = PR := ⟨_, rfl⟩
            rw [hPR] at hpr
            have hwp : IntKind.i64.wrap PR = PR := wrap_smallD (by omega) (by omega)
            have hwn : IntKind.i64.wrap ((N : Int) + 1) = (N : Int) + 1 := wrap_smallD (by omega) (by omega)
            have HLT : Hid (∀ j, (Value.slice ra rs.length rc).ownBlock = some j → zr ≤ j) := fun j hj => (hOr9.lt j hj).1
            have cA : (w9.alloc (.cells #[.int .i64 PR] 2)).cell? ⟨w9.heap.size, 0, none⟩ = some (.int .i64 PR) := by rw [World.cell?_alloc_at _ _ _ _ rfl]; rfl
            clear hD10 hD9 hOh8
            have hlr2 : rs.length ≤ 3 := by have := HRL.out; omega
            go_wp2_with (at_builtin; refine wpList_append_intL rfl (.tmp 55) (.tmp 61) 23 rfl Try.underlying23 zr _ rs PR (by omega) w9.heap.size 1 rfl rfl (hOr9.alloc _) cA (by omega) (by simp; omega) ?_; intro xb xc w' hO' hg' hl' hz')
            have hOhf : OwnG shGo 45 w' w1.heap.size (.slice va k vc) hs := by
              refine (HOh9.out.alloc (.cells #[.int .i64 PR] 2)).but hg' ?_
              cases hv : (Value.slice va k vc).ownBlock with
              | none => exact .inl rfl
              | some q => exact .inr (fun e => by have h5 := HH.out q hv; have h6 := HLT.out q e.symm; omega)
            have hDf : Drawn w1 w' g a n c bs := (HD9.out.below ((Below.refl _ _).alloc (Nat.le_refl _) _)).grown hg' (fun q hq => Nat.le_trans (by omega) (HLT.out q hq)) hglt HBZ.out
            obtain ⟨f1, f2, f3⟩ := HFin.out w' (rs ++ [PR]) (some ⟨xb, 0, none⟩) xc (by simp; omega) (by simpa using hO') hOhf hDf
            go_ret3
            exact ⟨N, hs, rs ++ [PR], va, some ⟨xb, 0, none⟩, vc, xc, by rw [HL.out, List.length_append]; rfl, hN1, hN2, by have := HL.out; omega, by simp; omega, HIN.out, f1, f2, f3⟩
end Go.Proofs.Ytjnalkeopehlbaa

namespace Go.Proofs.Ytjnalkeopehlbaa
open Go.RowKit Go.Maps
set_option linter.unusedVariables false
set_option linter.unusedSimpArgs false

theorem big_any (w : World) (a : Option Addr) (n c : Nat) :
    Calls Try.prog 22 #[.slice a n c] w fun e w' => e = .returned (.bool (decide ((1048576 : Int) < (n : Int)))) ∧ w' = w := by
  go_enter Try.func22, Try.ntmps22
  go_wp2
  go_ret
  exact ⟨by simp, rfl⟩

theorem sameInts_any (v u : Value) (xs : List Int) (w : World) (hx : Rd w v xs) (hy : Rd w u xs) :
    Calls Try.prog 24 #[v, u] w fun e w' => e = .returned (.bool true) ∧ Below w.heap.size w w' := by
  obtain ⟨a, cap, rfl, hlx, hzx, hnx, hcx⟩ := hx
  obtain ⟨a', cap', rfl, hly, hzy, hny, hcy⟩ := hy
  go_enter Try.func24, Try.ntmps24
  go_wp2
  go_loopw [5] (fun i wr => ∃ k : Nat, k ≤ xs.length ∧ i = .int .i64 k ∧ Below w.heap.size w wr)
    (fun i _ => xs.length - (intOf i).toNat)
  case atStart => exact ⟨0, Nat.zero_le _, rfl, Below.refl _ _⟩
  case round =>
    obtain ⟨k, hk, rfl, hBr⟩ := hrel
    by_cases hlt : k < xs.length
    · obtain ⟨b, off, rfl, hb, hcell⟩ := hcx (by omega)
      obtain ⟨b', off', rfl, hb', hcell'⟩ := hcy (by omega)
      have hce : wr.cell? ⟨b, off + k, none⟩ = some (.int .i64 (xs.getD k 0)) := (hBr.cell (p := ⟨b, off + k, none⟩) hb).trans (hcell k hlt)
      have hce' : wr.cell? ⟨b', off' + k, none⟩ = some (.int .i64 (xs.getD k 0)) := (hBr.cell (p := ⟨b', off' + k, none⟩) hb').trans (hcell' k hlt)
      clear hcell hcell' hcx hcy
      generalize xs.getD k 0 = Z at *
      go_wp2
      go_region
      all_goals go_wp2
      all_goals
        go_roundw
        case rel => exact ⟨k + 1, by omega, by go_num, hBr.drew⟩
        case measure => simp [intOf]; omega
    · go_wp2
      go_ret
      exact ⟨rfl, hBr⟩
/-- append(xs, y1, y2, ..). -/
theorem wpList_append_many {α : Type} {S : Sh α} {T : TypeId} {zv : Value} {by' : Nat} (hinfo : (Try.prog.info? T).map (fun i => (i.zero, i.size, i.bytes)) = some (some zv, S.n, by')) (hzc : zv.cells.size = S.n) (hby : by' ≤ 64)
    {w : World} {ops : Array Oper} {rest : List Oper} {o : Oper} {a : Act} {Q : Exit → Act → World → Prop} (hgd : o.guard = none) (s x : Operand) (t : TypeId)
    (ho : o.op = .call { callee := .builtin .append, args := #[s, x], argTypes := #[t, t] }) (ht : Try.prog.underlying t = some (.slice T)) (B : Nat) (v : Value) (xs ys : List α) (he : ∀ e ∈ ys, S.ok e) (g m c : Nat) (hm : m = ys.length) (hs : a.eval s = v) (hx : a.eval x = .slice (some ⟨g, 0, none⟩) m c)
    (hown : OwnG S T w B v xs) (hc : ∀ j, j < ys.length * S.n → w.cell? ⟨g, j, none⟩ = (ys.flatMap S.cs)[j]?) (hlen : xs.length + ys.length ≤ 16777216) (hB : B ≤ w.heap.size)
    (h : ∀ a' c' w', OwnG S T w' B (.slice a' (xs ++ ys).length c') (xs ++ ys) → w.grownBy w' v.ownBlock → wpList Try.prog ops Q rest (a.put o.dst (.slice a' (xs ++ ys).length c')) w') :
    wpList Try.prog ops Q (o :: rest) a w := by
  subst hm
  obtain ⟨i0, hi, hz0, hz1, hz2⟩ := info_parts hinfo
  refine wpList_append_own w hgd s x t ho B T i0 zv S.n by' ht hi hz0 hz1 hz2 hzc S.pos v _ _ hs hown.1 ⟨g, 0, none⟩ ys.length c (ys.flatMap S.cs) hx (by rw [flat_length]) ?_ ?_ (by unfold maxLen; omega) ?_ hB ?_
  · intro j u hj
    have hj' : j < ys.length * S.n := by
      rcases Nat.lt_or_ge j (ys.length * S.n) with h | h
      · exact h
      · rw [List.getElem?_eq_none (by rw [flat_length]; exact h)] at hj; cases hj
    have e' : (⟨g, 0, none⟩ : Addr).add j = ⟨g, j, none⟩ := by unfold Addr.add; split <;> simp_all
    rw [e', hc j hj', hj]
  · intro u hu
    obtain ⟨e, he2, hu2⟩ := List.mem_flatMap.1 hu
    exact S.one e u hu2
  · have : (xs.length + ys.length) * by' ≤ (xs.length + ys.length) * 64 := Nat.mul_le_mul_left _ hby
    omega
  · intro v' w' h1 h2 _
    have hO : OwnG S T w' B v' (xs ++ ys) := ⟨by simpa using h1, by simpa using hlen, fun y hy => by
      rcases List.mem_append.1 hy with h | h
      · exact hown.2.2 y h
      · exact he y h⟩
    obtain ⟨a', c', rfl⟩ := hO.form
    exact h a' c' w' hO h2
theorem gp_two (w : World) (x y : Gp) (t : TypeId) (g : Nat) (hg : g = w.heap.size) : ∀ j, j < [x, y].length * shGo.n → (w.alloc (.cells #[.int .i64 x.c, .int .i64 x.a, .int .i64 x.b, .int .i64 y.c, .int .i64 y.a, .int .i64 y.b] t)).cell? ⟨g, j, none⟩ = ([x, y].flatMap shGo.cs)[j]? := by
  intro j _; rw [World.cell?_alloc_at _ _ _ _ hg]; simp [shGo, Gp.cs]
end Go.Proofs.Ytjnalkeopehlbaa
