/-
  frac.Best AND THE DOCUMENT'S, over the cells of a row of fractions. Condition: each number is of 64 bits; no more than a hundred fractions.
-/
import Derived.Test.YthfipbmmbhnhiaaDoorBestN
namespace Go.Proofs.YthfipbmmbhnhiaaDoor
open Go.RowKit

/-- Where a slice of n fractions leads to, these lie. -/
def HoldsF (a : Option Addr) (n : Nat) (H L D : Nat → Int) (w : World) : Prop :=
  n = 0 ∨ ∃ b off, a = some ⟨b, off, none⟩ ∧ b < w.heap.size ∧ ∀ j, j < n → w.cell? ⟨b, off + j * 3, none⟩ = some (.int .u64 (H j)) ∧ w.cell? ⟨b, off + j * 3 + 1, none⟩ = some (.int .u64 (L j)) ∧ w.cell? ⟨b, off + j * 3 + 2, none⟩ = some (.int .u64 (D j))
theorem HoldsF.below {a : Option Addr} {n : Nat} {H L D : Nat → Int} {w w' : World} (h : HoldsF a n H L D w) (hb : Below w.heap.size w w') : HoldsF a n H L D w' := by
  rcases h with h | ⟨b, off, ha, hlt, hc⟩
  · exact .inl h
  · exact .inr ⟨b, off, ha, Nat.lt_of_lt_of_le hlt hb.size, fun j hj => ⟨(hb.cell (by exact hlt)).trans (hc j hj).1, (hb.cell (by exact hlt)).trans (hc j hj).2.1, (hb.cell (by exact hlt)).trans (hc j hj).2.2⟩⟩
/-- Each is of 64 bits. -/
def AllF (n : Nat) (H L D : Nat → Int) : Prop := ∀ j, j < n → Word (H j) ∧ Word (L j) ∧ Word (D j)

/-- A fraction at a place of a row. -/
structure At3r (b o : Nat) (x y z : Int) (w : World) : Prop where
  lt : b < w.heap.size
  c0 : w.cell? ⟨b, o, none⟩ = some (.int .u64 x)
  c1 : w.cell? ⟨b, o + 1, none⟩ = some (.int .u64 y)
  c2 : w.cell? ⟨b, o + 2, none⟩ = some (.int .u64 z)
theorem At3r.below {b o : Nat} {x y z : Int} {w w' : World} (h : At3r b o x y z w) (hb : Below w.heap.size w w') : At3r b o x y z w' :=
  ⟨Nat.lt_of_lt_of_le h.lt hb.size, (hb.cell (by exact h.lt)).trans h.c0, (hb.cell (by exact h.lt)).trans h.c1, (hb.cell (by exact h.lt)).trans h.c2⟩

/-- A place came back, as told. -/
def GotPre (e : Ending) (n : Nat) (H L D : Nat → Int) : Prop := ∃ k : Int, e = .returned (.int .i64 k) ∧ Pre n H L D k
def GotBest (e : Ending) (n : Nat) (H L D : Nat → Int) : Prop := ∃ k : Int, e = .returned (.int .i64 k) ∧ IsBest n H L D k

set_option maxHeartbeats 2000000 in
theorem greatest_any (a : Option Addr) (n cap : Nat) (H L D : Nat → Int) (hn : n ≤ 100) (hw : AllF n H L D) (w : World) (hh : HoldsF a n H L D w) :
    Calls Tryd.prog 29 #[.slice a n cap, .func (.func 9) #[] #[]] w fun e w' => GotPre e n H L D ∧ Below w.heap.size w w' := by
  go_enter Tryd.func29, Tryd.ntmps29
  go_wp2_with fail
  go_loopw [5, 10] (fun pv iv wr => ∃ (j : Nat) (k : Int), j ≤ n ∧ iv = .int .i64 j ∧ pv = .int .i64 k ∧ Below w.heap.size w wr ∧ Hid (Pre j H L D k)) (fun _ iv _ => n - (intOf iv).toNat)
  case atStart => exact ⟨0, -1, by omega, rfl, rfl, Below.refl _ _, Pre.start H L D⟩
  case round =>
    obtain ⟨j, k, hj, rfl, rfl, hB, HP⟩ := hrel
    by_cases hlt : j < n
    · have i1 : (j : Int) < (n : Int) := by omega
      obtain ⟨b, off, rfl, hb, hc⟩ : ∃ b off, a = some ⟨b, off, none⟩ ∧ b < wr.heap.size ∧ ∀ j, j < n → wr.cell? ⟨b, off + j * 3, none⟩ = some (.int .u64 (H j)) ∧ wr.cell? ⟨b, off + j * 3 + 1, none⟩ = some (.int .u64 (L j)) ∧ wr.cell? ⟨b, off + j * 3 + 2, none⟩ = some (.int .u64 (D j)) := by
        rcases hh.below hB with h | h
        · omega
        · exact h
      obtain ⟨c0, c1, c2⟩ := hc j hlt
      have hbx := alloc_below wr (.cells #[.int .u64 (H j), .int .u64 (L j), .int .u64 (D j)] 26)
      rcases HP.out.at with ⟨rfl, rfl⟩ | ⟨q, rfl, hq⟩
      · clear hc
        simp only [Nat.zero_mul, Nat.add_zero] at c0 c1 c2
        have HB := Lib.hid (onto hB hbx)
        have x0 := At3.newF wr (H 0) (L 0) (D 0)
        go_wp2_with fail
        clear c0 c1 c2 hbx hB
        generalize wr.alloc (.cells #[.int .u64 (H 0), .int .u64 (L 0), .int .u64 (D 0)] 26) = W at *
        go_quiet (fail)
        go_wp2_with fail
        go_roundw
        case rel => exact ⟨1, 0, by omega, by go_num, rfl, drawn HB.out _, Pre.first H L D⟩
        case measure => simp [intOf]; omega
      · obtain ⟨X, HX⟩ : ∃ X, Hid (at2 H L D j q = X) := ⟨_, rfl⟩
        have MC := fCmp_any (H j) (L j) (D j) (H q) (L q) (D q) (hw j hlt).1 (hw j hlt).2.1 (hw j hlt).2.2 (hw q (by omega)).1 (hw q (by omega)).2.1 (hw q (by omega)).2.2
        rw [show cmpF (H j * 18446744073709551616 + L j) (D j) (H q * 18446744073709551616 + L q) (D q) = X from HX.out] at MC
        have HK : Hid (¬ 0 < X → Pre (j + 1) H L D (q : Int)) := fun h => HP.out.keep (by rw [HX.out]; exact h)
        have HT : Hid (0 < X → Pre (j + 1) H L D (j : Int)) := fun h => HP.out.take (fun i hi => (hw i (by omega)).2.2.1) (by rw [HX.out]; exact h)
        obtain ⟨d0, d1, d2⟩ := hc q (by omega)
        have HB := Lib.hid (onto hB hbx)
        have x0 := At3.newF wr (H j) (L j) (D j)
        have r0 : At3r b (off + q * 3) (H q) (L q) (D q) wr := ⟨hb, d0, d1, d2⟩
        have r1 := r0.below hbx
        have q0 : (0 : Int) ≤ (q : Int) := by omega
        have q1 : (q : Int) < (n : Int) := by omega
        have q2 : ¬ (q : Int) < 0 := by omega
        clear hc HP HX
        go_wp2_with fail
        clear c0 c1 c2 d0 d1 d2 hbx hB r0
        generalize wr.alloc (.cells #[.int .u64 (H j), .int .u64 (L j), .int .u64 (D j)] 26) = W at *
        have y0 := x0.below (Below.refl _ W).drew
        have s0 := r1.below (Below.refl _ W).drew
        have HB2 := Lib.hid HB.out.drew
        go_region_held3 (fun w' => (w'.cell? ⟨wr.heap.size, 0, none⟩ = some (.int .u64 (H j)) ∧ w'.cell? ⟨wr.heap.size, 1, none⟩ = some (.int .u64 (L j)) ∧ w'.cell? ⟨wr.heap.size, 2, none⟩ = some (.int .u64 (D j))) ∧ (w'.cell? ⟨b, off + q * 3, none⟩ = some (.int .u64 (H q)) ∧ w'.cell? ⟨b, off + q * 3 + 1, none⟩ = some (.int .u64 (L q)) ∧ w'.cell? ⟨b, off + q * 3 + 2, none⟩ = some (.int .u64 (D q)))) (first | exact ⟨⟨y0.c0, y0.c1, y0.c2⟩, s0.c0, s0.c1, s0.c2⟩ | exact ⟨⟨x0.c0, x0.c1, x0.c2⟩, r1.c0, r1.c1, r1.c2⟩)
          ((go_at_call 9; refine (MC _).mono ?_; rintro x w' ⟨rfl, c⟩; replace y0 := y0.below c; replace s0 := s0.below c; have HB3 := Lib.hid (onto HB2.out c); clear c))
        by_cases g : 0 < X
        · have HR := Lib.hid (HT.out (by omega))
          go_wp2_with fail
          go_roundw
          case rel => exact ⟨j + 1, j, by omega, by go_num, rfl, HB3.out, HR⟩
          case measure => simp [intOf]; omega
        · have HR := Lib.hid (HK.out (by omega))
          go_wp2_with fail
          go_roundw
          case rel => exact ⟨j + 1, q, by omega, by go_num, rfl, HB3.out, HR⟩
          case measure => simp [intOf]; omega
    · have hj2 : j = n := by omega
      subst hj2
      have HG : Hid (GotPre (.returned (.int .i64 k)) j H L D) := ⟨k, rfl, HP.out⟩
      clear HP
      go_wp2_with fail
      go_ret
      exact ⟨HG.out, hB⟩

theorem HoldsF.get {a : Option Addr} {n : Nat} {H L D : Nat → Int} {w : World} (h : HoldsF a n H L D w) (h0 : 0 < n) : ∃ b off, a = some ⟨b, off, none⟩ ∧ ∀ j, j < n → At3r b (off + j * 3) (H j) (L j) (D j) w := by
  rcases h with h | ⟨b, off, ha, hlt, hc⟩
  · omega
  · exact ⟨b, off, ha, fun j hj => ⟨hlt, (hc j hj).1, (hc j hj).2.1, (hc j hj).2.2⟩⟩

set_option maxHeartbeats 2000000 in
theorem best_any (a : Option Addr) (n cap : Nat) (H L D : Nat → Int) (hn : n ≤ 100) (hw : AllF n H L D) (w : World) (hh : HoldsF a n H L D w) :
    Calls Tryd.prog 15 #[.slice a n cap] w fun e w' => GotBest e n H L D ∧ Below w.heap.size w w' := by
  go_enter Tryd.func15, Tryd.ntmps15
  go_wp2_with fail
  refine (greatest_any a n cap H L D hn hw w hh).mono ?_
  rintro e w1 ⟨⟨k, rfl, hp⟩, c1⟩
  rcases hp.at with ⟨rfl, h0⟩ | ⟨q, rfl, hq⟩
  · have HG : Hid (GotBest (.returned (.int .i64 (-1))) n H L D) := ⟨-1, rfl, .inl ⟨rfl, fun i hi => by omega⟩⟩
    clear hp h0
    go_wp2_with fail
    go_ret
    exact ⟨HG.out, c1⟩
  · obtain ⟨b, off, rfl, hc⟩ := (hh.below c1).get (by omega)
    obtain ⟨_, d0, d1, d2⟩ := hc q hq
    have q0 : (0 : Int) ≤ (q : Int) := by omega
    have q1 : (q : Int) < (n : Int) := by omega
    have q2 : ¬ (q : Int) < 0 := by omega
    have HP := Lib.hid hp
    clear hp hc
    by_cases hd : D q = 0
    · have HG : Hid (GotBest (.returned (.int .i64 (-1))) n H L D) := ⟨-1, rfl, HP.out.none hd⟩
      have g : (D q != 0) = false := by simpa using hd
      clear HP hd
      go_wp2_with fail
      refine (right_any _ _ _ _).mono ?_
      rintro e w2 ⟨rfl, c2⟩
      have HB := Lib.hid (onto c1 c2)
      clear d0 d1 d2 c1 c2
      go_wp2_with fail
      go_ret
      exact ⟨HG.out, HB.out⟩
    · have HG : Hid (GotBest (.returned (.int .i64 (q : Int))) n H L D) := ⟨q, rfl, HP.out.best hd⟩
      have g : (D q != 0) = true := by simpa using hd
      clear HP hd
      go_wp2_with fail
      refine (right_any _ _ _ _).mono ?_
      rintro e w2 ⟨rfl, c2⟩
      have HB := Lib.hid (onto c1 c2)
      clear d0 d1 d2 c1 c2
      go_wp2_with fail
      go_ret
      exact ⟨HG.out, HB.out⟩

set_option maxHeartbeats 4000000 in
theorem refBest_any (a : Option Addr) (n cap : Nat) (H L D : Nat → Int) (hn : n ≤ 100) (hw : AllF n H L D) (w : World) (hh : HoldsF a n H L D w) :
    Calls Tryd.prog 16 #[.slice a n cap] w fun e w' => GotBest e n H L D ∧ Below w.heap.size w w' := by
  have wn : wrap64 ((n : Int) - 1) = (n : Int) - 1 := by unfold wrap64; omega
  go_enter Tryd.func16, Tryd.ntmps16
  go_wp2_with fail
  go_loopw [3, 4] (fun pv iv wr => ∃ (j : Nat) (k : Int), j ≤ n ∧ iv = .int .i64 ((j : Int) - 1) ∧ pv = .int .i64 k ∧ Below w.heap.size w wr ∧ Hid (Suf j n H L D k)) (fun _ iv _ => (intOf iv + 1).toNat)
  case atStart => exact ⟨n, -1, by omega, rfl, rfl, Below.refl _ _, Suf.start n H L D⟩
  case round =>
    obtain ⟨j, k, hj, rfl, rfl, hB, HS⟩ := hrel
    match j, hj, HS with
    | 0, hj, HS =>
      have HG : Hid (GotBest (.returned (.int .i64 k)) n H L D) := ⟨k, rfl, HS.out.best⟩
      have hneg : decide (0 ≤ ((0 : Nat) : Int) - 1) = false := by decide
      clear HS
      go_wp2_with fail
      go_ret
      exact ⟨HG.out, hB⟩
    | j + 1, hj, HS =>
      have e0 : ((j + 1 : Nat) : Int) - 1 = (j : Int) := by omega
      rw [e0]
      have j0 : (0 : Int) ≤ (j : Int) := by omega
      have j1 : (j : Int) < (n : Int) := by omega
      obtain ⟨b, off, rfl, hc⟩ := (hh.below hB).get (by omega)
      have r1 := hc j (by omega)
      obtain ⟨_, c0, c1, c2⟩ := r1
      by_cases hd : D j = 0
      · have HR := Lib.hid (HS.out.skip hd)
        have g : decide (0 < D j) = false := by simp [hd]
        clear HS hc e0 hd
        go_wp2_with fail
        go_quiet (fail)
        go_wp2_with fail
        go_roundw
        case rel => exact ⟨j, k, by omega, by go_num, rfl, drawn hB _, HR⟩
        case measure => simp [intOf]
      · have g : 0 < D j := by have := (hw j (by omega)).2.2.1; omega
        rcases HS.out.at with rfl | ⟨q, rfl, hq⟩
        · have HR := Lib.hid (HS.out.first (by omega) hd)
          clear HS hc e0 hd
          go_wp2_with fail
          go_quiet (fail)
          go_wp2_with fail
          go_roundw
          case rel => exact ⟨j, j, by omega, by go_num, rfl, drawn hB _, HR⟩
          case measure => simp [intOf]
        · obtain ⟨X, HX⟩ : ∃ X, Hid (at2 H L D j q = X) := ⟨_, rfl⟩
          have MC := refF_any (H j) (L j) (D j) (H q) (L q) (D q) (hw j (by omega)).1 (hw j (by omega)).2.1 (hw j (by omega)).2.2 (hw q hq).1 (hw q hq).2.1 (hw q hq).2.2
          rw [show cmpF (H j * 18446744073709551616 + L j) (D j) (H q * 18446744073709551616 + L q) (D q) = X from HX.out] at MC
          have HK : Hid (X < 0 → Suf j n H L D (q : Int)) := fun h => HS.out.keep (by rw [HX.out]; omega)
          have HT : Hid (0 ≤ X → Suf j n H L D (j : Int)) := fun h => HS.out.take (fun i hi => (hw i hi).2.2.1) (by omega) hd (by rw [HX.out]; exact h)
          have x0 := hc j (by omega)
          have r1 := hc q hq
          have q0 : (0 : Int) ≤ (q : Int) := by omega
          have q1 : (q : Int) < (n : Int) := by omega
          have q2 : ¬ (q : Int) < 0 := by omega
          clear hc HS HX e0 c0 c1 c2 hd
          have y0 := x0.below (Below.refl _ wr).drew
          have s0 := r1.below (Below.refl _ wr).drew
          have HB2 := Lib.hid hB.drew
          go_wp2_with fail
          go_region_held3 (fun w' => (w'.cell? ⟨b, off + j * 3, none⟩ = some (.int .u64 (H j)) ∧ w'.cell? ⟨b, off + j * 3 + 1, none⟩ = some (.int .u64 (L j)) ∧ w'.cell? ⟨b, off + j * 3 + 2, none⟩ = some (.int .u64 (D j))) ∧ (w'.cell? ⟨b, off + q * 3, none⟩ = some (.int .u64 (H q)) ∧ w'.cell? ⟨b, off + q * 3 + 1, none⟩ = some (.int .u64 (L q)) ∧ w'.cell? ⟨b, off + q * 3 + 2, none⟩ = some (.int .u64 (D q)))) (first | exact ⟨⟨y0.c0, y0.c1, y0.c2⟩, s0.c0, s0.c1, s0.c2⟩ | exact ⟨⟨x0.c0, x0.c1, x0.c2⟩, r1.c0, r1.c1, r1.c2⟩)
            ((go_at_call 10; refine (MC _).mono ?_; rintro x w' ⟨rfl, c⟩; replace y0 := y0.below c; replace s0 := s0.below c; have HB3 := Lib.hid (onto HB2.out c); clear c))
          by_cases g2 : 0 ≤ X
          · have HR := Lib.hid (HT.out g2)
            go_wp2_with fail
            go_roundw
            case rel => exact ⟨j, j, by omega, by go_num, rfl, HB3.out, HR⟩
            case measure => simp [intOf]
          · have HR := Lib.hid (HK.out (by omega))
            go_wp2_with fail
            go_roundw
            case rel => exact ⟨j, q, by omega, by go_num, rfl, HB3.out, HR⟩
            case measure => simp [intOf]
end Go.Proofs.YthfipbmmbhnhiaaDoor
