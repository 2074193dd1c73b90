/-
  HISTOGRAMS: combine, of moments: into a list what a way makes of the moments of two, one by one, up to the first for which it tells an error. Conditions: each number is of 64 bits with a sign; what is read first may be what is written; no more than 2^20 moments.
-/
import Derived.Test.YtebdlmjpgohngaaHisC
import Derived.Deep.DeepCutAuto
namespace Go.Proofs.Ytebdlmjpgohngaa
open Go.RowKit

/-- A moment at a place of a block. -/
structure AtM (g o : Nat) (x y z : Int) (w : World) : Prop where
  lt : g < w.heap.size
  c0 : w.cell? ⟨g, o, none⟩ = some (.int .i64 x)
  c1 : w.cell? ⟨g, o + 1, none⟩ = some (.int .i64 y)
  c2 : w.cell? ⟨g, o + 2, none⟩ = some (.int .i64 z)
theorem AtM.below {g o : Nat} {x y z : Int} {w w' : World} {B : Nat} (h : AtM g o x y z w) (hb : Below B w w') (hB : g < B) : AtM g o x y z w' :=
  ⟨Nat.lt_of_lt_of_le h.lt hb.size, (hb.cell (by exact hB)).trans h.c0, (hb.cell (by exact hB)).trans h.c1, (hb.cell (by exact hB)).trans h.c2⟩
theorem AtM.drew {g o : Nat} {x y z : Int} {w : World} (h : AtM g o x y z w) : AtM g o x y z w.drew := ⟨h.lt, h.c0, h.c1, h.c2⟩
theorem AtM.new (w : World) (x y z : Int) (t : TypeId) : AtM w.heap.size 0 x y z (w.alloc (.cells #[.int .i64 x, .int .i64 y, .int .i64 z] t)) := ⟨by simp, by simp [go_sem], by simp [go_sem], by simp [go_sem]⟩
theorem AtM.but {g o b : Nat} {x y z : Int} {w w' : World} (h : AtM g o x y z w) (hb : But b w w') (hn : g ≠ b) : AtM g o x y z w' :=
  ⟨Nat.lt_of_lt_of_le h.lt hb.size, (hb.cell (by exact h.lt) (by exact hn)).trans h.c0, (hb.cell (by exact h.lt) (by exact hn)).trans h.c1, (hb.cell (by exact h.lt) (by exact hn)).trans h.c2⟩
theorem AtM.set {g o : Nat} {x y z x' y' z' : Int} {w : World} (h : AtM g o x y z w) : AtM g o x' y' z' (set3 w g o (.int .i64 x') (.int .i64 y') (.int .i64 z')) := by
  obtain ⟨d0, d1, d2⟩ := set3_cell (x := .int .i64 x') (y := .int .i64 y') (z := .int .i64 z') h.c0 h.c1 h.c2
  exact ⟨Nat.lt_of_lt_of_le h.lt (set3_but w).size, d0, d1, d2⟩
theorem Lst.atM {g o : Nat} {l : List Int} {w : World} (h : Lst KL g o l w) (j : Nat) (hj : j * 3 + 2 < l.length) : AtM g (o + j * 3) (l.getD (j * 3) 0) (l.getD (j * 3 + 1) 0) (l.getD (j * 3 + 2) 0) w :=
  ⟨h.lt, h.cell _ (by omega), by rw [Nat.add_assoc]; exact h.cell _ (by omega), by rw [Nat.add_assoc]; exact h.cell _ (by omega)⟩
theorem Lst.set3 {g o : Nat} {l : List Int} {w : World} (h : Lst KL g o l w) (j : Nat) (hj : j * 3 + 2 < l.length) (x y z : Int) :
    Lst KL g o (((l.set (j * 3) x).set (j * 3 + 1) y).set (j * 3 + 2) z) (set3 w g (o + j * 3) (.int .i64 x) (.int .i64 y) (.int .i64 z)) := by
  have h1 := h.set (j * 3) x (by omega)
  have h2 := h1.set (j * 3 + 1) y (by simp; omega)
  have h3 := h2.set (j * 3 + 2) z (by simp; omega)
  unfold Go.Proofs.Ytebdlmjpgohngaa.set3
  rw [Nat.add_assoc, Nat.add_assoc]
  exact h3

/-- Two moments that are read. -/
structure X6 (ga oa gb ob : Nat) (x0 x1 x2 y0 y1 y2 : Int) (w : World) : Prop where
  a : AtM ga oa x0 x1 x2 w
  b : AtM gb ob y0 y1 y2 w
section
variable {ga oa gb ob : Nat} {x0 x1 x2 y0 y1 y2 : Int} {w w' : World}
theorem X6.cells (h : X6 ga oa gb ob x0 x1 x2 y0 y1 y2 w) : (w.cell? ⟨ga, oa, none⟩ = some (.int .i64 x0) ∧ w.cell? ⟨ga, oa + 1, none⟩ = some (.int .i64 x1) ∧ w.cell? ⟨ga, oa + 2, none⟩ = some (.int .i64 x2)) ∧ (w.cell? ⟨gb, ob, none⟩ = some (.int .i64 y0) ∧ w.cell? ⟨gb, ob + 1, none⟩ = some (.int .i64 y1) ∧ w.cell? ⟨gb, ob + 2, none⟩ = some (.int .i64 y2)) :=
  ⟨⟨h.a.c0, h.a.c1, h.a.c2⟩, h.b.c0, h.b.c1, h.b.c2⟩
theorem X6.below (h : X6 ga oa gb ob x0 x1 x2 y0 y1 y2 w) (c : Below w.heap.size w w') : X6 ga oa gb ob x0 x1 x2 y0 y1 y2 w' := ⟨h.a.below c h.a.lt, h.b.below c h.b.lt⟩
theorem X6.alloc (h : X6 ga oa gb ob x0 x1 x2 y0 y1 y2 w) (o : Obj) : X6 ga oa gb ob x0 x1 x2 y0 y1 y2 (w.alloc o) := h.below (alloc_below w o)
theorem X6.drew (h : X6 ga oa gb ob x0 x1 x2 y0 y1 y2 w) : X6 ga oa gb ob x0 x1 x2 y0 y1 y2 w.drew := ⟨h.a.drew, h.b.drew⟩
theorem X6.drewN (h : X6 ga oa gb ob x0 x1 x2 y0 y1 y2 w) (n : Nat) : X6 ga oa gb ob x0 x1 x2 y0 y1 y2 (w.drewN n) := ⟨⟨h.a.lt, h.a.c0, h.a.c1, h.a.c2⟩, ⟨h.b.lt, h.b.c0, h.b.c1, h.b.c2⟩⟩
theorem X6.set {m : Nat} (h : X6 ga oa gb ob x0 x1 x2 y0 y1 y2 w) (ha : ga ≠ m) (hb : gb ≠ m) (o : Nat) (v : Value) : X6 ga oa gb ob x0 x1 x2 y0 y1 y2 (w.setCell ⟨m, o, none⟩ v) := ⟨h.a.but (But.setCell m o w v) ha, h.b.but (But.setCell m o w v) hb⟩
end
/-- A variable that holds a moment. -/
structure VarM (g : Nat) (x y z : Int) (w : World) : Prop where
  at_ : AtM g 0 x y z w
  f0 : w.frozen? ⟨g, 0, none⟩ = false
  f1 : w.frozen? ⟨g, 1, none⟩ = false
  f2 : w.frozen? ⟨g, 2, none⟩ = false
theorem VarM.below {g : Nat} {x y z : Int} {w w' : World} (h : VarM g x y z w) (c : Below w.heap.size w w') : VarM g x y z w' :=
  ⟨h.at_.below c h.at_.lt, (c.frozen (by exact h.at_.lt)).trans h.f0, (c.frozen (by exact h.at_.lt)).trans h.f1, (c.frozen (by exact h.at_.lt)).trans h.f2⟩
theorem VarM.drew {g : Nat} {x y z : Int} {w : World} (h : VarM g x y z w) : VarM g x y z w.drew := ⟨h.at_.drew, h.f0, h.f1, h.f2⟩
theorem VarM.new (w : World) (x y z : Int) (t : TypeId) : VarM w.heap.size x y z (w.alloc (.cells #[.int .i64 x, .int .i64 y, .int .i64 z] t)) := ⟨AtM.new w x y z t, by simp [go_sem], by simp [go_sem], by simp [go_sem]⟩

theorem Outs.set3 {g o n j : Nat} {w w1 : World} (h : Outs g o n w w1) (hj : j * 3 + 2 < n) (x y z : Value) : Outs g o n w (set3 w1 g (o + j * 3) x y z) := by
  have h1 := (((h.set (j := j * 3) (by omega) x).set (j := j * 3 + 1) (by omega) y).set (j := j * 3 + 2) (by omega) z)
  unfold Go.Proofs.Ytebdlmjpgohngaa.set3
  rw [Nat.add_assoc, Nat.add_assoc]
  exact h1

theorem combM_nil (a : Option Addr) (c : Nat) (v1 v2 v3 : Value) (w : World) :
    Calls Try.prog 63 #[.slice a 0 c, v1, v2, v3] w fun e w' => e = .returned (.int .i64 0) ∧ w' = w := by
  go_enter Try.func63, Try.ntmps63
  go_wp2_with fail
  go_loopw [14] (fun iv wr => iv = .int .i64 0 ∧ wr = w) (fun _ _ => 0)
  case atStart => exact ⟨rfl, rfl⟩
  case round =>
    obtain ⟨rfl, rfl⟩ := hrel
    go_wp2_with fail
    go_ret
    exact ⟨rfl, rfl⟩

/-- The numbers of a row of moments, one by one: what ways make of two. -/
def mmV (V0 V1 V2 : Int → Int → Int) (X Y : Nat → Int) (i : Nat) : Int := if i % 3 = 0 then V0 (X i) (Y i) else if i % 3 = 1 then V1 (X i) (Y i) else V2 (X i) (Y i)
/-- The errors, moment by moment. -/
def mmE (E0 E1 E2 : Int → Int → Int) (X Y : Nat → Int) (j : Nat) : Int := or3 (E0 (X (j * 3)) (Y (j * 3))) (E1 (X (j * 3 + 1)) (Y (j * 3 + 1))) (E2 (X (j * 3 + 2)) (Y (j * 3 + 2)))
theorem mmV_0 (V0 V1 V2 : Int → Int → Int) (X Y : Nat → Int) (j : Nat) : mmV V0 V1 V2 X Y (j * 3) = V0 (X (j * 3)) (Y (j * 3)) := if_pos (by omega)
theorem mmV_1 (V0 V1 V2 : Int → Int → Int) (X Y : Nat → Int) (j : Nat) : mmV V0 V1 V2 X Y (j * 3 + 1) = V1 (X (j * 3 + 1)) (Y (j * 3 + 1)) := by unfold mmV; rw [if_neg (by omega), if_pos (by omega)]
theorem mmV_2 (V0 V1 V2 : Int → Int → Int) (X Y : Nat → Int) (j : Nat) : mmV V0 V1 V2 X Y (j * 3 + 2) = V2 (X (j * 3 + 2)) (Y (j * 3 + 2)) := by unfold mmV; rw [if_neg (by omega), if_neg (by omega)]

/-- What combine leaves. -/
def CombM (E : Nat → Int) (V : Nat → Int) (g o n : Nat) (l : List Int) (w : World) (e : Ending) (w' : World) : Prop :=
  ∃ k err, e = .returned (.int .i64 err) ∧ Ran E n k err ∧ Lst KL g o (mixL V l (k * 3)) w' ∧ But g w w' ∧ Outs g o (n * 3) w w'

theorem mixL_3 (f : Nat → Int) (l : List Int) (j : Nat) : (((mixL f l (j * 3)).set (j * 3) (f (j * 3))).set (j * 3 + 1) (f (j * 3 + 1))).set (j * 3 + 2) (f (j * 3 + 2)) = mixL f l ((j + 1) * 3) := by
  rw [Nat.succ_mul]; rfl

set_option maxHeartbeats 2000000 in
theorem combM_any (F : Nat) (V0 V1 V2 E0 E1 E2 : Int → Int → Int) (hF : WayM F V0 V1 V2 E0 E1 E2) (gi oi ga oa gb ob n ci na ca nb cb : Nat) (l : List Int) (X Y : Nat → Int) (hl : l.length = n * 3) (hn : n ≤ 1048576) (hna : n ≤ na) (hnb : n ≤ nb) (w : World)
    (hI : Lst KL gi oi l w) (gX : ga < w.heap.size) (cX : ∀ j, j < n * 3 → w.cell? ⟨ga, oa + j, none⟩ = some (.int .i64 (X j))) (gY : gb < w.heap.size) (cY : ∀ j, j < n * 3 → w.cell? ⟨gb, ob + j, none⟩ = some (.int .i64 (Y j)))
    (ha : ga ≠ gi ∨ oa = oi) (hb : gb ≠ gi) (wX : ∀ j, j < n * 3 → Whole (X j)) (wY : ∀ j, j < n * 3 → Whole (Y j)) :
    Calls Try.prog 63 #[.slice (some ⟨gi, oi, none⟩) n ci, .slice (some ⟨ga, oa, none⟩) na ca, .slice (some ⟨gb, ob, none⟩) nb cb, .func (.func F) #[] #[]] w fun e w' =>
      CombM (mmE E0 E1 E2 X Y) (mmV V0 V1 V2 X Y) gi oi n l w e w' := by
  have eF := hF.enter
  have HR : ∀ j w, j < n → Calls Try.prog F #[.agg #[.int .i64 (X (j * 3)), .int .i64 (X (j * 3 + 1)), .int .i64 (X (j * 3 + 2))], .agg #[.int .i64 (Y (j * 3)), .int .i64 (Y (j * 3 + 1)), .int .i64 (Y (j * 3 + 2))]] w fun e w' =>
      e = .returned (.tuple #[.agg #[.int .i64 (okV (mmE E0 E1 E2 X Y j) (V0 (X (j * 3)) (Y (j * 3)))), .int .i64 (okV (mmE E0 E1 E2 X Y j) (V1 (X (j * 3 + 1)) (Y (j * 3 + 1)))), .int .i64 (okV (mmE E0 E1 E2 X Y j) (V2 (X (j * 3 + 2)) (Y (j * 3 + 2))))], .int .i64 (mmE E0 E1 E2 X Y j)]) ∧ Below w.heap.size w w' :=
    fun j w hj => hF.run _ _ _ _ _ _ w (wX (j * 3) (by omega)) (wX (j * 3 + 1) (by omega)) (wX (j * 3 + 2) (by omega)) (wY (j * 3) (by omega)) (wY (j * 3 + 1) (by omega)) (wY (j * 3 + 2) (by omega))
  have HNA := Lib.hid hna
  have HNB := Lib.hid hnb
  have HL := Lib.hid hl
  have HN := Lib.hid hn
  have HA := Lib.hid ha
  have HGX := Lib.hid gX
  clear hF wX wY hna hnb hl hn ha gX
  go_enter Try.func63, Try.ntmps63
  go_wp2_with fail
  go_loopw [14] (fun iv wr => ∃ j : Nat, j ≤ n ∧ iv = .int .i64 j ∧ Lst KL gi oi (mixL (mmV V0 V1 V2 X Y) l (j * 3)) wr ∧ But gi w wr ∧ Outs gi oi (n * 3) w wr ∧ (∀ i, j * 3 ≤ i → i < n * 3 → wr.cell? ⟨ga, oa + i, none⟩ = some (.int .i64 (X i))) ∧ Hid (∀ i, i < j → mmE E0 E1 E2 X Y i = 0)) (fun iv _ => n - (intOf iv).toNat)
  case atStart => exact ⟨0, by omega, rfl, hI, But.refl _ _, Outs.refl _ _ _ _, fun i _ h => cX i h, fun i h => by omega⟩
  case round =>
    obtain ⟨j, hj, rfl, hL, hB, hO, hX, HE⟩ := hrel
    by_cases hlt : j < n
    · have i1 : (j : Int) < (n : Int) := by omega
      have i2 : (j : Int) < (na : Int) := by have := HNA.out; omega
      have i3 : (j : Int) < (nb : Int) := by have := HNB.out; omega
      have q1 : AtM ga (oa + j * 3) (X (j * 3)) (X (j * 3 + 1)) (X (j * 3 + 2)) wr :=
        ⟨Nat.lt_of_lt_of_le HGX.out hB.size, hX _ (by omega) (by omega), by rw [Nat.add_assoc]; exact hX _ (by omega) (by omega), by rw [Nat.add_assoc]; exact hX _ (by omega) (by omega)⟩
      have q2 : AtM gb (ob + j * 3) (Y (j * 3)) (Y (j * 3 + 1)) (Y (j * 3 + 2)) wr :=
        ⟨Nat.lt_of_lt_of_le gY hB.size, (hB.cell gY hb).trans (cY _ (by omega)), (hB.cell gY hb).trans (by rw [Nat.add_assoc]; exact cY _ (by omega)), (hB.cell gY hb).trans (by rw [Nat.add_assoc]; exact cY _ (by omega))⟩
      have hc := fun wq => HR j wq hlt
      have HV : Hid (mixL (mmV V0 V1 V2 X Y) l ((j + 1) * 3) = (((mixL (mmV V0 V1 V2 X Y) l (j * 3)).set (j * 3) (V0 (X (j * 3)) (Y (j * 3)))).set (j * 3 + 1) (V1 (X (j * 3 + 1)) (Y (j * 3 + 1)))).set (j * 3 + 2) (V2 (X (j * 3 + 2)) (Y (j * 3 + 2)))) := by
        show _ = _
        rw [← mixL_3, mmV_0, mmV_1, mmV_2]
      have HLj : Hid (j * 3 + 2 < (mixL (mmV V0 V1 V2 X Y) l (j * 3)).length) := by show _ < _; rw [mixL_len, HL.out]; omega
      have HX := Lib.hid hX
      have HO := Lib.hid hO
      have HLT := Lib.hid hlt
      clear hX cX cY hI hlt HR gY hj hO
      generalize X (j * 3) = x0 at *
      generalize X (j * 3 + 1) = x1 at *
      generalize X (j * 3 + 2) = x2 at *
      generalize Y (j * 3) = y0 at *
      generalize Y (j * 3 + 1) = y1 at *
      generalize Y (j * 3 + 2) = y2 at *
      generalize V0 x0 y0 = v0 at *
      generalize V1 x1 y1 = v1 at *
      generalize V2 x2 y2 = v2 at *
      obtain ⟨e, HEV⟩ : ∃ e, Hid (mmE E0 E1 E2 X Y j = e) := ⟨_, rfl⟩
      rw [HEV.out] at hc
      obtain ⟨u0, HU0⟩ : ∃ u, Hid (okV e v0 = u) := ⟨_, rfl⟩
      obtain ⟨u1, HU1⟩ : ∃ u, Hid (okV e v1 = u) := ⟨_, rfl⟩
      obtain ⟨u2, HU2⟩ : ∃ u, Hid (okV e v2 = u) := ⟨_, rfl⟩
      rw [HU0.out, HU1.out, HU2.out] at hc
      have HHB := Lib.hid hB
      have HHL := Lib.hid hL
      clear hB hL
      go_upto_region 4 with fail
      go_cut [10, 11] (fun s10 s11 wx => ∃ gm : Nat, s10 = .pointer (some ⟨gm, 0, none⟩) ∧ s11 = .int .i64 e ∧ AtM gm 0 u0 u1 u2 wx ∧ wr.heap.size ≤ gm ∧ Below wr.heap.size wr wx)
      case first =>
        have q0 : X6 ga (oa + j * 3) gb (ob + j * 3) x0 x1 x2 y0 y1 y2 wr := ⟨q1, q2⟩
        have na : ga ≠ wr.heap.size := by have := q1.lt; omega
        have nb : gb ≠ wr.heap.size := by have := q2.lt; omega
        clear q1 q2
        go_region_held3 (fun w' => (w'.cell? ⟨ga, oa + j * 3, none⟩ = some (.int .i64 x0) ∧ w'.cell? ⟨ga, oa + j * 3 + 1, none⟩ = some (.int .i64 x1) ∧ w'.cell? ⟨ga, oa + j * 3 + 2, none⟩ = some (.int .i64 x2)) ∧ (w'.cell? ⟨gb, ob + j * 3, none⟩ = some (.int .i64 y0) ∧ w'.cell? ⟨gb, ob + j * 3 + 1, none⟩ = some (.int .i64 y1) ∧ w'.cell? ⟨gb, ob + j * 3 + 2, none⟩ = some (.int .i64 y2)))
          ((refine X6.cells ?_; repeat (with_reducible (first | exact q0 | exact q9 | refine X6.alloc ?_ _ | refine X6.drew ?_ | refine X6.drewN ?_ _ | refine X6.set ?_ na nb _ _))))
          ((refine (hc _).mono ?_; rintro a w' ⟨rfl, c⟩; have q9 : X6 ga (oa + j * 3) gb (ob + j * 3) x0 x1 x2 y0 y1 y2 w' := X6.below (by (repeat (with_reducible (first | exact q0 | refine X6.alloc ?_ _ | refine X6.drew ?_ | refine X6.drewN ?_ _)))) c; try (have mm : VarM wr.heap.size 0 0 0 w' := VarM.below (VarM.new wr 0 0 0 74).drew c; obtain ⟨⟨m9, m0, m1, m2⟩, mf0, mf1, mf2⟩ := mm)))
        · go_wp2_with fail
          go_meet
          exact ⟨_, rfl, rfl, AtM.new w' u0 u1 u2 _, c.size, ((show Below wr.heap.size wr wr.drew from (Below.refl _ wr).drew).trans c).alloc c.size _⟩
        · go_wp2_with fail
          go_meet
          refine ⟨_, rfl, rfl, AtM.set (show AtM wr.heap.size 0 0 0 0 w' from ⟨m9, m0, m1, m2⟩), Nat.le_refl _, ?_⟩
          refine set3_below (b := wr.heap.size) (o := 0) (((Below.refl wr.heap.size wr).alloc (Nat.le_refl _) _).drew.trans (c.mono (by simp))) (Nat.le_refl _)
      case rest =>
        obtain ⟨gm, rfl, rfl, hM, hm, hW⟩ := hcut
        clear hc q1 q2
        by_cases h : e = 0
        · have HE2 : Hid (∀ i, i < j + 1 → mmE E0 E1 E2 X Y i = 0) := by
            intro i hi
            by_cases g : i < j
            · exact HE.out i g
            · obtain rfl : i = j := by omega
              rw [HEV.out, h]
          subst h
          obtain rfl : v0 = u0 := HU0.out
          obtain rfl : v1 = u1 := HU1.out
          obtain rfl : v2 = u2 := HU2.out
          have hLx := HHL.out.below hW HHL.out.lt
          have hB2 := HHB.out.trans (But.of_below hW)
          obtain ⟨_, d0, d1, d2⟩ := hLx.atM j HLj.out
          have f0 := hLx.frozen (j * 3) (by have := HLj.out; omega)
          have f1 := hLx.frozen (j * 3 + 1) (by have := HLj.out; omega)
          have f2 := hLx.frozen (j * 3 + 2) HLj.out
          rw [← Nat.add_assoc] at f1 f2
          have HL2 : Hid (Lst KL gi oi (mixL (mmV V0 V1 V2 X Y) l ((j + 1) * 3)) (set3 wc gi (oi + j * 3) (.int .i64 v0) (.int .i64 v1) (.int .i64 v2))) := by
            show Lst _ _ _ _ _
            rw [HV.out]
            exact hLx.set3 j HLj.out v0 v1 v2
          have HB3 : Hid (But gi w (set3 wc gi (oi + j * 3) (.int .i64 v0) (.int .i64 v1) (.int .i64 v2))) := hB2.trans (set3_but _)
          have HX3 : Hid (∀ i, (j + 1) * 3 ≤ i → i < n * 3 → (set3 wc gi (oi + j * 3) (.int .i64 v0) (.int .i64 v1) (.int .i64 v2)).cell? ⟨ga, oa + i, none⟩ = some (.int .i64 (X i))) := by
            intro i hi hn
            rw [set3_other _ (by show ga ≠ gi ∨ (oa + i < oi + j * 3 ∨ oi + j * 3 + 3 ≤ oa + i); have := HA.out; omega)]
            exact (hW.cell (by show ga < wr.heap.size; exact Nat.lt_of_lt_of_le HGX.out HHB.out.size)).trans (HX.out i (by omega) hn)
          have HO3 : Hid (Outs gi oi (n * 3) w (set3 wc gi (oi + j * 3) (.int .i64 v0) (.int .i64 v1) (.int .i64 v2))) := (HO.out.below hW HHL.out.lt).set3 (by have := HLT.out; omega) _ _ _
          have gm1 : gm ≠ gi := by have := HHL.out.lt; omega
          obtain ⟨_, e0, e1, e2⟩ := hM
          have HJL := HLT.out
          clear hLx hB2 hW HX HE
          go_wp2_with fail
          go_roundw
          case rel => exact ⟨j + 1, HJL, congrArg (Value.int .i64) (next_num HJL HN.out).1, HL2.out, HB3.out, HO3.out, HX3.out, HE2⟩
          case measure => exact (next_num HJL HN.out).2
        · have gb : (e != 0) = true := by simpa using h
          have HRan : Hid (Ran (mmE E0 E1 E2 X Y) n j e) := ⟨by have := HLT.out; omega, HE.out, .inr ⟨HLT.out, HEV.out, h⟩⟩
          have HLx := Lib.hid (HHL.out.below hW HHL.out.lt)
          have HB2 := Lib.hid (HHB.out.trans (But.of_below hW))
          have HO2 := Lib.hid (HO.out.below hW HHL.out.lt)
          clear h hM hm hW HE HX
          go_wp2_with fail
          go_ret
          exact ⟨j, e, rfl, HRan.out, HLx.out, HB2.out, HO2.out⟩
    · obtain rfl : j = n := by omega
      have HRan : Hid (Ran (mmE E0 E1 E2 X Y) j j 0) := ⟨Nat.le_refl _, HE.out, .inl ⟨rfl, rfl⟩⟩
      clear hX cX cY hlt HR
      go_wp2_with fail
      go_ret
      exact ⟨j, 0, rfl, HRan.out, hL, hB, hO⟩
end Go.Proofs.Ytebdlmjpgohngaa
