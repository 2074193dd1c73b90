/-
  HISTOGRAMS: hist.New and hist.Right; a variable that holds a histogram. No condition.
-/
import Derived.Test.YtebdlmjpgohngaaHisD
namespace Go.Proofs.Ytebdlmjpgohngaa
open Go.RowKit

theorem infoM : (Try.prog.info? 74).map (fun i => (i.zero, i.size, i.bytes)) = some (some (.agg #[.int .i64 0, .int .i64 0, .int .i64 0]), 3, 24) := by kernel_rfl

set_option maxRecDepth 20000 in
/-- What 'make' of moments leaves. -/
theorem run_madeM (w : World) (n : Nat) (hn : n ≤ 1048576) :
    (Instr.makeSlice 43 (.int .i64 (n : Int)) (.int .i64 (n : Int))).run Try.prog w = .ok (.slice (some ⟨w.heap.size, 0, none⟩) n n) (w.alloc (.cells ((List.replicate (n * 3) (0 : Int)).map KL.enc).toArray 74)) := by
  obtain ⟨i0, hi, hz0, hz1, hz2⟩ := info_parts infoM
  have := run_make (P := Try.prog) w 43 74 i0 _ Try.underlying43 hi hz0 .i64 .i64 (n : Int) (n : Int) (by omega) (by omega) (by rw [hz2]; omega) (by omega)
  rw [this, hz1]
  simp only [Int.toNat_natCast]
  congr 3
  apply Array.ext
  · simp [madeCells]
  · intro k h1 h2
    have hk : k % 3 < 3 := Nat.mod_lt _ (by decide)
    have e : k % 3 = 0 ∨ k % 3 = 1 ∨ k % 3 = 2 := by omega
    simp [madeCells, KL]
    rcases e with e | e | e <;> simp [e, Value.cells]
theorem Lst.madeT (w : World) (l : List Int) (t : TypeId) : Lst KL w.heap.size 0 l (w.alloc (.cells (l.map KL.enc).toArray t)) := by
  have hh : (w.alloc (.cells (l.map KL.enc).toArray t)).heap[w.heap.size]? = some (.cells (l.map KL.enc).toArray t) := by rw [World.alloc]; simp
  refine ⟨by simp, fun j hj => ?_, fun j hj => ?_⟩
  · unfold World.cell?
    simp only [hh]
    simp [hj]
  · unfold World.frozen?
    simp only [hh]
    simp

theorem lenC_in (k b c : Int) : 0 ≤ lenC k b c ∧ lenC k b c ≤ 65792 := by
  unfold lenC
  split
  · rename_i h
    have := mul_room h.1 h.2.1 h.2.2.2.1 h.2.2.2.2
    omega
  · omega
theorem lenM_in (k b c : Int) : 0 ≤ lenM k b c ∧ lenM k b c ≤ 257 := by unfold lenM; split <;> omega

/-- Is it right? -/
def rightB (k b c : Int) (nc nm : Nat) : Bool := decide (0 < lenC k b c + lenM k b c ∧ (nc : Int) = lenC k b c ∧ (nm : Int) = lenM k b c)

theorem right_any (k b c : Int) (ac am : Option Addr) (nc cc nm cm : Nat) (w : World) :
    Calls Try.prog 51 #[.agg #[.int .i64 k, .int .i64 b, .int .i64 c, .slice ac nc cc, .slice am nm cm]] w fun e w' => e = .returned (.bool (rightB k b c nc nm)) ∧ Below w.heap.size w w' := by
  have hl := fun w => lengths_any k b c w
  have h1 := lenC_in k b c
  have h2 := lenM_in k b c
  unfold rightB
  generalize lenC k b c = p at *
  generalize lenM k b c = q at *
  have hw : wrap64 (p + q) = p + q := by unfold wrap64; omega
  have hB : Hid (Below w.heap.size w (w.alloc (.cells #[.int .i64 k, .int .i64 b, .int .i64 c, .slice ac nc cc, .slice am nm cm] 45))) := alloc_below _ _
  by_cases g1 : 0 < p + q
  · by_cases g2 : (nc : Int) = p
    · by_cases g3 : (nm : Int) = q
      · have HD : Hid (decide (0 < p + q ∧ (nc : Int) = p ∧ (nm : Int) = q) = true) := by show _ = _; simp [g1, g2, g3]
        rw [HD.out]
        have e2 : ((nc : Int) == p) = true := by simpa using g2
        have e3 : ((nm : Int) == q) = true := by simpa using g3
        clear g2 g3 h1 h2 HD
        go_enter Try.func51, Try.ntmps51
        go_wp2_with fail
        refine (hl _).mono ?_
        rintro e w1 ⟨rfl, rfl⟩
        go_wp2_with fail
        go_ret
        exact ⟨rfl, hB.out⟩
      · have HD : Hid (decide (0 < p + q ∧ (nc : Int) = p ∧ (nm : Int) = q) = false) := by show _ = _; simp [g3]
        rw [HD.out]
        have e2 : ((nc : Int) == p) = true := by simpa using g2
        have e3 : ((nm : Int) == q) = false := by simpa using g3
        clear g2 g3 h1 h2 HD
        go_enter Try.func51, Try.ntmps51
        go_wp2_with fail
        refine (hl _).mono ?_
        rintro e w1 ⟨rfl, rfl⟩
        go_wp2_with fail
        go_ret
        exact ⟨rfl, hB.out⟩
    · have HD : Hid (decide (0 < p + q ∧ (nc : Int) = p ∧ (nm : Int) = q) = false) := by show _ = _; simp [g2]
      rw [HD.out]
      have e2 : ((nc : Int) == p) = false := by simpa using g2
      clear g2 h1 h2 HD
      go_enter Try.func51, Try.ntmps51
      go_wp2_with fail
      refine (hl _).mono ?_
      rintro e w1 ⟨rfl, rfl⟩
      go_wp2_with fail
      go_ret
      exact ⟨rfl, hB.out⟩
  · have HD : Hid (decide (0 < p + q ∧ (nc : Int) = p ∧ (nm : Int) = q) = false) := by show _ = _; simp; omega
    rw [HD.out]
    clear h1 h2 HD
    go_enter Try.func51, Try.ntmps51
    go_wp2_with fail
    refine (hl _).mono ?_
    rintro e w1 ⟨rfl, rfl⟩
    go_wp2_with fail
    go_ret
    exact ⟨rfl, hB.out⟩

/-- A variable that holds a histogram. -/
structure VarH (g : Nat) (k b c : Int) (C M : Value) (w : World) : Prop where
  lt : g < w.heap.size
  c0 : w.cell? ⟨g, 0, none⟩ = some (.int .i64 k)
  c1 : w.cell? ⟨g, 1, none⟩ = some (.int .i64 b)
  c2 : w.cell? ⟨g, 2, none⟩ = some (.int .i64 c)
  c3 : w.cell? ⟨g, 3, none⟩ = some C
  c4 : w.cell? ⟨g, 4, none⟩ = some M
  f0 : w.frozen? ⟨g, 0, none⟩ = false
  f1 : w.frozen? ⟨g, 1, none⟩ = false
  f2 : w.frozen? ⟨g, 2, none⟩ = false
  f3 : w.frozen? ⟨g, 3, none⟩ = false
  f4 : w.frozen? ⟨g, 4, none⟩ = false
section
variable {g : Nat} {k b c : Int} {C M : Value} {w w' : World}
theorem VarH.below {B : Nat} (h : VarH g k b c C M w) (hb : Below B w w') (hB : g < B) : VarH g k b c C M w' :=
  ⟨Nat.lt_of_lt_of_le h.lt hb.size, (hb.cell (by exact hB)).trans h.c0, (hb.cell (by exact hB)).trans h.c1, (hb.cell (by exact hB)).trans h.c2, (hb.cell (by exact hB)).trans h.c3, (hb.cell (by exact hB)).trans h.c4,
    (hb.frozen (by exact hB)).trans h.f0, (hb.frozen (by exact hB)).trans h.f1, (hb.frozen (by exact hB)).trans h.f2, (hb.frozen (by exact hB)).trans h.f3, (hb.frozen (by exact hB)).trans h.f4⟩
theorem VarH.but {m : Nat} (h : VarH g k b c C M w) (hb : But m w w') (hn : g ≠ m) : VarH g k b c C M w' :=
  ⟨Nat.lt_of_lt_of_le h.lt hb.size, (hb.cell (by exact h.lt) (by exact hn)).trans h.c0, (hb.cell (by exact h.lt) (by exact hn)).trans h.c1, (hb.cell (by exact h.lt) (by exact hn)).trans h.c2, (hb.cell (by exact h.lt) (by exact hn)).trans h.c3, (hb.cell (by exact h.lt) (by exact hn)).trans h.c4,
    (hb.frozen (by exact h.lt) (by exact hn)).trans h.f0, (hb.frozen (by exact h.lt) (by exact hn)).trans h.f1, (hb.frozen (by exact h.lt) (by exact hn)).trans h.f2, (hb.frozen (by exact h.lt) (by exact hn)).trans h.f3, (hb.frozen (by exact h.lt) (by exact hn)).trans h.f4⟩
theorem VarH.drew (h : VarH g k b c C M w) : VarH g k b c C M w.drew := ⟨h.lt, h.c0, h.c1, h.c2, h.c3, h.c4, h.f0, h.f1, h.f2, h.f3, h.f4⟩
theorem VarH.drewN (h : VarH g k b c C M w) (n : Nat) : VarH g k b c C M (w.drewN n) := ⟨h.lt, h.c0, h.c1, h.c2, h.c3, h.c4, h.f0, h.f1, h.f2, h.f3, h.f4⟩
theorem VarH.new (w : World) (k b c : Int) (C M : Value) (t : TypeId) : VarH w.heap.size k b c C M (w.alloc (.cells #[.int .i64 k, .int .i64 b, .int .i64 c, C, M] t)) :=
  ⟨by simp, by simp [go_sem], by simp [go_sem], by simp [go_sem], by simp [go_sem], by simp [go_sem], by simp [go_sem], by simp [go_sem], by simp [go_sem], by simp [go_sem], by simp [go_sem]⟩
theorem VarH.alloc (h : VarH g k b c C M w) (o : Obj) : VarH g k b c C M (w.alloc o) := h.below (alloc_below w o) h.lt
/-- Another histogram is written into it. -/
def set5 (w : World) (g : Nat) (x0 x1 x2 x3 x4 : Value) : World := ((((w.setCell ⟨g, 0, none⟩ x0).setCell ⟨g, 1, none⟩ x1).setCell ⟨g, 2, none⟩ x2).setCell ⟨g, 3, none⟩ x3).setCell ⟨g, 4, none⟩ x4
theorem set5_but (w : World) (g : Nat) (x0 x1 x2 x3 x4 : Value) : But g w (set5 w g x0 x1 x2 x3 x4) :=
  ((((But.setCell g 0 w x0).trans (But.setCell g 1 _ x1)).trans (But.setCell g 2 _ x2)).trans (But.setCell g 3 _ x3)).trans (But.setCell g 4 _ x4)
theorem set5_below {B : Nat} {x0 x1 x2 x3 x4 : Value} (h : Below B w w') (hb : B ≤ g) : Below B w (set5 w' g x0 x1 x2 x3 x4) := ((((h.setCell hb x0).setCell hb x1).setCell hb x2).setCell hb x3).setCell hb x4
theorem VarH.set (h : VarH g k b c C M w) (k' b' c' : Int) (C' M' : Value) : VarH g k' b' c' C' M' (set5 w g (.int .i64 k') (.int .i64 b') (.int .i64 c') C' M') := by
  have fz : ∀ p, (set5 w g (.int .i64 k') (.int .i64 b') (.int .i64 c') C' M').frozen? p = w.frozen? p := fun p => by unfold set5; simp only [World.frozen?_setCell]
  have sz : (set5 w g (.int .i64 k') (.int .i64 b') (.int .i64 c') C' M').heap.size = w.heap.size := by simp [set5, World.setCell]
  refine ⟨by rw [sz]; exact h.lt, ?_, ?_, ?_, ?_, ?_, by rw [fz]; exact h.f0, by rw [fz]; exact h.f1, by rw [fz]; exact h.f2, by rw [fz]; exact h.f3, by rw [fz]; exact h.f4⟩
  · unfold set5
    rw [World.cell?_setCell_other _ _ _ _ (by simp), World.cell?_setCell_other _ _ _ _ (by simp), World.cell?_setCell_other _ _ _ _ (by simp), World.cell?_setCell_other _ _ _ _ (by simp)]
    exact World.cell?_setCell_same _ _ _ h.c0
  · unfold set5
    rw [World.cell?_setCell_other _ _ _ _ (by simp), World.cell?_setCell_other _ _ _ _ (by simp), World.cell?_setCell_other _ _ _ _ (by simp)]
    exact World.cell?_setCell_same _ _ _ (by rw [World.cell?_setCell_other _ _ _ _ (by simp)]; exact h.c1)
  · unfold set5
    rw [World.cell?_setCell_other _ _ _ _ (by simp), World.cell?_setCell_other _ _ _ _ (by simp)]
    exact World.cell?_setCell_same _ _ _ (by rw [World.cell?_setCell_other _ _ _ _ (by simp), World.cell?_setCell_other _ _ _ _ (by simp)]; exact h.c2)
  · unfold set5
    rw [World.cell?_setCell_other _ _ _ _ (by simp)]
    exact World.cell?_setCell_same _ _ _ (by rw [World.cell?_setCell_other _ _ _ _ (by simp), World.cell?_setCell_other _ _ _ _ (by simp), World.cell?_setCell_other _ _ _ _ (by simp)]; exact h.c3)
  · unfold set5
    exact World.cell?_setCell_same _ _ _ (by rw [World.cell?_setCell_other _ _ _ _ (by simp), World.cell?_setCell_other _ _ _ _ (by simp), World.cell?_setCell_other _ _ _ _ (by simp), World.cell?_setCell_other _ _ _ _ (by simp)]; exact h.c4)
end

/-- A fresh histogram of zeros. -/
def NewP (k b c : Int) (p q : Nat) (w : World) (e : Ending) (w' : World) : Prop :=
  ∃ g m, e = .returned (.tuple #[.agg #[.int .i64 k, .int .i64 b, .int .i64 c, .slice (some ⟨g, 0, none⟩) p p, .slice (some ⟨m, 0, none⟩) q q], .int .i64 0]) ∧
    Lst KL g 0 (List.replicate p 0) w' ∧ Lst KL m 0 (List.replicate (q * 3) 0) w' ∧ w.heap.size ≤ g ∧ w.heap.size ≤ m ∧ g ≠ m ∧ Below w.heap.size w w'

theorem new_post (k b c : Int) (p q : Nat) (w : World) (R : Obj) (A D : Array Value) (hA : A = ((List.replicate p (0 : Int)).map KL.enc).toArray) (hD : D = ((List.replicate (q * 3) (0 : Int)).map KL.enc).toArray) :
    NewP k b c p q w (.returned (.tuple #[.agg #[.int .i64 k, .int .i64 b, .int .i64 c, .slice (some ⟨w.heap.size + 1, 0, none⟩) p p, .slice (some ⟨w.heap.size + 1 + 1, 0, none⟩) q q], .int .i64 0])) (((w.alloc R).alloc (.cells A 2)).alloc (.cells D 74)).drew := by
  have e1 : (w.alloc R).heap.size = w.heap.size + 1 := by simp
  have e2 : ((w.alloc R).alloc (.cells A 2)).heap.size = w.heap.size + 1 + 1 := by simp
  have l1 := Lst.madeT (w.alloc R) (List.replicate p (0 : Int)) 2
  have l2 := Lst.madeT ((w.alloc R).alloc (.cells A 2)) (List.replicate (q * 3) (0 : Int)) 74
  rw [← hA, e1] at l1
  rw [← hD, e2] at l2
  exact ⟨_, _, rfl, (l1.below (alloc_below _ (.cells D 74)) (by rw [e2]; omega)).drew, l2.drew, by omega, by omega, by omega, (alloc3_below w _ _ _).drew⟩
theorem new_post' (k b c : Int) (p q : Nat) (w : World) (R : Obj) (A D : Array Value) (hA : A = ((List.replicate p (0 : Int)).map KL.enc).toArray) (hD : D = ((List.replicate (q * 3) (0 : Int)).map KL.enc).toArray) :
    NewP k b c p q w (.returned (.tuple #[.agg #[.int .i64 k, .int .i64 b, .int .i64 c, .slice (some ⟨w.heap.size + 1 + 1, 0, none⟩) p p, .slice (some ⟨w.heap.size + 1, 0, none⟩) q q], .int .i64 0])) (((w.alloc R).alloc (.cells D 74)).alloc (.cells A 2)).drew := by
  have e1 : (w.alloc R).heap.size = w.heap.size + 1 := by simp
  have e2 : ((w.alloc R).alloc (.cells D 74)).heap.size = w.heap.size + 1 + 1 := by simp
  have l1 := Lst.madeT (w.alloc R) (List.replicate (q * 3) (0 : Int)) 74
  have l2 := Lst.madeT ((w.alloc R).alloc (.cells D 74)) (List.replicate p (0 : Int)) 2
  rw [← hD, e1] at l1
  rw [← hA, e2] at l2
  exact ⟨_, _, rfl, l2.drew, (l1.below (alloc_below _ (.cells A 2)) (by rw [e2]; omega)).drew, by omega, by omega, by omega, (alloc3_below w _ _ _).drew⟩

theorem new_no (k b c : Int) (h0 : lenC k b c + lenM k b c = 0) (w : World) :
    Calls Try.prog 21 #[.int .i64 k, .int .i64 b, .int .i64 c] w fun e w' => e = .returned (.tuple #[.agg #[.int .i64 0, .int .i64 0, .int .i64 0, .slice none 0 0, .slice none 0 0], .int .i64 1]) ∧ Below w.heap.size w w' := by
  have hl := fun w => lengths_any k b c w
  have h1 := lenC_in k b c
  have h2 := lenM_in k b c
  rw [show lenC k b c = 0 by omega, show lenM k b c = 0 by omega] at hl
  clear h1 h2 h0
  go_enter Try.func21, Try.ntmps21
  go_wp2_with fail
  refine (hl _).mono ?_
  rintro e w1 ⟨rfl, rfl⟩
  go_wp2_with fail
  simp [bodyPost, results, Try.results21, go_sem]
  exact alloc_below _ _

theorem new_yes (k b c : Int) (p q : Nat) (hp : lenC k b c = p) (hq : lenM k b c = q) (h0 : p + q ≠ 0) (w : World) :
    Calls Try.prog 21 #[.int .i64 k, .int .i64 b, .int .i64 c] w fun e w' => NewP k b c p q w e w' := by
  have hl := fun w => lengths_any k b c w
  have h1 := lenC_in k b c
  have h2 := lenM_in k b c
  rw [hp, hq] at hl
  have hw : wrap64 ((p : Int) + q) = (p : Int) + q := by unfold wrap64; omega
  have hb : ((p : Int) + q == 0) = false := by simp; omega
  have m1 := fun w => run_madeE okL w p (by omega)
  have m2 := fun w => run_madeM w q (by omega)
  have m1 : ∀ w, (Instr.makeSlice 35 (.int .i64 (p : Int)) (.int .i64 (p : Int))).run Try.prog w = .ok (.slice (some ⟨w.heap.size, 0, none⟩) p p) (w.alloc (.cells ((List.replicate p (0 : Int)).map KL.enc).toArray 2)) := m1
  obtain ⟨A, hA⟩ : ∃ A, A = ((List.replicate p (0 : Int)).map KL.enc).toArray := ⟨_, rfl⟩
  obtain ⟨D, hD⟩ : ∃ D, D = ((List.replicate (q * 3) (0 : Int)).map KL.enc).toArray := ⟨_, rfl⟩
  rw [← hA] at m1
  rw [← hD] at m2
  have HA := Lib.hid hA
  have HD := Lib.hid hD
  clear hA hD h1 h2 h0 hp hq
  go_enter Try.func21, Try.ntmps21
  go_wp2_with fail
  refine (hl _).mono ?_
  rintro e w1 ⟨rfl, rfl⟩
  go_upto_region 4 with fail
  go_region
  · go_wp2_with fail
    simp [bodyPost, results, Try.results21, go_sem]
    exact new_post k b c p q w _ A D HA.out HD.out
  · go_wp2_with fail
    simp [bodyPost, results, Try.results21, go_sem]
    exact new_post' k b c p q w _ A D HA.out HD.out
end Go.Proofs.Ytebdlmjpgohngaa
