/-
  SIGNED FRACTIONS held against one another (frac.CmpSigned, frac.size): it is the order of the numbers that they are. Condition: each number is of 64 bits, with a sign.
-/
import Derived.Test.YthfipbmmbhnhiaaDoorFrac
namespace Go.Proofs.YthfipbmmbhnhiaaDoor
open Go.RowKit

/-- A variable that holds a signed fraction. -/
structure AtS (b : Nat) (x y : Int) (w : World) : Prop where
  lt : b < w.heap.size
  c0 : w.cell? ⟨b, 0, none⟩ = some (.int .i64 x)
  c1 : w.cell? ⟨b, 1, none⟩ = some (.int .i64 y)
theorem AtS.below {b : Nat} {x y : Int} {w w' : World} (h : AtS b x y w) (hb : Below w.heap.size w w') : AtS b x y w' :=
  ⟨Nat.lt_of_lt_of_le h.lt hb.size, (hb.cell (by exact h.lt)).trans h.c0, (hb.cell (by exact h.lt)).trans h.c1⟩
theorem AtS.alloc {b : Nat} {x y : Int} {w : World} (h : AtS b x y w) (o : Obj) : AtS b x y (w.alloc o) := h.below (alloc_below w o)
theorem AtS.new (w : World) (x y : Int) : AtS w.heap.size x y (w.alloc (.cells #[.int .i64 x, .int .i64 y] 28)) := ⟨by simp, by simp, by simp⟩

/-- Two of them, and all that lay below. -/
structure TwoS (a b : Nat) (n d m e : Int) (w0 w : World) : Prop where
  A : AtS a n d w
  B : AtS b m e w
  bel : Below w0.heap.size w0 w
theorem TwoS.below {a b : Nat} {n d m e : Int} {w0 w w' : World} (h : TwoS a b n d m e w0 w) (c : Below w.heap.size w w') : TwoS a b n d m e w0 w' := ⟨h.A.below c, h.B.below c, onto h.bel c⟩
theorem TwoS.cells {a b : Nat} {n d m e : Int} {w0 w : World} (h : TwoS a b n d m e w0 w) :
    (w.cell? ⟨a, 0, none⟩ = some (.int .i64 n) ∧ w.cell? ⟨a, 1, none⟩ = some (.int .i64 d)) ∧ (w.cell? ⟨b, 0, none⟩ = some (.int .i64 m) ∧ w.cell? ⟨b, 1, none⟩ = some (.int .i64 e)) := ⟨⟨h.A.c0, h.A.c1⟩, h.B.c0, h.B.c1⟩
theorem TwoS.drew {a b : Nat} {n d m e : Int} {w0 w : World} (h : TwoS a b n d m e w0 w) : TwoS a b n d m e w0 w.drew := h.below (Below.refl _ w).drew
theorem boxesS (w : World) (n d m e : Int) : TwoS w.heap.size (w.heap.size + 1) n d m e w ((w.alloc (.cells #[.int .i64 n, .int .i64 d] 28)).alloc (.cells #[.int .i64 m, .int .i64 e] 28)) := by
  refine ⟨(AtS.new w n d).alloc _, ?_, more (alloc_below w _) _⟩
  have := AtS.new (w.alloc (.cells #[.int .i64 n, .int .i64 d] 28)) m e
  rw [show (w.alloc (.cells #[.int .i64 n, .int .i64 d] 28)).heap.size = w.heap.size + 1 by simp] at this
  exact this

theorem fsize_any (n d : Int) (h : Whole n) (hd : 1 ≤ d) (hd2 : Whole d) (w : World) :
    Calls Tryd.prog 27 #[sg n d] w fun e w' => e = .returned (fr 0 (absI n) d) ∧ Below w.heap.size w w' := by
  obtain ⟨h1, h2⟩ := h
  obtain ⟨g1, g2⟩ := hd2
  have u1 : IntKind.u64.wrap d = d := by rw [IntKind.wrap_u64]; omega
  by_cases hn : n < 0
  · have HE : Hid (IntKind.u64.wrap (-IntKind.u64.wrap n) = absI n) := by
      show _ = _; unfold absI; rw [if_pos hn, IntKind.wrap_u64, IntKind.wrap_u64]; omega
    rw [← HE.out]
    go_enter Tryd.func27, Tryd.ntmps27
    go_wp2_with (go_at_call 14; refine (of_at _ _ _).mono ?_; rintro e w1 ⟨rfl, rfl⟩)
    simp [bodyPost, results, Tryd.results27, go_sem]
    exact more (more (alloc_below _ _) _) _
  · have HE : Hid (IntKind.u64.wrap n = absI n) := by
      show _ = _; unfold absI; rw [if_neg hn, IntKind.wrap_u64]; omega
    rw [← HE.out]
    go_enter Tryd.func27, Tryd.ntmps27
    go_wp2_with (go_at_call 14; refine (of_at _ _ _).mono ?_; rintro e w1 ⟨rfl, rfl⟩)
    simp [bodyPost, results, Tryd.results27, go_sem]
    exact ⟨by rw [IntKind.wrap_u64]; omega, more (more (alloc_below _ _) _) _⟩

/-- How two signed fractions stand to one another; what isn't right stands below. -/
def cmpS (n d m e : Int) : Int := if d < 1 then if e < 1 then 0 else -1 else if e < 1 then 1 else cmpI (n * e) (m * d)

theorem cmpI_neg (x y : Int) : cmpI (-x) (-y) = cmpI y x := by
  unfold cmpI
  by_cases h1 : x < y <;> by_cases h2 : y < x <;> simp [h1, h2] <;> omega

/-- Of right ones: by their signs. -/
theorem cmpS_pos {n d m e : Int} (hd : 1 ≤ d) (he : 1 ≤ e) (hn : 0 ≤ n) (hm : 0 ≤ m) : cmpF (absI n) d (absI m) e = cmpS n d m e := by
  unfold cmpF cmpS absI
  rw [if_neg (by omega), if_neg (by omega), if_neg (by omega), if_neg (by omega), if_neg (by omega), if_neg (by omega)]
theorem cmpS_neg {n d m e : Int} (hd : 1 ≤ d) (he : 1 ≤ e) (hn : n < 0) (hm : m < 0) : cmpF (absI m) e (absI n) d = cmpS n d m e := by
  unfold cmpF cmpS absI
  rw [if_neg (by omega), if_neg (by omega), if_pos hn, if_pos hm, if_neg (by omega), if_neg (by omega)]
  simp only [Int.neg_mul]
  rw [cmpI_neg]
theorem cmpS_one {n d m e : Int} (hd : 1 ≤ d) (he : 1 ≤ e) (hn : 0 ≤ n) (hm : m < 0) : cmpS n d m e = 1 := by
  unfold cmpS
  rw [if_neg (by omega), if_neg (by omega)]
  have h1 : 0 ≤ n * e := Int.mul_nonneg hn (by omega)
  have h2 : m * d < 0 := Int.mul_neg_of_neg_of_pos hm (by omega)
  exact cmpI_gt (by omega)
theorem cmpS_minus {n d m e : Int} (hd : 1 ≤ d) (he : 1 ≤ e) (hn : n < 0) (hm : 0 ≤ m) : cmpS n d m e = -1 := by
  unfold cmpS
  rw [if_neg (by omega), if_neg (by omega)]
  have h1 : 0 ≤ m * d := Int.mul_nonneg hm (by omega)
  have h2 : n * e < 0 := Int.mul_neg_of_neg_of_pos hn (by omega)
  exact cmpI_lt (by omega)

set_option maxHeartbeats 1000000 in
theorem cmpSigned_right (n d m e : Int) (hn : Whole n) (hd : Whole d) (hm : Whole m) (he : Whole e) (hd1 : 1 ≤ d) (he1 : 1 ≤ e) (w : World) :
    Calls Tryd.prog 11 #[sg n d, sg m e] w fun x w' => x = .returned (.int .i64 (cmpS n d m e)) ∧ Below w.heap.size w w' := by
  have q0 := boxesS w n d m e
  have W0 : Word 0 := by unfold Word; omega
  have W1 := absI_word hn
  have W2 := absI_word hm
  have W3 : Word d := by unfold Whole at hd; unfold Word; omega
  have W4 : Word e := by unfold Whole at he; unfold Word; omega
  have d1 : decide (1 ≤ d) = true := by simpa using hd1
  have d2 : decide (1 ≤ e) = true := by simpa using he1
  by_cases sn : 0 ≤ n <;> by_cases sm : 0 ≤ m
  · rw [← cmpS_pos hd1 he1 sn sm]
    have HD1 := Lib.hid hd1
    have HE1 := Lib.hid he1
    clear hd1 he1
    go_enter Tryd.func11, Tryd.ntmps11
    go_wp2_with fail
    generalize (w.alloc (.cells #[.int .i64 n, .int .i64 d] 28)).alloc (.cells #[.int .i64 m, .int .i64 e] 28) = W at *
    refine (rightSigned_any _ _ _).mono ?_
    rintro x w1 ⟨rfl, c1⟩
    have p1 := q0.below c1
    have k0 := p1.B.c0
    have k1 := p1.B.c1
    clear q0 c1
    go_wp2_with fail
    refine (rightSigned_any _ _ _).mono ?_
    rintro x w2 ⟨rfl, c1⟩
    have p := p1.below c1
    have q := p.drew
    clear p1 c1 k0 k1
    have k0 := p.A.c0
    have k1 := p.A.c1
    have k2 := p.B.c0
    have k3 := p.B.c1
    go_wp2_with fail
    clear k0 k1 k2 k3
    go_region_held3 (fun w' => (w'.cell? ⟨w.heap.size, 0, none⟩ = some (.int .i64 n) ∧ w'.cell? ⟨w.heap.size, 1, none⟩ = some (.int .i64 d)) ∧ (w'.cell? ⟨w.heap.size + 1, 0, none⟩ = some (.int .i64 m) ∧ w'.cell? ⟨w.heap.size + 1, 1, none⟩ = some (.int .i64 e))) (first | exact q.cells | exact p.cells)
      (first
        | (go_at_call 27; refine (fsize_any _ _ (by assumption) (by first | exact HD1.out | exact HE1.out) (by assumption) _).mono ?_; rintro x w' ⟨rfl, c⟩; replace q := q.below c; clear c)
        | (go_at_call 9; refine (fCmp_any _ _ _ _ _ _ (by assumption) (by assumption) (by assumption) (by assumption) (by assumption) (by assumption) _).mono ?_; rintro x w' ⟨rfl, c⟩; replace q := q.below c; clear c))
    go_wp2_with fail
    go_ret
    exact ⟨rfl, q.bel⟩
  · rw [cmpS_one hd1 he1 sn (by omega)]
    have HD1 := Lib.hid hd1
    have HE1 := Lib.hid he1
    clear hd1 he1
    go_enter Tryd.func11, Tryd.ntmps11
    go_wp2_with fail
    generalize (w.alloc (.cells #[.int .i64 n, .int .i64 d] 28)).alloc (.cells #[.int .i64 m, .int .i64 e] 28) = W at *
    refine (rightSigned_any _ _ _).mono ?_
    rintro x w1 ⟨rfl, c1⟩
    have p1 := q0.below c1
    have k0 := p1.B.c0
    have k1 := p1.B.c1
    clear q0 c1
    go_wp2_with fail
    refine (rightSigned_any _ _ _).mono ?_
    rintro x w2 ⟨rfl, c1⟩
    have p := p1.below c1
    have q := p.drew
    clear p1 c1 k0 k1
    have k0 := p.A.c0
    have k1 := p.A.c1
    have k2 := p.B.c0
    have k3 := p.B.c1
    go_wp2_with fail
    go_ret
    exact ⟨rfl, p.bel⟩
  · rw [cmpS_minus hd1 he1 (by omega) sm]
    have HD1 := Lib.hid hd1
    have HE1 := Lib.hid he1
    clear hd1 he1
    go_enter Tryd.func11, Tryd.ntmps11
    go_wp2_with fail
    generalize (w.alloc (.cells #[.int .i64 n, .int .i64 d] 28)).alloc (.cells #[.int .i64 m, .int .i64 e] 28) = W at *
    refine (rightSigned_any _ _ _).mono ?_
    rintro x w1 ⟨rfl, c1⟩
    have p1 := q0.below c1
    have k0 := p1.B.c0
    have k1 := p1.B.c1
    clear q0 c1
    go_wp2_with fail
    refine (rightSigned_any _ _ _).mono ?_
    rintro x w2 ⟨rfl, c1⟩
    have p := p1.below c1
    have q := p.drew
    clear p1 c1 k0 k1
    have k0 := p.A.c0
    have k1 := p.A.c1
    have k2 := p.B.c0
    have k3 := p.B.c1
    go_wp2_with fail
    go_ret
    exact ⟨rfl, p.bel⟩
  · rw [← cmpS_neg hd1 he1 (by omega) (by omega)]
    have HD1 := Lib.hid hd1
    have HE1 := Lib.hid he1
    clear hd1 he1
    go_enter Tryd.func11, Tryd.ntmps11
    go_wp2_with fail
    generalize (w.alloc (.cells #[.int .i64 n, .int .i64 d] 28)).alloc (.cells #[.int .i64 m, .int .i64 e] 28) = W at *
    refine (rightSigned_any _ _ _).mono ?_
    rintro x w1 ⟨rfl, c1⟩
    have p1 := q0.below c1
    have k0 := p1.B.c0
    have k1 := p1.B.c1
    clear q0 c1
    go_wp2_with fail
    refine (rightSigned_any _ _ _).mono ?_
    rintro x w2 ⟨rfl, c1⟩
    have p := p1.below c1
    have q := p.drew
    clear p1 c1 k0 k1
    have k0 := p.A.c0
    have k1 := p.A.c1
    have k2 := p.B.c0
    have k3 := p.B.c1
    go_wp2_with fail
    clear k0 k1 k2 k3
    go_region_held3 (fun w' => (w'.cell? ⟨w.heap.size, 0, none⟩ = some (.int .i64 n) ∧ w'.cell? ⟨w.heap.size, 1, none⟩ = some (.int .i64 d)) ∧ (w'.cell? ⟨w.heap.size + 1, 0, none⟩ = some (.int .i64 m) ∧ w'.cell? ⟨w.heap.size + 1, 1, none⟩ = some (.int .i64 e))) (first | exact q.cells | exact p.cells)
      (first
        | (go_at_call 27; refine (fsize_any _ _ (by assumption) (by first | exact HD1.out | exact HE1.out) (by assumption) _).mono ?_; rintro x w' ⟨rfl, c⟩; replace q := q.below c; clear c)
        | (go_at_call 9; refine (fCmp_any _ _ _ _ _ _ (by assumption) (by assumption) (by assumption) (by assumption) (by assumption) (by assumption) _).mono ?_; rintro x w' ⟨rfl, c⟩; replace q := q.below c; clear c))
    go_wp2_with fail
    go_ret
    exact ⟨rfl, q.bel⟩

set_option maxHeartbeats 1000000 in
theorem cmpSigned_any (n d m e : Int) (hn : Whole n) (hd : Whole d) (hm : Whole m) (he : Whole e) (w : World) :
    Calls Tryd.prog 11 #[sg n d, sg m e] w fun x w' => x = .returned (.int .i64 (cmpS n d m e)) ∧ Below w.heap.size w w' := by
  by_cases hne : d < 1 ∨ e < 1
  · have q0 := boxesS w n d m e
    have HC : Hid (cmpS n d m e = cmpR (decide (1 ≤ d)) (decide (1 ≤ e))) := by
      show _ = _; unfold cmpS cmpR
      by_cases h1 : d < 1 <;> by_cases h2 : e < 1 <;> simp [h1, h2] <;> omega
    rw [HC.out]
    by_cases hd1 : d < 1
    · have d1 : decide (1 ≤ d) = false := by simpa using hd1
      rw [d1]
      clear hne HC hd1
      go_enter Tryd.func11, Tryd.ntmps11
      go_wp2_with fail
      generalize (w.alloc (.cells #[.int .i64 n, .int .i64 d] 28)).alloc (.cells #[.int .i64 m, .int .i64 e] 28) = W at *
      refine (rightSigned_any _ _ _).mono ?_
      rintro x w1 ⟨rfl, c1⟩
      have p := q0.below c1
      have q := p.drew
      clear q0 c1
      go_wp2_with fail
      go_region_held3 (fun w' => (w'.cell? ⟨w.heap.size, 0, none⟩ = some (.int .i64 n) ∧ w'.cell? ⟨w.heap.size, 1, none⟩ = some (.int .i64 d)) ∧ (w'.cell? ⟨w.heap.size + 1, 0, none⟩ = some (.int .i64 m) ∧ w'.cell? ⟨w.heap.size + 1, 1, none⟩ = some (.int .i64 e))) (first | exact q.cells | exact p.cells)
        (first
          | (go_at_call 26; refine (rightSigned_any _ _ _).mono ?_; rintro x w' ⟨rfl, c⟩; replace q := q.below c; clear c)
          | (go_at_call 19; refine (cmpRight_any _ _ _).mono ?_; rintro x w' ⟨rfl, rfl⟩))
      go_wp2_with fail
      go_ret
      exact ⟨rfl, q.bel⟩
    · have d1 : decide (1 ≤ d) = true := by simp; omega
      have d2 : decide (1 ≤ e) = false := by simp; omega
      rw [d1, d2]
      clear hne HC hd1
      go_enter Tryd.func11, Tryd.ntmps11
      go_wp2_with fail
      generalize (w.alloc (.cells #[.int .i64 n, .int .i64 d] 28)).alloc (.cells #[.int .i64 m, .int .i64 e] 28) = W at *
      refine (rightSigned_any _ _ _).mono ?_
      rintro x w1 ⟨rfl, c1⟩
      have p1 := q0.below c1
      have k0 := p1.B.c0
      have k1 := p1.B.c1
      clear q0 c1
      go_wp2_with fail
      refine (rightSigned_any _ _ _).mono ?_
      rintro x w2 ⟨rfl, c1⟩
      have p := p1.below c1
      have q := p.drew
      clear p1 c1 k0 k1
      go_wp2_with fail
      go_region_held3 (fun w' => (w'.cell? ⟨w.heap.size, 0, none⟩ = some (.int .i64 n) ∧ w'.cell? ⟨w.heap.size, 1, none⟩ = some (.int .i64 d)) ∧ (w'.cell? ⟨w.heap.size + 1, 0, none⟩ = some (.int .i64 m) ∧ w'.cell? ⟨w.heap.size + 1, 1, none⟩ = some (.int .i64 e))) (first | exact q.cells | exact p.cells)
        (first
          | (go_at_call 26; refine (rightSigned_any _ _ _).mono ?_; rintro x w' ⟨rfl, c⟩; replace q := q.below c; clear c)
          | (go_at_call 19; refine (cmpRight_any _ _ _).mono ?_; rintro x w' ⟨rfl, rfl⟩))
      go_wp2_with fail
      go_ret
      exact ⟨rfl, q.bel⟩
  · exact cmpSigned_right n d m e hn hd hm he (by omega) (by omega) w
end Go.Proofs.YthfipbmmbhnhiaaDoor
