/-
  THE DOCUMENT'S OWN ORDER of signed fractions. Condition: each number is of 64 bits, with a sign.
-/
import Derived.Test.YthfipbmmbhnhiaaDoorRefFrac
namespace Go.Proofs.YthfipbmmbhnhiaaDoor
open Go.RowKit

/-- The four digits of a number came back. -/
def GotD (e : Ending) (w' : World) (n : Int) : Prop := ∃ g, e = .returned (.slice (some ⟨g, 0, none⟩) 4 4) ∧ Nums g (digs n) w'
theorem digits_any (n : Int) (h : Word n) (w : World) :
    Calls Tryd.prog 25 #[.int .u64 n] w fun e w' => GotD e w' n ∧ Below w.heap.size w w' :=
  (digits_at n h w).mono fun _ _ ⟨h1, h2⟩ => by
    subst h2
    exact ⟨⟨_, h1, Nums.made w (digs n)⟩, alloc_below _ _⟩

theorem cmpA_pos {n d m e : Int} (hd : 1 ≤ d) (he : 1 ≤ e) (hn : 0 ≤ n) (hm : 0 ≤ m) : cmpI (absI n * e) (absI m * d) = cmpS n d m e := by
  rw [← cmpS_pos hd he hn hm]; unfold cmpF; rw [if_neg (by omega), if_neg (by omega)]
theorem cmpA_neg {n d m e : Int} (hd : 1 ≤ d) (he : 1 ≤ e) (hn : n < 0) (hm : m < 0) : cmpI (absI m * d) (absI n * e) = cmpS n d m e := by
  rw [← cmpS_neg hd he hn hm]; unfold cmpF; rw [if_neg (by omega), if_neg (by omega)]

set_option maxHeartbeats 2000000 in
theorem refS_right (n d m e : Int) (hn : Whole n) (hd : Whole d) (hm : Whole m) (he : Whole e) (hd1 : 1 ≤ d) (he1 : 1 ≤ e) (w : World) :
    Calls Tryd.prog 12 #[sg n d, sg m e] w fun x w' => x = .returned (.int .i64 (cmpS n d m e)) ∧ Below w.heap.size w w' := by
  have q0 := boxesS w n d m e
  have W1 := absI_word hn
  have W2 := absI_word hm
  have W3 : Word d := by unfold Whole at hd; unfold Word; omega
  have W4 : Word e := by unfold Whole at he; unfold Word; omega
  have d1 : ¬ d < 1 := by omega
  have d2 : ¬ e < 1 := by omega
  have u1 : IntKind.u64.wrap d = d := by unfold Word at W3; rw [IntKind.wrap_u64]; omega
  have u2 : IntKind.u64.wrap e = e := by unfold Word at W4; rw [IntKind.wrap_u64]; omega
  have HP := Lib.hid (fun a b => cmpA_pos (n := n) (m := m) hd1 he1 a b)
  have HN := Lib.hid (fun a b => cmpA_neg (n := n) (m := m) hd1 he1 a b)
  have HO := Lib.hid (fun a b => cmpS_one (n := n) (m := m) hd1 he1 a b)
  have HM := Lib.hid (fun a b => cmpS_minus (n := n) (m := m) hd1 he1 a b)
  clear hd1 he1
  go_enter Tryd.func12, Tryd.ntmps12
  go_wp2_with fail
  generalize (w.alloc (.cells #[.int .i64 n, .int .i64 d] 28)).alloc (.cells #[.int .i64 m, .int .i64 e] 28) = W at *
  have q := q0.drew
  have M1 : Hid True := trivial
  go_region_held3 (fun w' => (w'.cell? ⟨w.heap.size, 0, none⟩ = some (.int .i64 n) ∧ w'.cell? ⟨w.heap.size, 1, none⟩ = some (.int .i64 d)) ∧ (w'.cell? ⟨w.heap.size + 1, 0, none⟩ = some (.int .i64 m) ∧ w'.cell? ⟨w.heap.size + 1, 1, none⟩ = some (.int .i64 e))) (first | exact q.cells | exact q0.cells)
    (first
      | (go_at_call 28; refine (refSize_any _ (by assumption) _).mono ?_; rintro x w' ⟨rfl, rfl⟩)
      | (go_at_call 25; clear M1; refine (digits_any _ W1 _).mono ?_; rintro x wA ⟨⟨gA, rfl, nA⟩, c⟩; replace q := q.below c; clear c)
      | (go_at_call 25; refine (digits_any _ W4 _).mono ?_; rintro x wB ⟨⟨gB, rfl, nB⟩, c⟩; replace nA := nA.below c; replace q := q.below c; clear c)
      | (go_at_call 23; refine (prodRows_any gA gB 4 4 4 4 (digs (absI n)) (digs e) rfl rfl (by decide) (by decide) (digs_dig W1) (digs_dig W4) _ nA nB).mono ?_; rintro x wP ⟨⟨gP, capP, lP, rfl, hcP, hgP, hlP, dP, vP, nP⟩, c⟩; replace q := q.below c; clear c))
  rw [digs_val, digs_val] at vP
  have VP := Lib.hid vP
  clear q0 nA nB vP
  have q0 := q
  clear q
  have q := q0.drew
  have nP0 := Lib.hid nP.drew
  clear nP
  have M2 : Hid True := trivial
  go_wp2_with fail
  go_region_held3 (fun w' => (w'.cell? ⟨w.heap.size, 0, none⟩ = some (.int .i64 n) ∧ w'.cell? ⟨w.heap.size, 1, none⟩ = some (.int .i64 d)) ∧ (w'.cell? ⟨w.heap.size + 1, 0, none⟩ = some (.int .i64 m) ∧ w'.cell? ⟨w.heap.size + 1, 1, none⟩ = some (.int .i64 e))) (first | exact q.cells | exact q0.cells)
    (first
      | (go_at_call 28; refine (refSize_any _ (by assumption) _).mono ?_; rintro x w' ⟨rfl, rfl⟩)
      | (go_at_call 25; clear M2; refine (digits_any _ W2 _).mono ?_; rintro x wC ⟨⟨gC, rfl, nC⟩, c⟩; have nP1 := Lib.hid (nP0.out.below c); clear nP0; replace q := q.below c; clear c)
      | (go_at_call 25; refine (digits_any _ W3 _).mono ?_; rintro x wD ⟨⟨gD, rfl, nD⟩, c⟩; have nP2 := Lib.hid (nP1.out.below c); clear nP1; replace nC := nC.below c; replace q := q.below c; clear c)
      | (go_at_call 23; refine (prodRows_any gC gD 4 4 4 4 (digs (absI m)) (digs d) rfl rfl (by decide) (by decide) (digs_dig W2) (digs_dig W3) _ nC nD).mono ?_; rintro x wQ ⟨⟨gQ, capQ, lQ, rfl, hcQ, hgQ, hlQ, dQ, vQ, nQ⟩, c⟩; have nP3 := Lib.hid (nP2.out.below c); clear nP2; replace q := q.below c; clear c))
  rw [digs_val, digs_val] at vQ
  have VQ := Lib.hid vQ
  have NQ := Lib.hid nQ
  clear nC nD vQ q0 nQ
  have k0 := q.A.c0
  have k1 := q.A.c1
  have k2 := q.B.c0
  have k3 := q.B.c1
  by_cases sn : n < 0 <;> by_cases sm : m < 0
  · go_wp2_with fail
    refine (compare_rows gQ gP 8 capQ capP lQ lP hlQ hlP (by decide) dQ dP _ NQ.out nP3.out).mono ?_
    rintro x wS ⟨rfl, c⟩
    rw [VQ.out, VP.out, HN.out sn sm]
    go_wp2_with fail
    go_ret
    exact ⟨rfl, onto q.bel c⟩
  · have HR := Lib.hid (HM.out sn (by omega))
    go_wp2_with fail
    go_ret
    exact ⟨by rw [HR.out]; rfl, q.bel⟩
  · have HR := Lib.hid (HO.out (by omega) sm)
    go_wp2_with fail
    go_ret
    exact ⟨by rw [HR.out]; rfl, q.bel⟩
  · go_wp2_with fail
    refine (compare_rows gP gQ 8 capP capQ lP lQ hlP hlQ (by decide) dP dQ _ nP3.out NQ.out).mono ?_
    rintro x wS ⟨rfl, c⟩
    rw [VQ.out, VP.out, HP.out (by omega) (by omega)]
    go_wp2_with fail
    go_ret
    exact ⟨rfl, onto q.bel c⟩

set_option maxHeartbeats 1000000 in
theorem refS_any (n d m e : Int) (hn : Whole n) (hd : Whole d) (hm : Whole m) (he : Whole e) (w : World) :
    Calls Tryd.prog 12 #[sg n d, sg m e] w fun x w' => x = .returned (.int .i64 (cmpS n d m e)) ∧ Below w.heap.size w w' := by
  have HB := Lib.hid (boxesS w n d m e).bel
  by_cases h1 : d < 1 <;> by_cases h2 : e < 1
  · have HC : Hid (cmpS n d m e = 0) := by show _ = _; unfold cmpS; rw [if_pos h1, if_pos h2]
    rw [HC.out]
    go_enter Tryd.func12, Tryd.ntmps12
    go_wp2_with fail
    go_ret
    exact ⟨rfl, HB.out⟩
  · have HC : Hid (cmpS n d m e = -1) := by show _ = _; unfold cmpS; rw [if_pos h1, if_neg h2]
    rw [HC.out]
    go_enter Tryd.func12, Tryd.ntmps12
    go_wp2_with fail
    go_ret
    exact ⟨rfl, HB.out⟩
  · have HC : Hid (cmpS n d m e = 1) := by show _ = _; unfold cmpS; rw [if_neg h1, if_pos h2]
    rw [HC.out]
    go_enter Tryd.func12, Tryd.ntmps12
    go_wp2_with fail
    go_ret
    exact ⟨rfl, HB.out⟩
  · exact refS_right n d m e hn hd hm he (by omega) (by omega) w
end Go.Proofs.YthfipbmmbhnhiaaDoor
