/-
  THE FUNCTIONS OF frac, each as what it answers over whole numbers: Of, Right, Cmp, CmpSigned. Condition: each number is of 64 bits.
-/
import Derived.Test.YthfipbmmbhnhiaaDoorRefNum
namespace Go.Proofs.YthfipbmmbhnhiaaDoor
open Go.RowKit

/-- A fraction's value: the two parts of its number, and what divides it. -/
abbrev fr (h l d : Int) : Value := .agg #[.int .u64 h, .int .u64 l, .int .u64 d]
/-- A signed one's. -/
abbrev sg (n d : Int) : Value := .agg #[.int .i64 n, .int .i64 d]

theorem At3.newF (w : World) (x y z : Int) : At3 w.heap.size x y z (w.alloc (.cells #[.int .u64 x, .int .u64 y, .int .u64 z] 26)) := ⟨by simp, by simp, by simp, by simp⟩

theorem right_any (h l d : Int) (w : World) : Calls Tryd.prog 13 #[fr h l d] w fun e w' => e = .returned (.bool (d != 0)) ∧ Below w.heap.size w w' := by
  go_enter Tryd.func13, Tryd.ntmps13
  go_wp2
  go_ret
  exact ⟨rfl, alloc_below _ _⟩

theorem of_at (n d : Int) (w : World) : Calls Tryd.prog 14 #[.int .u64 n, .int .u64 d] w fun e w' => e = .returned (fr 0 n d) ∧ w.alloc (.cells #[.int .u64 0, .int .u64 n, .int .u64 d] 26) = w' := by
  go_enter Tryd.func14, Tryd.ntmps14
  go_wp2
  simp [bodyPost, results, Tryd.results14, go_sem]
theorem of_any (n d : Int) (w : World) : Calls Tryd.prog 14 #[.int .u64 n, .int .u64 d] w fun e w' => e = .returned (fr 0 n d) ∧ Below w.heap.size w w' :=
  (of_at n d w).mono fun _ _ ⟨h1, h2⟩ => ⟨h1, by rw [← h2]; exact alloc_below _ _⟩

/-- How two stand to one another of which one at least isn't right. -/
def cmpR (a b : Bool) : Int := if a then 1 else if b then -1 else 0
theorem cmpRight_any (a b : Bool) (w : World) : Calls Tryd.prog 19 #[.bool a, .bool b] w fun e w' => e = .returned (.int .i64 (cmpR a b)) ∧ w = w' := by
  cases a <;> cases b
  all_goals
    go_enter Tryd.func19, Tryd.ntmps19
    go_wp2
    go_ret
    exact ⟨rfl, rfl⟩

theorem rightSigned_any (n d : Int) (w : World) : Calls Tryd.prog 26 #[sg n d] w fun e w' => e = .returned (.bool (decide (1 ≤ d))) ∧ Below w.heap.size w w' := by
  go_enter Tryd.func26, Tryd.ntmps26
  go_wp2
  go_ret
  exact ⟨rfl, alloc_below _ _⟩

/-- How two fractions stand to one another; what isn't right stands below. -/
def cmpF (n d m e : Int) : Int := if d = 0 then if e = 0 then 0 else -1 else if e = 0 then 1 else cmpI (n * e) (m * d)

/-- Two fractions that came in, each in a variable of its own. -/
theorem boxesF (w : World) (ah al ad bh bl bd : Int) (W : World) (hW : (w.alloc (.cells #[.int .u64 ah, .int .u64 al, .int .u64 ad] 26)).alloc (.cells #[.int .u64 bh, .int .u64 bl, .int .u64 bd] 26) = W) :
    At3 w.heap.size ah al ad W ∧ At3 (w.heap.size + 1) bh bl bd W ∧ Below w.heap.size w W := by
  subst hW
  refine ⟨(At3.newF w ah al ad).alloc _, ?_, more (alloc_below w _) _⟩
  have := At3.newF (w.alloc (.cells #[.int .u64 ah, .int .u64 al, .int .u64 ad] 26)) bh bl bd
  rw [show (w.alloc (.cells #[.int .u64 ah, .int .u64 al, .int .u64 ad] 26)).heap.size = w.heap.size + 1 by simp] at this
  exact this

/-- Two variables with fractions, and all that lay below. -/
structure Two (a b : Nat) (ah al ad bh bl bd : Int) (w0 w : World) : Prop where
  A : At3 a ah al ad w
  B : At3 b bh bl bd w
  bel : Below w0.heap.size w0 w
theorem Two.below {a b : Nat} {ah al ad bh bl bd : Int} {w0 w w' : World} (h : Two a b ah al ad bh bl bd w0 w) (c : Below w.heap.size w w') : Two a b ah al ad bh bl bd w0 w' := ⟨h.A.below c, h.B.below c, onto h.bel c⟩
theorem Two.cells {a b : Nat} {ah al ad bh bl bd : Int} {w0 w : World} (h : Two a b ah al ad bh bl bd w0 w) :
    (w.cell? ⟨a, 0, none⟩ = some (.int .u64 ah) ∧ w.cell? ⟨a, 1, none⟩ = some (.int .u64 al) ∧ w.cell? ⟨a, 2, none⟩ = some (.int .u64 ad)) ∧
    (w.cell? ⟨b, 0, none⟩ = some (.int .u64 bh) ∧ w.cell? ⟨b, 1, none⟩ = some (.int .u64 bl) ∧ w.cell? ⟨b, 2, none⟩ = some (.int .u64 bd)) := ⟨⟨h.A.c0, h.A.c1, h.A.c2⟩, h.B.c0, h.B.c1, h.B.c2⟩
theorem Two.drew {a b : Nat} {ah al ad bh bl bd : Int} {w0 w : World} (h : Two a b ah al ad bh bl bd w0 w) : Two a b ah al ad bh bl bd w0 w.drew := h.below (Below.refl _ w).drew

set_option maxHeartbeats 1000000 in
theorem fCmp_any (ah al ad bh bl bd : Int) (h1 : Word ah) (h2 : Word al) (h3 : Word ad) (h4 : Word bh) (h5 : Word bl) (h6 : Word bd) (w : World) :
    Calls Tryd.prog 9 #[fr ah al ad, fr bh bl bd] w fun e w' =>
      e = .returned (.int .i64 (cmpF (ah * 18446744073709551616 + al) ad (bh * 18446744073709551616 + bl) bd)) ∧ Below w.heap.size w w' := by
  obtain ⟨xA, xB, b0⟩ := boxesF w ah al ad bh bl bd _ rfl
  have q0 : Two w.heap.size (w.heap.size + 1) ah al ad bh bl bd w _ := ⟨xA, xB, b0⟩
  clear xA xB b0
  by_cases hne : ad = 0 ∨ bd = 0
  · have HC : Hid (cmpF (ah * 18446744073709551616 + al) ad (bh * 18446744073709551616 + bl) bd = cmpR (ad != 0) (bd != 0)) := by
      show _ = _; unfold cmpF cmpR
      by_cases hd : ad = 0 <;> by_cases he : bd = 0 <;> simp [hd, he] <;> omega
    rw [HC.out]
    by_cases hd : ad = 0
    · have d1 : (ad != 0) = false := by simpa using hd
      rw [d1]
      clear hne HC hd
      go_enter Tryd.func9, Tryd.ntmps9
      go_wp2_with fail
      generalize (w.alloc (.cells #[.int .u64 ah, .int .u64 al, .int .u64 ad] 26)).alloc (.cells #[.int .u64 bh, .int .u64 bl, .int .u64 bd] 26) = W at *
      refine (right_any _ _ _ _).mono ?_
      rintro e w1 ⟨rfl, c1⟩
      have p := q0.below c1
      have q := p.drew
      clear q0 c1
      go_wp2_with fail
      go_region_held3 (fun w' => (w'.cell? ⟨w.heap.size, 0, none⟩ = some (.int .u64 ah) ∧ w'.cell? ⟨w.heap.size, 1, none⟩ = some (.int .u64 al) ∧ w'.cell? ⟨w.heap.size, 2, none⟩ = some (.int .u64 ad)) ∧ (w'.cell? ⟨w.heap.size + 1, 0, none⟩ = some (.int .u64 bh) ∧ w'.cell? ⟨w.heap.size + 1, 1, none⟩ = some (.int .u64 bl) ∧ w'.cell? ⟨w.heap.size + 1, 2, none⟩ = some (.int .u64 bd))) (first | exact q.cells | exact p.cells)
        (first
          | (go_at_call 13; refine (right_any _ _ _ _).mono ?_; rintro e w' ⟨rfl, c⟩; replace q := q.below c; clear c)
          | (go_at_call 19; refine (cmpRight_any _ _ _).mono ?_; rintro e w' ⟨rfl, rfl⟩))
      go_wp2_with fail
      go_ret
      exact ⟨rfl, q.bel⟩
    · have d1 : (ad != 0) = true := by simpa using hd
      have d2 : (bd != 0) = false := by
        rcases hne with h | h
        · exact absurd h hd
        · simpa using h
      rw [d1, d2]
      clear hne HC hd
      go_enter Tryd.func9, Tryd.ntmps9
      go_wp2_with fail
      generalize (w.alloc (.cells #[.int .u64 ah, .int .u64 al, .int .u64 ad] 26)).alloc (.cells #[.int .u64 bh, .int .u64 bl, .int .u64 bd] 26) = W at *
      refine (right_any _ _ _ _).mono ?_
      rintro e w1 ⟨rfl, c1⟩
      have p1 := q0.below c1
      have k0 := p1.B.c0
      have k1 := p1.B.c1
      have k2 := p1.B.c2
      clear q0 c1
      go_wp2_with fail
      refine (right_any _ _ _ _).mono ?_
      rintro e w2 ⟨rfl, c1⟩
      have p := p1.below c1
      have q := p.drew
      clear p1 c1 k0 k1 k2
      go_wp2_with fail
      go_region_held3 (fun w' => (w'.cell? ⟨w.heap.size, 0, none⟩ = some (.int .u64 ah) ∧ w'.cell? ⟨w.heap.size, 1, none⟩ = some (.int .u64 al) ∧ w'.cell? ⟨w.heap.size, 2, none⟩ = some (.int .u64 ad)) ∧ (w'.cell? ⟨w.heap.size + 1, 0, none⟩ = some (.int .u64 bh) ∧ w'.cell? ⟨w.heap.size + 1, 1, none⟩ = some (.int .u64 bl) ∧ w'.cell? ⟨w.heap.size + 1, 2, none⟩ = some (.int .u64 bd))) (first | exact q.cells | exact p.cells)
        (first
          | (go_at_call 13; refine (right_any _ _ _ _).mono ?_; rintro e w' ⟨rfl, c⟩; replace q := q.below c; clear c)
          | (go_at_call 19; refine (cmpRight_any _ _ _).mono ?_; rintro e w' ⟨rfl, rfl⟩))
      go_wp2_with fail
      go_ret
      exact ⟨rfl, q.bel⟩
  · have hd : ¬ ad = 0 := fun h => hne (.inl h)
    have he : ¬ bd = 0 := fun h => hne (.inr h)
    have HC : Hid (cmpF (ah * 18446744073709551616 + al) ad (bh * 18446744073709551616 + bl) bd = cmpI ((ah * 18446744073709551616 + al) * bd) ((bh * 18446744073709551616 + bl) * ad)) := by
      show _ = _; unfold cmpF; rw [if_neg hd, if_neg he]
    rw [HC.out, ← cmpL_parts]
    have d1 : (ad != 0) = true := by simpa using hd
    have d2 : (bd != 0) = true := by simpa using he
    clear HC hd he hne
    go_enter Tryd.func9, Tryd.ntmps9
    go_wp2_with fail
    generalize (w.alloc (.cells #[.int .u64 ah, .int .u64 al, .int .u64 ad] 26)).alloc (.cells #[.int .u64 bh, .int .u64 bl, .int .u64 bd] 26) = W at *
    refine (right_any _ _ _ _).mono ?_
    rintro e w1 ⟨rfl, c1⟩
    have p1 := q0.below c1
    have k0 := p1.B.c0
    have k1 := p1.B.c1
    have k2 := p1.B.c2
    clear q0 c1
    go_wp2_with fail
    refine (right_any _ _ _ _).mono ?_
    rintro e w2 ⟨rfl, c1⟩
    have p := p1.below c1
    have q := p.drew
    clear p1 c1 k0 k1 k2
    go_wp2_with fail
    go_region_held3 (fun w' => (w'.cell? ⟨w.heap.size, 0, none⟩ = some (.int .u64 ah) ∧ w'.cell? ⟨w.heap.size, 1, none⟩ = some (.int .u64 al) ∧ w'.cell? ⟨w.heap.size, 2, none⟩ = some (.int .u64 ad)) ∧ (w'.cell? ⟨w.heap.size + 1, 0, none⟩ = some (.int .u64 bh) ∧ w'.cell? ⟨w.heap.size + 1, 1, none⟩ = some (.int .u64 bl) ∧ w'.cell? ⟨w.heap.size + 1, 2, none⟩ = some (.int .u64 bd))) (first | exact q.cells | exact p.cells)
      (first
        | (go_at_call 21; refine (times_any _ _ _ (by assumption) (by assumption) (by assumption) _).mono ?_; rintro e w' ⟨rfl, c⟩; replace q := q.below c; clear c)
        | (go_at_call 20; refine (cmpLong_any _ _ _ _ _ _ _).mono ?_; rintro e w' ⟨rfl, c⟩; replace q := q.below c; clear c))
    go_wp2_with fail
    go_ret
    exact ⟨rfl, q.bel⟩
end Go.Proofs.YthfipbmmbhnhiaaDoor
