/-
  FracChains' walk: the order of fractions is total. Condition: each number is of 64 bits; the library's table of powers of ten reads as its own text lays it.
-/
import Derived.Test.YthfipbmmbhnhiaaDoorFixF
import Derived.Test.YthfipbmmbhnhiaaDoorRefFrac
namespace Go.Proofs.YthfipbmmbhnhiaaDoor
open Go.RowKit

theorem cmpI_three (x y : Int) : cmpI x y = -1 ∧ x < y ∨ cmpI x y = 0 ∧ x = y ∨ cmpI x y = 1 ∧ y < x := by
  rcases Int.lt_trichotomy x y with h | h | h
  · exact .inl ⟨cmpI_lt h, h⟩
  · exact .inr (.inl ⟨cmpI_eq h, h⟩)
  · exact .inr (.inr ⟨cmpI_gt h, h⟩)

theorem cmpF_self (n d : Int) : cmpF n d n d = 0 := by
  unfold cmpF
  by_cases h : d = 0
  · rw [if_pos h, if_pos h]
  · rw [if_neg h, if_neg h, cmpI_eq rfl]
theorem cmpF_swap (n d m e : Int) : cmpF m e n d = -cmpF n d m e := by
  unfold cmpF
  by_cases h : d = 0 <;> by_cases k : e = 0 <;> simp [h, k]
  rcases cmpI_three (n * e) (m * d) with ⟨a, b⟩ | ⟨a, b⟩ | ⟨a, b⟩
  · rw [a, cmpI_gt b]; rfl
  · rw [a, cmpI_eq b.symm]; rfl
  · rw [a, cmpI_lt b]
theorem cmpF_three (n d m e : Int) : cmpF n d m e = -1 ∨ cmpF n d m e = 0 ∨ cmpF n d m e = 1 := by
  unfold cmpF
  by_cases h : d = 0 <;> by_cases k : e = 0 <;> simp [h, k]
  rcases cmpI_three (n * e) (m * d) with ⟨a, _⟩ | ⟨a, _⟩ | ⟨a, _⟩ <;> simp [a]

/-- Cross products, one behind the other. -/
theorem cross_le {a b c d e f : Int} (hd : 0 < d) (he : 0 < e) (hf : 0 < f) (h1 : a * e ≤ b * d) (h2 : b * f ≤ c * e) : a * f ≤ c * d := by
  have h3 : a * e * f ≤ b * d * f := Int.mul_le_mul_of_nonneg_right h1 (by omega)
  have h4 : b * f * d ≤ c * e * d := Int.mul_le_mul_of_nonneg_right h2 (by omega)
  have h5 : a * f * e ≤ c * d * e := by
    have e1 : a * e * f = a * f * e := by grind
    have e2 : b * d * f = b * f * d := by grind
    have e3 : c * e * d = c * d * e := by grind
    omega
  exact Int.le_of_mul_le_mul_right h5 he
theorem cmpI_le {x y : Int} : cmpI x y ≤ 0 ↔ x ≤ y := by
  rcases cmpI_three x y with ⟨a, b⟩ | ⟨a, b⟩ | ⟨a, b⟩ <;> rw [a] <;> omega

/-- The order is a chain. -/
theorem cmpF_chain {a d b e c f : Int} (hd : 0 ≤ d) (he : 0 ≤ e) (hf : 0 ≤ f) (h1 : cmpF a d b e ≤ 0) (h2 : cmpF b e c f ≤ 0) : cmpF a d c f ≤ 0 := by
  unfold cmpF at *
  by_cases kd : d = 0 <;> by_cases ke : e = 0 <;> by_cases kf : f = 0 <;> simp [kd, ke, kf] at h1 h2 ⊢
  rw [cmpI_le] at h1 h2 ⊢
  exact cross_le (by omega) (by omega) (by omega) h1 h2
theorem cmpF_chain' {a d b e c f : Int} (hd : 0 ≤ d) (he : 0 ≤ e) (hf : 0 ≤ f) (h1 : 0 ≤ cmpF a d b e) (h2 : 0 ≤ cmpF b e c f) : 0 ≤ cmpF a d c f := by
  have k1 := cmpF_swap a d b e
  have k2 := cmpF_swap b e c f
  have k3 := cmpF_swap a d c f
  have := cmpF_chain hf he hd (a := c) (b := b) (c := a) (by omega) (by omega)
  omega

/-- The three variables of the law, and the table. -/
structure Three (a b c : Nat) (ah al ad bh bl bd ch cl cd : Int) (w0 w : World) : Prop where
  A : At3 a ah al ad w
  B : At3 b bh bl bd w
  C : At3 c ch cl cd w
  tab : Tab w
  bel : Below w0.heap.size w0 w
theorem Three.below {a b c : Nat} {ah al ad bh bl bd ch cl cd : Int} {w0 w w' : World} (h : Three a b c ah al ad bh bl bd ch cl cd w0 w) (k : Below w.heap.size w w') : Three a b c ah al ad bh bl bd ch cl cd w0 w' := ⟨h.A.below k, h.B.below k, h.C.below k, h.tab.below k, onto h.bel k⟩
theorem Three.drew {a b c : Nat} {ah al ad bh bl bd ch cl cd : Int} {w0 w : World} (h : Three a b c ah al ad bh bl bd ch cl cd w0 w) : Three a b c ah al ad bh bl bd ch cl cd w0 w.drew := h.below (Below.refl _ w).drew
theorem Three.cells {a b c : Nat} {ah al ad bh bl bd ch cl cd : Int} {w0 w : World} (h : Three a b c ah al ad bh bl bd ch cl cd w0 w) :
    (w.cell? ⟨a, 0, none⟩ = some (.int .u64 ah) ∧ w.cell? ⟨a, 1, none⟩ = some (.int .u64 al) ∧ w.cell? ⟨a, 2, none⟩ = some (.int .u64 ad)) ∧
    (w.cell? ⟨b, 0, none⟩ = some (.int .u64 bh) ∧ w.cell? ⟨b, 1, none⟩ = some (.int .u64 bl) ∧ w.cell? ⟨b, 2, none⟩ = some (.int .u64 bd)) ∧
    (w.cell? ⟨c, 0, none⟩ = some (.int .u64 ch) ∧ w.cell? ⟨c, 1, none⟩ = some (.int .u64 cl) ∧ w.cell? ⟨c, 2, none⟩ = some (.int .u64 cd)) := ⟨⟨h.A.c0, h.A.c1, h.A.c2⟩, ⟨h.B.c0, h.B.c1, h.B.c2⟩, h.C.c0, h.C.c1, h.C.c2⟩
theorem boxesThree (w : World) (ht : Tab w) (ah al ad bh bl bd ch cl cd : Int) : Three w.heap.size (w.heap.size + 1) (w.heap.size + 1 + 1) ah al ad bh bl bd ch cl cd w (((w.alloc (.cells #[.int .u64 ah, .int .u64 al, .int .u64 ad] 26)).alloc (.cells #[.int .u64 bh, .int .u64 bl, .int .u64 bd] 26)).alloc (.cells #[.int .u64 ch, .int .u64 cl, .int .u64 cd] 26)) := by
  obtain ⟨xA, xB, b0⟩ := boxesF w ah al ad bh bl bd _ rfl
  refine ⟨xA.alloc _, xB.alloc _, ?_, ht.below (more b0 _), more b0 _⟩
  have := At3.newF ((w.alloc (.cells #[.int .u64 ah, .int .u64 al, .int .u64 ad] 26)).alloc (.cells #[.int .u64 bh, .int .u64 bl, .int .u64 bd] 26)) ch cl cd
  rw [show ((w.alloc (.cells #[.int .u64 ah, .int .u64 al, .int .u64 ad] 26)).alloc (.cells #[.int .u64 bh, .int .u64 bl, .int .u64 bd] 26)).heap.size = w.heap.size + 1 + 1 by simp] at this
  exact this

set_option maxHeartbeats 4000000 in
theorem chains_any (ah al ad bh bl bd ch cl cd : Int) (h1 : Word ah) (h2 : Word al) (h3 : Word ad) (h4 : Word bh) (h5 : Word bl) (h6 : Word bd) (h7 : Word ch) (h8 : Word cl) (h9 : Word cd) (w : World) (ht : Tab w) :
    Calls Tryd.prog 5 #[fr ah al ad, fr bh bl bd, fr ch cl cd] w fun e w' => e = .returned (.bool true) ∧ Below w.heap.size w w' := by
  have q0 := boxesThree w ht ah al ad bh bl bd ch cl cd
  have H1 := Lib.hid (cmpF_chain (a := ah * 18446744073709551616 + al) (b := bh * 18446744073709551616 + bl) (c := ch * 18446744073709551616 + cl) h3.1 h6.1 h9.1)
  have H2 := Lib.hid (cmpF_chain' (a := ah * 18446744073709551616 + al) (b := bh * 18446744073709551616 + bl) (c := ch * 18446744073709551616 + cl) h3.1 h6.1 h9.1)
  have HX3 := Lib.hid (cmpF_three (ah * 18446744073709551616 + al) ad (bh * 18446744073709551616 + bl) bd)
  have HY3 := Lib.hid (cmpF_three (bh * 18446744073709551616 + bl) bd (ch * 18446744073709551616 + cl) cd)
  have HZ3 := Lib.hid (cmpF_three (ah * 18446744073709551616 + al) ad (ch * 18446744073709551616 + cl) cd)
  have HS := Lib.hid (cmpF_swap (ah * 18446744073709551616 + al) ad (bh * 18446744073709551616 + bl) bd)
  have HE := Lib.hid (cmpF_self (ah * 18446744073709551616 + al) ad)
  go_enter Tryd.func5, Tryd.ntmps5
  go_wp2_with fail
  generalize ((w.alloc (.cells #[.int .u64 ah, .int .u64 al, .int .u64 ad] 26)).alloc (.cells #[.int .u64 bh, .int .u64 bl, .int .u64 bd] 26)).alloc (.cells #[.int .u64 ch, .int .u64 cl, .int .u64 cd] 26) = W at *
  have q := q0.drew
  go_region_held3 (fun w' => (w'.cell? ⟨w.heap.size, 0, none⟩ = some (.int .u64 ah) ∧ w'.cell? ⟨w.heap.size, 1, none⟩ = some (.int .u64 al) ∧ w'.cell? ⟨w.heap.size, 2, none⟩ = some (.int .u64 ad)) ∧ (w'.cell? ⟨w.heap.size + 1, 0, none⟩ = some (.int .u64 bh) ∧ w'.cell? ⟨w.heap.size + 1, 1, none⟩ = some (.int .u64 bl) ∧ w'.cell? ⟨w.heap.size + 1, 2, none⟩ = some (.int .u64 bd)) ∧ (w'.cell? ⟨w.heap.size + 1 + 1, 0, none⟩ = some (.int .u64 ch) ∧ w'.cell? ⟨w.heap.size + 1 + 1, 1, none⟩ = some (.int .u64 cl) ∧ w'.cell? ⟨w.heap.size + 1 + 1, 2, none⟩ = some (.int .u64 cd))) (first | exact q.cells | exact q0.cells)
    ((go_at_call 9; refine (fCmp_any _ _ _ _ _ _ (by assumption) (by assumption) (by assumption) (by assumption) (by assumption) (by assumption) _).mono ?_; rintro x w' ⟨rfl, c⟩; replace q := q.below c; clear c))
  have MF := fCmp_any bh bl bd ah al ad h4 h5 h6 h1 h2 h3
  have MS := fCmp_any ah al ad ah al ad h1 h2 h3 h1 h2 h3
  rw [HS.out] at MF
  rw [HE.out] at MS
  obtain ⟨k1, k2, k3⟩ := And.intro HX3.out (And.intro HY3.out HZ3.out)
  have j1 := H1.out
  have j2 := H2.out
  clear HX3 HY3 HZ3 H1 H2 HS HE
  generalize cmpF (ah * 18446744073709551616 + al) ad (bh * 18446744073709551616 + bl) bd = X at *
  generalize cmpF (bh * 18446744073709551616 + bl) bd (ch * 18446744073709551616 + cl) cd = Y at *
  generalize cmpF (ah * 18446744073709551616 + al) ad (ch * 18446744073709551616 + cl) cd = Z at *
  have HT := Lib.hid q.tab
  have B1 := Lib.hid q.bel
  have A1 := Lib.hid q
  clear q q0 ht h1 h2 h3 h4 h5 h6 h7 h8 h9
  rcases k1 with rfl | rfl | rfl <;> rcases k2 with rfl | rfl | rfl <;> rcases k3 with rfl | rfl | rfl <;> first | (exfalso; omega) | skip
  all_goals
    clear j1 j2
    go_wp2_with fail
    refine (fixed_any _ HT.out).mono ?_
    rintro x w1 ⟨rfl, c⟩
    have q1 := A1.out.below c
    have z0 := q1.A.c0
    have z1 := q1.A.c1
    have z2 := q1.A.c2
    have y0 := q1.B.c0
    have y1 := q1.B.c1
    have y2 := q1.B.c2
    clear c
    go_wp2_with fail
    refine (MF _).mono ?_
    rintro x w2 ⟨rfl, c⟩
    have q2 := q1.below c
    clear c z0 z1 z2 y0 y1 y2 q1
    have z0 := q2.A.c0
    have z1 := q2.A.c1
    have z2 := q2.A.c2
    go_wp2_with fail
    refine (MS _).mono ?_
    rintro x w3 ⟨rfl, c⟩
    have q3 := q2.below c
    clear c z0 z1 z2 q2
    go_wp2_with fail
    go_ret
    exact ⟨rfl, q3.bel⟩
end Go.Proofs.YthfipbmmbhnhiaaDoor
