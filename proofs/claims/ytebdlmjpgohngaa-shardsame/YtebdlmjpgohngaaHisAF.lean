/-
  HISTOGRAMS: the document's Add, where it refuses. Conditions: each number is of 64 bits with a sign.
-/
import Derived.Test.YtebdlmjpgohngaaHisU
import Derived.Test.YtebdlmjpgohngaaHisK
namespace Go.Proofs.Ytebdlmjpgohngaa
open Go.RowKit

/-- Where the numbers lie: in blocks like these. -/
def On (N : Nat → Prop) (ac am : Option Addr) : Prop := (∀ ad, ac = some ad → N ad.block) ∧ (∀ ad, am = some ad → N ad.block)
/-- What the document's Add hands back. -/
def RAddP (d : HD) (b t v : Int) (ac am : Option Addr) (w : World) (e : Ending) (w' : World) : Prop :=
  ∃ ac' nc' cc' am' nm' cm', e = .returned (.tuple #[.agg #[.int .i64 d.k, .int .i64 d.b, .int .i64 d.c, .slice ac' nc' cc', .slice am' nm' cm'], .int .i64 (addE d b t v)]) ∧ Reads (addD d b t v) ac' nc' am' nm' w' ∧
    ((ac' = none → cc' = 0) ∧ (am' = none → cm' = 0)) ∧ (∀ N : Nat → Prop, (∀ b, w.heap.size ≤ b → N b) → On N ac am → On N ac' am') ∧ Below w.heap.size w w'
theorem RAddP.keep {d : HD} {b t v : Int} {ac am : Option Addr} {nc cc nm cm : Nat} {w : World} (h : Reads d ac nc am nm w) (z1 : ac = none → cc = 0) (z2 : am = none → cm = 0) {E : Int} (hE : addE d b t v = E) (h0 : E ≠ 0) {w' : World} (hb : Below w.heap.size w w') :
    RAddP d b t v ac am w (.returned (.tuple #[.agg #[.int .i64 d.k, .int .i64 d.b, .int .i64 d.c, .slice ac nc cc, .slice am nm cm], .int .i64 E])) w' := by
  refine ⟨ac, nc, cc, am, nm, cm, by rw [hE], ?_, ⟨z1, z2⟩, fun _ _ h => h, hb⟩
  rw [show addD d b t v = d from if_pos (by rw [hE]; exact h0)]
  exact h.below hb

set_option maxRecDepth 20000 in
set_option maxHeartbeats 1000000 in
theorem radd_wrong (k B C : Int) (lc lm : List Int) (ac am : Option Addr) (nc cc nm cm : Nat) (b t v : Int) (w : World) (h : Reads ⟨k, B, C, lc, lm⟩ ac nc am nm w) (z1 : ac = none → cc = 0) (z2 : am = none → cm = 0) (hr : rightD ⟨k, B, C, lc, lm⟩ = false)  :
    Calls Try.prog 24 #[.agg #[.int .i64 k, .int .i64 B, .int .i64 C, .slice ac nc cc, .slice am nm cm], .int .i64 b, .int .i64 t, .int .i64 v] w fun e w' => RAddP ⟨k, B, C, lc, lm⟩ b t v ac am w e w' := by
  have hE : addE ⟨k, B, C, lc, lm⟩ b t v = 8 := by
    unfold addE
    rw [hr, if_pos rfl]
  have HP : Hid (∀ w', Below w.heap.size w w' → RAddP ⟨k, B, C, lc, lm⟩ b t v ac am w (.returned (.tuple #[.agg #[.int .i64 k, .int .i64 B, .int .i64 C, .slice ac nc cc, .slice am nm cm], .int .i64 8])) w') := fun w' hb => RAddP.keep h z1 z2 hE (by decide) hb
  have hq := fun w => refRight_any k B C ac am nc cc nm cm w
  rw [h.right, hr] at hq
  have bA := VarH.new w k B C (.slice ac nc cc) (.slice am nm cm) 45
  obtain ⟨W1, hW1⟩ : ∃ W1, w.alloc (.cells #[.int .i64 k, .int .i64 B, .int .i64 C, .slice ac nc cc, .slice am nm cm] 45) = W1 := ⟨_, rfl⟩
  rw [hW1] at bA
  have s1 : W1.heap.size = w.heap.size + 1 := by rw [← hW1]; simp
  have bR := VarH.new W1 0 0 0 (.slice none 0 0) (.slice none 0 0) 45
  obtain ⟨W2, hW2⟩ : ∃ W2, W1.alloc (.cells #[.int .i64 0, .int .i64 0, .int .i64 0, .slice none 0 0, .slice none 0 0] 45) = W2 := ⟨_, rfl⟩
  rw [hW2, s1] at bR
  have k1 : Below w.heap.size w W1 := hW1 ▸ alloc_below w _
  have k2 : Below W1.heap.size W1 W2 := hW2 ▸ alloc_below W1 _
  have HB : Hid (Below w.heap.size w W2) := k1.trans (k2.mono k1.size)
  replace bA := Lib.hid (bA.below k2 bA.lt)
  replace bR := Lib.hid bR
  clear k1 k2 hE h z1 z2 hr
  go_enter Try.func24, Try.ntmps24
  go_upto_region 1 with fail
  clear hW1 hW2 s1
  obtain ⟨a0, a1, a2, a3, a4⟩ := bA.out.five
  go_wp2_with fail
  refine (hq _).mono ?_
  rintro e W3 ⟨rfl, c3⟩
  clear a0 a1 a2 a3 a4 hq
  replace bA := Lib.hid (bA.out.below c3 bA.out.lt)
  replace bR := Lib.hid (bR.out.below c3 bR.out.lt)
  replace HB := Lib.hid (HB.out.trans (c3.mono HB.out.size))
  clear c3
  obtain ⟨a0, a1, a2, a3, a4⟩ := bA.out.five
  obtain ⟨r0, r1, r2, r3, r4⟩ := bR.out.five
  obtain ⟨y0, y1, y2, y3, y4⟩ := bR.out.soft
  go_wp2_with fail
  obtain ⟨d0, d1, d2, d3, d4⟩ := (bR.out.set k B C (.slice ac nc cc) (.slice am nm cm)).five
  have HBW := set5_below (g := w.heap.size + 1) (x0 := .int .i64 k) (x1 := .int .i64 B) (x2 := .int .i64 C) (x3 := .slice ac nc cc) (x4 := .slice am nm cm) HB.out (by omega)
  change bodyPost _ _ _ _ _ (set5 W3 (w.heap.size + 1) (.int .i64 k) (.int .i64 B) (.int .i64 C) (.slice ac nc cc) (.slice am nm cm))
  generalize set5 W3 (w.heap.size + 1) (.int .i64 k) (.int .i64 B) (.int .i64 C) (.slice ac nc cc) (.slice am nm cm) = WX at *
  simp [bodyPost, results, Try.results24, go_sem, d0, d1, d2, d3, d4]
  exact HP.out _ HBW

set_option maxRecDepth 20000 in
set_option maxHeartbeats 1000000 in
theorem radd_low (k B C : Int) (lc lm : List Int) (ac am : Option Addr) (nc cc nm cm : Nat) (b t v : Int) (w : World) (h : Reads ⟨k, B, C, lc, lm⟩ ac nc am nm w) (z1 : ac = none → cc = 0) (z2 : am = none → cm = 0) (hr : rightD ⟨k, B, C, lc, lm⟩ = true) (hb : b < 0) :
    Calls Try.prog 24 #[.agg #[.int .i64 k, .int .i64 B, .int .i64 C, .slice ac nc cc, .slice am nm cm], .int .i64 b, .int .i64 t, .int .i64 v] w fun e w' => RAddP ⟨k, B, C, lc, lm⟩ b t v ac am w e w' := by
  have hE : addE ⟨k, B, C, lc, lm⟩ b t v = 5 := by
    unfold addE
    rw [hr, if_neg (by decide)]
    exact if_pos (.inl hb)
  have HP : Hid (∀ w', Below w.heap.size w w' → RAddP ⟨k, B, C, lc, lm⟩ b t v ac am w (.returned (.tuple #[.agg #[.int .i64 k, .int .i64 B, .int .i64 C, .slice ac nc cc, .slice am nm cm], .int .i64 5])) w') := fun w' hb => RAddP.keep h z1 z2 hE (by decide) hb
  have hq := fun w => refRight_any k B C ac am nc cc nm cm w
  rw [h.right, hr] at hq
  have bA := VarH.new w k B C (.slice ac nc cc) (.slice am nm cm) 45
  obtain ⟨W1, hW1⟩ : ∃ W1, w.alloc (.cells #[.int .i64 k, .int .i64 B, .int .i64 C, .slice ac nc cc, .slice am nm cm] 45) = W1 := ⟨_, rfl⟩
  rw [hW1] at bA
  have s1 : W1.heap.size = w.heap.size + 1 := by rw [← hW1]; simp
  have bR := VarH.new W1 0 0 0 (.slice none 0 0) (.slice none 0 0) 45
  obtain ⟨W2, hW2⟩ : ∃ W2, W1.alloc (.cells #[.int .i64 0, .int .i64 0, .int .i64 0, .slice none 0 0, .slice none 0 0] 45) = W2 := ⟨_, rfl⟩
  rw [hW2, s1] at bR
  have k1 : Below w.heap.size w W1 := hW1 ▸ alloc_below w _
  have k2 : Below W1.heap.size W1 W2 := hW2 ▸ alloc_below W1 _
  have HB : Hid (Below w.heap.size w W2) := k1.trans (k2.mono k1.size)
  replace bA := Lib.hid (bA.below k2 bA.lt)
  replace bR := Lib.hid bR
  clear k1 k2 hE h z1 z2 hr
  go_enter Try.func24, Try.ntmps24
  go_upto_region 1 with fail
  clear hW1 hW2 s1
  obtain ⟨a0, a1, a2, a3, a4⟩ := bA.out.five
  go_wp2_with fail
  refine (hq _).mono ?_
  rintro e W3 ⟨rfl, c3⟩
  clear a0 a1 a2 a3 a4 hq
  replace bA := Lib.hid (bA.out.below c3 bA.out.lt)
  replace bR := Lib.hid (bR.out.below c3 bR.out.lt)
  replace HB := Lib.hid (HB.out.trans (c3.mono HB.out.size))
  clear c3
  obtain ⟨a0, a1, a2, a3, a4⟩ := bA.out.five
  obtain ⟨r0, r1, r2, r3, r4⟩ := bR.out.five
  obtain ⟨y0, y1, y2, y3, y4⟩ := bR.out.soft
  go_wp2_with fail
  obtain ⟨d0, d1, d2, d3, d4⟩ := (bR.out.set k B C (.slice ac nc cc) (.slice am nm cm)).five
  have HBW := set5_below (g := w.heap.size + 1) (x0 := .int .i64 k) (x1 := .int .i64 B) (x2 := .int .i64 C) (x3 := .slice ac nc cc) (x4 := .slice am nm cm) HB.out (by omega)
  change bodyPost _ _ _ _ _ (set5 W3 (w.heap.size + 1) (.int .i64 k) (.int .i64 B) (.int .i64 C) (.slice ac nc cc) (.slice am nm cm))
  generalize set5 W3 (w.heap.size + 1) (.int .i64 k) (.int .i64 B) (.int .i64 C) (.slice ac nc cc) (.slice am nm cm) = WX at *
  simp [bodyPost, results, Try.results24, go_sem, d0, d1, d2, d3, d4]
  exact HP.out _ HBW

set_option maxRecDepth 20000 in
set_option maxHeartbeats 1000000 in
theorem radd_high (k B C : Int) (lc lm : List Int) (ac am : Option Addr) (nc cc nm cm : Nat) (b t v : Int) (w : World) (h : Reads ⟨k, B, C, lc, lm⟩ ac nc am nm w) (z1 : ac = none → cc = 0) (z2 : am = none → cm = 0) (hr : rightD ⟨k, B, C, lc, lm⟩ = true) (h0 : ¬ b < 0) (hb : B ≤ b) :
    Calls Try.prog 24 #[.agg #[.int .i64 k, .int .i64 B, .int .i64 C, .slice ac nc cc, .slice am nm cm], .int .i64 b, .int .i64 t, .int .i64 v] w fun e w' => RAddP ⟨k, B, C, lc, lm⟩ b t v ac am w e w' := by
  have hE : addE ⟨k, B, C, lc, lm⟩ b t v = 5 := by
    unfold addE
    rw [hr, if_neg (by decide)]
    exact if_pos (.inr hb)
  have HP : Hid (∀ w', Below w.heap.size w w' → RAddP ⟨k, B, C, lc, lm⟩ b t v ac am w (.returned (.tuple #[.agg #[.int .i64 k, .int .i64 B, .int .i64 C, .slice ac nc cc, .slice am nm cm], .int .i64 5])) w') := fun w' hb => RAddP.keep h z1 z2 hE (by decide) hb
  have hq := fun w => refRight_any k B C ac am nc cc nm cm w
  rw [h.right, hr] at hq
  have bA := VarH.new w k B C (.slice ac nc cc) (.slice am nm cm) 45
  obtain ⟨W1, hW1⟩ : ∃ W1, w.alloc (.cells #[.int .i64 k, .int .i64 B, .int .i64 C, .slice ac nc cc, .slice am nm cm] 45) = W1 := ⟨_, rfl⟩
  rw [hW1] at bA
  have s1 : W1.heap.size = w.heap.size + 1 := by rw [← hW1]; simp
  have bR := VarH.new W1 0 0 0 (.slice none 0 0) (.slice none 0 0) 45
  obtain ⟨W2, hW2⟩ : ∃ W2, W1.alloc (.cells #[.int .i64 0, .int .i64 0, .int .i64 0, .slice none 0 0, .slice none 0 0] 45) = W2 := ⟨_, rfl⟩
  rw [hW2, s1] at bR
  have k1 : Below w.heap.size w W1 := hW1 ▸ alloc_below w _
  have k2 : Below W1.heap.size W1 W2 := hW2 ▸ alloc_below W1 _
  have HB : Hid (Below w.heap.size w W2) := k1.trans (k2.mono k1.size)
  replace bA := Lib.hid (bA.below k2 bA.lt)
  replace bR := Lib.hid bR
  clear k1 k2 hE h z1 z2 hr
  go_enter Try.func24, Try.ntmps24
  go_upto_region 1 with fail
  clear hW1 hW2 s1
  obtain ⟨a0, a1, a2, a3, a4⟩ := bA.out.five
  go_wp2_with fail
  refine (hq _).mono ?_
  rintro e W3 ⟨rfl, c3⟩
  clear a0 a1 a2 a3 a4 hq
  replace bA := Lib.hid (bA.out.below c3 bA.out.lt)
  replace bR := Lib.hid (bR.out.below c3 bR.out.lt)
  replace HB := Lib.hid (HB.out.trans (c3.mono HB.out.size))
  clear c3
  obtain ⟨a0, a1, a2, a3, a4⟩ := bA.out.five
  obtain ⟨r0, r1, r2, r3, r4⟩ := bR.out.five
  obtain ⟨y0, y1, y2, y3, y4⟩ := bR.out.soft
  go_wp2_with fail
  obtain ⟨d0, d1, d2, d3, d4⟩ := (bR.out.set k B C (.slice ac nc cc) (.slice am nm cm)).five
  have HBW := set5_below (g := w.heap.size + 1) (x0 := .int .i64 k) (x1 := .int .i64 B) (x2 := .int .i64 C) (x3 := .slice ac nc cc) (x4 := .slice am nm cm) HB.out (by omega)
  change bodyPost _ _ _ _ _ (set5 W3 (w.heap.size + 1) (.int .i64 k) (.int .i64 B) (.int .i64 C) (.slice ac nc cc) (.slice am nm cm))
  generalize set5 W3 (w.heap.size + 1) (.int .i64 k) (.int .i64 B) (.int .i64 C) (.slice ac nc cc) (.slice am nm cm) = WX at *
  simp [bodyPost, results, Try.results24, go_sem, d0, d1, d2, d3, d4]
  exact HP.out _ HBW

set_option maxRecDepth 20000 in
set_option maxHeartbeats 1000000 in
theorem radd_under (B C : Int) (lc lm : List Int) (ac am : Option Addr) (nc cc nm cm : Nat) (b t v : Int) (w : World) (h : Reads ⟨0, B, C, lc, lm⟩ ac nc am nm w) (z1 : ac = none → cc = 0) (z2 : am = none → cm = 0) (hr : rightD ⟨0, B, C, lc, lm⟩ = true) (h0 : ¬ b < 0) (hb : b < B) (ht : t < 0) :
    Calls Try.prog 24 #[.agg #[.int .i64 0, .int .i64 B, .int .i64 C, .slice ac nc cc, .slice am nm cm], .int .i64 b, .int .i64 t, .int .i64 v] w fun e w' => RAddP ⟨0, B, C, lc, lm⟩ b t v ac am w e w' := by
  have hE : addE ⟨0, B, C, lc, lm⟩ b t v = 5 := by
    unfold addE
    rw [hr, if_neg (by decide)]
    rw [if_neg (by show ¬ (b < 0 ∨ B ≤ b); omega)]
    exact if_pos ⟨rfl, .inl ht⟩
  have HP : Hid (∀ w', Below w.heap.size w w' → RAddP ⟨0, B, C, lc, lm⟩ b t v ac am w (.returned (.tuple #[.agg #[.int .i64 0, .int .i64 B, .int .i64 C, .slice ac nc cc, .slice am nm cm], .int .i64 5])) w') := fun w' hb => RAddP.keep h z1 z2 hE (by decide) hb
  have hq := fun w => refRight_any 0 B C ac am nc cc nm cm w
  rw [h.right, hr] at hq
  have bA := VarH.new w 0 B C (.slice ac nc cc) (.slice am nm cm) 45
  obtain ⟨W1, hW1⟩ : ∃ W1, w.alloc (.cells #[.int .i64 0, .int .i64 B, .int .i64 C, .slice ac nc cc, .slice am nm cm] 45) = W1 := ⟨_, rfl⟩
  rw [hW1] at bA
  have s1 : W1.heap.size = w.heap.size + 1 := by rw [← hW1]; simp
  have bR := VarH.new W1 0 0 0 (.slice none 0 0) (.slice none 0 0) 45
  obtain ⟨W2, hW2⟩ : ∃ W2, W1.alloc (.cells #[.int .i64 0, .int .i64 0, .int .i64 0, .slice none 0 0, .slice none 0 0] 45) = W2 := ⟨_, rfl⟩
  rw [hW2, s1] at bR
  have k1 : Below w.heap.size w W1 := hW1 ▸ alloc_below w _
  have k2 : Below W1.heap.size W1 W2 := hW2 ▸ alloc_below W1 _
  have HB : Hid (Below w.heap.size w W2) := k1.trans (k2.mono k1.size)
  replace bA := Lib.hid (bA.below k2 bA.lt)
  replace bR := Lib.hid bR
  clear k1 k2 hE h z1 z2 hr
  go_enter Try.func24, Try.ntmps24
  go_upto_region 1 with fail
  clear hW1 hW2 s1
  obtain ⟨a0, a1, a2, a3, a4⟩ := bA.out.five
  go_wp2_with fail
  refine (hq _).mono ?_
  rintro e W3 ⟨rfl, c3⟩
  clear a0 a1 a2 a3 a4 hq
  replace bA := Lib.hid (bA.out.below c3 bA.out.lt)
  replace bR := Lib.hid (bR.out.below c3 bR.out.lt)
  replace HB := Lib.hid (HB.out.trans (c3.mono HB.out.size))
  clear c3
  obtain ⟨a0, a1, a2, a3, a4⟩ := bA.out.five
  obtain ⟨r0, r1, r2, r3, r4⟩ := bR.out.five
  obtain ⟨y0, y1, y2, y3, y4⟩ := bR.out.soft
  go_wp2_with fail
  obtain ⟨d0, d1, d2, d3, d4⟩ := (bR.out.set 0 B C (.slice ac nc cc) (.slice am nm cm)).five
  have HBW := set5_below (g := w.heap.size + 1) (x0 := .int .i64 0) (x1 := .int .i64 B) (x2 := .int .i64 C) (x3 := .slice ac nc cc) (x4 := .slice am nm cm) HB.out (by omega)
  change bodyPost _ _ _ _ _ (set5 W3 (w.heap.size + 1) (.int .i64 0) (.int .i64 B) (.int .i64 C) (.slice ac nc cc) (.slice am nm cm))
  generalize set5 W3 (w.heap.size + 1) (.int .i64 0) (.int .i64 B) (.int .i64 C) (.slice ac nc cc) (.slice am nm cm) = WX at *
  simp [bodyPost, results, Try.results24, go_sem, d0, d1, d2, d3, d4]
  exact HP.out _ HBW

set_option maxRecDepth 20000 in
set_option maxHeartbeats 1000000 in
theorem radd_over (B C : Int) (lc lm : List Int) (ac am : Option Addr) (nc cc nm cm : Nat) (b t v : Int) (w : World) (h : Reads ⟨0, B, C, lc, lm⟩ ac nc am nm w) (z1 : ac = none → cc = 0) (z2 : am = none → cm = 0) (hr : rightD ⟨0, B, C, lc, lm⟩ = true) (h0 : ¬ b < 0) (hb : b < B) (h1 : ¬ t < 0) (h2 : 255 < t) (h3 : C ≤ t) :
    Calls Try.prog 24 #[.agg #[.int .i64 0, .int .i64 B, .int .i64 C, .slice ac nc cc, .slice am nm cm], .int .i64 b, .int .i64 t, .int .i64 v] w fun e w' => RAddP ⟨0, B, C, lc, lm⟩ b t v ac am w e w' := by
  have hE : addE ⟨0, B, C, lc, lm⟩ b t v = 5 := by
    unfold addE
    rw [hr, if_neg (by decide)]
    rw [if_neg (by show ¬ (b < 0 ∨ B ≤ b); omega)]
    exact if_pos ⟨rfl, .inr h3⟩
  have HP : Hid (∀ w', Below w.heap.size w w' → RAddP ⟨0, B, C, lc, lm⟩ b t v ac am w (.returned (.tuple #[.agg #[.int .i64 0, .int .i64 B, .int .i64 C, .slice ac nc cc, .slice am nm cm], .int .i64 5])) w') := fun w' hb => RAddP.keep h z1 z2 hE (by decide) hb
  have hq := fun w => refRight_any 0 B C ac am nc cc nm cm w
  rw [h.right, hr] at hq
  have bA := VarH.new w 0 B C (.slice ac nc cc) (.slice am nm cm) 45
  obtain ⟨W1, hW1⟩ : ∃ W1, w.alloc (.cells #[.int .i64 0, .int .i64 B, .int .i64 C, .slice ac nc cc, .slice am nm cm] 45) = W1 := ⟨_, rfl⟩
  rw [hW1] at bA
  have s1 : W1.heap.size = w.heap.size + 1 := by rw [← hW1]; simp
  have bR := VarH.new W1 0 0 0 (.slice none 0 0) (.slice none 0 0) 45
  obtain ⟨W2, hW2⟩ : ∃ W2, W1.alloc (.cells #[.int .i64 0, .int .i64 0, .int .i64 0, .slice none 0 0, .slice none 0 0] 45) = W2 := ⟨_, rfl⟩
  rw [hW2, s1] at bR
  have k1 : Below w.heap.size w W1 := hW1 ▸ alloc_below w _
  have k2 : Below W1.heap.size W1 W2 := hW2 ▸ alloc_below W1 _
  have HB : Hid (Below w.heap.size w W2) := k1.trans (k2.mono k1.size)
  replace bA := Lib.hid (bA.below k2 bA.lt)
  replace bR := Lib.hid bR
  clear k1 k2 hE h z1 z2 hr
  go_enter Try.func24, Try.ntmps24
  go_upto_region 1 with fail
  clear hW1 hW2 s1
  obtain ⟨a0, a1, a2, a3, a4⟩ := bA.out.five
  go_wp2_with fail
  refine (hq _).mono ?_
  rintro e W3 ⟨rfl, c3⟩
  clear a0 a1 a2 a3 a4 hq
  replace bA := Lib.hid (bA.out.below c3 bA.out.lt)
  replace bR := Lib.hid (bR.out.below c3 bR.out.lt)
  replace HB := Lib.hid (HB.out.trans (c3.mono HB.out.size))
  clear c3
  obtain ⟨a0, a1, a2, a3, a4⟩ := bA.out.five
  obtain ⟨r0, r1, r2, r3, r4⟩ := bR.out.five
  obtain ⟨y0, y1, y2, y3, y4⟩ := bR.out.soft
  go_wp2_with fail
  obtain ⟨d0, d1, d2, d3, d4⟩ := (bR.out.set 0 B C (.slice ac nc cc) (.slice am nm cm)).five
  have HBW := set5_below (g := w.heap.size + 1) (x0 := .int .i64 0) (x1 := .int .i64 B) (x2 := .int .i64 C) (x3 := .slice ac nc cc) (x4 := .slice am nm cm) HB.out (by omega)
  change bodyPost _ _ _ _ _ (set5 W3 (w.heap.size + 1) (.int .i64 0) (.int .i64 B) (.int .i64 C) (.slice ac nc cc) (.slice am nm cm))
  generalize set5 W3 (w.heap.size + 1) (.int .i64 0) (.int .i64 B) (.int .i64 C) (.slice ac nc cc) (.slice am nm cm) = WX at *
  simp [bodyPost, results, Try.results24, go_sem, d0, d1, d2, d3, d4]
  exact HP.out _ HBW

set_option maxRecDepth 20000 in
set_option maxHeartbeats 1000000 in
theorem radd_past (B C : Int) (lc lm : List Int) (ac am : Option Addr) (nc cc nm cm : Nat) (b t v : Int) (w : World) (h : Reads ⟨0, B, C, lc, lm⟩ ac nc am nm w) (z1 : ac = none → cc = 0) (z2 : am = none → cm = 0) (hr : rightD ⟨0, B, C, lc, lm⟩ = true) (h0 : ¬ b < 0) (hb : b < B) (h1 : ¬ t < 0) (h2 : ¬ 255 < t) (h3 : C ≤ t) :
    Calls Try.prog 24 #[.agg #[.int .i64 0, .int .i64 B, .int .i64 C, .slice ac nc cc, .slice am nm cm], .int .i64 b, .int .i64 t, .int .i64 v] w fun e w' => RAddP ⟨0, B, C, lc, lm⟩ b t v ac am w e w' := by
  have hE : addE ⟨0, B, C, lc, lm⟩ b t v = 5 := by
    unfold addE
    rw [hr, if_neg (by decide)]
    rw [if_neg (by show ¬ (b < 0 ∨ B ≤ b); omega)]
    exact if_pos ⟨rfl, .inr h3⟩
  have HP : Hid (∀ w', Below w.heap.size w w' → RAddP ⟨0, B, C, lc, lm⟩ b t v ac am w (.returned (.tuple #[.agg #[.int .i64 0, .int .i64 B, .int .i64 C, .slice ac nc cc, .slice am nm cm], .int .i64 5])) w') := fun w' hb => RAddP.keep h z1 z2 hE (by decide) hb
  have hq := fun w => refRight_any 0 B C ac am nc cc nm cm w
  rw [h.right, hr] at hq
  have bA := VarH.new w 0 B C (.slice ac nc cc) (.slice am nm cm) 45
  obtain ⟨W1, hW1⟩ : ∃ W1, w.alloc (.cells #[.int .i64 0, .int .i64 B, .int .i64 C, .slice ac nc cc, .slice am nm cm] 45) = W1 := ⟨_, rfl⟩
  rw [hW1] at bA
  have s1 : W1.heap.size = w.heap.size + 1 := by rw [← hW1]; simp
  have bR := VarH.new W1 0 0 0 (.slice none 0 0) (.slice none 0 0) 45
  obtain ⟨W2, hW2⟩ : ∃ W2, W1.alloc (.cells #[.int .i64 0, .int .i64 0, .int .i64 0, .slice none 0 0, .slice none 0 0] 45) = W2 := ⟨_, rfl⟩
  rw [hW2, s1] at bR
  have k1 : Below w.heap.size w W1 := hW1 ▸ alloc_below w _
  have k2 : Below W1.heap.size W1 W2 := hW2 ▸ alloc_below W1 _
  have HB : Hid (Below w.heap.size w W2) := k1.trans (k2.mono k1.size)
  replace bA := Lib.hid (bA.below k2 bA.lt)
  replace bR := Lib.hid bR
  clear k1 k2 hE h z1 z2 hr
  go_enter Try.func24, Try.ntmps24
  go_upto_region 1 with fail
  clear hW1 hW2 s1
  obtain ⟨a0, a1, a2, a3, a4⟩ := bA.out.five
  go_wp2_with fail
  refine (hq _).mono ?_
  rintro e W3 ⟨rfl, c3⟩
  clear a0 a1 a2 a3 a4 hq
  replace bA := Lib.hid (bA.out.below c3 bA.out.lt)
  replace bR := Lib.hid (bR.out.below c3 bR.out.lt)
  replace HB := Lib.hid (HB.out.trans (c3.mono HB.out.size))
  clear c3
  obtain ⟨a0, a1, a2, a3, a4⟩ := bA.out.five
  obtain ⟨r0, r1, r2, r3, r4⟩ := bR.out.five
  obtain ⟨y0, y1, y2, y3, y4⟩ := bR.out.soft
  go_wp2_with fail
  obtain ⟨d0, d1, d2, d3, d4⟩ := (bR.out.set 0 B C (.slice ac nc cc) (.slice am nm cm)).five
  have HBW := set5_below (g := w.heap.size + 1) (x0 := .int .i64 0) (x1 := .int .i64 B) (x2 := .int .i64 C) (x3 := .slice ac nc cc) (x4 := .slice am nm cm) HB.out (by omega)
  change bodyPost _ _ _ _ _ (set5 W3 (w.heap.size + 1) (.int .i64 0) (.int .i64 B) (.int .i64 C) (.slice ac nc cc) (.slice am nm cm))
  generalize set5 W3 (w.heap.size + 1) (.int .i64 0) (.int .i64 B) (.int .i64 C) (.slice ac nc cc) (.slice am nm cm) = WX at *
  simp [bodyPost, results, Try.results24, go_sem, d0, d1, d2, d3, d4]
  exact HP.out _ HBW

set_option maxRecDepth 20000 in
set_option maxHeartbeats 1000000 in
theorem radd_less (B C : Int) (lc lm : List Int) (ac am : Option Addr) (nc cc nm cm : Nat) (b t v : Int) (w : World) (h : Reads ⟨0, B, C, lc, lm⟩ ac nc am nm w) (z1 : ac = none → cc = 0) (z2 : am = none → cm = 0) (hr : rightD ⟨0, B, C, lc, lm⟩ = true) (h0 : ¬ b < 0) (hb : b < B) (h1 : ¬ t < 0) (h2 : ¬ 255 < t) (h3 : t < C) (hv : v < 0) :
    Calls Try.prog 24 #[.agg #[.int .i64 0, .int .i64 B, .int .i64 C, .slice ac nc cc, .slice am nm cm], .int .i64 b, .int .i64 t, .int .i64 v] w fun e w' => RAddP ⟨0, B, C, lc, lm⟩ b t v ac am w e w' := by
  have hE : addE ⟨0, B, C, lc, lm⟩ b t v = 1 := by
    unfold addE
    rw [hr, if_neg (by decide)]
    rw [if_neg (by show ¬ (b < 0 ∨ B ≤ b); omega)]
    rw [if_neg (by show ¬ ((0 : Int) = 0 ∧ (t < 0 ∨ C ≤ t)); omega)]
    exact if_pos hv
  have HP : Hid (∀ w', Below w.heap.size w w' → RAddP ⟨0, B, C, lc, lm⟩ b t v ac am w (.returned (.tuple #[.agg #[.int .i64 0, .int .i64 B, .int .i64 C, .slice ac nc cc, .slice am nm cm], .int .i64 1])) w') := fun w' hb => RAddP.keep h z1 z2 hE (by decide) hb
  have hq := fun w => refRight_any 0 B C ac am nc cc nm cm w
  rw [h.right, hr] at hq
  have bA := VarH.new w 0 B C (.slice ac nc cc) (.slice am nm cm) 45
  obtain ⟨W1, hW1⟩ : ∃ W1, w.alloc (.cells #[.int .i64 0, .int .i64 B, .int .i64 C, .slice ac nc cc, .slice am nm cm] 45) = W1 := ⟨_, rfl⟩
  rw [hW1] at bA
  have s1 : W1.heap.size = w.heap.size + 1 := by rw [← hW1]; simp
  have bR := VarH.new W1 0 0 0 (.slice none 0 0) (.slice none 0 0) 45
  obtain ⟨W2, hW2⟩ : ∃ W2, W1.alloc (.cells #[.int .i64 0, .int .i64 0, .int .i64 0, .slice none 0 0, .slice none 0 0] 45) = W2 := ⟨_, rfl⟩
  rw [hW2, s1] at bR
  have k1 : Below w.heap.size w W1 := hW1 ▸ alloc_below w _
  have k2 : Below W1.heap.size W1 W2 := hW2 ▸ alloc_below W1 _
  have HB : Hid (Below w.heap.size w W2) := k1.trans (k2.mono k1.size)
  replace bA := Lib.hid (bA.below k2 bA.lt)
  replace bR := Lib.hid bR
  clear k1 k2 hE h z1 z2 hr
  go_enter Try.func24, Try.ntmps24
  go_upto_region 1 with fail
  clear hW1 hW2 s1
  obtain ⟨a0, a1, a2, a3, a4⟩ := bA.out.five
  go_wp2_with fail
  refine (hq _).mono ?_
  rintro e W3 ⟨rfl, c3⟩
  clear a0 a1 a2 a3 a4 hq
  replace bA := Lib.hid (bA.out.below c3 bA.out.lt)
  replace bR := Lib.hid (bR.out.below c3 bR.out.lt)
  replace HB := Lib.hid (HB.out.trans (c3.mono HB.out.size))
  clear c3
  obtain ⟨a0, a1, a2, a3, a4⟩ := bA.out.five
  obtain ⟨r0, r1, r2, r3, r4⟩ := bR.out.five
  obtain ⟨y0, y1, y2, y3, y4⟩ := bR.out.soft
  go_wp2_with fail
  obtain ⟨d0, d1, d2, d3, d4⟩ := (bR.out.set 0 B C (.slice ac nc cc) (.slice am nm cm)).five
  have HBW := set5_below (g := w.heap.size + 1) (x0 := .int .i64 0) (x1 := .int .i64 B) (x2 := .int .i64 C) (x3 := .slice ac nc cc) (x4 := .slice am nm cm) HB.out (by omega)
  change bodyPost _ _ _ _ _ (set5 W3 (w.heap.size + 1) (.int .i64 0) (.int .i64 B) (.int .i64 C) (.slice ac nc cc) (.slice am nm cm))
  generalize set5 W3 (w.heap.size + 1) (.int .i64 0) (.int .i64 B) (.int .i64 C) (.slice ac nc cc) (.slice am nm cm) = WX at *
  simp [bodyPost, results, Try.results24, go_sem, d0, d1, d2, d3, d4]
  exact HP.out _ HBW

set_option maxRecDepth 20000 in
set_option maxHeartbeats 1000000 in
theorem radd_minus (B C : Int) (lc lm : List Int) (ac am : Option Addr) (nc cc nm cm : Nat) (b t v : Int) (w : World) (h : Reads ⟨1, B, C, lc, lm⟩ ac nc am nm w) (z1 : ac = none → cc = 0) (z2 : am = none → cm = 0) (hr : rightD ⟨1, B, C, lc, lm⟩ = true) (h0 : ¬ b < 0) (hb : b < B) (hv : v < 0) :
    Calls Try.prog 24 #[.agg #[.int .i64 1, .int .i64 B, .int .i64 C, .slice ac nc cc, .slice am nm cm], .int .i64 b, .int .i64 t, .int .i64 v] w fun e w' => RAddP ⟨1, B, C, lc, lm⟩ b t v ac am w e w' := by
  have hE : addE ⟨1, B, C, lc, lm⟩ b t v = 1 := by
    unfold addE
    rw [hr, if_neg (by decide)]
    rw [if_neg (by show ¬ (b < 0 ∨ B ≤ b); omega)]
    rw [if_neg (by show ¬ ((1 : Int) = 0 ∧ (t < 0 ∨ C ≤ t)); omega)]
    exact if_pos hv
  have HP : Hid (∀ w', Below w.heap.size w w' → RAddP ⟨1, B, C, lc, lm⟩ b t v ac am w (.returned (.tuple #[.agg #[.int .i64 1, .int .i64 B, .int .i64 C, .slice ac nc cc, .slice am nm cm], .int .i64 1])) w') := fun w' hb => RAddP.keep h z1 z2 hE (by decide) hb
  have hq := fun w => refRight_any 1 B C ac am nc cc nm cm w
  rw [h.right, hr] at hq
  have bA := VarH.new w 1 B C (.slice ac nc cc) (.slice am nm cm) 45
  obtain ⟨W1, hW1⟩ : ∃ W1, w.alloc (.cells #[.int .i64 1, .int .i64 B, .int .i64 C, .slice ac nc cc, .slice am nm cm] 45) = W1 := ⟨_, rfl⟩
  rw [hW1] at bA
  have s1 : W1.heap.size = w.heap.size + 1 := by rw [← hW1]; simp
  have bR := VarH.new W1 0 0 0 (.slice none 0 0) (.slice none 0 0) 45
  obtain ⟨W2, hW2⟩ : ∃ W2, W1.alloc (.cells #[.int .i64 0, .int .i64 0, .int .i64 0, .slice none 0 0, .slice none 0 0] 45) = W2 := ⟨_, rfl⟩
  rw [hW2, s1] at bR
  have k1 : Below w.heap.size w W1 := hW1 ▸ alloc_below w _
  have k2 : Below W1.heap.size W1 W2 := hW2 ▸ alloc_below W1 _
  have HB : Hid (Below w.heap.size w W2) := k1.trans (k2.mono k1.size)
  replace bA := Lib.hid (bA.below k2 bA.lt)
  replace bR := Lib.hid bR
  clear k1 k2 hE h z1 z2 hr
  go_enter Try.func24, Try.ntmps24
  go_upto_region 1 with fail
  clear hW1 hW2 s1
  obtain ⟨a0, a1, a2, a3, a4⟩ := bA.out.five
  go_wp2_with fail
  refine (hq _).mono ?_
  rintro e W3 ⟨rfl, c3⟩
  clear a0 a1 a2 a3 a4 hq
  replace bA := Lib.hid (bA.out.below c3 bA.out.lt)
  replace bR := Lib.hid (bR.out.below c3 bR.out.lt)
  replace HB := Lib.hid (HB.out.trans (c3.mono HB.out.size))
  clear c3
  obtain ⟨a0, a1, a2, a3, a4⟩ := bA.out.five
  obtain ⟨r0, r1, r2, r3, r4⟩ := bR.out.five
  obtain ⟨y0, y1, y2, y3, y4⟩ := bR.out.soft
  go_wp2_with fail
  obtain ⟨d0, d1, d2, d3, d4⟩ := (bR.out.set 1 B C (.slice ac nc cc) (.slice am nm cm)).five
  have HBW := set5_below (g := w.heap.size + 1) (x0 := .int .i64 1) (x1 := .int .i64 B) (x2 := .int .i64 C) (x3 := .slice ac nc cc) (x4 := .slice am nm cm) HB.out (by omega)
  change bodyPost _ _ _ _ _ (set5 W3 (w.heap.size + 1) (.int .i64 1) (.int .i64 B) (.int .i64 C) (.slice ac nc cc) (.slice am nm cm))
  generalize set5 W3 (w.heap.size + 1) (.int .i64 1) (.int .i64 B) (.int .i64 C) (.slice ac nc cc) (.slice am nm cm) = WX at *
  simp [bodyPost, results, Try.results24, go_sem, d0, d1, d2, d3, d4]
  exact HP.out _ HBW
end Go.Proofs.Ytebdlmjpgohngaa
