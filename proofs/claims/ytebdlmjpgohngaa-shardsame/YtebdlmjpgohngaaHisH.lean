/-
  HISTOGRAMS: hist.Merge and hist.Less, whole. Conditions: each number is of 64 bits with a sign; no more than 2^20 of them.
-/
import Derived.Test.YtebdlmjpgohngaaHisG
namespace Go.Proofs.Ytebdlmjpgohngaa
open Go.RowKit

set_option maxHeartbeats 1000000 in
theorem merge_any (a a' : HD) (ac am ac' am' : Option Addr) (nc cc nm cm nc' cc' nm' cm' : Nat) (w : World) (h : Reads a ac nc am nm w) (h' : Reads a' ac' nc' am' nm' w) :
    Calls Try.prog 44 #[.agg #[.int .i64 a.k, .int .i64 a.b, .int .i64 a.c, .slice ac nc cc, .slice am nm cm], .agg #[.int .i64 a'.k, .int .i64 a'.b, .int .i64 a'.c, .slice ac' nc' cc', .slice am' nm' cm']] w fun e w' =>
      Made (bothD plusW a a') (bothE plusW a a') w e w' := by
  obtain ⟨D, HD⟩ : ∃ D, Hid (bothD plusW a a' = D) := ⟨_, rfl⟩
  obtain ⟨E, HE⟩ : ∃ E, Hid (bothE plusW a a' = E) := ⟨_, rfl⟩
  have rB := fun w1 (b : Below w.heap.size w w1) => both_any 54 61 plusW way_plus way_mplus plusW_fine a a' ac am ac' am' nc cc nm cm nc' cc' nm' cm' w1 (h.below b) (h'.below b)
  rw [HD.out, HE.out] at rB ⊢
  have bA := VarH.new w a.k a.b a.c (.slice ac nc cc) (.slice am nm cm) 45
  obtain ⟨W1, hW1⟩ : ∃ W1, w.alloc (.cells #[.int .i64 a.k, .int .i64 a.b, .int .i64 a.c, .slice ac nc cc, .slice am nm cm] 45) = W1 := ⟨_, rfl⟩
  rw [hW1] at bA
  have s1 : W1.heap.size = w.heap.size + 1 := by rw [← hW1]; simp
  have bB := VarH.new W1 a'.k a'.b a'.c (.slice ac' nc' cc') (.slice am' nm' cm') 45
  obtain ⟨W2, hW2⟩ : ∃ W2, W1.alloc (.cells #[.int .i64 a'.k, .int .i64 a'.b, .int .i64 a'.c, .slice ac' nc' cc', .slice am' nm' cm'] 45) = W2 := ⟨_, rfl⟩
  rw [hW2, s1] at bB
  have s2 : W2.heap.size = w.heap.size + 1 + 1 := by rw [← hW2]; simp [s1]
  have bR := VarH.new W2 0 0 0 (.slice none 0 0) (.slice none 0 0) 45
  obtain ⟨W3, hW3⟩ : ∃ W3, W2.alloc (.cells #[.int .i64 0, .int .i64 0, .int .i64 0, .slice none 0 0, .slice none 0 0] 45) = W3 := ⟨_, rfl⟩
  rw [hW3, s2] at bR
  have s3 : W3.heap.size = w.heap.size + 1 + 1 + 1 := by rw [← hW3]; simp [s2]
  replace bB := bB.below (hW3 ▸ alloc_below W2 _) (by omega)
  replace bA := (bA.below (hW2 ▸ alloc_below W1 _) (by omega)).below (hW3 ▸ alloc_below W2 _) (by omega)
  have hB0 : Below w.heap.size w W3 := by
    have := alloc3_below w (.cells #[.int .i64 a.k, .int .i64 a.b, .int .i64 a.c, .slice ac nc cc, .slice am nm cm] 45) (.cells #[.int .i64 a'.k, .int .i64 a'.b, .int .i64 a'.c, .slice ac' nc' cc', .slice am' nm' cm'] 45) (.cells #[.int .i64 0, .int .i64 0, .int .i64 0, .slice none 0 0, .slice none 0 0] 45)
    rw [hW1, hW2, hW3] at this
    exact this
  go_enter Try.func44, Try.ntmps44
  go_upto_region 1 with fail
  clear hW1 hW2 hW3 s1 s2
  obtain ⟨a0, a1, a2, a3, a4⟩ := bA.five
  obtain ⟨b0, b1, b2, b3, b4⟩ := bB.five
  have r4 := rB W3 hB0
  have HB0 := Lib.hid hB0
  have HS3 := Lib.hid s3
  clear s3 rB hB0
  go_wp2_with fail
  refine r4.mono ?_
  rintro e W4 ⟨v, rfl, ⟨xc, mc, dc, xm, mm, dm, rfl, hR, hP⟩, c4⟩
  replace bR := bR.below c4 bR.lt
  have hB0 := HB0.out.trans (c4.mono HB0.out.size)
  obtain ⟨r0, r1, r2, r3, r4⟩ := bR.five
  obtain ⟨y0, y1, y2, y3, y4⟩ := bR.soft
  have HR := Lib.hid (fun W' (b : But (w.heap.size + 1 + 1) W4 W') => hR.but hP b (by have := HS3.out; omega))
  have HP : Hid (Past w.heap.size xc xm) := ⟨fun ad e => by have := hP.1 ad e; have := HS3.out; omega, fun ad e => by have := hP.2 ad e; have := HS3.out; omega⟩
  clear a0 a1 a2 a3 a4 b0 b1 b2 b3 b4 bA bB c4 hR hP
  obtain ⟨dk, db, dcc, dlc, dlm⟩ := D
  simp only at *
  go_wp2_with fail
  obtain ⟨d0, d1, d2, d3, d4⟩ := (bR.set dk db dcc (.slice xc mc dc) (.slice xm mm dm)).five
  have HBW := set5_below (g := w.heap.size + 1 + 1) (x0 := .int .i64 dk) (x1 := .int .i64 db) (x2 := .int .i64 dcc) (x3 := .slice xc mc dc) (x4 := .slice xm mm dm) hB0 (by omega)
  have HBT := set5_but W4 (w.heap.size + 1 + 1) (.int .i64 dk) (.int .i64 db) (.int .i64 dcc) (.slice xc mc dc) (.slice xm mm dm)
  change bodyPost _ _ _ _ _ (set5 W4 (w.heap.size + 1 + 1) (.int .i64 dk) (.int .i64 db) (.int .i64 dcc) (.slice xc mc dc) (.slice xm mm dm))
  generalize set5 W4 (w.heap.size + 1 + 1) (.int .i64 dk) (.int .i64 db) (.int .i64 dcc) (.slice xc mc dc) (.slice xm mm dm) = WX at *
  simp [bodyPost, results, Try.results44, go_sem, d0, d1, d2, d3, d4]
  exact ⟨_, rfl, ⟨_, _, _, _, _, _, rfl, HR.out _ HBT, HP.out⟩, HBW⟩

end Go.Proofs.Ytebdlmjpgohngaa
