/-
  THE DOCUMENT'S OWN SUM AND ORDER of wide numbers. Condition: each number is of 64 bits.
-/
import Derived.Test.YtiagkkehemdkpaaRefWide
namespace Go.Proofs.Ytiagkkehemdkpaa
open Go.RowKit

/-- Two wide numbers that came in, each in a variable of its own. -/
theorem boxes2 (w : World) (ah al bh bl : Int) (W : World) (hW : (w.alloc (.cells #[.int .u64 ah, .int .u64 al] 24)).alloc (.cells #[.int .u64 bh, .int .u64 bl] 24) = W) :
    At2 w.heap.size ah al W ∧ At2 (w.heap.size + 1) bh bl W ∧ Below w.heap.size w W := by
  subst hW
  refine ⟨(At2.new w ah al).alloc _, ?_, more (alloc_below w _) _⟩
  have := At2.new (w.alloc (.cells #[.int .u64 ah, .int .u64 al] 24)) bh bl
  rw [show (w.alloc (.cells #[.int .u64 ah, .int .u64 al] 24)).heap.size = w.heap.size + 1 by simp] at this
  exact this

set_option maxHeartbeats 1000000 in
theorem refCmp_any (ah al bh bl : Int) (h1 : Word ah) (h2 : Word al) (h3 : Word bh) (h4 : Word bl) (w : World) :
    Calls Try.prog 15 #[.agg #[.int .u64 ah, .int .u64 al], .agg #[.int .u64 bh, .int .u64 bl]] w fun e w' =>
      e = .returned (.int .i64 (cmpI (ah * 18446744073709551616 + al) (bh * 18446744073709551616 + bl))) ∧ Below w.heap.size w w' := by
  obtain ⟨xA, xB, b0⟩ := boxes2 w ah al bh bl _ rfl
  go_enter Try.func15, Try.ntmps15
  go_wp2_with fail
  generalize (w.alloc (.cells #[.int .u64 ah, .int .u64 al] 24)).alloc (.cells #[.int .u64 bh, .int .u64 bl] 24) = W at *
  have MARK : Hid True := trivial
  have xA' : At2 w.heap.size ah al W.drew := ⟨xA.lt, xA.c0, xA.c1⟩
  have xB' : At2 (w.heap.size + 1) bh bl W.drew := ⟨xB.lt, xB.c0, xB.c1⟩
  have s0 : (W.cell? ⟨w.heap.size, 0, none⟩ = some (.int .u64 ah) ∧ W.cell? ⟨w.heap.size, 1, none⟩ = some (.int .u64 al)) ∧ (W.cell? ⟨w.heap.size + 1, 0, none⟩ = some (.int .u64 bh) ∧ W.cell? ⟨w.heap.size + 1, 1, none⟩ = some (.int .u64 bl)) := ⟨⟨xA.c0, xA.c1⟩, xB.c0, xB.c1⟩
  have b0' : Below w.heap.size w W.drew := b0.drew
  go_region_held3 (fun w' => (w'.cell? ⟨w.heap.size, 0, none⟩ = some (.int .u64 ah) ∧ w'.cell? ⟨w.heap.size, 1, none⟩ = some (.int .u64 al)) ∧ (w'.cell? ⟨w.heap.size + 1, 0, none⟩ = some (.int .u64 bh) ∧ w'.cell? ⟨w.heap.size + 1, 1, none⟩ = some (.int .u64 bl))) (first | exact s0 | exact sA | exact sB | exact sS)
    (first
      | (go_at_call 31; clear MARK; refine (ofWide_any _ _ h1 h2 _).mono ?_; rintro e wA ⟨⟨gA, capA, lA, rfl, hcA, hgA, hlA, dA, vA, nA⟩, cA⟩
         have yA := xA'.below cA
         have yB := xB'.below cA
         have bA := onto b0' cA
         have sA : (wA.cell? ⟨w.heap.size, 0, none⟩ = some (.int .u64 ah) ∧ wA.cell? ⟨w.heap.size, 1, none⟩ = some (.int .u64 al)) ∧ (wA.cell? ⟨w.heap.size + 1, 0, none⟩ = some (.int .u64 bh) ∧ wA.cell? ⟨w.heap.size + 1, 1, none⟩ = some (.int .u64 bl)) := ⟨⟨yA.c0, yA.c1⟩, yB.c0, yB.c1⟩)
      | (go_at_call 31; refine (ofWide_any _ _ h3 h4 _).mono ?_; rintro e wB ⟨⟨gB, capB, lB, rfl, hcB, hgB, hlB, dB, vB, nB⟩, cB⟩
         have zA := yA.below cB
         have zB := yB.below cB
         have nA2 := nA.below cB
         have bB := onto bA cB
         have sB : (wB.cell? ⟨w.heap.size, 0, none⟩ = some (.int .u64 ah) ∧ wB.cell? ⟨w.heap.size, 1, none⟩ = some (.int .u64 al)) ∧ (wB.cell? ⟨w.heap.size + 1, 0, none⟩ = some (.int .u64 bh) ∧ wB.cell? ⟨w.heap.size + 1, 1, none⟩ = some (.int .u64 bl)) := ⟨⟨zA.c0, zA.c1⟩, zB.c0, zB.c1⟩)
      | (go_at_call 37; refine (compare_rows gA gB 8 capA capB lA lB hlA hlB (by decide) dA dB _ nA2 nB).mono ?_; rintro e wS ⟨rfl, cS⟩
         have tA := zA.below cS
         have tB := zB.below cS
         have bS := onto bB cS
         have sS : (wS.cell? ⟨w.heap.size, 0, none⟩ = some (.int .u64 ah) ∧ wS.cell? ⟨w.heap.size, 1, none⟩ = some (.int .u64 al)) ∧ (wS.cell? ⟨w.heap.size + 1, 0, none⟩ = some (.int .u64 bh) ∧ wS.cell? ⟨w.heap.size + 1, 1, none⟩ = some (.int .u64 bl)) := ⟨⟨tA.c0, tA.c1⟩, tB.c0, tB.c1⟩))
  go_wp2_with fail
  go_ret
  exact ⟨rfl, bS⟩

/-- The sum of two wide numbers, out of its nine digits. -/
theorem ninths {l : List Int} {t : Int} (hn : l.length = 9) (hd : Dig l) (hv : val l = t) :
    (0 < l.getD 8 0 → sHi t = 0 ∧ sLo t = 0 ∧ sErr t = 6) ∧ (¬ 0 < l.getD 8 0 → sHi t = num4 l 4 ∧ sLo t = num4 l 0 ∧ sErr t = 0) := by
  have h0 := num4_word (j := 0) hd (by omega)
  have h1 := num4_word (j := 4) hd (by omega)
  have h2 := hd 8 (by omega)
  have h3 := val_nine hn
  unfold Word at h0 h1
  generalize num4 l 0 = x at *
  generalize num4 l 4 = y at *
  generalize l.getD 8 0 = z at *
  unfold sHi sLo sErr
  refine ⟨fun h => ?_, fun h => ?_⟩
  · rw [if_neg (by omega), if_neg (by omega), if_neg (by omega)]; exact ⟨rfl, rfl, rfl⟩
  · rw [if_pos (by omega), if_pos (by omega), if_pos (by omega)]
    refine ⟨by omega, by omega, rfl⟩

set_option maxHeartbeats 1000000 in
theorem refAdd_any (ah al bh bl : Int) (h1 : Word ah) (h2 : Word al) (h3 : Word bh) (h4 : Word bl) (w : World) :
    Calls Try.prog 9 #[.agg #[.int .u64 ah, .int .u64 al], .agg #[.int .u64 bh, .int .u64 bl]] w fun e w' =>
      e = .returned (.tuple #[.agg #[.int .u64 (sHi (ah * 18446744073709551616 + al + (bh * 18446744073709551616 + bl))), .int .u64 (sLo (ah * 18446744073709551616 + al + (bh * 18446744073709551616 + bl)))], .int .i64 (sErr (ah * 18446744073709551616 + al + (bh * 18446744073709551616 + bl)))]) ∧ Below w.heap.size w w' := by
  obtain ⟨T, HT⟩ : ∃ T, Hid (ah * 18446744073709551616 + al + (bh * 18446744073709551616 + bl) = T) := ⟨_, rfl⟩
  rw [HT.out]
  obtain ⟨xA0, xB0, b00⟩ := boxes2 w ah al bh bl _ rfl
  have xA := xA0.alloc (.cells #[.int .u64 0, .int .u64 0] 24)
  have xB := xB0.alloc (.cells #[.int .u64 0, .int .u64 0] 24)
  have b0 := more b00 (.cells #[.int .u64 0, .int .u64 0] 24)
  have r0 := Nums.madeT ((w.alloc (.cells #[.int .u64 ah, .int .u64 al] 24)).alloc (.cells #[.int .u64 bh, .int .u64 bl] 24)) [0, 0] 24
  rw [show ((w.alloc (.cells #[.int .u64 ah, .int .u64 al] 24)).alloc (.cells #[.int .u64 bh, .int .u64 bl] 24)).heap.size = w.heap.size + 1 + 1 by simp, show (([0, 0] : List Int).map (Value.int .u64)).toArray = #[.int .u64 0, .int .u64 0] from rfl] at r0
  clear xA0 xB0 b00
  go_enter Try.func9, Try.ntmps9
  go_wp2_with fail
  generalize ((w.alloc (.cells #[.int .u64 ah, .int .u64 al] 24)).alloc (.cells #[.int .u64 bh, .int .u64 bl] 24)).alloc (.cells #[.int .u64 0, .int .u64 0] 24) = W at *
  have MARK : Hid True := trivial
  have r0' := r0.drew
  have xA' : At2 w.heap.size ah al W.drew := ⟨xA.lt, xA.c0, xA.c1⟩
  have xB' : At2 (w.heap.size + 1) bh bl W.drew := ⟨xB.lt, xB.c0, xB.c1⟩
  have s0 : (W.cell? ⟨w.heap.size, 0, none⟩ = some (.int .u64 ah) ∧ W.cell? ⟨w.heap.size, 1, none⟩ = some (.int .u64 al)) ∧ (W.cell? ⟨w.heap.size + 1, 0, none⟩ = some (.int .u64 bh) ∧ W.cell? ⟨w.heap.size + 1, 1, none⟩ = some (.int .u64 bl)) := ⟨⟨xA.c0, xA.c1⟩, xB.c0, xB.c1⟩
  have b0' : Below w.heap.size w W.drew := b0.drew
  go_region_held3 (fun w' => (w'.cell? ⟨w.heap.size, 0, none⟩ = some (.int .u64 ah) ∧ w'.cell? ⟨w.heap.size, 1, none⟩ = some (.int .u64 al)) ∧ (w'.cell? ⟨w.heap.size + 1, 0, none⟩ = some (.int .u64 bh) ∧ w'.cell? ⟨w.heap.size + 1, 1, none⟩ = some (.int .u64 bl))) (first | exact s0 | exact sA | exact sB | exact sS)
    (first
      | (go_at_call 31; clear MARK; refine (ofWide_any _ _ h1 h2 _).mono ?_; rintro e wA ⟨⟨gA, capA, lA, rfl, hcA, hgA, hlA, dA, vA, nA⟩, cA⟩
         have yA := xA'.below cA
         have yB := xB'.below cA
         have bA := onto b0' cA
         have rA := r0'.below cA
         have sA : (wA.cell? ⟨w.heap.size, 0, none⟩ = some (.int .u64 ah) ∧ wA.cell? ⟨w.heap.size, 1, none⟩ = some (.int .u64 al)) ∧ (wA.cell? ⟨w.heap.size + 1, 0, none⟩ = some (.int .u64 bh) ∧ wA.cell? ⟨w.heap.size + 1, 1, none⟩ = some (.int .u64 bl)) := ⟨⟨yA.c0, yA.c1⟩, yB.c0, yB.c1⟩)
      | (go_at_call 31; refine (ofWide_any _ _ h3 h4 _).mono ?_; rintro e wB ⟨⟨gB, capB, lB, rfl, hcB, hgB, hlB, dB, vB, nB⟩, cB⟩
         have zA := yA.below cB
         have zB := yB.below cB
         have nA2 := nA.below cB
         have bB := onto bA cB
         have rB := rA.below cB
         have sB : (wB.cell? ⟨w.heap.size, 0, none⟩ = some (.int .u64 ah) ∧ wB.cell? ⟨w.heap.size, 1, none⟩ = some (.int .u64 al)) ∧ (wB.cell? ⟨w.heap.size + 1, 0, none⟩ = some (.int .u64 bh) ∧ wB.cell? ⟨w.heap.size + 1, 1, none⟩ = some (.int .u64 bl)) := ⟨⟨zA.c0, zA.c1⟩, zB.c0, zB.c1⟩)
      | (go_at_call 30; refine (sum_any gA gB 8 capA capB lA lB hlA hlB (by decide) dA dB _ nA2 nB).mono ?_; rintro e wS ⟨⟨g, cap, L, rfl, hcap, hg, hlen, hdig, hval, hN⟩, cS⟩
         have tA := zA.below cS
         have tB := zB.below cS
         have bS := onto bB cS
         have rS := rB.below cS
         have sS : (wS.cell? ⟨w.heap.size, 0, none⟩ = some (.int .u64 ah) ∧ wS.cell? ⟨w.heap.size, 1, none⟩ = some (.int .u64 al)) ∧ (wS.cell? ⟨w.heap.size + 1, 0, none⟩ = some (.int .u64 bh) ∧ wS.cell? ⟨w.heap.size + 1, 1, none⟩ = some (.int .u64 bl)) := ⟨⟨tA.c0, tA.c1⟩, tB.c0, tB.c1⟩))
  rw [vA, vB, HT.out] at hval
  obtain ⟨hov, hin⟩ := ninths hlen hdig hval
  have k0 := rS.cell 0 (by decide)
  have k1 := rS.cell 1 (by decide)
  have f0 := rS.frozen 0 (by decide)
  have f1 := rS.frozen 1 (by decide)
  have c8 := hN.cell 8 (by rw [hlen]; decide)
  have h9 : (9 : Int) ≤ (cap : Int) := by omega
  have h8 : (8 : Int) ≤ (cap : Int) := by omega
  have h4 : (4 : Int) ≤ (cap : Int) := by omega
  have hc4 : ¬ cap = 4 := by omega
  obtain ⟨z, HZ⟩ : ∃ z, Hid (L.getD 8 0 = z) := ⟨_, rfl⟩
  rw [HZ.out] at c8 hov hin
  have HB := Lib.hid bS
  clear xA xB b0 r0 r0' xA' xB' s0 b0' yA yB bA rA sA zA zB nA nB nA2 bB rB sB tA tB bS rS sS cA cB cS vA vB dA dB hval
  by_cases hz : 0 < z
  · obtain ⟨e1, e2, e3⟩ := hov hz
    have E1 := Lib.hid e1
    have E2 := Lib.hid e2
    have E3 := Lib.hid e3
    clear hov hin e1 e2 e3
    go_wp2_with fail
    simp [bodyPost, results, Try.results9, go_sem, k0, k1]
    exact ⟨⟨⟨E1.out.symm, E2.out.symm⟩, E3.out.symm⟩, (HB.out.setCell (p := ⟨w.heap.size + 1 + 1, 0, none⟩) (by omega : w.heap.size ≤ w.heap.size + 1 + 1) _).setCell (p := ⟨w.heap.size + 1 + 1, 1, none⟩) (by omega : w.heap.size ≤ w.heap.size + 1 + 1) _⟩
  · obtain ⟨e1, e2, e3⟩ := hin hz
    have E1 := Lib.hid e1
    have E2 := Lib.hid e2
    have E3 := Lib.hid e3
    clear hov hin e1 e2 e3
    go_wp2_with fail
    go_region_held3 (fun _ => True) (trivial)
      ((go_at_call 32; refine (number_any _ _ _ _ L hdig (by rw [hlen]; decide) (by decide) _ (by first | exact hN.drew | exact hN.drewN _)).mono ?_; rintro e w' ⟨rfl, k, rfl⟩))
    go_wp2_with fail
    simp [bodyPost, results, Try.results9, go_sem, k0, k1]
    exact ⟨⟨⟨E1.out.symm, E2.out.symm⟩, E3.out.symm⟩, ((drawn HB.out _).setCell (p := ⟨w.heap.size + 1 + 1, 0, none⟩) (by omega : w.heap.size ≤ w.heap.size + 1 + 1) _).setCell (p := ⟨w.heap.size + 1 + 1, 1, none⟩) (by omega : w.heap.size ≤ w.heap.size + 1 + 1) _⟩
end Go.Proofs.Ytiagkkehemdkpaa
