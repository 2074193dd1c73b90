/-
  THE DOCUMENT'S OWN ANSWERS for wide and long numbers: product, sum, order, long product. Condition: each number is of 64 bits.
-/
import Derived.Test.YtiagkkehemdkpaaDigMul
namespace Go.Proofs.Ytiagkkehemdkpaa
open Go.RowKit

theorem Nums.madeT (w : World) (l : List Int) (T : TypeId) : Nums w.heap.size l (w.alloc (.cells (l.map (Value.int .u64)).toArray T)) := by
  have hh : (w.alloc (.cells (l.map (Value.int .u64)).toArray T)).heap[w.heap.size]? = some (.cells (l.map (Value.int .u64)).toArray T) := by rw [World.alloc]; simp
  refine ⟨by simp, fun j hj => ?_, fun j hj => ?_⟩
  · unfold World.cell?
    simp only [hh]
    simp [hj]
  · unfold World.frozen?
    simp only [hh]
    simp

/-- The halves of a product, out of its eight digits. -/
theorem halves {l : List Int} {x y : Int} (hn : l.length = 8) (hd : Dig l) (hv : val l = x * y) : num4 l 4 = hi x y ∧ num4 l 0 = lo x y := by
  have h1 := num4_word (j := 0) hd (by omega)
  have h2 := val_eight hn
  unfold Word at h1
  unfold hi lo
  omega

set_option maxHeartbeats 1000000 in
theorem refMul_any (x y : Int) (hx : Word x) (hy : Word y) (w : World) :
    Calls Try.prog 13 #[.int .u64 x, .int .u64 y] w fun e w' => e = .returned (.agg #[.int .u64 (hi x y), .int .u64 (lo x y)]) ∧ Below w.heap.size w w' := by
  have r0 : Nums w.heap.size [0, 0] (w.alloc (.cells #[.int .u64 0, .int .u64 0] 24)) := Nums.madeT w [0, 0] _
  have b0 := alloc_below w (.cells #[.int .u64 0, .int .u64 0] 24)
  go_enter Try.func13, Try.ntmps13
  go_wp2_with fail
  generalize w.alloc (.cells #[.int .u64 0, .int .u64 0] 24) = w0 at *
  refine (digits_at _ hx _).mono ?_
  rintro e w1 ⟨rfl, rfl⟩
  have d1 := Nums.made w0 (digs x)
  have c1 := alloc_below w0 (.cells ((digs x).map (Value.int .u64)).toArray 22)
  have r1 := r0.below c1
  have b1 := onto b0 c1
  clear b0 r0 c1
  generalize w0.alloc (.cells ((digs x).map (Value.int .u64)).toArray 22) = w1 at *
  generalize w0.heap.size = g1 at *
  go_wp2_with fail
  refine (digits_at _ hy _).mono ?_
  rintro e w2 ⟨rfl, rfl⟩
  have d2 := Nums.made w1 (digs y)
  have c2 := alloc_below w1 (.cells ((digs y).map (Value.int .u64)).toArray 22)
  have d12 := d1.below c2
  have r2 := r1.below c2
  have b2 := onto b1 c2
  clear b1 r1 c2 d1
  generalize w1.alloc (.cells ((digs y).map (Value.int .u64)).toArray 22) = w2 at *
  generalize w1.heap.size = g2 at *
  go_wp2_with fail
  refine (prodRows_any g1 g2 4 4 4 4 (digs x) (digs y) rfl rfl (by decide) (by decide) (digs_dig hx) (digs_dig hy) _ d12 d2).mono ?_
  rintro e w3 ⟨⟨g, cap, L, rfl, hcap, hg, hlen, hdig, hval, hN⟩, c3⟩
  rw [digs_val, digs_val] at hval
  have r3 := r2.below c3
  have b3 := onto b2 c3
  obtain ⟨e4, e0⟩ := halves hlen hdig hval
  have HE4 := Lib.hid e4
  have HE0 := Lib.hid e0
  have k0 := r3.cell 0 (by decide)
  have k1 := r3.cell 1 (by decide)
  have f0 := r3.frozen 0 (by decide)
  have f1 := r3.frozen 1 (by decide)
  have h8 : (8 : Int) ≤ (cap : Int) := by omega
  have h4 : (4 : Int) ≤ (cap : Int) := by omega
  have hc4 : ¬ cap = 4 := by omega
  have HB := Lib.hid b3
  clear r2 b2 c3 d12 d2 r3 hval e4 e0 b3
  go_wp2_with fail
  go_region_held3 (fun _ => True) (trivial)
    ((go_at_call 32; refine (number_any _ _ _ _ L hdig (by rw [hlen]; decide) (by decide) _ (by first | exact hN.drew | exact hN.drewN _)).mono ?_; rintro e w' ⟨rfl, k, rfl⟩))
  go_wp2_with fail
  simp [bodyPost, results, Try.results13, go_sem, k0, k1]
  exact ⟨⟨HE4.out, HE0.out⟩, ((drawn HB.out _).setCell (p := ⟨w.heap.size, 0, none⟩) (Nat.le_refl _) _).setCell (p := ⟨w.heap.size, 1, none⟩) (Nat.le_refl _) _⟩

/-- The parts of a long product, out of its twelve digits. -/
theorem thirds {l : List Int} {v : Int} (hn : l.length = 12) (hd : Dig l) (hv : val l = v) : num4 l 8 = p0 v ∧ num4 l 4 = p1 v ∧ num4 l 0 = p2 v := by
  have h0 := num4_word (j := 0) hd (by omega)
  have h1 := num4_word (j := 4) hd (by omega)
  have h2 := num4_word (j := 8) hd (by omega)
  have h3 := val_twelve hn
  unfold Word at h0 h1 h2
  unfold p0 p1 p2
  generalize num4 l 0 = x at *
  generalize num4 l 4 = y at *
  generalize num4 l 8 = z at *
  omega

set_option maxHeartbeats 1000000 in
theorem refTimes_any (ah al n : Int) (h1 : Word ah) (h2 : Word al) (h3 : Word n) (w : World) :
    Calls Try.prog 16 #[.agg #[.int .u64 ah, .int .u64 al], .int .u64 n] w fun e w' =>
      e = .returned (.agg #[.int .u64 (p0 ((ah * 18446744073709551616 + al) * n)), .int .u64 (p1 ((ah * 18446744073709551616 + al) * n)), .int .u64 (p2 ((ah * 18446744073709551616 + al) * n))]) ∧ Below w.heap.size w w' := by
  have r0 : Nums (w.heap.size + 1) [0, 0, 0] ((w.alloc (.cells #[.int .u64 ah, .int .u64 al] 24)).alloc (.cells #[.int .u64 0, .int .u64 0, .int .u64 0] 30)) := by
    have := Nums.madeT (w.alloc (.cells #[.int .u64 ah, .int .u64 al] 24)) [0, 0, 0] 30
    rw [show (w.alloc (.cells #[.int .u64 ah, .int .u64 al] 24)).heap.size = w.heap.size + 1 by simp] at this
    exact this
  have b0 := more (alloc_below w (.cells #[.int .u64 ah, .int .u64 al] 24)) (.cells #[.int .u64 0, .int .u64 0, .int .u64 0] 30)
  go_enter Try.func16, Try.ntmps16
  go_wp2_with fail
  refine (ofWide_any _ _ h1 h2 _).mono ?_
  rintro e w1 ⟨⟨gA, capA, lA, rfl, hcA, hgA, hlA, dA, vA, nA⟩, c1⟩
  have r1 := r0.below c1
  have b1 := onto b0 c1
  clear b0 r0 c1
  go_wp2_with fail
  refine (digits_at _ h3 _).mono ?_
  rintro e w2 ⟨rfl, rfl⟩
  have d2 := Nums.made w1 (digs n)
  have c2 := alloc_below w1 (.cells ((digs n).map (Value.int .u64)).toArray 22)
  have nA2 := nA.below c2
  have r2 := r1.below c2
  have b2 := onto b1 c2
  clear b1 r1 c2 nA
  generalize w1.alloc (.cells ((digs n).map (Value.int .u64)).toArray 22) = w2 at *
  generalize w1.heap.size = g2 at *
  go_wp2_with fail
  refine (prodRows_any gA g2 8 4 capA 4 lA (digs n) hlA rfl (by decide) (by decide) dA (digs_dig h3) _ nA2 d2).mono ?_
  rintro e w3 ⟨⟨g, cap, L, rfl, hcap, hg, hlen, hdig, hval, hN⟩, c3⟩
  rw [vA, digs_val] at hval
  have r3 := r2.below c3
  have b3 := onto b2 c3
  obtain ⟨e8, e4, e0⟩ := thirds hlen hdig hval
  have HE8 := Lib.hid e8
  have HE4 := Lib.hid e4
  have HE0 := Lib.hid e0
  have k0 := r3.cell 0 (by decide)
  have k1 := r3.cell 1 (by decide)
  have k2 := r3.cell 2 (by decide)
  have f0 := r3.frozen 0 (by decide)
  have f1 := r3.frozen 1 (by decide)
  have f2 := r3.frozen 2 (by decide)
  have h12 : (12 : Int) ≤ (cap : Int) := by omega
  have h8 : (8 : Int) ≤ (cap : Int) := by omega
  have h4 : (4 : Int) ≤ (cap : Int) := by omega
  have hc4 : ¬ cap = 4 := by omega
  have hc8 : ¬ cap = 8 := by omega
  have HB := Lib.hid b3
  clear r2 b2 c3 nA2 d2 r3 hval e8 e4 e0 b3
  go_wp2_with fail
  go_region_held3 (fun _ => True) (trivial)
    ((go_at_call 32; refine (number_any _ _ _ _ L hdig (by rw [hlen]; decide) (by decide) _ (by first | exact hN.drew | exact hN.drewN _)).mono ?_; rintro e w' ⟨rfl, k, rfl⟩))
  go_wp2_with fail
  simp [bodyPost, results, Try.results16, go_sem, k0, k1, k2]
  exact ⟨⟨HE8.out, HE4.out, HE0.out⟩, (((drawn HB.out _).setCell (p := ⟨w.heap.size + 1, 0, none⟩) (Nat.le_succ _) _).setCell (p := ⟨w.heap.size + 1, 1, none⟩) (Nat.le_succ _) _).setCell (p := ⟨w.heap.size + 1, 2, none⟩) (Nat.le_succ _) _⟩
end Go.Proofs.Ytiagkkehemdkpaa
