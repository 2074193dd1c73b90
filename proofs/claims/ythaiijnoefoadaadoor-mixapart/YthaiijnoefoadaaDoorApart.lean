/-
  MixApart and MixParts return true. Conditions: the package's table of rounds reads as its text lays it, numbers of 64 bits.
-/
import Derived.Test.YthaiijnoefoadaaDoorGrow
namespace Go.Proofs.YthaiijnoefoadaaDoor
open Go.RowKit

theorem fold_own (B : Nat) (v : Value) (l : List Int) (t : TypeId) (fr : Nat × Nat) (w : World) (hg : w.heap[0]? = some (.cells cs9 t fr)) (hn : l.length ≤ 1000) (hr : OwnRow w B v l) :
    Calls Tryd.prog 10 #[v] w fun e w' => e = .returned (.int .u64 (foldI l)) ∧ Below w.heap.size w w' := by
  obtain ⟨a, cap, rfl, h⟩ := hr.slice
  exact fold_any a cap _ l t fr w hg hn rfl h

theorem below_new {B : Nat} {w0 w w' : World} {o : Obj} (h0 : Below B w0 w) (hB : B ≤ w.heap.size) (h : Below B (w.alloc o) w') : Below B w0 w' := (h0.alloc hB o).trans h

set_option maxHeartbeats 1000000 in
theorem mixApart_short (x y : Int) (hx : In64 x) (hy : In64 y) (a : Option Addr) (n cap : Nat) (l : List Int) (t : TypeId) (fr : Nat × Nat) (w : World) (hg : w.heap[0]? = some (.cells cs9 t fr)) (hn : n ≤ 100) (hr : Came w a n cap l) :
    Calls Tryd.prog 5 #[.int .u64 x, .int .u64 y, .slice a n cap] w fun e w' => e = .returned (.bool true) ∧ Below w.heap.size w w' := by
  have hz : 0 < w.heap.size := (Array.getElem?_eq_some_iff.1 hg).1
  have hl : l.length ≤ 100 := by rw [hr.row.1]; exact hn
  have d0 : (mixI x == mixI y) = (x == y) := by rw [Bool.eq_iff_iff]; simp [mixI_eq_iff x y hx hy]
  have d1 : (foldI (l ++ [x]) == foldI (l ++ [y])) = (x == y) := by rw [Bool.eq_iff_iff]; simp [foldI_eq_iff l x y hx hy]
  have D0 := Lib.hid d0; clear d0
  have D1 := Lib.hid d1; clear d1
  have HG := Lib.hid hg; clear hg hx hy
  go_enter Tryd.func5, Tryd.ntmps5
  go_wp2_with (first
    | (at_builtin
       refine app_row ?hw (.tmp 13) (.tmp 14) rfl w.heap.size ?hB (.slice (some ⟨w.heap.size, 0, none⟩) 0 0) [] rfl (OwnRow.start w _ (Nat.le_refl _)) a n cap l rfl (hr.below (Nat.le_refl _) ((Below.refl _ w).alloc (Nat.le_refl _) _)) ?hm ?_
       case hw => rfl
       case hB => simp
       case hm => simp; omega
       intro v1 w1 o1 b1'
       have b1 := below_new (Below.refl _ w) (Nat.le_refl _) b1'
       clear b1')
    | (at_builtin
       refine app_row ?hw (.tmp 15) (.tmp 17) rfl w.heap.size ?hB v1 ([] ++ l) rfl (o1.alloc _) _ _ _ [x] rfl (Came.new x) ?hm ?_
       case hw => rfl
       case hB => have := b1.size; simp; omega
       case hm => simp; omega
       intro v2 w2 o2 b2'
       have b2 := below_new b1 b1.size b2'
       clear b2'))
  rw [List.nil_append] at o2
  clear o1
  refine (fold_own _ _ _ t fr _ (laid_below HG.out hz b2) (by simp; omega) o2).mono ?_
  rintro e w3 ⟨rfl, b3'⟩
  have b3 := b2.trans (b3'.mono b2.size)
  clear b3' o2
  go_wp2_with (first
    | (at_builtin
       refine app_row ?hw (.tmp 20) (.tmp 21) rfl w.heap.size ?hB (.slice (some ⟨w3.heap.size, 0, none⟩) 0 0) [] rfl (OwnRow.start w3 _ b3.size) a n cap l rfl (hr.below (Nat.le_refl _) (b3.alloc b3.size _)) ?hm ?_
       case hw => rfl
       case hB => have := b3.size; simp; omega
       case hm => simp; omega
       intro v4 w4 o4 b4'
       have b4 := below_new b3 b3.size b4'
       clear b4')
    | (at_builtin
       refine app_row ?hw (.tmp 22) (.tmp 24) rfl w.heap.size ?hB v4 ([] ++ l) rfl (o4.alloc _) _ _ _ [y] rfl (Came.new y) ?hm ?_
       case hw => rfl
       case hB => have := b4.size; simp; omega
       case hm => simp; omega
       intro v5 w5 o5 b5'
       have b5 := below_new b4 b4.size b5'
       clear b5'))
  rw [List.nil_append] at o5
  clear o4
  refine (fold_own _ _ _ t fr _ (laid_below HG.out hz b5) (by simp; omega) o5).mono ?_
  rintro e w6 ⟨rfl, b6'⟩
  have b6 := b5.trans (b6'.mono b5.size)
  clear b6' o5
  go_wp2_with fail
  refine (fixed_any t fr _ (laid_below HG.out hz b6)).mono ?_
  rintro e w7 ⟨rfl, b7'⟩
  have b7 := b6.trans (b7'.mono b6.size)
  clear b7'
  go_wp2_with fail
  refine (mix_any x t fr _ (laid_below HG.out hz b7)).mono ?_
  rintro e w8 ⟨rfl, b8'⟩
  have b8 := b7.trans (b8'.mono b7.size)
  clear b8'
  go_wp2_with fail
  refine (mix_any y t fr _ (laid_below HG.out hz b8)).mono ?_
  rintro e w9 ⟨rfl, b9'⟩
  have b9 := b8.trans (b9'.mono b8.size)
  clear b9' b1 b2 b3 b4 b5 b6 b7 b8
  obtain ⟨c, HC⟩ : ∃ c, Hid ((x == y) = c) := ⟨_, rfl⟩
  have e0 := HC.out
  have e1 := D0.out.trans HC.out
  have e2 := D1.out.trans HC.out
  clear D0 D1 HC
  cases c
  all_goals
    go_wp2_with fail
    go_ret
    exact ⟨rfl, b9⟩

set_option maxHeartbeats 400000 in
theorem mixApart_long (x y : Int) (a : Option Addr) (n cap : Nat) (t : TypeId) (fr : Nat × Nat) (w : World) (hg : w.heap[0]? = some (.cells cs9 t fr)) (hn : 100 < n) :
    Calls Tryd.prog 5 #[.int .u64 x, .int .u64 y, .slice a n cap] w fun e w' => e = .returned (.bool true) ∧ Below w.heap.size w w' := by
  have HG := Lib.hid hg; clear hg
  go_enter Tryd.func5, Tryd.ntmps5
  go_wp2_with fail
  refine (fixed_any t fr _ HG.out).mono ?_
  rintro e w1 ⟨rfl, b1⟩
  go_wp2_with fail
  go_ret
  exact ⟨rfl, b1⟩

set_option maxHeartbeats 400000 in
theorem mixParts_long (x : Int) (a : Option Addr) (n cap : Nat) (t : TypeId) (fr : Nat × Nat) (w : World) (hg : w.heap[0]? = some (.cells cs9 t fr)) (hn : 100 < n) :
    Calls Tryd.prog 6 #[.slice a n cap, .int .u64 x] w fun e w' => e = .returned (.bool true) ∧ Below w.heap.size w w' := by
  have HG := Lib.hid hg; clear hg
  go_enter Tryd.func6, Tryd.ntmps6
  go_wp2_with fail
  refine (fixed_any t fr _ HG.out).mono ?_
  rintro e w1 ⟨rfl, b1⟩
  go_wp2_with fail
  go_ret
  exact ⟨rfl, b1⟩

set_option maxHeartbeats 1000000 in
theorem mixParts_short (x : Int) (hx : In64 x) (a : Option Addr) (n cap : Nat) (l : List Int) (t : TypeId) (fr : Nat × Nat) (w : World) (hg : w.heap[0]? = some (.cells cs9 t fr)) (hn : n ≤ 100) (hr : Came w a n cap l) :
    Calls Tryd.prog 6 #[.slice a n cap, .int .u64 x] w fun e w' => e = .returned (.bool true) ∧ Below w.heap.size w w' := by
  have hz : 0 < w.heap.size := (Array.getElem?_eq_some_iff.1 hg).1
  have hl : l.length ≤ 100 := by rw [hr.row.1]; exact hn
  have d0 : (foldI (l ++ [x]) == mixI (bits .xor .u64 (foldI l) x)) = true := by rw [foldI_snoc]; simp
  have d1 : (foldI [x] == mixI x) = true := by rw [foldI_one x hx]; simp
  have HG := Lib.hid hg; clear hg hx
  go_enter Tryd.func6, Tryd.ntmps6
  go_wp2_with fail
  refine (fixed_any t fr _ HG.out).mono ?_
  rintro e w0 ⟨rfl, b0⟩
  go_wp2_with (first
    | (at_builtin
       refine app_row ?hw (.tmp 11) (.tmp 12) rfl w.heap.size ?hB (.slice (some ⟨w0.heap.size, 0, none⟩) 0 0) [] rfl (OwnRow.start w0 _ b0.size) a n cap l rfl (hr.below (Nat.le_refl _) (b0.alloc b0.size _)) ?hm ?_
       case hw => rfl
       case hB => have := b0.size; simp; omega
       case hm => simp; omega
       intro v1 w1 o1 b1'
       have b1 := below_new b0 b0.size b1'
       clear b1')
    | (at_builtin
       refine app_row ?hw (.tmp 13) (.tmp 15) rfl w.heap.size ?hB v1 ([] ++ l) rfl (o1.alloc _) _ _ _ [x] rfl (Came.new x) ?hm ?_
       case hw => rfl
       case hB => have := b1.size; simp; omega
       case hm => simp; omega
       intro v2 w2 o2 b2'
       have b2 := below_new b1 b1.size b2'
       clear b2'))
  rw [List.nil_append] at o2
  clear o1
  refine (fold_own _ _ _ t fr _ (laid_below HG.out hz b2) (by simp; omega) o2).mono ?_
  rintro e w3 ⟨rfl, b3'⟩
  have b3 := b2.trans (b3'.mono b2.size)
  clear b3' o2
  go_wp2_with fail
  refine (fold_any a cap n l t fr _ (laid_below HG.out hz b3) (by omega) hr.row.1 (hr.row.2.below b3)).mono ?_
  rintro e w4 ⟨rfl, b4'⟩
  have b4 := b3.trans (b4'.mono b3.size)
  clear b4'
  go_wp2_with fail
  refine (mix_any _ t fr _ (laid_below HG.out hz b4)).mono ?_
  rintro e w5 ⟨rfl, b5'⟩
  have b5 := b4.trans (b5'.mono b4.size)
  clear b5'
  go_wp2_with fail
  have c5 := Came.new (w := w5) x
  refine (fold_any _ _ 1 [x] t fr _ ((Below.heap_alloc _ _ _ (Nat.lt_of_lt_of_le hz b5.size)).trans (laid_below HG.out hz b5)) (by omega) c5.row.1 c5.row.2).mono ?_
  rintro e w6 ⟨rfl, b6'⟩
  have b6 := below_new b5 b5.size (b6'.mono (by have := b5.size; simp; omega))
  clear b6' c5
  go_wp2_with fail
  refine (mix_any _ t fr _ (laid_below HG.out hz b6)).mono ?_
  rintro e w7 ⟨rfl, b7'⟩
  have b7 := b6.trans (b7'.mono b6.size)
  clear b7'
  go_wp2_with fail
  refine (fold_none _ _ _).mono ?_
  rintro e w8 ⟨rfl, rfl⟩
  go_wp2_with fail
  go_ret
  exact ⟨rfl, b7⟩
end Go.Proofs.YthaiijnoefoadaaDoor
