/-
  THE CALLS OF THE DOCUMENT'S OWN ANSWER, AND Fold: the document's Mix of x answers the mix of x, its Fold and mix's Fold the fold of the numbers; the first two turn no memory, the last none that was there. Conditions: numbers of 64 bits; for Fold the package's table reads as its text lays it, and the slice's cells hold the numbers.
-/
import Derived.Test.YthaiijnoefoadaaDoorMix
import Derived.Test.YthaiijnoefoadaaDoorNumRef
namespace Go.Proofs.YthaiijnoefoadaaDoor
open Go.RowKit

theorem ret_int {k : IntKind} {a b : Int} (h : a = b) : Ending.returned (.int k a) = .returned (.int k b) := by rw [h]

/-- A number halved so often. -/
def halved (x : Int) (n : Nat) : Int := x / ((2 ^ n : Nat) : Int)
theorem halved_next {x y : Int} {k : Nat} (h : In64 y) (e : y = halved x k) : IntKind.u64.wrap (y.tdiv 2) = halved x (k + 1) := half_next h e
theorem halved_zero (x : Int) : x = halved x 0 := by simp [halved]

set_option maxHeartbeats 400000 in
theorem half_any (x : Int) (n : Nat) (w : World) (h0 : In64 x) (hn : n ≤ 64) :
    Calls Tryd.prog 16 #[.int .u64 x, .int .i64 n] w fun e w' => e = .returned (.int .u64 (halved x n)) ∧ w = w' := by
  go_enter Tryd.func16, Tryd.ntmps16
  go_wp2
  go_loop [0, 5] (fun z i => ∃ (k : Nat) (y : Int), k ≤ n ∧ In64 y ∧ Hid (y = halved x k) ∧ i = .int .i64 k ∧ z = .int .u64 y) (fun _ i => n - (intOf i).toNat)
  case atStart => exact ⟨0, x, Nat.zero_le _, h0, halved_zero x, rfl, rfl⟩
  case round =>
    obtain ⟨k, y, hk, hy, HY, rfl, rfl⟩ := hrel
    by_cases hlt : k < n
    · go_wp2
      go_round
      case rel => exact ⟨k + 1, _, by omega, wrap_in _, halved_next hy HY.out, by go_num, rfl⟩
      case measure => simp [intOf]; omega
    · have hkn : Hid (k = n) := by show k = n; omega
      go_wp2
      go_ret
      exact ⟨ret_int (by rw [HY.out, hkn.out]), rfl⟩

set_option maxHeartbeats 400000 in
theorem times_any (x y : Int) (w : World) (h0 : In64 y) :
    Calls Tryd.prog 15 #[.int .u64 x, .int .u64 y] w fun e w' => e = .returned (.int .u64 (IntKind.u64.wrap (x * y))) ∧ w = w' := by
  go_enter Tryd.func15, Tryd.ntmps15
  go_wp2
  go_loop [0, 1, 5] (fun a b s => ∃ (p q r : Int), 0 ≤ q ∧ In64 q ∧ In64 r ∧ Hid (IntKind.u64.wrap (r + p * q) = IntKind.u64.wrap (x * y)) ∧ a = .int .u64 p ∧ b = .int .u64 q ∧ s = .int .u64 r) (fun _ i _ => (intOf i).toNat)
  case atStart => exact ⟨x, y, 0, h0.1, h0, ⟨by decide, by decide⟩, by simp [Hid], rfl, rfl, rfl⟩
  case round =>
    obtain ⟨p, q, r, hq0, hq, hr, HY, rfl, rfl, rfl⟩ := hrel
    by_cases hlt : 0 < q
    · by_cases ho : q % 2 = 1
      · go_wp2
        go_round
        case rel => exact ⟨_, _, _, (wrap_in _).1, wrap_in _, wrap_in _, times_odd hq ho HY.out, rfl, rfl, rfl⟩
        case measure => exact half_less hq hlt
      · have ho' : q % 2 = 0 := by omega
        clear ho
        go_wp2
        go_round
        case rel => exact ⟨_, _, _, (wrap_in _).1, wrap_in _, hr, times_even hq ho' HY.out, rfl, rfl, rfl⟩
        case measure => exact half_less hq hlt
    · have hle : q ≤ 0 := by omega
      go_wp2
      go_ret
      exact ⟨ret_int (times_end hr hq hle HY.out), rfl⟩

theorem half30 (x : Int) (w : World) (h0 : In64 x) : Calls Tryd.prog 16 #[.int .u64 x, .int .i64 30] w fun e w' => e = .returned (.int .u64 (x / 1073741824)) ∧ w = w' := half_any x 30 w h0 (by decide)
theorem half27 (x : Int) (w : World) (h0 : In64 x) : Calls Tryd.prog 16 #[.int .u64 x, .int .i64 27] w fun e w' => e = .returned (.int .u64 (x / 134217728)) ∧ w = w' := half_any x 27 w h0 (by decide)
theorem half31 (x : Int) (w : World) (h0 : In64 x) : Calls Tryd.prog 16 #[.int .u64 x, .int .i64 31] w fun e w' => e = .returned (.int .u64 (x / 2147483648)) ∧ w = w' := half_any x 31 w h0 (by decide)

set_option maxHeartbeats 400000 in
theorem refMix_any (x : Int) (w : World) :
    Calls Tryd.prog 9 #[.int .u64 x] w fun e w' => e = .returned (.int .u64 (mixI x)) ∧ w = w' := by
  rw [← refMixI_eq]
  have K1 : In64 13787848793156543929 := ⟨by decide, by decide⟩
  have K2 : In64 10723151780598845931 := ⟨by decide, by decide⟩
  go_enter Tryd.func9, Tryd.ntmps9
  go_wp2_with fail
  refine (half30 _ _ (wrap_in _)).mono ?_
  rintro e w' ⟨rfl, rfl⟩
  go_wp2_with fail
  refine (times_any _ _ _ K1).mono ?_
  rintro e w' ⟨rfl, rfl⟩
  go_wp2_with fail
  refine (half27 _ _ (wrap_in _)).mono ?_
  rintro e w' ⟨rfl, rfl⟩
  go_wp2_with fail
  refine (times_any _ _ _ K2).mono ?_
  rintro e w' ⟨rfl, rfl⟩
  go_wp2_with fail
  refine (half31 _ _ (wrap_in _)).mono ?_
  rintro e w' ⟨rfl, rfl⟩
  go_wp2_with fail
  go_ret
  exact ⟨rfl, rfl⟩

/-- The fold of the first k numbers. -/
def foldTo (zs : List Int) (k : Nat) : Int := foldI (zs.take k)
theorem foldTo_next (zs : List Int) (k : Nat) (z : Int) (h : k < zs.length) (e : z = zs.getD k 0) : mixI (bits .xor .u64 (foldTo zs k) z) = foldTo zs (k + 1) := by
  subst e; exact (foldI_take zs k h).symm
theorem foldTo_all (zs : List Int) : foldTo zs zs.length = foldI zs := by unfold foldTo; rw [List.take_length]
theorem foldTo_zero (zs : List Int) : foldTo zs 0 = 0 := by simp [foldTo, foldI]

/-- Some cells, one behind the other, hold these numbers. -/
def Row (w : World) (b off : Nat) (zs : List Int) : Prop := ∀ j, j < zs.length → w.cell? ⟨b, off + j, none⟩ = some (.int .u64 (zs.getD j 0))

set_option maxHeartbeats 400000 in
theorem refFold_none (a : Option Addr) (cap : Nat) (w : World) :
    Calls Tryd.prog 11 #[.slice a 0 cap] w fun e w' => e = .returned (.int .u64 0) ∧ w = w' := by
  go_enter Tryd.func11, Tryd.ntmps11
  go_wp2
  refine wp_loop_rounds 1 ?_
  rw [rounds_succ]; go_wp2
  go_ret
  exact ⟨rfl, rfl⟩

set_option maxHeartbeats 400000 in
theorem refFold_some (b off cap n : Nat) (zs : List Int) (w : World) (hn : n ≤ 1000) (hz : zs.length = n) (hr : Row w b off zs) :
    Calls Tryd.prog 11 #[.slice (some ⟨b, off, none⟩) n cap] w fun e w' => e = .returned (.int .u64 (foldI zs)) ∧ w = w' := by
  have HZ := Lib.hid hz; clear hz
  have z0 := foldTo_zero zs
  have Z0 := Lib.hid z0; clear z0
  go_enter Tryd.func11, Tryd.ntmps11
  go_wp2
  go_loop [3, 4] (fun s i => ∃ (k : Nat) (y : Int), k ≤ n ∧ Hid (y = foldTo zs k) ∧ i = .int .i64 k ∧ s = .int .u64 y) (fun _ i => n - (intOf i).toNat)
  case atStart => exact ⟨0, 0, Nat.zero_le _, Z0.out.symm, rfl, rfl⟩
  case round =>
    obtain ⟨k, y, hk, HY, rfl, rfl⟩ := hrel
    by_cases hlt : k < n
    · obtain ⟨z, HE⟩ : ∃ z, Hid (z = zs.getD k 0) := ⟨_, rfl⟩
      have hc : w.cell? ⟨b, off + k, none⟩ = some (.int .u64 z) := by rw [HE.out]; exact hr k (by rw [HZ.out]; exact hlt)
      go_wp2_with fail
      refine (refMix_any _ _).mono ?_
      rintro e w' ⟨rfl, rfl⟩
      go_wp2_with fail
      go_round
      case rel => exact ⟨k + 1, _, by omega, by rw [HY.out]; exact foldTo_next zs k z (by rw [HZ.out]; exact hlt) HE.out, by go_num, rfl⟩
      case measure => simp [intOf]; omega
    · have hkn : Hid (k = n) := by show k = n; omega
      go_wp2
      go_ret
      exact ⟨ret_int (by rw [HY.out, hkn.out, ← HZ.out, foldTo_all]), rfl⟩

set_option maxHeartbeats 400000 in
theorem fold_none (a : Option Addr) (cap : Nat) (w : World) :
    Calls Tryd.prog 10 #[.slice a 0 cap] w fun e w' => e = .returned (.int .u64 0) ∧ w = w' := by
  go_enter Tryd.func10, Tryd.ntmps10
  go_wp2
  refine wp_loop_rounds 1 ?_
  rw [rounds_succ]; go_wp2
  go_ret
  exact ⟨rfl, rfl⟩

set_option maxHeartbeats 400000 in
theorem fold_some (b off cap n : Nat) (zs : List Int) (t : TypeId) (fr : Nat × Nat) (w : World) (hg : w.heap[0]? = some (.cells cs9 t fr)) (hn : n ≤ 1000) (hz : zs.length = n) (hb : b < w.heap.size) (hr : Row w b off zs) :
    Calls Tryd.prog 10 #[.slice (some ⟨b, off, none⟩) n cap] w fun e w' => e = .returned (.int .u64 (foldI zs)) ∧ Below w.heap.size w w' := by
  have h0 : 0 < w.heap.size := (Array.getElem?_eq_some_iff.1 hg).1
  have HZ := Lib.hid hz; clear hz
  have HG := Lib.hid hg; clear hg
  have z0 := foldTo_zero zs
  have Z0 := Lib.hid z0; clear z0
  go_enter Tryd.func10, Tryd.ntmps10
  go_wp2
  go_loopw [3, 8] (fun s i wr => ∃ (k : Nat) (y : Int), k ≤ n ∧ Hid (y = foldTo zs k) ∧ i = .int .i64 k ∧ s = .int .u64 y ∧ Below w.heap.size w wr) (fun _ i _ => n - (intOf i).toNat)
  case atStart => exact ⟨0, 0, Nat.zero_le _, Z0.out.symm, rfl, rfl, Below.refl _ _⟩
  case round =>
    obtain ⟨k, y, hk, HY, rfl, rfl, hnx⟩ := hrel
    by_cases hlt : k < n
    · obtain ⟨z, HE⟩ : ∃ z, Hid (z = zs.getD k 0) := ⟨_, rfl⟩
      have hc : wr.cell? ⟨b, off + k, none⟩ = some (.int .u64 z) := by rw [HE.out]; exact (hnx.cell (by exact hb)).trans (hr k (by rw [HZ.out]; exact hlt))
      go_wp2_with fail
      refine (mix_any _ t fr _ (laid_below HG.out h0 hnx)).mono ?_
      rintro e w1 ⟨rfl, b1⟩
      have b2 := hnx.trans (b1.mono hnx.size)
      clear hc b1
      go_wp2_with fail
      go_roundw
      case rel => exact ⟨k + 1, _, by omega, by rw [HY.out]; exact foldTo_next zs k z (by rw [HZ.out]; exact hlt) HE.out, by go_num, rfl, b2⟩
      case measure => simp [intOf]; omega
    · have hkn : Hid (k = n) := by show k = n; omega
      go_wp2
      go_ret
      exact ⟨ret_int (by rw [HY.out, hkn.out, ← HZ.out, foldTo_all]), hnx⟩
end Go.Proofs.YthaiijnoefoadaaDoor
