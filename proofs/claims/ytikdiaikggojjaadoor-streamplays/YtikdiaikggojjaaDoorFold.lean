/-
  THE CALL Fold: of the numbers that a slice holds it answers their fold, and turns no memory that was there. Conditions: up to 1000 numbers; the package's table of rounds reads as its text lays it.
-/
import Derived.Test.YtikdiaikggojjaaDoorMixFwd
import Derived.Test.YtikdiaikggojjaaDoorNumRef
import Derived.Test.YtikdiaikggojjaaDoorRowu
namespace Go.Proofs.YtikdiaikggojjaaDoor
open Go.RowKit

/-- The fold of the first k numbers. -/
def foldTo (zs : List Int) (k : Nat) : Int := foldI (zs.take k)
theorem foldTo_next (zs : List Int) (k : Nat) (z : Int) (h : k < zs.length) (e : z = zs.getD k 0) : mixI (bits .xor .u64 (foldTo zs k) z) = foldTo zs (k + 1) := by
  subst e; exact (foldI_take zs k h).symm
theorem foldTo_all (zs : List Int) : foldTo zs zs.length = foldI zs := by unfold foldTo; rw [List.take_length]
theorem foldTo_zero (zs : List Int) : foldTo zs 0 = 0 := by simp [foldTo, foldI]

set_option maxHeartbeats 400000 in
theorem fold_none (a : Option Addr) (cap : Nat) (w : World) :
    Calls Tryd.prog 14 #[.slice a 0 cap] w fun e w' => e = .returned (.int .u64 0) ∧ w = w' := by
  go_enter Tryd.func14, Tryd.ntmps14
  go_wp2
  refine wp_loop_rounds 1 ?_
  rw [rounds_succ]; go_wp2
  go_ret
  exact ⟨rfl, rfl⟩

set_option maxHeartbeats 400000 in
theorem fold_some (b off cap n : Nat) (zs : List Int) (t : TypeId) (fr : Nat × Nat) (w : World) (hg : w.heap[0]? = some (.cells cs9 t fr)) (hn : n ≤ 1000) (hz : zs.length = n) (hb : b < w.heap.size) (hr : Row w b off zs) :
    Calls Tryd.prog 14 #[.slice (some ⟨b, off, none⟩) n cap] w fun e w' => e = .returned (.int .u64 (foldI zs)) ∧ Below w.heap.size w w' := by
  have h0 : 0 < w.heap.size := (Array.getElem?_eq_some_iff.1 hg).1
  have HZ := Lib.hid hz; clear hz
  have HG := Lib.hid hg; clear hg
  have z0 := foldTo_zero zs
  have Z0 := Lib.hid z0; clear z0
  go_enter Tryd.func14, Tryd.ntmps14
  go_wp2
  go_loopw [3, 8] (fun s i wr => ∃ (k : Nat) (y : Int), k ≤ n ∧ Hid (y = foldTo zs k) ∧ i = .int .i64 k ∧ s = .int .u64 y ∧ Below w.heap.size w wr) (fun _ i _ => n - (intOf i).toNat)
  case atStart => exact ⟨0, 0, Nat.zero_le _, Z0.out.symm, rfl, rfl, Below.refl _ _⟩
  case round =>
    obtain ⟨k, y, hk, HY, rfl, rfl, hnx⟩ := hrel
    by_cases hlt : k < n
    · obtain ⟨z, HE⟩ : ∃ z, Hid (z = zs.getD k 0) := ⟨_, rfl⟩
      have hc : wr.cell? ⟨b, off + k, none⟩ = some (.int .u64 z) := by rw [HE.out]; exact (hnx.cell (by exact hb)).trans (hr k (by rw [HZ.out]; exact hlt))
      go_wp2_with fail
      refine (mix_any _ t fr _ (laid_below HG.out h0 hnx)).mono ?_
      rintro e w1 ⟨rfl, b1⟩
      have b2 := hnx.trans (b1.mono hnx.size)
      clear hc b1
      go_wp2_with fail
      go_roundw
      case rel => exact ⟨k + 1, _, by omega, by rw [HY.out]; exact foldTo_next zs k z (by rw [HZ.out]; exact hlt) HE.out, by go_num, rfl, b2⟩
      case measure => simp [intOf]; omega
    · have hkn : Hid (k = n) := by show k = n; omega
      go_wp2
      go_ret
      exact ⟨ret_int (by rw [HY.out, hkn.out, ← HZ.out, foldTo_all]), hnx⟩

theorem fold_any (a : Option Addr) (cap n : Nat) (l : List Int) (t : TypeId) (fr : Nat × Nat) (w : World) (hg : w.heap[0]? = some (.cells cs9 t fr)) (hn : n ≤ 1000) (hl : l.length = n) (hr : HoldsRow w a l) :
    Calls Tryd.prog 14 #[.slice a n cap] w fun e w' => e = .returned (.int .u64 (foldI l)) ∧ Below w.heap.size w w' := by
  rcases hr with rfl | ⟨b, off, rfl, hb, hr⟩
  · obtain rfl : n = 0 := hl.symm
    exact (fold_none a cap w).mono fun e w' ⟨he, hw⟩ => ⟨he, hw ▸ Below.refl _ _⟩
  · exact fold_some b off cap n l t fr w hg hn hl hb hr
end Go.Proofs.YtikdiaikggojjaaDoor
