/-
  THE LIBRARY's SORT AT NUMBERS OF 64 BITS: by a heap. Condition: at most 2^20 numbers.
-/
import Derived.Test.YtjaogmbeoldefaaSortSift
namespace Go.Proofs.Ytjaogmbeoldefaa
open Go.RowKit Go.Sort

theorem siftDown_size (hi first : Nat) (r : Nat) (d : Array Int) : (siftDown ltInt hi first r d).size = d.size := size_siftDown ltInt hi first (hi - r) r d (Nat.le_refl _)

set_option maxHeartbeats 2000000 in
theorem heap_any (g off cap a b : Nat) (d : Array Int) (hab : a < b) (hb : b ≤ d.size) (hsz : d.size ≤ 1048576) (w : World) (hA : Arr g off d w) :
    Calls Try.prog 64 #[.slice (some ⟨g, off, none⟩) d.size cap, .int .i64 (a : Int), .int .i64 (b : Int)] w fun e w' =>
      e = .returned (.tuple #[]) ∧ Arr g off (heapSort ltInt d a b) w' ∧ But g w w' := by
  obtain ⟨n, HN⟩ : ∃ n, Hid (b = a + n) := ⟨b - a, by show _ = _; omega⟩
  have hn0 : 0 < n := by have := HN.out; omega
  have hbs : a + n ≤ d.size := by have := HN.out; omega
  have hba : (b : Int) - (a : Int) = (n : Int) := by have := HN.out; omega
  obtain ⟨m, HM⟩ : ∃ m, Hid (m = (n - 1) / 2) := ⟨_, rfl⟩
  have hmn : m < n := by have := HM.out; omega
  have HH : Hid (heapSort ltInt d a b = heapPop ltInt a n (heapBuild ltInt n a (m + 1) d)) := by show _ = _; unfold heapSort; rw [HM.out, HN.out, Nat.add_sub_cancel_left]
  have hs : ∀ (lo hi : Nat) (dk : Array Int) (wr : World), lo ≤ hi → hi ≤ n → dk.size = d.size → Arr g off dk wr →
      Calls Try.prog 76 #[.slice (some ⟨g, off, none⟩) d.size cap, .int .i64 (lo : Int), .int .i64 (hi : Int), .int .i64 (a : Int)] wr fun e w' =>
        e = .returned (.tuple #[]) ∧ Arr g off (siftDown ltInt hi a lo dk) w' ∧ But g wr w' := fun lo hi dk wr h1 h2 h3 h4 => by
    rw [← h3]; exact sift_any g off cap lo hi a dk h1 (by omega) (by omega) wr h4
  go_enter Try.func64, Try.ntmps64
  go_wp2_with fail
  go_loopw [9] (fun v wr => ∃ (k : Nat) (dk : Array Int), v = .int .i64 ((k : Int) - 1) ∧ k ≤ m + 1 ∧ dk.size = d.size ∧ Arr g off dk wr ∧ But g w wr ∧ Hid (heapBuild ltInt n a k dk = heapBuild ltInt n a (m + 1) d)) (fun v _ => (intOf v + 1).toNat)
  case atStart => exact ⟨m + 1, d, by congr 1; have := HM.out; omega, Nat.le_refl _, rfl, hA, But.refl _ _, rfl⟩
  case round =>
    obtain ⟨k, dk, rfl, hk, hdk, hAk, hBk, HO⟩ := hrel
    clear hA
    by_cases h0 : 0 < k
    · obtain ⟨k, rfl⟩ : ∃ j, k = j + 1 := ⟨k - 1, by omega⟩
      go_wp2_with fail
      refine (hs k n dk wr (by omega) (Nat.le_refl _) hdk hAk).mono ?_
      rintro e w1 ⟨rfl, hA1, hB1⟩
      go_wp2_with fail
      go_roundw
      case rel =>
        refine ⟨k, siftDown ltInt n a k dk, by congr 1, by omega, by rw [siftDown_size]; exact hdk, hA1, hBk.trans hB1, ?_⟩
        show _ = _
        rw [← HO.out, heapBuild]
      case measure => simp [intOf]
    · have HO2 : Hid (dk = heapBuild ltInt n a (m + 1) d) := by
        show _ = _
        have hk0 : k = 0 := by omega
        have := HO.out
        rw [hk0, heapBuild] at this
        exact this
      clear HO
      go_wp2_with fail
      go_loopw [10] (fun v wr => ∃ (k : Nat) (dj : Array Int), v = .int .i64 ((k : Int) - 1) ∧ k ≤ n ∧ dj.size = d.size ∧ Arr g off dj wr ∧ But g w wr ∧ Hid (heapPop ltInt a k dj = heapPop ltInt a n dk)) (fun v _ => (intOf v + 1).toNat)
      case atStart => exact ⟨n, dk, rfl, Nat.le_refl _, hdk, hAk, hBk, rfl⟩
      case round =>
        obtain ⟨k, dj, rfl, hk2, hdj, hAj, hBj, HP⟩ := hrel
        clear hAk hBk
        by_cases h1 : 0 < k
        · obtain ⟨k, rfl⟩ : ∃ j, k = j + 1 := ⟨k - 1, by omega⟩
          have hc : ∀ t, t < d.size → wr.cell? ⟨g, off + t, none⟩ = some (.int .u64 (el dj t)) := fun t ht => hAj.cell t (by omega)
          have hf : ∀ t, t < d.size → wr.frozen? ⟨g, off + t, none⟩ = false := fun t ht => hAj.frozen t (by omega)
          have HA := Lib.hid hAj
          have HB := Lib.hid hBj
          clear hAj hBj
          obtain ⟨v, cv⟩ : ∃ v, (wr.setCell ⟨g, off + a, none⟩ (.int .u64 (el dj (a + k)))).cell? ⟨g, off + (a + k), none⟩ = some v := ⟨_, (HA.out.set a (el dj (a + k)) (by omega)).cell (a + k) (by simp; omega)⟩
          go_wp2_with fail
          go_region
          all_goals go_wp2_with fail
          have hA1 : Arr g off (swp dj a (a + k)) _ := HA.out.drew.swap a (a + k) (by omega) (by omega)
          have hB1 := HB.out.drew.trans (But.swap g (off + a) (off + (a + k)) _ (.int .u64 (el dj (a + k))) (.int .u64 (el dj a)))
          refine (hs 0 k (swp dj a (a + k)) _ (by omega) (by omega) (by rw [size_swp]; exact hdj) hA1).mono ?_
          rintro e w1 ⟨rfl, hA2, hB2⟩
          go_wp2_with fail
          go_roundw
          case rel =>
            refine ⟨k, siftDown ltInt k a 0 (swp dj a (a + k)), by congr 1, by omega, by rw [siftDown_size, size_swp]; exact hdj, hA2, hB1.trans hB2, ?_⟩
            show _ = _
            rw [← HP.out, heapPop]
          case measure => simp [intOf]
        · obtain rfl : k = 0 := by omega
          go_wp2_with fail
          go_end0
          refine ⟨rfl, ?_, hBj⟩
          rw [HH.out, ← HO2.out, ← HP.out, heapPop]
          exact hAj

end Go.Proofs.Ytjaogmbeoldefaa
