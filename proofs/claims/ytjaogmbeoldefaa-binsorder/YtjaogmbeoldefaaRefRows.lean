/-
  THE DOCUMENT's values of bits, and two rows of values held against one another, bit by bit. Condition: at most 1000 values.
-/
import Derived.Test.YtjaogmbeoldefaaRankSort
namespace Go.Proofs.Ytjaogmbeoldefaa
open Go.RowKit

/-- The values of these bits. -/
def bitsOf (l : List Int) : List Nat := l.map Int.toNat
theorem bitsOf_len (l : List Int) : (bitsOf l).length = l.length := by simp [bitsOf]
theorem bitsOf_take (l : List Int) (j : Nat) (hj : j < l.length) : (bitsOf l).take j ++ [(l.getD j 0).toNat] = (bitsOf l).take (j + 1) := by
  have h2 : j < (bitsOf l).length := by rw [bitsOf_len]; exact hj
  rw [List.take_add_one, List.getElem?_eq_getElem h2]
  have e : (l.getD j 0).toNat = (bitsOf l)[j] := by simp [bitsOf, List.getD_eq_getElem?_getD, hj]
  rw [e]
  rfl
theorem bits64_of {l : List Int} (h : ∀ z ∈ l, 0 ≤ z ∧ z < 18446744073709551616) : Bits64 (bitsOf l) := by
  intro b hb
  unfold bitsOf at hb
  obtain ⟨z, hz, rfl⟩ := List.mem_map.1 hb
  have := h z hz
  omega

set_option maxHeartbeats 1000000 in
theorem refOf_any (a : Option Addr) (cap n : Nat) (l : List Int) (hn : l.length = n) (hb : n ≤ 1000) (w : World) (hr : HoldsE KU w a l) :
    Calls Try.prog 14 #[.slice a n cap] w fun e w' => (∃ g c, e = .returned (.slice (some ⟨g, 0, none⟩) n c) ∧ w.heap.size ≤ g ∧ Lst KF g 0 (bitsOf l) w') ∧ Go.RowKit.Below w.heap.size w w' := by
  have hbl := bitsOf_len l
  go_enter Try.func14, Try.ntmps14
  go_wp2_with fail
  go_loopw [3, 4] (fun v i wr => ∃ (j g c : Nat), j ≤ n ∧ i = .int .i64 (j : Int) ∧ v = .slice (some ⟨g, 0, none⟩) j c ∧ Own KF wr w.heap.size (.slice (some ⟨g, 0, none⟩) j c) ((bitsOf l).take j) ∧ Go.RowKit.Below w.heap.size w wr) (fun _ i _ => n - (intOf i).toNat)
  case atStart => exact ⟨0, w.heap.size, 0, by omega, rfl, rfl, Own.start w _ (Nat.le_refl _), (Go.RowKit.Below.refl _ w).alloc (Nat.le_refl _) _⟩
  case round =>
    obtain ⟨j, g, c, hj, rfl, rfl, hown, hB⟩ := hrel
    have hsz := hB.size
    have hlen : ((bitsOf l).take j).length = j := by simp [hbl]; omega
    by_cases hlt : j < n
    · obtain ⟨ga, off, rfl, hga, hrow⟩ : ∃ g off, a = some ⟨g, off, none⟩ ∧ g < w.heap.size ∧ ∀ j, j < l.length → w.cell? ⟨g, off + j, none⟩ = some (.int .u64 (l.getD j 0)) := by
        rcases hr with rfl | h'
        · simp at hn; omega
        · exact h'
      have HT := Lib.hid (bitsOf_take l j (by omega))
      have cx : wr.cell? ⟨ga, off + j, none⟩ = some (.int .u64 (l.getD j 0)) := (hB.cell (by exact hga)).trans (hrow j (by omega))
      obtain ⟨x, HX⟩ : ∃ x, Hid (l.getD j 0 = x) := ⟨_, rfl⟩
      rw [HX.out] at cx HT
      have hfr : ∀ w : World, (callFunc 35 #[.int .u64 x]).run Try.prog w = .ok (.value (.float .f64 x.toNat)) w := fromb x
      clear hr hrow
      go_wp2_with (at_builtin; refine app_e okF rfl _ _ rfl w.heap.size (by simp; omega) (.slice (some ⟨g, 0, none⟩) j c) ((bitsOf l).take j) rfl (hown.alloc _) _ 1 1 [x.toNat] rfl (CameE.new _) (by rw [hlen]; simp; omega) (fun h => by cases h) ?_)
      intro v' w' ho hb hnn
      have b2 := (hB.alloc (by omega) (.cells #[.float .f64 x.toNat] 62)).trans hb
      rw [HT.out] at ho
      have hlen2 : ((bitsOf l).take (j + 1)).length = j + 1 := by simp [hbl]; omega
      obtain ⟨h1, _⟩ | ⟨g', c', rfl, _, _, _, _⟩ := ho.lst
      · exact absurd h1 hnn
      rw [hlen2] at ho ⊢
      clear hown hB hb HT
      go_wp2_with fail
      go_roundw
      case rel => exact ⟨j + 1, g', c', by omega, by go_num, rfl, ho, b2⟩
      case measure => simp [intOf]; omega
    · obtain ⟨h1, _⟩ | ⟨g', c', e1, hg, _, _, hI⟩ := hown.lst
      · cases h1
      injection e1 with e1 e2 e3
      injection e1 with e1
      injection e1 with e1
      subst e1
      rw [List.take_of_length_le (by omega)] at hI
      have hjn : j = n := by omega
      clear hlen hbl hn hown e2 e3
      subst hjn
      go_wp2_with fail
      go_ret
      exact ⟨⟨g, ⟨c, rfl⟩, hg, hI⟩, hB⟩

theorem eq_of_getD {l k : List Nat} (h : l.length = k.length) (hj : ∀ j, j < l.length → l.getD j 0 = k.getD j 0) : l = k := by
  apply List.ext_getElem h
  intro j h1 h2
  have := hj j h1
  simpa [List.getD_eq_getElem?_getD, h1, h2] using this

set_option maxHeartbeats 1000000 in
theorem refSame_any (a a2 : Option Addr) (cap cap2 n n2 : Nat) (l k : List Nat) (hn : l.length = n) (hn2 : k.length = n2) (hb : n ≤ 1000) (hb2 : n2 ≤ 1000) (w : World) (hr : HoldsE KF w a l) (hr2 : HoldsE KF w a2 k) :
    Calls Try.prog 13 #[.slice a n cap, .slice a2 n2 cap2] w fun e w' => e = .returned (.bool (decide (l = k))) ∧ Go.RowKit.Below w.heap.size w w' := by
  by_cases hnn : n = n2
  · subst hnn
    go_enter Try.func13, Try.ntmps13
    go_wp2_with fail
    go_loopw [5] (fun i wr => ∃ j : Nat, j ≤ n ∧ i = .int .i64 (j : Int) ∧ Go.RowKit.Below w.heap.size w wr ∧ Hid (∀ t, t < j → l.getD t 0 = k.getD t 0)) (fun i _ => n - (intOf i).toNat)
    case atStart => exact ⟨0, by omega, rfl, Go.RowKit.Below.refl _ _, fun t ht => by omega⟩
    case round =>
      obtain ⟨j, hj, rfl, hB, HE⟩ := hrel
      by_cases hlt : j < n
      · obtain ⟨g, off, rfl, hg, hrow⟩ : ∃ g off, a = some ⟨g, off, none⟩ ∧ g < w.heap.size ∧ ∀ j, j < l.length → w.cell? ⟨g, off + j, none⟩ = some (.float .f64 (l.getD j 0)) := by
          rcases hr with rfl | h'
          · simp at hn; omega
          · exact h'
        obtain ⟨g2, off2, rfl, hg2, hrow2⟩ : ∃ g off, a2 = some ⟨g, off, none⟩ ∧ g < w.heap.size ∧ ∀ j, j < k.length → w.cell? ⟨g, off + j, none⟩ = some (.float .f64 (k.getD j 0)) := by
          rcases hr2 with rfl | h'
          · simp at hn2; omega
          · exact h'
        obtain ⟨x, HX⟩ : ∃ x, Hid (l.getD j 0 = x) := ⟨_, rfl⟩
        obtain ⟨y, HY⟩ : ∃ y, Hid (k.getD j 0 = y) := ⟨_, rfl⟩
        have c1 : wr.cell? ⟨g, off + j, none⟩ = some (.float .f64 x) := by rw [← HX.out]; exact (hB.cell (by exact hg)).trans (hrow j (by omega))
        have c2 : wr.cell? ⟨g2, off2 + j, none⟩ = some (.float .f64 y) := by rw [← HY.out]; exact (hB.cell (by exact hg2)).trans (hrow2 j (by omega))
        have HB : Hid (∀ n, Go.RowKit.Below w.heap.size w (wr.drewN n)) := fun n => ⟨hB.os, hB.tape, hB.output, hB.size, hB.block⟩
        have hj0 : (0 : Int) ≤ (j : Int) := by omega
        have hj1 : (j : Int) < (n : Int) := by omega
        have ht : ∀ (b : Nat) (w : World), (callFunc 34 #[.float .f64 b]).run Try.prog w = .ok (.value (.int .u64 (b : Int))) w := tob
        have HN := Lib.hid (And.intro hn hn2)
        clear hr hr2 hrow hrow2 hB hn hn2
        by_cases hxy : x = y
        · have HE2 : Hid (∀ t, t < j + 1 → l.getD t 0 = k.getD t 0) := fun t ht => by
            by_cases e : t = j
            · subst e; rw [HX.out, HY.out, hxy]
            · exact HE.out t (by omega)
          subst hxy
          clear HE
          go_wp2_with fail
          go_quiet (fail)
          go_wp2_with fail
          go_roundw
          case rel => exact ⟨j + 1, by omega, by go_num, HB.out _, HE2⟩
          case measure => simp [intOf]; omega
        · have hne : decide (l = k) = false := decide_eq_false (fun h => hxy (by rw [← HX.out, ← HY.out, h]))
          have hxb : ((x : Int) != (y : Int)) = true := by simp; omega
          go_wp2_with fail
          go_quiet (fail)
          go_wp2_with fail
          go_ret
          exact ⟨congrArg (fun b => Ending.returned (.bool b)) hne.symm, HB.out _⟩
      · have hd : decide (l = k) = true := decide_eq_true (eq_of_getD (by omega) (fun t ht => HE.out t (by omega)))
        clear hn hn2
        go_wp2_with fail
        go_ret
        exact ⟨congrArg (fun b => Ending.returned (.bool b)) hd.symm, hB⟩
  · have hnb : ((n : Int) == (n2 : Int)) = false := by simp; omega
    have hne : decide (l = k) = false := decide_eq_false (fun h => hnn (by rw [← hn, ← hn2, h]))
    clear hn hn2
    go_enter Try.func13, Try.ntmps13
    go_wp2_with fail
    go_ret
    exact ⟨congrArg (fun b => Ending.returned (.bool b)) hne.symm, Go.RowKit.Below.refl _ _⟩

end Go.Proofs.Ytjaogmbeoldefaa
