/-
  THE DOCUMENT's: those that aren't missing, in order; the edges. Condition: at most 1000 values, of 64 bits each.
-/
import Derived.Test.YtjaogmbeoldefaaEdgeR
import Derived.Test.YtjaogmbeoldefaaEdgeN
import Derived.Maps.AppendAt
import Derived.RangeFuncBox
namespace Go.Proofs.Ytjaogmbeoldefaa
open Go.RowKit

/-- Those that aren't missing, of the first j in order. -/
def thereTo (o : List Nat) (j : Nat) : List Nat := (o.take j).filter fun b => !decide (mis b)
theorem thereTo_yes {o : List Nat} {j : Nat} (hj : j < o.length) (h : mis (o.getD j 0)) : thereTo o (j + 1) = thereTo o j := by
  unfold thereTo
  rw [List.take_add_one, List.getElem?_eq_getElem hj, List.filter_append]
  have : o.getD j 0 = o[j] := by simp [List.getD_eq_getElem?_getD, hj]
  rw [this] at h
  simp [h]
theorem thereTo_no {o : List Nat} {j : Nat} (hj : j < o.length) (h : ¬ mis (o.getD j 0)) : thereTo o (j + 1) = thereTo o j ++ [o.getD j 0] := by
  unfold thereTo
  rw [List.take_add_one, List.getElem?_eq_getElem hj, List.filter_append]
  have : o.getD j 0 = o[j] := by simp [List.getD_eq_getElem?_getD, hj]
  rw [this] at h ⊢
  simp [h]
theorem thereTo_all {o : List Nat} {j : Nat} (hj : o.length ≤ j) : thereTo o j = o.filter fun b => !decide (mis b) := by
  unfold thereTo; rw [List.take_of_length_le hj]
theorem thereTo_len (o : List Nat) (j : Nat) : (thereTo o j).length ≤ j := by
  unfold thereTo
  have := List.length_filter_le (fun b => !decide (mis b)) (o.take j)
  rw [List.length_take] at this
  omega

/-- A row of values is handed back. -/
def GotR (e : Ending) (w : World) (B : Nat) (E : List Nat) : Prop := ∃ g c, e = .returned (.slice (some ⟨g, 0, none⟩) E.length c) ∧ B ≤ g ∧ Lst KF g 0 E w

theorem infoR : (Try.prog.info? 62).map (fun i => (i.zero, i.size, i.bytes)) = some (some (.float .f64 0), 1, 8) := by kernel_rfl

set_option maxRecDepth 100000 in
set_option maxHeartbeats 2000000 in
theorem refThere_any (a : Option Addr) (cap n : Nat) (l : List Nat) (hn : l.length = n) (hb : n ≤ 1000) (h64 : Bits64 l) (w : World) (hr : HoldsE KF w a l) :
    Calls Try.prog 47 #[.slice a n cap] w fun e w' => GotR e w' w.heap.size (thereL l) ∧ Go.RowKit.Below w.heap.size w w' := by
  obtain ⟨i0, hi, hz0, hz1, hz2⟩ := info_parts infoR
  have ow : Own KF (w.alloc (.cells #[] 62)) w.heap.size (.slice (some ⟨w.heap.size, 0, none⟩) 0 0) [] := Own.start (K := KF) w w.heap.size (Nat.le_refl _)
  have bA := (Go.RowKit.Below.refl w.heap.size w).alloc (Nat.le_refl _) (.cells #[] 62)
  have hr2 := hr.below bA
  have C := refSort_any a n cap l hn hb h64 (w.alloc (.cells #[] 62)) hr2
  have sA : (w.alloc (.cells #[] 62)).heap.size = w.heap.size + 1 := by simp
  have HI := Lib.hid (inOrder_bits h64)
  have HL : Hid ((inOrder l).length = n) := by show _ = _; rw [inOrder_len]; exact hn
  have HT : Hid ((inOrder l).filter (fun b => !decide (mis b)) = thereL l) := rfl
  obtain ⟨o, HO⟩ : ∃ o, Hid (inOrder l = o) := ⟨_, rfl⟩
  rw [HO.out] at C HI HL HT
  have HNB := Lib.hid hb
  clear hr hr2 hn hb h64
  generalize hwA : w.alloc (.cells #[] 62) = wA at *
  have HWA := Lib.hid hwA
  clear hwA
  go_enter Try.func47, Try.ntmps47
  go_wp2_with fail
  rw [HWA.out]
  refine C.mono ?_
  rintro e w2 ⟨⟨g, c, rfl, hgA, hL⟩, hB2⟩
  have HB2 := Lib.hid (bA.trans (hB2.mono bA.size))
  have ow2 : Own KF w2 w.heap.size (.slice (some ⟨w.heap.size, 0, none⟩) 0 0) [] := ow.kept (hB2.block w.heap.size (by omega))
  have hgw : w.heap.size < g := by omega
  clear C ow bA hB2 sA hgA
  go_wp2_with fail
  go_loopw [3, 5] (fun v i wr => ∃ (j k go co : Nat), j ≤ n ∧ i = .int .i64 (j : Int) ∧ (thereTo o j).length = k ∧ v = .slice (some ⟨go, 0, none⟩) k co ∧ Own KF wr w.heap.size (.slice (some ⟨go, 0, none⟩) k co) (thereTo o j) ∧ go ≠ g ∧ Lst KF g 0 o wr ∧ Go.RowKit.Below w.heap.size w wr) (fun _ i _ => n - (intOf i).toNat)
  case atStart => exact ⟨0, 0, w.heap.size, 0, by omega, rfl, rfl, rfl, ow2, by omega, hL, HB2.out⟩
  case round =>
    obtain ⟨j, k, go, co, hj, rfl, hk, rfl, hown, hgo, hL, hB⟩ := hrel
    clear ow2
    by_cases hlt : j < n
    · have hjl : j < o.length := by have := HL.out; omega
      have cx : wr.cell? ⟨g, 0 + j, none⟩ = some (.float .f64 (o.getD j 0)) := hL.cell j hjl
      rw [Nat.zero_add] at cx
      have hx : o.getD j 0 < 18446744073709551616 := HI.out.at hjl
      have hj1 : (j : Int) < (n : Int) := by omega
      have hj2 : (j : Int) ≤ 1048576 := by have := HNB.out; omega
      have HJ := Lib.hid hlt
      by_cases hm : mis (o.getD j 0)
      · have HT1 : Hid (thereTo o (j + 1) = thereTo o j) := thereTo_yes hjl hm
        obtain ⟨x, HX⟩ : ∃ x, Hid (o.getD j 0 = x) := ⟨_, rfl⟩
        rw [HX.out] at cx hx hm
        have hmd : decide (mis x) = true := decide_eq_true hm
        have HH := Lib.hid (And.intro hk (And.intro hown (And.intro hgo (And.intro hL hB))))
        clear hm hjl hlt hk hown hgo hL hB
        go_wp2_with (go_at_call 27; refine (refMissing_any x hx _).mono ?_; rintro e w' ⟨rfl, rfl⟩)
        go_roundw
        case rel => have h1 := HJ.out; exact ⟨j + 1, k, go, co, by omega, by go_num, by rw [HT1.out]; exact HH.out.1, rfl, by rw [HT1.out]; exact HH.out.2.1, HH.out.2.2.1, HH.out.2.2.2.1, HH.out.2.2.2.2⟩
        case measure => have h1 := HJ.out; simp [intOf]; omega
      · have HT1 : Hid (thereTo o (j + 1) = thereTo o j ++ [o.getD j 0]) := thereTo_no hjl hm
        have HK2 : Hid (k + 1 ≤ 1001) := by have := thereTo_len o j; have := HNB.out; show _ ≤ _; omega
        obtain ⟨x, HX⟩ : ∃ x, Hid (o.getD j 0 = x) := ⟨_, rfl⟩
        rw [HX.out] at cx hx hm HT1
        have hmd : decide (mis x) = false := decide_eq_false hm
        have hgo0 : w.heap.size ≤ go := by
          obtain ⟨h1, _⟩ | ⟨g', c', e1, hg', _, _, _⟩ := hown.lst
          · cases h1
          · injection e1 with e1; injection e1 with e1; injection e1 with e1; omega
        have hown2 : wr.ownsRow w.heap.size 62 1 (.slice (some ⟨go, 0, none⟩) k co) k ((thereTo o j).map (Value.float .f64)) := by
          have h := hown
          unfold Own at h
          rw [hk] at h
          exact h
        have hgl := hL.lt
        have bA := (Go.RowKit.Below.refl wr.heap.size wr).alloc (Nat.le_refl _) (.cells #[.float .f64 x] 62)
        have HL2 := Lib.hid (hL.below bA hgl)
        have cx2 : (wr.alloc (.cells #[.float .f64 x] 62)).cell? ⟨g, j, none⟩ = some (.float .f64 x) := (bA.cell (by exact hgl)).trans cx
        have HBA := Lib.hid (hB.alloc hB.size (.cells #[.float .f64 x] 62))
        have HSZ := Lib.hid hB.size
        have HGL := Lib.hid hgl
        have HGO := Lib.hid (And.intro hgo hgo0)
        have HKL := Lib.hid hk
        clear hm hjl hlt hk hown hgo hL hB bA hgo0 hgl
        go_wp2_with (first
          | (go_at_call 27; refine (refMissing_any x hx _).mono ?_; rintro e w' ⟨rfl, rfl⟩)
          | (at_builtin; refine wpList_append_own_at _ rfl _ _ 31 rfl w.heap.size 62 i0 (.float .f64 0) 1 8 Try.underlying31 hi hz0 hz1 hz2 rfl (by decide) _ _ _ rfl (hown2.alloc _) ⟨wr.heap.size, 0, none⟩ 1 1 [.float .f64 x] rfl rfl (cell_one_new _ _ _) (by simp [Value.oneCell']) (by have := HK2.out; unfold maxLen; omega) (by have := HK2.out; omega) (by have := HSZ.out; simp; omega) ?_))
        intro v' w' ho hg hnil hat
        obtain ⟨g', cap', rfl⟩ := ownsRow_succ ho
        have HO2 : Hid (Own KF w' w.heap.size (.slice (some ⟨g', 0, none⟩) (k + 1) cap') (thereTo o (j + 1))) := by
          show Own _ _ _ _ _
          rw [HT1.out]
          unfold Own
          rw [List.length_append, HKL.out, List.map_append]
          exact ho
        have HG2 : Hid (g' ≠ g) := by
          have := HGL.out
          have := HGO.out.1
          simp [Value.ownBlock] at hat
          show _ ≠ _
          omega
        have HL3 : Hid (Lst KF g 0 o w') := HL2.out.kept (hg.block g HL2.out.lt (by have := HGO.out.1; simp [Value.ownBlock]; omega))
        have HB3 : Hid (Go.RowKit.Below w.heap.size w w') := HBA.out.grown hg HBA.out.size (fun q hq => by simp [Value.ownBlock] at hq; have := HGO.out.2; omega)
        clear ho hg hnil hat hown2 cx2 cx
        go_wp2_with fail
        go_roundw
        case rel => have h1 := HJ.out; exact ⟨j + 1, k + 1, g', cap', by omega, by go_num, by rw [HT1.out, List.length_append, HKL.out]; rfl, rfl, HO2.out, HG2.out, HL3.out, HB3.out⟩
        case measure => have h1 := HJ.out; simp [intOf]; omega
    · have HA : Hid (thereTo o j = thereL l) := by show _ = _; rw [thereTo_all (by have := HL.out; omega), HT.out]
      have HGR : Hid (GotR (.returned (.slice (some ⟨go, 0, none⟩) k co)) wr w.heap.size (thereL l)) := by
        rw [HA.out] at hk hown
        obtain ⟨h1, _⟩ | ⟨g', c', e1, hg', _, _, hl'⟩ := hown.lst
        · cases h1
        · injection e1 with e1 e2 e3; injection e1 with e1; injection e1 with e1; subst e1 e3
          exact ⟨go, co, by rw [hk], hg', hl'⟩
      clear hk hown hL HT HA
      go_wp2_with fail
      go_ret
      exact ⟨HGR.out, hB⟩

end Go.Proofs.Ytjaogmbeoldefaa
