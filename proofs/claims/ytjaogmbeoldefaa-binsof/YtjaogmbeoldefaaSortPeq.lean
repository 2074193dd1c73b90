/-
  THE LIBRARY's SORT AT NUMBERS OF 64 BITS: a range parted into those that are the same as one of them and the greater ones. Condition: at most 2^20 numbers.
-/
import Derived.Test.YtjaogmbeoldefaaSortU
import Derived.BigRegion
import Derived.Sort.WalkC
namespace Go.Proofs.Ytjaogmbeoldefaa
open Go.RowKit Go.Sort

/-- The cells of a row, as a walk asks for them. -/
theorem Arr.cells {g off n : Nat} {d : Array Int} {w : World} (h : Arr g off d w) (hn : d.size = n) : (∀ t, t < n → w.cell? ⟨g, off + t, none⟩ = some (.int .u64 (el d t))) ∧ (∀ t, t < n → w.frozen? ⟨g, off + t, none⟩ = false) :=
  ⟨fun t ht => h.cell t (by omega), fun t ht => h.frozen t (by omega)⟩

/-- How far a scan has come. -/
def Up (p : Int → Bool) (dk : Array Int) (j i i2 : Nat) : Prop := scanUp p dk j i2 = scanUp p dk j i
def Down (p : Int → Bool) (dk : Array Int) (i j j2 : Nat) : Prop := scanDown p dk i j2 = scanDown p dk i j
theorem Up.refl (p : Int → Bool) (dk : Array Int) (j i : Nat) : Up p dk j i i := rfl
theorem Down.refl (p : Int → Bool) (dk : Array Int) (i j : Nat) : Down p dk i j j := rfl
theorem Up.go {p : Int → Bool} {dk : Array Int} {j i i2 : Nat} (h : Up p dk j i i2) (hij : i2 ≤ j) (hp : p (el dk i2) = true) : Up p dk j i (i2 + 1) := (scanUp_go p dk j i2 hij hp).symm.trans h
theorem Down.go {p : Int → Bool} {dk : Array Int} {i j j2 : Nat} (h : Down p dk i j j2) (hij : i ≤ j2) (h0 : 0 < j2) (hp : p (el dk j2) = true) : Down p dk i j (j2 - 1) := (scanDown_go p dk i j2 hij h0 hp).symm.trans h
theorem Up.stop {p : Int → Bool} {dk : Array Int} {j i i2 : Nat} (h : Up p dk j i i2) (hs : ¬ i2 ≤ j ∨ p (el dk i2) = false) : i2 = scanUp p dk j i := (scanUp_end p dk j i2 hs).symm.trans h
theorem Down.stop {p : Int → Bool} {dk : Array Int} {i j j2 : Nat} (h : Down p dk i j j2) (hs : ¬ i ≤ j2 ∨ p (el dk j2) = false) : j2 = scanDown p dk i j := (scanDown_end p dk i j2 hs).symm.trans h

set_option maxHeartbeats 4000000 in
theorem peq_any (g off cap a b pivot : Nat) (d : Array Int) (hap : a ≤ pivot) (hpb : pivot < b) (hb : b ≤ d.size) (hsz : d.size ≤ 1048576) (w : World) (hA : Arr g off d w) :
    Calls Try.prog 70 #[.slice (some ⟨g, off, none⟩) d.size cap, .int .i64 (a : Int), .int .i64 (b : Int), .int .i64 (pivot : Int)] w fun e w' =>
      e = .returned (.int .i64 ((partitionEqual ltInt d a b pivot).1 : Nat)) ∧ Arr g off (partitionEqual ltInt d a b pivot).2 w' ∧ But g w w' := by
  obtain ⟨hc, hf⟩ := hA.cells rfl
  obtain ⟨v, cv⟩ : ∃ v, (w.setCell ⟨g, off + a, none⟩ (.int .u64 (el d pivot))).cell? ⟨g, off + pivot, none⟩ = some v := ⟨_, (hA.set a (el d pivot) (by omega)).cell pivot (by simp; omega)⟩
  have HA := Lib.hid hA
  clear hA
  go_enter Try.func70, Try.ntmps70
  go_wp2_with fail
  go_region
  all_goals go_wp2_with fail
  have hA1 : Arr g off (swp d a pivot) _ := HA.out.drew.swap a pivot (by omega) (by omega)
  have hB1 := (But.refl g w).drew.trans (But.swap g (off + a) (off + pivot) _ (.int .u64 (el d pivot)) (.int .u64 (el d a)))
  go_loopw [9, 10] (fun v u wr => ∃ (i j : Nat) (dk : Array Int), v = .int .i64 (i : Int) ∧ u = .int .i64 (j : Int) ∧ a < i ∧ i ≤ j + 1 ∧ j < b ∧ dk.size = d.size ∧ Arr g off dk wr ∧ But g w wr ∧ Hid (partEqLoop ltInt a i j dk = partitionEqual ltInt d a b pivot)) (fun v u _ => (intOf u).toNat + 1 - (intOf v).toNat)
  case atStart => exact ⟨a + 1, b - 1, swp d a pivot, by go_num, by congr 1; omega, by omega, by omega, by omega, size_swp _ _ _, hA1, hB1, rfl⟩
  case round =>
    obtain ⟨i, j, dk, rfl, rfl, hai, hij, hjb, hdk, hAk, hBk, HO⟩ := hrel
    clear hA1 hB1 hc hf cv HA
    go_wp2_with fail
    go_loopw [9] (fun v wr => ∃ (i2 : Nat), v = .int .i64 (i2 : Int) ∧ i ≤ i2 ∧ i2 ≤ j + 1 ∧ Arr g off dk wr ∧ But g w wr ∧ Up (fun x => !ltInt dk[a]! x) dk j i i2) (fun v _ => j + 1 - (intOf v).toNat)
    case atStart => exact ⟨i, rfl, Nat.le_refl _, hij, hAk, hBk, Up.refl _ _ _ _⟩
    case round =>
      obtain ⟨i2, rfl, hi2, hi2j, hA2, hB2, HU⟩ := hrel
      clear hAk hBk
      obtain ⟨hc, hf⟩ := hA2.cells hdk
      have HA := Lib.hid hA2
      have HB := Lib.hid hB2
      clear hA2 hB2
      go_wp2_with fail
      by_cases h1 : i2 ≤ j
      all_goals go_big_quiet (first | (go_at_call 69; refine Calls.quiet_of_same (less_same _ _ _)))
      all_goals go_wp2_with fail
      · have hl : (!ltInt (el dk a) (el dk i2)) = true := by assumption
        go_roundw
        case rel => exact ⟨i2 + 1, by go_num, by omega, by omega, HA.out.drewN _, HB.out.drewN _, HU.go h1 hl⟩
        case measure => simp [intOf]; omega
      all_goals
        have HS : Hid (i2 = scanUp (fun x => !ltInt dk[a]! x) dk j i) := HU.stop (by first | exact .inl h1 | (refine .inr ?_; assumption))
        clear HU hc hf h1
        go_loopw [10] (fun v wr => ∃ (j2 : Nat), v = .int .i64 (j2 : Int) ∧ i2 ≤ j2 + 1 ∧ j2 ≤ j ∧ Arr g off dk wr ∧ But g w wr ∧ Down (fun x => ltInt dk[a]! x) dk i2 j j2) (fun v _ => (intOf v).toNat)
        case atStart => exact ⟨j, rfl, by omega, Nat.le_refl _, HA.out.drewN _, HB.out.drewN _, Down.refl _ _ _ _⟩
        case round =>
          obtain ⟨j2, rfl, hj2, hj2j, hA3, hB3, HD⟩ := hrel
          clear HA HB
          obtain ⟨hc, hf⟩ := hA3.cells hdk
          have HA := Lib.hid hA3
          have HB := Lib.hid hB3
          clear hA3 hB3
          go_wp2_with fail
          by_cases h2 : i2 ≤ j2
          all_goals go_big_quiet (first | (go_at_call 69; refine Calls.quiet_of_same (less_same _ _ _)))
          all_goals go_wp2_with fail
          · have hl : ltInt (el dk a) (el dk j2) = true := by assumption
            go_roundw
            case rel => exact ⟨j2 - 1, by congr 1; omega, by omega, by omega, HA.out.drewN _, HB.out.drewN _, HD.go h2 (by omega) hl⟩
            case measure => simp [intOf]; omega
          all_goals have HT : Hid (j2 = scanDown (fun x => ltInt dk[a]! x) dk i2 j) := HD.stop (by first | exact .inl h2 | (refine .inr ?_; assumption))
          all_goals clear HD
          · have hlt : i2 < j2 := scans_lt ltInt a i j dk (by omega) HS.out HT.out h2
            obtain ⟨w2, hw2, hA4, hB4⟩ : ∃ w2, w2 = wr.drewN nq ∧ Arr g off dk w2 ∧ But g w w2 := ⟨_, rfl, HA.out.drewN _, HB.out.drewN _⟩
            rw [← hw2]
            clear hw2 HA HB hc hf
            obtain ⟨hc, hf⟩ := hA4.cells hdk
            have HA := Lib.hid hA4
            have HB := Lib.hid hB4
            clear hA4 hB4
            go_region
            all_goals go_wp2_with fail
            go_roundw
            case rel =>
              refine ⟨i2 + 1, j2 - 1, swp dk i2 j2, by go_num, by congr 1; omega, by omega, by omega, by omega, by rw [size_swp]; exact hdk, HA.out.drew.swap i2 j2 (by omega) (by omega), HB.out.drew.trans (But.swap _ _ _ _ _ _), ?_⟩
              show _ = _
              rw [← HO.out, partEq_go ltInt a i j dk HS.out HT.out (by omega)]
            case measure => simp [intOf]; omega
          · have he : partitionEqual ltInt d a b pivot = (i2, dk) := by rw [← HO.out]; exact partEq_break ltInt a i j dk HS.out HT.out (by omega)
            go_ret
            rw [he]
            exact ⟨rfl, HA.out.drewN _, HB.out.drewN _⟩

end Go.Proofs.Ytjaogmbeoldefaa
