/-
  THE LIBRARY's SORT AT NUMBERS OF 64 BITS: a range parted by one of its numbers. Condition: at most 2^20 numbers.
-/
import Derived.Test.YtjaogmbeoldefaaSortPeq
import Derived.Sort.WalkC4
namespace Go.Proofs.Ytjaogmbeoldefaa
open Go.RowKit Go.Sort

set_option maxHeartbeats 8000000 in
set_option maxRecDepth 100000 in
theorem part_any (g off cap a b pivot : Nat) (d : Array Int) (hap : a ≤ pivot) (hpb : pivot < b) (hb : b ≤ d.size) (hsz : d.size ≤ 1048576) (w : World) (hA : Arr g off d w) :
    Calls Try.prog 71 #[.slice (some ⟨g, off, none⟩) d.size cap, .int .i64 (a : Int), .int .i64 (b : Int), .int .i64 (pivot : Int)] w fun e w' =>
      e = .returned (.tuple #[.int .i64 ((partition ltInt d a b pivot).1 : Nat), .bool (partition ltInt d a b pivot).2.1]) ∧ Arr g off (partition ltInt d a b pivot).2.2 w' ∧ But g w w' := by
  obtain ⟨hc, hf⟩ := hA.cells rfl
  obtain ⟨v, cv⟩ : ∃ v, (w.setCell ⟨g, off + a, none⟩ (.int .u64 (el d pivot))).cell? ⟨g, off + pivot, none⟩ = some v := ⟨_, (hA.set a (el d pivot) (by omega)).cell pivot (by simp; omega)⟩
  have HA0 := Lib.hid hA
  clear hA
  go_enter Try.func71, Try.ntmps71
  go_wp2_with fail
  go_region
  all_goals go_wp2_with fail
  obtain ⟨w1, hw1, hA1, hB1⟩ : ∃ w1, w1 = ((w.setCell ⟨g, off + a, none⟩ (.int .u64 (el d pivot))).setCell ⟨g, off + pivot, none⟩ (.int .u64 (el d a))).drew ∧ Arr g off (swp d a pivot) w1 ∧ But g w w1 :=
    ⟨_, rfl, (HA0.out.swap a pivot (by omega) (by omega)).drew, (But.swap _ _ _ _ _ _).drew⟩
  obtain ⟨dk, HK⟩ : ∃ dk, Hid (dk = swp d a pivot) := ⟨_, rfl⟩
  have hdk : dk.size = d.size := by rw [HK.out, size_swp]
  rw [← HK.out] at hA1
  have HA := Lib.hid hA1
  have HB := Lib.hid hB1
  clear hA1 hB1 HA0 cv hc hf
  obtain ⟨i, HI⟩ : ∃ i, Hid (i = a + 1) := ⟨_, rfl⟩
  obtain ⟨j, HJ⟩ : ∃ j, Hid (j = b - 1) := ⟨_, rfl⟩
  have hai : a < i := by have := HI.out; omega
  have hjb : j < b := by have := HJ.out; omega
  have hij : i ≤ j + 1 := by have := HI.out; have := HJ.out; omega
  rw [← hw1, show (a : Int) + 1 = (i : Int) by have := HI.out; omega, show (b : Int) - 1 = (j : Int) by have := HJ.out; omega]
  clear hw1
  go_loopw [10] (fun v wr => ∃ (i2 : Nat), v = .int .i64 (i2 : Int) ∧ i ≤ i2 ∧ i2 ≤ j + 1 ∧ Arr g off dk wr ∧ But g w wr ∧ Up (fun x => ltInt x dk[a]!) dk j i i2) (fun v _ => j + 1 - (intOf v).toNat)
  case atStart => exact ⟨i, rfl, Nat.le_refl _, hij, HA.out, HB.out, Up.refl _ _ _ _⟩
  case round =>
    obtain ⟨i2, rfl, hi2, hi2j, hA2, hB2, HU⟩ := hrel
    clear HA HB
    obtain ⟨hc, hf⟩ := hA2.cells hdk
    have HA := Lib.hid hA2
    have HB := Lib.hid hB2
    clear hA2 hB2
    go_wp2_with fail
    by_cases h1 : i2 ≤ j
    all_goals go_big_quiet (first | (go_at_call 69; refine Calls.quiet_of_same (less_same _ _ _)))
    all_goals go_wp2_with fail
    · have hl : ltInt (el dk i2) (el dk a) = true := by assumption
      go_roundw
      case rel => exact ⟨i2 + 1, by go_num, by omega, by omega, HA.out.drewN _, HB.out.drewN _, HU.go h1 hl⟩
      case measure => simp [intOf]; omega
    all_goals
      have HS : Hid (i2 = scanUp (fun x => ltInt x dk[a]!) dk j i) := HU.stop (by first | exact .inl h1 | (refine .inr ?_; assumption))
      clear HU hc hf h1
      go_loopw [11] (fun v wr => ∃ (j2 : Nat), v = .int .i64 (j2 : Int) ∧ i2 ≤ j2 + 1 ∧ j2 ≤ j ∧ Arr g off dk wr ∧ But g w wr ∧ Down (fun x => !ltInt x dk[a]!) dk i2 j j2) (fun v _ => (intOf v).toNat)
      case atStart => exact ⟨j, rfl, by omega, Nat.le_refl _, HA.out.drewN _, HB.out.drewN _, Down.refl _ _ _ _⟩
      case round =>
        obtain ⟨j2, rfl, hj2, hj2j, hA3, hB3, HD⟩ := hrel
        clear HA HB
        obtain ⟨hc, hf⟩ := hA3.cells hdk
        have HA := Lib.hid hA3
        have HB := Lib.hid hB3
        clear hA3 hB3
        go_wp2_with fail
        by_cases h2 : i2 ≤ j2
        all_goals go_big_quiet (first | (go_at_call 69; refine Calls.quiet_of_same (less_same _ _ _)))
        all_goals go_wp2_with fail
        · have hl : (!ltInt (el dk j2) (el dk a)) = true := by assumption
          go_roundw
          case rel => exact ⟨j2 - 1, by congr 1; omega, by omega, by omega, HA.out.drewN _, HB.out.drewN _, HD.go h2 (by omega) hl⟩
          case measure => simp [intOf]; omega
        all_goals have HT : Hid (j2 = scanDown (fun x => !ltInt x dk[a]!) dk i2 j) := HD.stop (by first | exact .inl h2 | (refine .inr ?_; assumption))
        all_goals clear HD
        · have hlt : i2 < j2 := part_scans_lt ltInt a i j dk (by omega) HS.out HT.out h2
          obtain ⟨w2, hw2, hA4, hB4⟩ : ∃ w2, w2 = wr.drewN nq ∧ Arr g off dk w2 ∧ But g w w2 := ⟨_, rfl, HA.out.drewN _, HB.out.drewN _⟩
          rw [← hw2]
          clear hw2 HA HB hc hf
          obtain ⟨hc, hf⟩ := hA4.cells hdk
          have HA := Lib.hid hA4
          have HB := Lib.hid hB4
          clear hA4 hB4
          have HF := Lib.hid (part_first_go ltInt d a b pivot HI.out HJ.out HK.out HS.out HT.out (by omega))
          obtain ⟨R, HR⟩ : ∃ R, Hid (partLoop ltInt a (i2 + 1) (j2 - 1) (swp dk i2 j2) = R) := ⟨_, rfl⟩
          rw [HR.out] at HF
          go_region
          all_goals go_wp2_with fail
          have hA5 : Arr g off (swp dk i2 j2) _ := HA.out.drew.swap i2 j2 (by omega) (by omega)
          have hB5 := HB.out.drew.trans (But.swap g (off + i2) (off + j2) _ (.int .u64 (el dk j2)) (.int .u64 (el dk i2)))
          go_loopw [10, 11] (fun v u wr => ∃ (i j : Nat) (dk : Array Int), v = .int .i64 (i : Int) ∧ u = .int .i64 (j : Int) ∧ a < i ∧ i ≤ j + 1 ∧ j < b ∧ dk.size = d.size ∧ Arr g off dk wr ∧ But g w wr ∧ Hid (partLoop ltInt a i j dk = R)) (fun v u _ => (intOf u).toNat + 1 - (intOf v).toNat)
          case atStart => exact ⟨i2 + 1, j2 - 1, swp dk i2 j2, by go_num, by congr 1; omega, by omega, by omega, by omega, by rw [size_swp]; exact hdk, hA5, hB5, HR⟩
          case round =>
            clear hA5 hB5 hc hf HA HB HR HS HT HK hdk
            obtain ⟨i, j, dk, rfl, rfl, hai, hij, hjb, hdk, hAk, hBk, HO⟩ := hrel
            have HA := Lib.hid hAk
            have HB := Lib.hid hBk
            clear hAk hBk
            go_wp2_with fail
            go_loopw [10] (fun v wr => ∃ (i2 : Nat), v = .int .i64 (i2 : Int) ∧ i ≤ i2 ∧ i2 ≤ j + 1 ∧ Arr g off dk wr ∧ But g w wr ∧ Up (fun x => ltInt x dk[a]!) dk j i i2) (fun v _ => j + 1 - (intOf v).toNat)
            case atStart => exact ⟨i, rfl, Nat.le_refl _, hij, HA.out, HB.out, Up.refl _ _ _ _⟩
            case round =>
              obtain ⟨i2, rfl, hi2, hi2j, hA2, hB2, HU⟩ := hrel
              clear HA HB
              obtain ⟨hc, hf⟩ := hA2.cells hdk
              have HA := Lib.hid hA2
              have HB := Lib.hid hB2
              clear hA2 hB2
              go_wp2_with fail
              by_cases h1 : i2 ≤ j
              all_goals go_big_quiet (first | (go_at_call 69; refine Calls.quiet_of_same (less_same _ _ _)))
              all_goals go_wp2_with fail
              · have hl : ltInt (el dk i2) (el dk a) = true := by assumption
                go_roundw
                case rel => exact ⟨i2 + 1, by go_num, by omega, by omega, HA.out.drewN _, HB.out.drewN _, HU.go h1 hl⟩
                case measure => simp [intOf]; omega
              all_goals
                have HS : Hid (i2 = scanUp (fun x => ltInt x dk[a]!) dk j i) := HU.stop (by first | exact .inl h1 | (refine .inr ?_; assumption))
                clear HU hc hf h1
                go_loopw [11] (fun v wr => ∃ (j2 : Nat), v = .int .i64 (j2 : Int) ∧ i2 ≤ j2 + 1 ∧ j2 ≤ j ∧ Arr g off dk wr ∧ But g w wr ∧ Down (fun x => !ltInt x dk[a]!) dk i2 j j2) (fun v _ => (intOf v).toNat)
                case atStart => exact ⟨j, rfl, by omega, Nat.le_refl _, HA.out.drewN _, HB.out.drewN _, Down.refl _ _ _ _⟩
                case round =>
                  obtain ⟨j2, rfl, hj2, hj2j, hA3, hB3, HD⟩ := hrel
                  clear HA HB
                  obtain ⟨hc, hf⟩ := hA3.cells hdk
                  have HA := Lib.hid hA3
                  have HB := Lib.hid hB3
                  clear hA3 hB3
                  go_wp2_with fail
                  by_cases h2 : i2 ≤ j2
                  all_goals go_big_quiet (first | (go_at_call 69; refine Calls.quiet_of_same (less_same _ _ _)))
                  all_goals go_wp2_with fail
                  · have hl : (!ltInt (el dk j2) (el dk a)) = true := by assumption
                    go_roundw
                    case rel => exact ⟨j2 - 1, by congr 1; omega, by omega, by omega, HA.out.drewN _, HB.out.drewN _, HD.go h2 (by omega) hl⟩
                    case measure => simp [intOf]; omega
                  all_goals have HT : Hid (j2 = scanDown (fun x => !ltInt x dk[a]!) dk i2 j) := HD.stop (by first | exact .inl h2 | (refine .inr ?_; assumption))
                  all_goals clear HD
                  · have hlt : i2 < j2 := part_scans_lt ltInt a i j dk (by omega) HS.out HT.out h2
                    obtain ⟨w2, hw2, hA4, hB4⟩ : ∃ w2, w2 = wr.drewN nq ∧ Arr g off dk w2 ∧ But g w w2 := ⟨_, rfl, HA.out.drewN _, HB.out.drewN _⟩
                    rw [← hw2]
                    clear hw2 HA HB hc hf
                    obtain ⟨hc, hf⟩ := hA4.cells hdk
                    have HA := Lib.hid hA4
                    have HB := Lib.hid hB4
                    clear hA4 hB4
                    go_region
                    all_goals go_wp2_with fail
                    go_roundw
                    case rel =>
                      refine ⟨i2 + 1, j2 - 1, swp dk i2 j2, by go_num, by congr 1; omega, by omega, by omega, by omega, by rw [size_swp]; exact hdk, HA.out.drew.swap i2 j2 (by omega) (by omega), HB.out.drew.trans (But.swap _ _ _ _ _ _), ?_⟩
                      show _ = _
                      rw [← HO.out, part_go ltInt a i j dk HS.out HT.out (by omega)]
                    case measure => simp [intOf]; omega
                  · obtain ⟨w2, hw2, hA4, hB4⟩ : ∃ w2, w2 = wr.drewN nq ∧ Arr g off dk w2 ∧ But g w w2 := ⟨_, rfl, HA.out.drewN _, HB.out.drewN _⟩
                    rw [← hw2]
                    clear hw2 HA HB hc hf
                    obtain ⟨hc, hf⟩ := hA4.cells hdk
                    have HA := Lib.hid hA4
                    have HB := Lib.hid hB4
                    clear hA4 hB4
                    obtain ⟨v, cv⟩ : ∃ v, (w2.setCell ⟨g, off + j2, none⟩ (.int .u64 (el dk a))).cell? ⟨g, off + a, none⟩ = some v := ⟨_, (HA.out.set j2 (el dk a) (by omega)).cell a (by simp; omega)⟩
                    have he : partition ltInt d a b pivot = (j2, false, swp dk j2 a) := by
                      have := HO.out
                      rw [part_break ltInt a i j dk HS.out HT.out (by omega)] at this
                      rw [HF.out, ← this]
                    go_region
                    all_goals go_wp2_with fail
                    go_ret2
                    rw [he]
                    exact ⟨rfl, HA.out.drew.swap j2 a (by omega) (by omega), HB.out.drew.trans (But.swap _ _ _ _ _ _)⟩
        · obtain ⟨w2, hw2, hA4, hB4⟩ : ∃ w2, w2 = wr.drewN nq ∧ Arr g off dk w2 ∧ But g w w2 := ⟨_, rfl, HA.out.drewN _, HB.out.drewN _⟩
          rw [← hw2]
          clear hw2 HA HB hc hf
          obtain ⟨hc, hf⟩ := hA4.cells hdk
          have HA := Lib.hid hA4
          have HB := Lib.hid hB4
          clear hA4 hB4
          obtain ⟨v, cv⟩ : ∃ v, (w2.setCell ⟨g, off + j2, none⟩ (.int .u64 (el dk a))).cell? ⟨g, off + a, none⟩ = some v := ⟨_, (HA.out.set j2 (el dk a) (by omega)).cell a (by simp; omega)⟩
          have he := part_first_break ltInt d a b pivot HI.out HJ.out HK.out HS.out HT.out (by omega)
          go_region
          all_goals go_wp2_with fail
          go_ret2
          rw [he]
          exact ⟨rfl, HA.out.drew.swap j2 a (by omega) (by omega), HB.out.drew.trans (But.swap _ _ _ _ _ _)⟩

end Go.Proofs.Ytjaogmbeoldefaa
