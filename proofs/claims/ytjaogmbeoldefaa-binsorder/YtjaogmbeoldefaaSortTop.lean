/-
  THE LIBRARY's SORT AT NUMBERS OF 64 BITS: what it leaves is a permutation of what was there, rising; nothing else that was there turns. Condition: at most 2^20 numbers.
-/
import Derived.Test.YtjaogmbeoldefaaSortIns
import Derived.Test.YtjaogmbeoldefaaSortRev
import Derived.Test.YtjaogmbeoldefaaSortHeap
import Derived.Test.YtjaogmbeoldefaaSortPart
import Derived.Test.YtjaogmbeoldefaaSortPins
import Derived.Test.YtjaogmbeoldefaaSortPivot
import Derived.Test.YtjaogmbeoldefaaSortBrk
import Derived.Deep.DeepCutAuto
import Derived.Sort.LotD3
import Derived.Sort.LotB
namespace Go.Proofs.Ytjaogmbeoldefaa
open Go.RowKit Go.Sort

/-- What a range's sort must still do, for the whole to be done. -/
def Rest (a b : Nat) (d : Array Int) (a' b' : Nat) (dk : Array Int) : Prop := ∀ R, PermIn a' b' dk R → SortedIn ltInt a' b' R → PermIn a b d R ∧ SortedIn ltInt a b R
theorem Rest.perm {a b a' b' : Nat} {d dk d1 : Array Int} (h : Rest a b d a' b' dk) (hp : PermIn a' b' dk d1) : Rest a b d a' b' d1 := fun R h1 h2 => h R (permIn_trans _ _ _ _ _ hp h1) h2

set_option maxHeartbeats 8000000 in
set_option maxRecDepth 100000 in
theorem pdq_any : ∀ (N g off cap a b : Nat) (lim : Int) (d : Array Int) (w : World), b - a < N → 0 ≤ lim → lim ≤ 100 → a ≤ b → b ≤ d.size → d.size ≤ 1048576 → Sort.Below ltInt a b d → Arr g off d w →
    Calls Try.prog 58 #[.slice (some ⟨g, off, none⟩) d.size cap, .int .i64 (a : Int), .int .i64 (b : Int), .int .i64 lim] w fun e w' =>
      ∃ d', e = .returned (.tuple #[]) ∧ (PermIn a b d d' ∧ SortedIn ltInt a b d') ∧ Arr g off d' w' ∧ But g w w' := by
  intro N
  induction N with
  | zero => intro g off cap a b lim d w h; omega
  | succ N ih =>
    intro g off cap a b lim d w hN hl0 hl1 hab hb hsz hBel hA
    have HIH := Lib.hid ih
    have HBel := Lib.hid hBel
    clear ih hBel
    go_enter Try.func58, Try.ntmps58
    go_wp2_with fail
    go_loopw [1, 2, 3, 8, 9] (fun va vb vl vw vp wr => ∃ (a' b' : Nat) (l' : Int) (wb wp : Bool) (dk : Array Int), va = .int .i64 (a' : Int) ∧ vb = .int .i64 (b' : Int) ∧ vl = .int .i64 l' ∧ vw = .bool wb ∧ vp = .bool wp ∧ (0 ≤ l' ∧ l' ≤ 100) ∧ (a ≤ a' ∧ a' ≤ b' ∧ b' ≤ b) ∧ dk.size = d.size ∧ Arr g off dk wr ∧ But g w wr ∧ Hid (Sort.Below ltInt a' b' dk) ∧ Hid (Rest a b d a' b' dk)) (fun va vb _ _ _ _ => (intOf vb).toNat - (intOf va).toNat)
    case atStart => exact ⟨a, b, lim, true, true, d, rfl, rfl, rfl, rfl, rfl, ⟨hl0, hl1⟩, ⟨Nat.le_refl _, hab, Nat.le_refl _⟩, rfl, hA, But.refl _ _, HBel, fun R h1 h2 => ⟨h1, h2⟩⟩
    case round =>
      obtain ⟨a', b', l', wb, wp, dk, rfl, rfl, rfl, rfl, rfl, ⟨hl2, hl3⟩, ⟨haa, hab', hbb⟩, hdk, hAk, hBk, HBe, HRe⟩ := hrel
      clear hA HBel
      by_cases h12 : b' ≤ a' + 12
      · have C := ins_any g off cap a' b' dk hab' (by omega) (by omega) wr hAk
        rw [hdk] at C
        have hp := insertionSort_holds swo_ltInt dk a' b' hab' (by omega)
        have HP := Lib.hid (HRe.out _ hp.1 hp.2)
        clear hp
        go_wp2_with fail
        refine C.mono ?_
        rintro e w1 ⟨rfl, hA1, hB1⟩
        go_wp2_with fail
        go_returns
        exact ⟨_, rfl, HP.out, hA1, hBk.trans hB1⟩
      · by_cases hz : l' = 0
        · have hz' : (l' == 0) = true := by simpa using hz
          have C := heap_any g off cap a' b' dk (by omega) (by omega) (by omega) wr hAk
          rw [hdk] at C
          have hp := heapSort_holds swo_ltInt dk a' b' hab' (by omega)
          have HP := Lib.hid (HRe.out _ hp.1 hp.2)
          clear hp hz
          go_wp2_with fail
          refine C.mono ?_
          rintro e w1 ⟨rfl, hA1, hB1⟩
          go_wp2_with fail
          go_returns
          exact ⟨_, rfl, HP.out, hA1, hBk.trans hB1⟩
        · have hz' : (l' == 0) = false := by simpa using hz
          have hz1 : 1 ≤ l' := by omega
          have HBk := Lib.hid hBk
          clear hz hBk
          go_upto_if 35 with fail
          go_cut [3] (fun s3 wx => ∃ (L : Int) (d1 : Array Int), s3 = .int .i64 L ∧ (0 ≤ L ∧ L ≤ 100) ∧ d1.size = d.size ∧ Arr g off d1 wx ∧ But g w wx ∧ Hid (Sort.Below ltInt a' b' d1) ∧ Hid (Rest a b d a' b' d1))
          case first =>
            cases wb
            · have C := break_any g off cap a' b' dk (by omega) (by omega) (by omega) wr hAk
              rw [hdk] at C
              go_wp2_with fail
              refine C.mono ?_
              rintro e w1 ⟨d1, rfl, hP1, hA1, hB1⟩
              have HP1 := Lib.hid hP1
              clear C hP1
              go_wp2_with fail
              go_meet
              exact ⟨l' - 1, d1, rfl, by omega, HP1.out.1.trans hdk, hA1, HBk.out.trans hB1, HBe.out.perm (by omega) HP1.out, HRe.out.perm HP1.out⟩
            · go_wp2_with fail
              go_meet
              exact ⟨l', dk, rfl, by omega, hdk, hAk, HBk.out, HBe, HRe⟩
          case rest =>
            obtain ⟨L, d1, rfl, ⟨hL0, hL1⟩, hd1, hA1, hB1, HBe1, HRe1⟩ := hcut
            clear HBe HRe hAk HBk hdk hz' hz1 hl2 hl3
            have C := pivot_any g off cap a' b' d1 (by omega) (by omega) (by omega) wc hA1
            rw [hd1] at C
            go_wp2_with fail
            refine C.mono ?_
            rintro e w2 ⟨p, h, rfl, ⟨hp1, hp2⟩, hh, hA2, hB2⟩
            have HB2 := Lib.hid (hB1.trans (But.of_below hB2))
            clear C hA1 hB1 hB2
            go_upto_if 50 with fail
            go_cut [11, 12] (fun s11 s12 wx => ∃ (p2 : Nat) (h2 : Int) (d2 : Array Int), s11 = .int .i64 (p2 : Int) ∧ s12 = .int .i64 h2 ∧ (a' ≤ p2 ∧ p2 < b') ∧ d2.size = d.size ∧ Arr g off d2 wx ∧ But g w wx ∧ Hid (Sort.Below ltInt a' b' d2) ∧ Hid (Rest a b d a' b' d2))
            case first =>
              by_cases h2 : h = 2
              · have h2b : (h == 2) = true := by simpa using h2
                have C := rev_any g off cap a' b' d1 (by omega) (by omega) (by omega) w2 hA2
                rw [hd1] at C
                have hR := reverseRange_holds d1 a' b' hab' (by omega)
                obtain ⟨d2, hd2⟩ : ∃ d2, reverseRange d1 a' b' = d2 := ⟨_, rfl⟩
                rw [hd2] at C hR
                have HR := Lib.hid hR
                clear hd2 hR h2
                obtain ⟨p2, hpp, hq1, hq2⟩ : ∃ p2 : Nat, (b' : Int) - 1 - ((p : Int) - (a' : Int)) = (p2 : Int) ∧ a' ≤ p2 ∧ p2 < b' := ⟨b' - 1 - (p - a'), by omega, by omega, by omega⟩
                go_wp2_with fail
                refine C.mono ?_
                rintro e w3 ⟨rfl, hA3, hB3⟩
                go_wp2_with fail
                go_meet
                exact ⟨p2, 1, d2, rfl, rfl, ⟨hq1, hq2⟩, HR.out.1.trans hd1, hA3, HB2.out.trans hB3, HBe1.out.perm (by omega) HR.out, HRe1.out.perm HR.out⟩
              · have h2b : (h == 2) = false := by simpa using h2
                go_wp2_with fail
                go_meet
                exact ⟨p, h, d1, rfl, rfl, ⟨hp1, hp2⟩, hd1, hA2, HB2.out, HBe1, HRe1⟩
            case rest =>
              clear hA2 HB2 HBe1 HRe1 hd1 hp1 hp2 hh
              obtain ⟨p2, h2, d2, rfl, rfl, ⟨hq1, hq2⟩, hd3, hA3, hB3, HBe3, HRe3⟩ := hcut
              have HB3 := Lib.hid hB3
              clear hB3
              obtain ⟨w3, hw3⟩ : ∃ w3, w3 = wc := ⟨_, rfl⟩
              subst hw3
              go_upto_region 15 with fail
              go_cut [68] (fun s68 wx => (∃ T, s68 = .bool T) ∧ wx = w3)
              case first =>
                cases wb
                · go_wp2_with fail
                  go_meet
                  exact ⟨⟨_, rfl⟩, rfl⟩
                · cases wp
                  · go_wp2_with fail
                    go_meet
                    exact ⟨⟨_, rfl⟩, rfl⟩
                  · go_wp2_with fail
                    go_meet
                    exact ⟨⟨_, rfl⟩, rfl⟩
              case rest =>
                obtain ⟨⟨T, rfl⟩, hw⟩ := hcut
                subst hw
                go_upto_if 68 with fail
                go_cut [12] (fun _ wx => ∃ (d4 : Array Int), d4.size = d.size ∧ Arr g off d4 wx ∧ But g w wx ∧ Hid (Sort.Below ltInt a' b' d4) ∧ Hid (Rest a b d a' b' d4))
                case first =>
                  cases T
                  · go_wp2_with fail
                    go_meet
                    exact ⟨d2, hd3, hA3, HB3.out, HBe3, HRe3⟩
                  · have C := pins_any g off cap a' b' d2 (by omega) (by omega) (by omega) wc hA3
                    rw [hd3] at C
                    have hP := partialInsertionSort_holds swo_ltInt d2 a' b' (by omega) (by omega) HBe3.out
                    obtain ⟨⟨d4, r⟩, hr⟩ : ∃ x, partialInsertionSort ltInt d2 a' b' = x := ⟨_, rfl⟩
                    rw [hr] at C hP
                    simp only [] at C hP
                    have HP := Lib.hid hP
                    clear hr hP
                    go_wp2_with fail
                    refine C.mono ?_
                    rintro e w4 ⟨rfl, hA4, hB4⟩
                    clear C
                    cases r
                    · go_wp2_with fail
                      go_meet
                      exact ⟨d4, HP.out.1.1.trans hd3, hA4, HB3.out.trans hB4, HBe3.out.perm (by omega) HP.out.1, HRe3.out.perm HP.out.1⟩
                    · have HF := Lib.hid ((HRe3.out.perm HP.out.1) d4 (permIn_refl _ _ _) (HP.out.2 rfl))
                      go_wp2_with fail
                      go_returns
                      exact ⟨d4, rfl, HF.out, hA4, HB3.out.trans hB4⟩
                case rest =>
                  clear hA3 HB3 HBe3 HRe3 hd3
                  obtain ⟨d4, hd4, hA4, hB4, HBe, HRe⟩ := hcut
                  obtain ⟨w4, hw4⟩ : ∃ w4, w4 = wc := ⟨_, rfl⟩
                  subst hw4
                  obtain ⟨hc, hf⟩ := hA4.cells hd4
                  have HA := Lib.hid hA4
                  have HB := Lib.hid hB4
                  clear hA4 hB4
                  go_wp2_with fail
                  by_cases h0 : 0 < a'
                  all_goals go_big_quiet (first | (go_at_call 69; refine Calls.quiet_of_same (less_same _ _ _)))
                  all_goals go_wp2_with fail
                  all_goals first
                    | (go_at_call 70
                       have C := peq_any g off cap a' b' p2 d4 hq1 hq2 (by omega) (by omega) _ (HA.out.drewN nq)
                       rw [hd4] at C
                       have hnl' : (!ltInt (el d4 (a' - 1)) (el d4 p2)) = true := by assumption
                       have hnl : ltInt (el d4 (a' - 1)) (el d4 p2) = false := by simpa using hnl'
                       obtain ⟨⟨mid, d5⟩, hx⟩ : ∃ x, partitionEqual ltInt d4 a' b' p2 = x := ⟨_, rfl⟩
                       obtain ⟨m1, m2, hs5, hBe5, hRR⟩ := round_eq swo_ltInt (partitionEqual_holds ltInt) h0 hq1 hq2 (by omega) HBe.out hnl hx
                       rw [hx] at C
                       simp only [] at C
                       have hd5 : d5.size = d.size := hs5.trans hd4
                       have HBe5 := Lib.hid hBe5
                       have HRe5 : Hid (Rest a b d mid b' d5) := fun R h1 h2 => HRe.out R (hRR R h1 h2).1 (hRR R h1 h2).2
                       clear hx hBe5 hRR hs5 HBe HRe hc hf hnl hnl'
                       refine C.mono ?_
                       rintro e w5 ⟨rfl, hA5, hB5⟩
                       have hB5 := (HB.out.drewN nq).trans hB5
                       clear C
                       go_wp2_with fail
                       go_roundw
                       case rel => exact ⟨mid, b', _, _, _, d5, rfl, rfl, rfl, rfl, rfl, ⟨by omega, by omega⟩, ⟨by omega, m2, hbb⟩, hd5, hA5, hB5, HBe5, HRe5⟩
                       case measure => simp [intOf]; omega)
                    | (go_at_call 71
                       have C := part_any g off cap a' b' p2 d4 hq1 hq2 (by omega) (by omega) _ (HA.out.drewN nq)
                       rw [hd4] at C
                       obtain ⟨⟨mid, ap, d5⟩, hx⟩ : ∃ x, partition ltInt d4 a' b' p2 = x := ⟨_, rfl⟩
                       obtain ⟨m1, m2, hs5, hBl, hBr, hL, hR⟩ := round_part swo_ltInt (partition_holds ltInt) hq1 hq2 (by omega) HBe.out hx
                       rw [hx] at C
                       simp only [] at C
                       have hd5 : d5.size = d.size := hs5.trans hd4
                       have HL := Lib.hid hL
                       have HR := Lib.hid hR
                       have HBl := Lib.hid hBl
                       have HBr := Lib.hid hBr
                       clear hx hL hR hBl hBr hs5 HBe hc hf
                       refine C.mono ?_
                       rintro e w5 ⟨rfl, hA5, hB5⟩
                       have hB5 := (HB.out.drewN nq).trans hB5
                       clear C
                       by_cases hlr : mid + mid < a' + b'
                       · have C2 := fun L h1 h2 => HIH.out g off cap a' mid L d5 w5 (by omega) h1 h2 m1 (by omega) (by omega) HBl.out hA5
                         rw [hd5] at C2
                         go_wp2_with fail
                         refine (C2 _ (by omega) (by omega)).mono ?_
                         rintro e w6 ⟨d6, rfl, ⟨hP6, hS6⟩, hA6, hB6⟩
                         obtain ⟨hBe6, hRR⟩ := HL.out d6 hP6 hS6
                         have hd6 : d6.size = d.size := hP6.1.trans hd5
                         have HBe6 := Lib.hid hBe6
                         have HRe6 : Hid (Rest a b d (mid + 1) b' d6) := fun R h1 h2 => HRe.out R (hRR R h1 h2).1 (hRR R h1 h2).2
                         clear hBe6 hRR hP6 hS6 HL HR HBl HBr C2
                         go_wp2_with fail
                         go_roundw
                         case rel => exact ⟨mid + 1, b', _, _, _, d6, by go_num, rfl, rfl, rfl, rfl, ⟨by omega, by omega⟩, ⟨by omega, by omega, hbb⟩, hd6, hA6, hB5.trans hB6, HBe6, HRe6⟩
                         case measure => simp [intOf]; omega
                       · have C2 := fun L h1 h2 => HIH.out g off cap (mid + 1) b' L d5 w5 (by omega) h1 h2 (by omega) (by omega) (by omega) HBr.out hA5
                         rw [hd5, show ((mid + 1 : Nat) : Int) = (mid : Int) + 1 by omega] at C2
                         go_wp2_with fail
                         refine (C2 _ (by omega) (by omega)).mono ?_
                         rintro e w6 ⟨d6, rfl, ⟨hP6, hS6⟩, hA6, hB6⟩
                         obtain ⟨hBe6, hRR⟩ := HR.out d6 hP6 hS6
                         have hd6 : d6.size = d.size := hP6.1.trans hd5
                         have HBe6 := Lib.hid hBe6
                         have HRe6 : Hid (Rest a b d a' mid d6) := fun R h1 h2 => HRe.out R (hRR R h1 h2).1 (hRR R h1 h2).2
                         clear hBe6 hRR hP6 hS6 HL HR HBl HBr C2
                         go_wp2_with fail
                         go_roundw
                         case rel => exact ⟨a', mid, _, _, _, d6, rfl, rfl, rfl, rfl, rfl, ⟨by omega, by omega⟩, ⟨haa, m1, by omega⟩, hd6, hA6, hB5.trans hB6, HBe6, HRe6⟩
                         case measure => simp [intOf]; omega)

end Go.Proofs.Ytjaogmbeoldefaa
