/-
  StreamEnds's walk: for every n and p the law answers true and turns no memory that was there. Conditions: n is at least 0 and below 2^64, p at least 0 and below 256.
-/
import Derived.Test.YtikdiaikggojjaaEndsNum
namespace Go.Proofs.Ytikdiaikggojjaa
open Go.RowKit

/-- The list that is being filled lies at block b, with j numbers. -/
structure Filled (b j : Nat) (v : Value) (w : World) : Prop where
  lt : b < w.heap.size
  c0 : w.cell? ⟨b, 0, none⟩ = some v
  c1 : w.cell? ⟨b, 1, none⟩ = some (.int .i64 0)
  f0 : w.frozen? ⟨b, 0, none⟩ = false
  f1 : w.frozen? ⟨b, 1, none⟩ = false
  row : OwnRow w (b + 1) v (List.replicate j 18446744073709551615)

theorem Filled.start (w : World) : Filled w.heap.size 0 (.slice none 0 0) (w.alloc (.cells #[.slice none 0 0, .int .i64 0] 26)) :=
  ⟨by simp, by simp, by simp, by simp, by simp, OwnRow.nil _ _⟩
theorem Filled.next {b j : Nat} {v v' : Value} {w w1 w' : World} (h : Filled b j v w) (b1 : Below (b + 1) w w1) (b2 : Below (b + 1) w1 w') (o : OwnRow w' (b + 1) v' (List.replicate j 18446744073709551615 ++ [18446744073709551615])) :
    Filled b (j + 1) v' (w'.setCell ⟨b, 0, none⟩ v') := by
  have hb := b1.trans b2
  have k0 : w'.cell? ⟨b, 0, none⟩ = some v := (hb.cell (by show b < b + 1; omega)).trans h.c0
  refine ⟨by have := h.lt; have := hb.size; simp [World.setCell]; omega, World.cell?_setCell_same _ _ _ k0, ?_, ?_, ?_, ?_⟩
  · rw [World.cell?_setCell_other _ _ _ _ (by simp)]; exact (hb.cell (by show b < b + 1; omega)).trans h.c1
  · rw [World.frozen?_setCell]; exact (hb.frozen (by show b < b + 1; omega)).trans h.f0
  · rw [World.frozen?_setCell]; exact (hb.frozen (by show b < b + 1; omega)).trans h.f1
  · rw [List.replicate_succ']; exact o.setCell (by show b < b + 1; omega) _
theorem Filled.list {b : Nat} {v : Value} {w : World} (h : Filled b 70 v w) : ∃ a cap, ListAt b a cap max64 0 w := by
  obtain ⟨a, cap, rfl, hr⟩ := h.row.slice
  refine ⟨a, cap, h.lt, h.c0, h.c1, h.f1, ?_⟩
  rcases hr with hr | ⟨g, off, ha, hlt, hB, hr⟩
  · exact .inl hr
  · exact .inr ⟨g, off, ha, hlt, by omega, hr⟩

set_option maxHeartbeats 1000000 in
theorem ends_any (n p : Int) (h0 : 0 ≤ n) (h1 : n < 18446744073709551616) (hp0 : 0 ≤ p) (hp1 : p < 256) (w : World) :
    Calls Try.prog 5 #[.int .u64 n, .int .u8 p] w fun e w' => e = .returned (.bool true) ∧ Below w.heap.size w w' := by
  go_enter Try.func5, Try.ntmps5
  go_wp2_with fail
  go_loopw [14] (fun i wr => ∃ (j : Nat) (v : Value), j ≤ 70 ∧ i = .int .i64 j ∧ Below w.heap.size w wr ∧ Filled w.heap.size j v wr) (fun i _ => 70 - (intOf i).toNat)
  case atStart => exact ⟨0, _, by omega, rfl, (Below.refl _ w).alloc (Nat.le_refl _) _, Filled.start w⟩
  case round =>
    obtain ⟨j, v, hj, rfl, hB, hF⟩ := hrel
    by_cases hlt : j < 70
    · have c0 := hF.c0
      have f0 := hF.f0
      have hs := hF.lt
      go_wp2_with (
        at_builtin
        refine app_row ?hw (.tmp 20) (.tmp 21) rfl (w.heap.size + 1) ?hB v (List.replicate j 18446744073709551615) rfl (hF.row.alloc _) _ _ _ [18446744073709551615] rfl (Came.new _) ?hm ?_
        case hw => rfl
        case hB => simp; omega
        case hm => simp; omega
        intro v1 w1 o1 b1
        obtain ⟨a1, cp1, ev, _⟩ := o1.slice
        rw [List.length_append, List.length_replicate, List.length_singleton] at ev
        subst ev
        have hF1 := hF.next ((Below.refl _ _).alloc (by omega) _) b1 o1
        have g1 : w1.frozen? ⟨w.heap.size, 0, none⟩ = false := (b1.frozen (by show w.heap.size < w.heap.size + 1; omega)).trans (by rw [World.frozen?_alloc_past _ _ _ hs]; exact f0)
        have g0 : w1.cell? ⟨w.heap.size, 0, none⟩ = some v := (b1.cell (by show w.heap.size < w.heap.size + 1; omega)).trans (by rw [World.cell?_alloc_past _ _ _ hs]; exact c0)
        have hB1 := (hB.alloc (by omega) _).trans (b1.mono (by omega))
        have HF := Lib.hid hF1
        clear c0 f0 b1 o1 hF hF1)
      go_roundw
      case rel => exact ⟨j + 1, _, by omega, by go_num, hB1.setCell (Nat.le_refl _) _, HF.out⟩
      case measure => simp [intOf]; omega
    · have hj2 : j = 70 := by omega
      subst hj2
      obtain ⟨a, cap, hL⟩ := hF.list
      clear hF
      have s1 := hL.lt
      obtain ⟨jp, hjp, HJ⟩ : ∃ jp : Nat, jp < 64 ∧ Hid ((p % 64).toNat = jp) := ⟨(p % 64).toNat, by omega, rfl⟩
      obtain ⟨q0, q1, q2, q3⟩ := pow_in jp hjp
      have ha := and_mask n h0 h1 jp hjp
      have HG := Lib.hid (good_draw n h1 jp hjp)
      have hpw : IntKind.u64.wrap (2 ^ (p % 64).toNat) = ((2 ^ jp : Nat) : Int) := by rw [HJ.out]; exact q0
      clear q0 q3
      generalize ((2 ^ jp : Nat) : Int) = q at *
      by_cases hn : n = 0
      · subst hn
        have hn1 : All64 [(0 : Int)] := by unfold All64; simp
        go_wp2_with fail
        refine (below_list _ _ _ _ max64_in _ h0 h1 0 _ (by decide) hL 0 0 1 bad_zero).mono ?_
        rintro e w1 ⟨rfl, l1, hB1⟩
        have b1 := hB.trans (hB1.below (Nat.le_refl _) (by omega))
        have HL := Lib.hid l1
        clear hB hB1 l1 hL
        go_wp2_with fail
        refine (below_list _ _ _ _ hn1 q (by omega) q2 0 _ (by decide) (ListAt.made1 w1 _) _ 1 0 HG.out).mono ?_
        rintro e w2 ⟨rfl, l2, hB2⟩
        have b2' := hB2.past2
        have b2 := b1.trans (b2'.mono b1.size)
        have c1 := l2.c1
        have HL2 := Lib.hid (HL.out.below b2')
        clear hB2 l2 b2' b1 HL
        go_wp2_with fail
        refine (fixed_any _).mono ?_
        rintro e w3 ⟨rfl, b3⟩
        have b4 := b2.trans (b3.mono b2.size)
        have c3 := (HL2.out.below b3).c1
        clear b3 b2 HL2 c1
        go_wp2_with fail
        go_ret
        exact ⟨rfl, b4⟩
      · have hn1 : All64 [n] := by unfold All64; simp; omega
        have hpi := power_iff n (by omega) h1
        by_cases hp : 18446744073709551616 % n = 0
        · rw [decide_eq_true hp] at hpi
          go_wp2_with fail
          refine (below_list _ _ _ _ max64_in _ h0 h1 0 _ (by decide) hL (n - 1) 1 0 (bad_power n (by omega) hp)).mono ?_
          rintro e w1 ⟨rfl, l1, hB1⟩
          have b1 := hB.trans (hB1.below (Nat.le_refl _) (by omega))
          have HL := Lib.hid l1
          clear hB hB1 l1 hL
          go_wp2_with fail
          refine (below_list _ _ _ _ hn1 q (by omega) q2 0 _ (by decide) (ListAt.made1 w1 _) _ 1 0 HG.out).mono ?_
          rintro e w2 ⟨rfl, l2, hB2⟩
          have b2' := hB2.past2
          have b2 := b1.trans (b2'.mono b1.size)
          have c1 := l2.c1
          have HL2 := Lib.hid (HL.out.below b2')
          clear hB2 l2 b2' b1 HL
          go_wp2_with fail
          refine (fixed_any _).mono ?_
          rintro e w3 ⟨rfl, b3⟩
          have b4 := b2.trans (b3.mono b2.size)
          have c3 := (HL2.out.below b3).c1
          clear b3 b2 HL2 c1
          go_wp2_with fail
          go_ret
          exact ⟨rfl, b4⟩
        · rw [decide_eq_false hp] at hpi
          go_wp2_with fail
          refine (below_list _ _ _ _ max64_in _ h0 h1 0 _ (by decide) hL 0 64 7 (bad_other n (by omega) hp)).mono ?_
          rintro e w1 ⟨rfl, l1, hB1⟩
          have b1 := hB.trans (hB1.below (Nat.le_refl _) (by omega))
          have HL := Lib.hid l1
          clear hB hB1 l1 hL
          go_wp2_with fail
          refine (below_list _ _ _ _ hn1 q (by omega) q2 0 _ (by decide) (ListAt.made1 w1 _) _ 1 0 HG.out).mono ?_
          rintro e w2 ⟨rfl, l2, hB2⟩
          have b2' := hB2.past2
          have b2 := b1.trans (b2'.mono b1.size)
          have c1 := l2.c1
          have HL2 := Lib.hid (HL.out.below b2')
          clear hB2 l2 b2' b1 HL
          go_wp2_with fail
          refine (fixed_any _).mono ?_
          rintro e w3 ⟨rfl, b3⟩
          have b4 := b2.trans (b3.mono b2.size)
          have c3 := (HL2.out.below b3).c1
          clear b3 b2 HL2 c1
          go_wp2_with fail
          go_ret
          exact ⟨rfl, b4⟩
end Go.Proofs.Ytikdiaikggojjaa
