/-
  FracBest's walk: which one of some fractions is the best is the document's; none stands above it, and none as high ahead of it. Condition: each number is of 64 bits; the library's table of powers of ten reads as its own text lays it.
-/
import Derived.Test.YthfipbmmbhnhiaaDoorBestF
namespace Go.Proofs.YthfipbmmbhnhiaaDoor
open Go.RowKit

theorem best_long (a : Option Addr) (n cap : Nat) (hn : ¬ n ≤ 100) (w : World) (ht : Tab w) :
    Calls Tryd.prog 4 #[.slice a n cap] w fun e w' => e = .returned (.bool true) ∧ Below w.heap.size w w' := by
  have g : (100 : Int) < (n : Int) := by omega
  go_enter Tryd.func4, Tryd.ntmps4
  go_wp2_with (go_at_call 8; refine (fixed_any _ ht).mono ?_; rintro x w' ⟨rfl, c⟩)
  go_ret
  exact ⟨rfl, c⟩

section
variable {P : Program} {md : Region.Mode} {Q : Exit → Act → World → Prop} {S : World → Prop} {l : List Oper} {i fuel : Nat} {oi : Oper} {v : Value} {listed : Array Bool} {a : Act} {w : World}
/-- An operation of a drawn region that yields its value wherever S holds comes first. -/
theorem takeL (hi : l[i]? = some oi) (hs : Region.noSelect l.toArray = true) (hf : Region.free md l.toArray listed i = true) (hr : (Region.ready md l.toArray listed).contains i = true)
    (hw : Region.wanted oi (yielded l.toArray a.tmps) = true) (hS : S w) (hy : ∀ w, S w → (execOp a.eval oi).run P w = .ok (.value v) w)
    (h : wpAnyH P md l.toArray (NoPanic Q) S fuel (listed.setIfInBounds i true) (a.put oi.dst v) w) : wpAnyH P md l.toArray (NoPanic Q) S (fuel + 1) listed a w :=
  wpAnyH_take (by simpa using hi) hs hf hr (fun _ _ _ h => h) (.inl ⟨hw, hy⟩) hS h
/-- One that isn't wanted, too. -/
theorem skipL (hi : l[i]? = some oi) (hs : Region.noSelect l.toArray = true) (hf : Region.free md l.toArray listed i = true) (hr : (Region.ready md l.toArray listed).contains i = true)
    (hw : Region.wanted oi (yielded l.toArray a.tmps) = false) (hS : S w)
    (h : wpAnyH P md l.toArray (NoPanic Q) S fuel (listed.setIfInBounds i true) (a.put oi.dst undef) w) : wpAnyH P md l.toArray (NoPanic Q) S (fuel + 1) listed a w :=
  wpAnyH_take (by simpa using hi) hs hf hr (fun _ _ _ h => h) (.inr ⟨hw, rfl⟩) hS h
/-- One that alone may come next. -/
theorem callL (hr : Region.ready md l.toArray listed = [i]) (hi : l[i]? = some oi) (hw : Region.wanted oi (yielded l.toArray a.tmps) = true)
    (h : ∀ K' : Act → World → Prop, Shut (∀ a w, S w → (S w → wpAnyH P md l.toArray Q S fuel (listed.setIfInBounds i true) a w) → K' a w) → Oper.wp P oi a w K' Q) : wpAnyH P md l.toArray Q S (fuel + 1) listed a w :=
  wpAnyH_ready hr (by simp) (AllReadyH.cons (by simpa using hi) (fun K hK => by rw [if_pos hw]; exact h K hK) AllReadyH.nil)
end

set_option maxHeartbeats 4000000 in
theorem best_short (a : Option Addr) (n cap : Nat) (H L D : Nat → Int) (hn : n ≤ 100) (hw : AllF n H L D) (w : World) (hh : HoldsF a n H L D w) (ht : Tab w) :
    Calls Tryd.prog 4 #[.slice a n cap] w fun e w' => e = .returned (.bool true) ∧ Below w.heap.size w w' := by
  have g : ¬ (100 : Int) < (n : Int) := by omega
  go_enter Tryd.func4, Tryd.ntmps4
  go_wp2_with fail
  refine (best_any a n cap H L D hn hw w hh).mono ?_
  rintro e w1 ⟨⟨k, rfl, hk⟩, c1⟩
  go_wp2_with fail
  refine (refBest_any a n cap H L D hn hw w1 (hh.below c1)).mono ?_
  rintro e w2 ⟨⟨m, rfl, hm⟩, c2⟩
  obtain rfl := hm.unique hk
  have HK := Lib.hid hk
  have HB := Lib.hid (onto c1 c2)
  clear hk hm c1 c2
  go_wp2_with fail
  go_loopw [18] (fun iv wr => ∃ (j : Nat), j ≤ n ∧ iv = .int .i64 j ∧ Below w.heap.size w wr) (fun iv _ => n - (intOf iv).toNat)
  case atStart => exact ⟨0, by omega, rfl, HB.out⟩
  case round =>
    obtain ⟨j, hj, rfl, hB⟩ := hrel
    by_cases hlt : j < n
    · have i1 : (j : Int) < (n : Int) := by omega
      obtain ⟨b, off, rfl, hc⟩ := (hh.below hB).get (by omega)
      obtain ⟨hb, c0, c1, c2⟩ := hc j hlt
      have hbx := alloc_below wr (.cells #[.int .u64 (H j), .int .u64 (L j), .int .u64 (D j)] 26)
      have HB1 := Lib.hid (onto hB hbx)
      have x0 := At3.newF wr (H j) (L j) (D j)
      by_cases hd : D j = 0
      · have g2 : (D j != 0) = false := by simpa using hd
        clear hc hd
        go_wp2_with fail
        clear c0 c1 c2 hbx hB
        have z2 := x0.c2
        generalize wr.alloc (.cells #[.int .u64 (H j), .int .u64 (L j), .int .u64 (D j)] 26) = W at *
        go_quiet (fail)
        go_wp2_with fail
        go_roundw
        case rel => exact ⟨j + 1, by omega, by go_num, drawn HB1.out _⟩
        case measure => simp [intOf]; omega
      · have g2 : (D j != 0) = true := by simpa using hd
        rcases HK.out with ⟨_, h0⟩ | ⟨q, rfl, hq, _, hall⟩
        · exact absurd (h0 j hlt) hd
        · obtain ⟨X, HX⟩ : ∃ X, Hid (at2 H L D j q = X) := ⟨_, rfl⟩
          have MC := fCmp_any (H j) (L j) (D j) (H q) (L q) (D q) (hw j hlt).1 (hw j hlt).2.1 (hw j hlt).2.2 (hw q hq).1 (hw q hq).2.1 (hw q hq).2.2
          rw [show cmpF (H j * 18446744073709551616 + L j) (D j) (H q * 18446744073709551616 + L q) (D q) = X from HX.out] at MC
          obtain ⟨t1, t2⟩ := hall j hlt
          rw [HX.out] at t1 t2
          have r1 := (hc q hq).below hbx
          have q0 : (0 : Int) ≤ (q : Int) := by omega
          have q1 : (q : Int) < (n : Int) := by omega
          have q2 : decide ((q : Int) < 0) = false := by simp
          have p1 : decide (0 < X) = false := by simp; omega
          clear hc HX hall hd
          by_cases hjq : j < q
          · have p2 : (X == 0) = false := by have := t2 hjq; simp; omega
            have p3 : decide ((j : Int) < (q : Int)) = true := by simp; omega
            clear t1 t2
            go_wp2_with fail
            clear c0 c1 c2 hbx hB
            generalize wr.alloc (.cells #[.int .u64 (H j), .int .u64 (L j), .int .u64 (D j)] 26) = W at *
            have y0 := x0.below (Below.refl _ W).drew
            have s0 := r1.below (Below.refl _ W).drew
            have B0 := HB1.out.drew
            go_region_held3 (fun w' => (w'.cell? ⟨wr.heap.size, 0, none⟩ = some (.int .u64 (H j)) ∧ w'.cell? ⟨wr.heap.size, 1, none⟩ = some (.int .u64 (L j)) ∧ w'.cell? ⟨wr.heap.size, 2, none⟩ = some (.int .u64 (D j))) ∧ (w'.cell? ⟨b, off + q * 3, none⟩ = some (.int .u64 (H q)) ∧ w'.cell? ⟨b, off + q * 3 + 1, none⟩ = some (.int .u64 (L q)) ∧ w'.cell? ⟨b, off + q * 3 + 2, none⟩ = some (.int .u64 (D q)))) (first | exact ⟨⟨y0.c0, y0.c1, y0.c2⟩, s0.c0, s0.c1, s0.c2⟩ | exact ⟨⟨x0.c0, x0.c1, x0.c2⟩, r1.c0, r1.c1, r1.c2⟩)
              ((go_at_call 9; refine (MC _).mono ?_; rintro x w' ⟨rfl, c⟩; replace y0 := y0.below c; replace s0 := s0.below c; replace B0 := onto B0 c; clear c))
            go_wp2_with fail
            go_roundw
            case rel => exact ⟨j + 1, by omega, by go_num, B0⟩
            case measure => simp [intOf]; omega
          · have p3 : decide ((j : Int) < (q : Int)) = false := by simp; omega
            clear t1 t2
            go_wp2_with fail
            clear c0 c1 c2 hbx hB
            generalize wr.alloc (.cells #[.int .u64 (H j), .int .u64 (L j), .int .u64 (D j)] 26) = W at *
            have y0 := x0.below (Below.refl _ W).drew
            have s0 := r1.below (Below.refl _ W).drew
            have B0 := HB1.out.drew
            refine wp_region_noPanic ?_
            refine wp_region_held_drew (S := (fun w' => (w'.cell? ⟨wr.heap.size, 0, none⟩ = some (.int .u64 (H j)) ∧ w'.cell? ⟨wr.heap.size, 1, none⟩ = some (.int .u64 (L j)) ∧ w'.cell? ⟨wr.heap.size, 2, none⟩ = some (.int .u64 (D j))) ∧ (w'.cell? ⟨b, off + q * 3, none⟩ = some (.int .u64 (H q)) ∧ w'.cell? ⟨b, off + q * 3 + 1, none⟩ = some (.int .u64 (L q)) ∧ w'.cell? ⟨b, off + q * 3 + 2, none⟩ = some (.int .u64 (D q))))) (by kernel_rfl) ⟨⟨y0.c0, y0.c1, y0.c2⟩, s0.c0, s0.c1, s0.c2⟩ (fun hHeld => ?_)
            refine takeL (i := 0) (v := ?v0) rfl (by kernel_rfl) (by kernel_rfl) (by kernel_rfl) (by rfl) hHeld ?hy0 ?rest0
            case hy0 =>
              intro w' hSw
              obtain ⟨⟨e0, e1, e2⟩, e3, e4, e5⟩ := hSw
              go_simp <;> (with_reducible rfl)
            case' rest0 => simp only [Act.put, List.setIfInBounds_toArray, List.set_cons_zero, List.set_cons_succ]
            refine takeL (i := 1) (v := ?v1) rfl (by kernel_rfl) (by kernel_rfl) (by kernel_rfl) (by rfl) hHeld ?hy1 ?rest1
            case hy1 =>
              intro w' hSw
              obtain ⟨⟨e0, e1, e2⟩, e3, e4, e5⟩ := hSw
              go_simp <;> (with_reducible rfl)
            case' rest1 => simp only [Act.put, List.setIfInBounds_toArray, List.set_cons_zero, List.set_cons_succ]
            refine takeL (i := 2) (v := ?v2) rfl (by kernel_rfl) (by kernel_rfl) (by kernel_rfl) (by rfl) hHeld ?hy2 ?rest2
            case hy2 =>
              intro w' hSw
              obtain ⟨⟨e0, e1, e2⟩, e3, e4, e5⟩ := hSw
              go_simp <;> (with_reducible rfl)
            case' rest2 => simp only [Act.put, List.setIfInBounds_toArray, List.set_cons_zero, List.set_cons_succ]
            refine takeL (i := 3) (v := ?v3) rfl (by kernel_rfl) (by kernel_rfl) (by kernel_rfl) (by rfl) hHeld ?hy3 ?rest3
            case hy3 =>
              intro w' hSw
              obtain ⟨⟨e0, e1, e2⟩, e3, e4, e5⟩ := hSw
              go_simp <;> (with_reducible rfl)
            case' rest3 => simp only [Act.put, List.setIfInBounds_toArray, List.set_cons_zero, List.set_cons_succ]
            refine takeL (i := 4) (v := ?v4) rfl (by kernel_rfl) (by kernel_rfl) (by kernel_rfl) (by rfl) hHeld ?hy4 ?rest4
            case hy4 =>
              intro w' hSw
              obtain ⟨⟨e0, e1, e2⟩, e3, e4, e5⟩ := hSw
              go_simp <;> (with_reducible rfl)
            case' rest4 => simp only [Act.put, List.setIfInBounds_toArray, List.set_cons_zero, List.set_cons_succ]
            refine takeL (i := 5) (v := ?v5) rfl (by kernel_rfl) (by kernel_rfl) (by kernel_rfl) (by rfl) hHeld ?hy5 ?rest5
            case hy5 =>
              intro w' hSw
              obtain ⟨⟨e0, e1, e2⟩, e3, e4, e5⟩ := hSw
              go_simp <;> (with_reducible rfl)
            case' rest5 => simp only [Act.put, List.setIfInBounds_toArray, List.set_cons_zero, List.set_cons_succ]
            refine takeL (i := 6) (v := ?v6) rfl (by kernel_rfl) (by kernel_rfl) (by kernel_rfl) (by rfl) hHeld ?hy6 ?rest6
            case hy6 =>
              intro w' hSw
              obtain ⟨⟨e0, e1, e2⟩, e3, e4, e5⟩ := hSw
              go_simp <;> (with_reducible rfl)
            case' rest6 => simp only [Act.put, List.setIfInBounds_toArray, List.set_cons_zero, List.set_cons_succ]
            refine takeL (i := 7) (v := ?v7) rfl (by kernel_rfl) (by kernel_rfl) (by kernel_rfl) (by rfl) hHeld ?hy7 ?rest7
            case hy7 =>
              intro w' hSw
              obtain ⟨⟨e0, e1, e2⟩, e3, e4, e5⟩ := hSw
              go_simp <;> (with_reducible rfl)
            case' rest7 => simp only [Act.put, List.setIfInBounds_toArray, List.set_cons_zero, List.set_cons_succ]
            refine takeL (i := 8) (v := ?v8) rfl (by kernel_rfl) (by kernel_rfl) (by kernel_rfl) (by rfl) hHeld ?hy8 ?rest8
            case hy8 =>
              intro w' hSw
              obtain ⟨⟨e0, e1, e2⟩, e3, e4, e5⟩ := hSw
              go_simp <;> (with_reducible rfl)
            case' rest8 => simp only [Act.put, List.setIfInBounds_toArray, List.set_cons_zero, List.set_cons_succ]
            refine takeL (i := 9) (v := ?v9) rfl (by kernel_rfl) (by kernel_rfl) (by kernel_rfl) (by rfl) hHeld ?hy9 ?rest9
            case hy9 =>
              intro w' hSw
              obtain ⟨⟨e0, e1, e2⟩, e3, e4, e5⟩ := hSw
              go_simp <;> (with_reducible rfl)
            case' rest9 => simp only [Act.put, List.setIfInBounds_toArray, List.set_cons_zero, List.set_cons_succ]
            refine takeL (i := 10) (v := ?v10) rfl (by kernel_rfl) (by kernel_rfl) (by kernel_rfl) (by rfl) hHeld ?hy10 ?rest10
            case hy10 =>
              intro w' hSw
              obtain ⟨⟨e0, e1, e2⟩, e3, e4, e5⟩ := hSw
              go_simp <;> (with_reducible rfl)
            case' rest10 => simp only [Act.put, List.setIfInBounds_toArray, List.set_cons_zero, List.set_cons_succ]
            refine takeL (i := 11) (v := ?v11) rfl (by kernel_rfl) (by kernel_rfl) (by kernel_rfl) (by rfl) hHeld ?hy11 ?rest11
            case hy11 =>
              intro w' hSw
              obtain ⟨⟨e0, e1, e2⟩, e3, e4, e5⟩ := hSw
              go_simp <;> (with_reducible rfl)
            case' rest11 => simp only [Act.put, List.setIfInBounds_toArray, List.set_cons_zero, List.set_cons_succ]
            refine callL (i := 12) (by kernel_rfl) rfl (by rfl) (fun K hK => ?_)
            go_simp
            refine (MC _).mono ?_
            rintro x w' ⟨rfl, c⟩
            replace y0 := y0.below c
            replace s0 := s0.below c
            replace B0 := onto B0 c
            clear c hHeld
            dsimp only
            refine hK.out _ _ ⟨⟨y0.c0, y0.c1, y0.c2⟩, s0.c0, s0.c1, s0.c2⟩ (fun hHeld => ?_)
            clear hK K
            refine takeL (i := 13) (v := ?v13) rfl (by kernel_rfl) (by kernel_rfl) (by kernel_rfl) (by rfl) hHeld ?hy13 ?rest13
            case hy13 =>
              intro w' hSw
              obtain ⟨⟨e0, e1, e2⟩, e3, e4, e5⟩ := hSw
              go_simp <;> (with_reducible rfl)
            case' rest13 => simp only [Act.put, List.setIfInBounds_toArray, List.set_cons_zero, List.set_cons_succ]
            refine takeL (i := 14) (v := ?v14) rfl (by kernel_rfl) (by kernel_rfl) (by kernel_rfl) (by rfl) hHeld ?hy14 ?rest14
            case hy14 =>
              intro w' hSw
              obtain ⟨⟨e0, e1, e2⟩, e3, e4, e5⟩ := hSw
              go_simp <;> (with_reducible rfl)
            case' rest14 => simp only [Act.put, List.setIfInBounds_toArray, List.set_cons_zero, List.set_cons_succ]
            refine takeL (i := 15) (v := ?v15) rfl (by kernel_rfl) (by kernel_rfl) (by kernel_rfl) (by rfl) hHeld ?hy15 ?rest15
            case hy15 =>
              intro w' hSw
              obtain ⟨⟨e0, e1, e2⟩, e3, e4, e5⟩ := hSw
              go_simp <;> (with_reducible rfl)
            case' rest15 => simp only [Act.put, List.setIfInBounds_toArray, List.set_cons_zero, List.set_cons_succ]
            refine takeL (i := 16) (v := ?v16) rfl (by kernel_rfl) (by kernel_rfl) (by kernel_rfl) (by rfl) hHeld ?hy16 ?rest16
            case hy16 =>
              intro w' hSw
              obtain ⟨⟨e0, e1, e2⟩, e3, e4, e5⟩ := hSw
              go_simp <;> (with_reducible rfl)
            case' rest16 => simp only [Act.put, List.setIfInBounds_toArray, List.set_cons_zero, List.set_cons_succ]
            refine takeL (i := 17) (v := ?v17) rfl (by kernel_rfl) (by kernel_rfl) (by kernel_rfl) (by rfl) hHeld ?hy17 ?rest17
            case hy17 =>
              intro w' hSw
              obtain ⟨⟨e0, e1, e2⟩, e3, e4, e5⟩ := hSw
              go_simp <;> (with_reducible rfl)
            case' rest17 => simp only [Act.put, List.setIfInBounds_toArray, List.set_cons_zero, List.set_cons_succ]
            refine takeL (i := 18) (v := ?v18) rfl (by kernel_rfl) (by kernel_rfl) (by kernel_rfl) (by rfl) hHeld ?hy18 ?rest18
            case hy18 =>
              intro w' hSw
              obtain ⟨⟨e0, e1, e2⟩, e3, e4, e5⟩ := hSw
              go_simp <;> (with_reducible rfl)
            case' rest18 => simp only [Act.put, List.setIfInBounds_toArray, List.set_cons_zero, List.set_cons_succ]
            refine takeL (i := 19) (v := ?v19) rfl (by kernel_rfl) (by kernel_rfl) (by kernel_rfl) (by rfl) hHeld ?hy19 ?rest19
            case hy19 =>
              intro w' hSw
              obtain ⟨⟨e0, e1, e2⟩, e3, e4, e5⟩ := hSw
              go_simp <;> (with_reducible rfl)
            case' rest19 => simp only [Act.put, List.setIfInBounds_toArray, List.set_cons_zero, List.set_cons_succ]
            refine skipL (i := 20) rfl (by kernel_rfl) (by kernel_rfl) (by kernel_rfl) (by rfl) hHeld ?_
            simp only [Act.put, List.setIfInBounds_toArray, List.set_cons_zero, List.set_cons_succ]
            refine skipL (i := 21) rfl (by kernel_rfl) (by kernel_rfl) (by kernel_rfl) (by rfl) hHeld ?_
            simp only [Act.put, List.setIfInBounds_toArray, List.set_cons_zero, List.set_cons_succ]
            refine skipL (i := 22) rfl (by kernel_rfl) (by kernel_rfl) (by kernel_rfl) (by rfl) hHeld ?_
            simp only [Act.put, List.setIfInBounds_toArray, List.set_cons_zero, List.set_cons_succ]
            refine skipL (i := 23) rfl (by kernel_rfl) (by kernel_rfl) (by kernel_rfl) (by rfl) hHeld ?_
            simp only [Act.put, List.setIfInBounds_toArray, List.set_cons_zero, List.set_cons_succ]
            refine skipL (i := 24) rfl (by kernel_rfl) (by kernel_rfl) (by kernel_rfl) (by rfl) hHeld ?_
            simp only [Act.put, List.setIfInBounds_toArray, List.set_cons_zero, List.set_cons_succ]
            refine skipL (i := 25) rfl (by kernel_rfl) (by kernel_rfl) (by kernel_rfl) (by rfl) hHeld ?_
            simp only [Act.put, List.setIfInBounds_toArray, List.set_cons_zero, List.set_cons_succ]
            refine skipL (i := 26) rfl (by kernel_rfl) (by kernel_rfl) (by kernel_rfl) (by rfl) hHeld ?_
            simp only [Act.put, List.setIfInBounds_toArray, List.set_cons_zero, List.set_cons_succ]
            refine takeL (i := 27) (v := ?v27) rfl (by kernel_rfl) (by kernel_rfl) (by kernel_rfl) (by rfl) hHeld ?hy27 ?rest27
            case hy27 =>
              intro w' hSw
              obtain ⟨⟨e0, e1, e2⟩, e3, e4, e5⟩ := hSw
              go_simp <;> (with_reducible rfl)
            case' rest27 => simp only [Act.put, List.setIfInBounds_toArray, List.set_cons_zero, List.set_cons_succ]
            refine takeL (i := 28) (v := ?v28) rfl (by kernel_rfl) (by kernel_rfl) (by kernel_rfl) (by rfl) hHeld ?hy28 ?rest28
            case hy28 =>
              intro w' hSw
              obtain ⟨⟨e0, e1, e2⟩, e3, e4, e5⟩ := hSw
              go_simp <;> (with_reducible rfl)
            case' rest28 => simp only [Act.put, List.setIfInBounds_toArray, List.set_cons_zero, List.set_cons_succ]
            refine takeL (i := 29) (v := ?v29) rfl (by kernel_rfl) (by kernel_rfl) (by kernel_rfl) (by rfl) hHeld ?hy29 ?rest29
            case hy29 =>
              intro w' hSw
              obtain ⟨⟨e0, e1, e2⟩, e3, e4, e5⟩ := hSw
              go_simp <;> (with_reducible rfl)
            case' rest29 => simp only [Act.put, List.setIfInBounds_toArray, List.set_cons_zero, List.set_cons_succ]
            refine wpAnyH_done (by kernel_rfl) (NoPanic.normal ?_) _
            go_wp2_with fail
            go_roundw
            case rel => exact ⟨j + 1, by omega, by go_num, B0⟩
            case measure => simp [intOf]; omega
    · have i1 : ¬ (j : Int) < (n : Int) := by omega
      go_wp2_with fail
      refine (fixed_any _ (ht.below hB)).mono ?_
      rintro x w' ⟨rfl, c⟩
      go_wp2_with fail
      go_ret
      exact ⟨rfl, onto hB c⟩

theorem best_law (a : Option Addr) (n cap : Nat) (H L D : Nat → Int) (hw : AllF n H L D) (w : World) (hh : HoldsF a n H L D w) (ht : Tab w) :
    Calls Tryd.prog 4 #[.slice a n cap] w fun e w' => e = .returned (.bool true) ∧ Below w.heap.size w w' := by
  by_cases hn : n ≤ 100
  · exact best_short a n cap H L D hn hw w hh ht
  · exact best_long a n cap hn w ht
end Go.Proofs.YthfipbmmbhnhiaaDoor
