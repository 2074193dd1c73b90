/-
  THE DOCUMENT'S OWN SORTING OF VALUES: clean, in order of their keys. Condition: no more than 1000 values, of 64 bits each.
-/
import Derived.Test.YtjaogmbeoldefaaRefRows
namespace Go.Proofs.Ytjaogmbeoldefaa
open Go.RowKit

theorem refCmp_same (a b : Nat) (ha : a < 18446744073709551616) (hb : b < 18446744073709551616) (w : World) :
    Calls Try.prog 28 #[.float .f64 a, .float .f64 b] w fun e w' => e = .returned (.int .i64 (cmpI (key a) (key b))) ∧ w' = w :=
  (refCmp_any a b ha hb w).mono fun _ _ h => ⟨h.1, h.2.symm⟩

/-- Nothing has turned but how often was drawn. -/
structure Like (w w' : World) : Prop where
  os : w'.os = w.os
  tape : w'.tape = w.tape
  output : w'.output = w.output
  heap : w'.heap = w.heap
theorem Like.refl (w : World) : Like w w := ⟨rfl, rfl, rfl, rfl⟩
theorem Like.drewN {w w' : World} (h : Like w w') (n : Nat) : Like w (w'.drewN n) := ⟨h.os, h.tape, h.output, h.heap⟩
theorem Like.cell {w w' : World} (h : Like w w') (p : Addr) : w'.cell? p = w.cell? p := by unfold World.cell?; rw [h.heap]
theorem Like.own {α : Type} {K : Kind α} {w w' : World} (h : Like w w') {B : Nat} {v : Value} {l : List α} (ho : Own K w B v l) : Own K w' B v l := by
  unfold Own World.ownsRow at ho ⊢
  rw [h.heap]; exact ho
theorem Like.lst {α : Type} {K : Kind α} {w w' : World} (h : Like w w') {g off : Nat} {l : List α} (ho : Lst K g off l w) : Lst K g off l w' :=
  ⟨by rw [h.heap]; exact ho.lt, fun j hj => (h.cell _).trans (ho.cell j hj), fun j hj => by unfold World.frozen?; rw [h.heap]; exact ho.frozen j hj⟩
theorem Like.below {w0 w w' : World} (h : Like w w') {B : Nat} (hb : Go.RowKit.Below B w0 w) : Go.RowKit.Below B w0 w' :=
  ⟨h.os.trans hb.os, h.tape.trans hb.tape, h.output.trans hb.output, by rw [h.heap]; exact hb.size, fun k hk => by rw [h.heap]; exact hb.block k hk⟩

theorem getD_at {l : List Int} {j : Nat} (hj : j < l.length) : l.getD j 0 = l[j] := by simp [List.getD_eq_getElem?_getD, hj]

/-- One put among those that are rising. -/
theorem put_in {o l : List Int} {j k : Nat} {x : Int} (ho : o = sortI (l.take j)) (hj : j < l.length) (hx : l.getD j 0 = x) (hk : k ≤ o.length) (h1 : ∀ t, k ≤ t → t < o.length → x < o.getD t 0) (h2 : 0 < k → o.getD (k - 1) 0 ≤ x) :
    o.take k ++ [x] ++ o.drop k = sortI (l.take (j + 1)) := by
  have hs : o.Pairwise (fun a b => a ≤ b) := by rw [ho]; exact sortI_rising _
  have hs2 := List.pairwise_iff_getElem.1 hs
  have hp : (o.take k ++ [x] ++ o.drop k).Perm (l.take (j + 1)) := by
    have e1 : (o.take k ++ [x] ++ o.drop k).Perm ([x] ++ o) := by
      have : (o.take k ++ [x] ++ o.drop k).Perm ([x] ++ o.take k ++ o.drop k) := List.Perm.append_right _ List.perm_append_comm
      rwa [List.append_assoc [x], List.take_append_drop] at this
    have e2 : ([x] ++ o).Perm (o ++ [x]) := List.perm_append_comm
    have e3 : (o ++ [x]).Perm (l.take j ++ [x]) := List.Perm.append_right _ (by rw [ho]; exact sortI_perm _)
    have e4 : l.take (j + 1) = l.take j ++ [x] := by rw [List.take_add_one, List.getElem?_eq_getElem hj, ← hx, getD_at hj]; rfl
    rw [e4]
    exact (e1.trans e2).trans e3
  refine List.Perm.eq_of_pairwise (le := fun a b : Int => a ≤ b) (fun a b _ _ u v => Int.le_antisymm u v) ?_ (sortI_rising _) (hp.trans (sortI_perm _).symm)
  rw [List.append_assoc, List.pairwise_append]
  refine ⟨hs.sublist (List.take_sublist _ _), ?_, fun a ha b hb => ?_⟩
  · rw [List.singleton_append, List.pairwise_cons]
    refine ⟨fun b hb => ?_, hs.sublist (List.drop_sublist _ _)⟩
    obtain ⟨t, ht, rfl⟩ := List.mem_iff_getElem.1 hb
    rw [List.getElem_drop]
    simp at ht
    have := h1 (k + t) (by omega) (by omega)
    rw [getD_at (by omega)] at this
    omega
  · obtain ⟨s, hs', rfl⟩ := List.mem_iff_getElem.1 ha
    simp at hs'
    rw [List.getElem_take]
    have h0 := h2 (by omega)
    rw [getD_at (by omega)] at h0
    have hle : o[s] ≤ x := by
      by_cases e : s = k - 1
      · subst e; exact h0
      · have := hs2 s (k - 1) (by omega) (by omega) (by omega); omega
    rw [List.singleton_append, List.mem_cons] at hb
    rcases hb with rfl | hb
    · exact hle
    · obtain ⟨t, ht, rfl⟩ := List.mem_iff_getElem.1 hb
      rw [List.getElem_drop]
      simp at ht
      have := h1 (k + t) (by omega) (by omega)
      rw [getD_at (by omega)] at this
      omega

theorem bits_take {l : List Nat} (h : Bits64 l) (j : Nat) : Bits64 (l.take j) := fun b hb => h b (List.mem_of_mem_take hb)
theorem keysOf_take (l : List Nat) (j : Nat) : keysOf (l.take j) = (keysOf l).take j := by simp [keysOf, List.map_take]
/-- The key of the t-th in order. -/
theorem key_inOrder {l : List Nat} (h : Bits64 l) {t : Nat} (ht : t < (inOrder l).length) : ((key ((inOrder l).getD t 0) : Nat) : Int) = (sortI (keysOf l)).getD t 0 ∧ (inOrder l).getD t 0 < 18446744073709551616 := by
  have ht2 : t < (sortI (keysOf l)).length := by rw [sortI_len, keysOf_len]; rw [inOrder_len] at ht; exact ht
  obtain ⟨b, hb, e⟩ := keys_are h (List.getElem_mem ht2)
  have e1 : (inOrder l).getD t 0 = ofK (key b) := by
    simp [inOrder, List.getD_eq_getElem?_getD, ht2, e]
  have e2 : (sortI (keysOf l)).getD t 0 = ((key b : Nat) : Int) := by rw [getD_at ht2, e]
  obtain ⟨q1, q2⟩ := tb_key hb
  obtain ⟨_, r2, r3⟩ := ofK_yes (key_lt hb) q1
  rw [e1, e2, r2]
  exact ⟨rfl, r3⟩

/-- One value put among those in order. -/
theorem put_vals {o l : List Nat} {j k x : Nat} (h : Bits64 l) (ho : o = inOrder (l.take j)) (hj : j < l.length) (hx : l.getD j 0 = x) (hk : k ≤ o.length)
    (h1 : ∀ t, k ≤ t → t < o.length → ((key x : Nat) : Int) < ((key (o.getD t 0) : Nat) : Int)) (h2 : 0 < k → ((key (o.getD (k - 1) 0) : Nat) : Int) ≤ ((key x : Nat) : Int)) :
    o.take k ++ [cln x] ++ o.drop k = inOrder (l.take (j + 1)) := by
  have hx64 : x < 18446744073709551616 := by rw [← hx]; exact h.at hj
  have hb := bits_take h j
  have hl : (sortI (keysOf (l.take j))).length = o.length := by rw [ho, inOrder_len, sortI_len, keysOf_len]
  have kk : ∀ t, t < o.length → ((key (o.getD t 0) : Nat) : Int) = (sortI (keysOf (l.take j))).getD t 0 := fun t ht => by
    rw [ho]; exact (key_inOrder hb (by rw [← ho]; exact ht)).1
  have hj2 : j < (keysOf l).length := by rw [keysOf_len]; exact hj
  have hP := put_in (o := sortI ((keysOf l).take j)) (l := keysOf l) (j := j) (k := k) (x := ((key x : Nat) : Int)) rfl hj2 (by rw [keysOf_at hj, hx]) (by rw [← keysOf_take, hl]; exact hk)
    (fun t t1 t2 => by rw [← keysOf_take] at t2 ⊢; rw [hl] at t2; rw [← kk t t2]; exact h1 t t1 t2) (fun t0 => by rw [← keysOf_take, ← kk (k - 1) (by omega)]; exact h2 t0)
  have e : inOrder (l.take (j + 1)) = (sortI ((keysOf l).take (j + 1))).map fun k => ofK k.toNat := by unfold inOrder; rw [keysOf_take]
  have e2 : o = (sortI ((keysOf l).take j)).map fun k => ofK k.toNat := by rw [ho]; unfold inOrder; rw [keysOf_take]
  rw [e, ← hP, List.map_append, List.map_append, List.map_take, List.map_drop, ← e2]
  simp only [List.map_cons, List.map_nil, Int.toNat_natCast]
  rw [(tb_key hx64).2]

set_option maxRecDepth 100000 in
set_option maxHeartbeats 4000000 in
theorem refSort_any (a : Option Addr) (n cap : Nat) (l : List Nat) (hn : l.length = n) (h3 : n ≤ 1000) (h64 : Bits64 l) (w : World) (hr : HoldsE KF w a l) :
    Calls Try.prog 56 #[.slice a n cap] w fun e w' => (∃ g c, e = .returned (.slice (some ⟨g, 0, none⟩) n c) ∧ w.heap.size ≤ g ∧ Lst KF g 0 (inOrder l) w') ∧ Go.RowKit.Below w.heap.size w w' := by
  go_enter Try.func56, Try.ntmps56
  go_wp2_with fail
  go_loopw [3, 4] (fun v i wr => ∃ (j g c : Nat) (o : List Nat), j ≤ n ∧ i = .int .i64 (j : Int) ∧ v = .slice (some ⟨g, 0, none⟩) j c ∧ j ≤ c ∧ Own KF wr w.heap.size (.slice (some ⟨g, 0, none⟩) j c) o ∧ o.length = j ∧ Go.RowKit.Below w.heap.size w wr ∧ Hid (o = inOrder (l.take j))) (fun _ i _ => n - (intOf i).toNat)
  case atStart => exact ⟨0, w.heap.size, 0, [], by omega, rfl, rfl, by omega, Own.start w _ (Nat.le_refl _), rfl, (Go.RowKit.Below.refl _ w).alloc (Nat.le_refl _) _, (List.eq_nil_of_length_eq_zero (by rw [inOrder_len]; rfl)).symm⟩
  case round =>
    obtain ⟨j, g, c, o, hj, rfl, rfl, hjc, hown, ho, hB, HO⟩ := hrel
    by_cases hlt : j < n
    · obtain ⟨ga, off, rfl, hga, hrow⟩ : ∃ g off, a = some ⟨g, off, none⟩ ∧ g < w.heap.size ∧ ∀ j, j < l.length → w.cell? ⟨g, off + j, none⟩ = some (.float .f64 (l.getD j 0)) := by
        rcases hr with rfl | h'
        · simp at hn; omega
        · exact h'
      obtain ⟨x, HX⟩ : ∃ x, Hid (l.getD j 0 = x) := ⟨_, rfl⟩
      have hx64 : x < 18446744073709551616 := by rw [← HX.out]; exact h64.at (by omega)
      have cl : wr.cell? ⟨ga, off + j, none⟩ = some (.float .f64 x) := by rw [← HX.out]; exact (hB.cell (by exact hga)).trans (hrow j (by omega))
      obtain ⟨h1, _⟩ | ⟨g', c', e1, hg, _, _, hI⟩ := hown.lst
      · cases h1
      injection e1 with e1 e2 e3
      injection e1 with e1
      injection e1 with e1
      subst e1
      clear e2 e3 hr hrow
      go_wp2_with fail
      generalize wr = w1 at *
      go_loopw [5] (fun kv wi => ∃ (k : Nat), k ≤ j ∧ kv = .int .i64 (k : Int) ∧ Hid (Like w1 wi) ∧ Hid (∀ t, k ≤ t → t < o.length → ((key x : Nat) : Int) < ((key (o.getD t 0) : Nat) : Int))) (fun kv _ => (intOf kv).toNat)
      case atStart => exact ⟨j, by omega, rfl, Like.refl _, fun t h1 h2 => by omega⟩
      case round =>
        obtain ⟨k, hk, rfl, HL, HT⟩ := hrel
        cases k with
        | zero =>
          have HT2 : Hid (0 < 0 → ((key (o.getD (0 - 1) 0) : Nat) : Int) ≤ ((key x : Nat) : Int)) := fun h => by omega
          rw [show ((0 : Nat) : Int) = 0 from rfl]
          go_wp2_with fail
          go_quiet (fail)
          have LW := HL.out.drewN nq
          generalize wr.drewN nq = w5 at *
          have own5 := LW.own hown
          have lst5 := LW.lst hI
          have b5 := LW.below hB
          have cl5 := (LW.cell _).trans cl
          have bA := (Go.RowKit.Below.refl w5.heap.size w5).alloc (Nat.le_refl _) (.cells #[] 62)
          have hg5 := lst5.lt
          have hdl : (o).length = j := ho
          clear hown hI hB cl HL LW
          go_wp2_with (at_builtin; refine app_e okF rfl _ _ rfl w5.heap.size (by simp) (.slice (some ⟨w5.heap.size, 0, none⟩) 0 0) [] rfl (Own.start w5 _ (Nat.le_refl _)) (some ⟨g, 0, none⟩) (j) (c) (o) rfl ⟨⟨_, rfl⟩, hdl, (lst5.below bA hg5).holds⟩ (by simp <;> omega) (fun h => by cases h) ?_)
          intro v6 w6 own6 b6 nn6
          have own6 : Own KF w6 w5.heap.size v6 (o) := own6
          obtain ⟨h1, _⟩ | ⟨gr, cr, rfl, hgr, hcr, _, lst6⟩ := own6.lst
          · exact absurd h1 nn6
          rw [hdl]
          have b56 := bA.trans b6
          have ow6 : Own KF w6 w.heap.size (.slice (some ⟨g, 0, none⟩) (j) (c)) o := own5.kept (b56.block g hg5)
          have b06 := b5.trans (b56.mono b5.size)
          have cl6 := (b56.cell (by show ga < _; have := b5.size; omega)).trans cl5
          have hs6 : w5.heap.size ≤ w6.heap.size := b56.size
          have hlt6 := lst6.lt
          clear bA b6 own5 lst5 b5 cl5 own6 b56
          have hP := put_vals h64 HO.out (by omega) HX.out (by omega : 0 ≤ o.length) HT.out HT2.out
          have hP2 : o.take 0 ++ [cln x] ++ (o) = inOrder (l.take (j + 1)) := by simpa using hP
          have e7 : (o.take 0 ++ [cln x]).length = 0 + 1 := by simp <;> omega
          have e8 : (inOrder (l.take (j + 1))).length = j + 1 := by rw [inOrder_len]; simp <;> omega
          have hsz0 := b06.size
          have bx := (Go.RowKit.Below.refl w6.heap.size w6).alloc (Nat.le_refl _) (.cells #[.float .f64 (cln x)] 62)
          have cl7 := (bx.cell (by show ga < _; omega)).trans cl6
          have ow7 := (ow6.cut (by omega : 0 ≤ o.length)).alloc (.cells #[.float .f64 (cln x)] 62)
          have b07 := b06.alloc (by omega) (.cells #[.float .f64 (cln x)] 62)
          have hx7 : (w6.alloc (.cells #[.float .f64 (cln x)] 62)).heap.size = w6.heap.size + 1 := by simp
          have k7 := Go.RowKit.Below.heap_alloc w6 (.cells #[.float .f64 (cln x)] 62) gr hlt6
          have HSZ := Lib.hid hx7
          have hj0 : (0 : Int) ≤ ((j : Nat) : Int) := by omega
          have hj1 : ((j : Nat) : Int) < (n : Int) := by omega
          have hk0 : (0 : Int) ≤ ((0 : Nat) : Int) := by omega
          have hk1 : ((0 : Nat) : Int) ≤ ((c : Nat) : Int) := by omega
          clear HT HT2 hx7 bx
          go_wp2_with fail
          go_region_held3 (fun w' => w'.cell? ⟨ga, off + (j), none⟩ = some (.float .f64 x)) (first | exact cl6 | exact cl7 | exact cl8 | exact cl9)
            (first
              | (go_at_call 62
                 refine (refClean_any x hx64 _).mono ?_
                 rintro e w' ⟨rfl, rfl⟩)
              | (refine step_e okF (by rfl) _ _ (by rfl) w.heap.size (by show w.heap.size ≤ (w6.alloc _).heap.size; rw [HSZ.out]; omega) (.slice (some ⟨g, 0, none⟩) (0) (c)) (o.take 0) (by rfl) ow7.drew (some ⟨w6.heap.size, 0, none⟩) 1 1 [cln x] (by rfl) (CameE.new (cln x)).drew (by rw [List.length_take]; show _ + 1 ≤ _; omega) (fun h => by cases h) ?_
                 intro v7 w7 own7 grow7 nn7
                 rcases own7.lst with ⟨h1, _⟩ | ⟨g7, c7, rfl, hg7, _, _, _⟩
                 exact absurd h1 nn7
                 rw [e7] at own7 ⊢
                 have cl8 := (World.grownBy.cell grow7 cl7 (by show some ga ≠ some g; simp; omega))
                 have lst7 := lst6.kept ((grow7.block gr (by show gr < (w6.alloc _).heap.size; rw [HSZ.out]; omega) (by show some gr ≠ some g; simp; omega)).trans k7)
                 have b08 := b07.drew.grown grow7 (by show w.heap.size ≤ (w6.alloc _).heap.size; rw [HSZ.out]; omega) (fun k hk => by cases hk; exact hg)
                 have hs8 := b08.size)
              | (refine step_e okF (by rfl) _ _ (by rfl) w.heap.size hs8 (.slice (some ⟨g7, 0, none⟩) (0 + 1) c7) (o.take 0 ++ [cln x]) (by rfl) own7 (some ⟨gr, 0, none⟩) (j) cr (o) (by rfl) ⟨⟨_, rfl⟩, hdl, lst7.holds⟩ (by rw [e7, hdl]; omega) (fun h => by cases h) ?_
                 intro v8 w8 own8 grow8 nn8
                 rw [hP2] at own8
                 rcases own8.lst with ⟨h1, _⟩ | ⟨g8, c8, rfl, hg8, hc8, _, _⟩
                 exact absurd h1 nn8
                 rw [e8] at own8 hc8 ⊢
                 have cl9 := (World.grownBy.cell grow8 cl8 (by show some ga ≠ some g7; simp; omega))
                 have b09 := b08.grown grow8 hs8 (fun k hk => by cases hk; exact hg7)))
          go_wp2_with fail
          exact ⟨⟨j + 1, g8, c8, inOrder (l.take (j + 1)), by omega, by go_num, rfl, hc8, own8, e8, b09, rfl⟩, by simp [intOf]; omega⟩
        | succ k =>
          obtain ⟨y, HY⟩ : ∃ y, Hid (o.getD k 0 = y) := ⟨_, rfl⟩
          have hy64 : y < 18446744073709551616 := by
            have := (key_inOrder (bits_take h64 j) (t := k) (by rw [← HO.out]; omega)).2
            rw [← HO.out, HY.out] at this
            exact this
          have cy : wr.cell? ⟨g, k, none⟩ = some (.float .f64 y) := by
            rw [← HY.out]
            have := (HL.out.cell ⟨g, 0 + k, none⟩).trans (hI.cell k (by omega))
            rw [Nat.zero_add] at this
            exact this
          have cx : wr.cell? ⟨ga, off + j, none⟩ = some (.float .f64 x) := (HL.out.cell _).trans cl
          have i0 : (0 : Int) ≤ (j : Int) := by omega
          have i1 : (j : Int) < (n : Int) := by omega
          have i2 : (0 : Int) ≤ (k : Int) := by omega
          have i3 : (k : Int) < (j : Int) := by omega
          by_cases hxy : ((key x : Nat) : Int) < ((key y : Nat) : Int)
          · have hcg : decide (0 < cmpI ((key y : Nat) : Int) ((key x : Nat) : Int)) = true := by rw [cmpI_gt hxy]; rfl
            have HT2 : Hid (∀ t, k ≤ t → t < o.length → ((key x : Nat) : Int) < ((key (o.getD t 0) : Nat) : Int)) := fun t h1 h2 => by
              by_cases e : t = k
              · subst e; rw [HY.out]; exact hxy
              · exact HT.out t (by omega) h2
            clear hxy
            go_wp2_with fail
            go_big_quiet (first | (go_at_call 28; refine Calls.quiet_of_same (refCmp_same _ _ (by assumption) (by assumption) _)))
            go_wp2_with fail
            go_roundw
            case rel => exact ⟨k, by omega, by go_num, HL.out.drewN _, HT2.out⟩
            case measure => simp [intOf]
          · have hcg : decide (0 < cmpI ((key y : Nat) : Int) ((key x : Nat) : Int)) = false := by
              refine decide_eq_false ?_
              rcases Int.lt_trichotomy ((key y : Nat) : Int) ((key x : Nat) : Int) with h | h | h
              · rw [cmpI_lt h]; decide
              · rw [cmpI_eq h]; decide
              · exact absurd h hxy
            have HT2 : Hid (0 < k + 1 → ((key (o.getD (k + 1 - 1) 0) : Nat) : Int) ≤ ((key x : Nat) : Int)) := fun h => by rw [Nat.add_sub_cancel, HY.out]; omega
            clear hxy
            by_cases hck : c = k + 1
            · obtain rfl : j = k + 1 := by omega
              subst hck
              go_wp2_with fail
              go_big_quiet (first | (go_at_call 28; refine Calls.quiet_of_same (refCmp_same _ _ (by assumption) (by assumption) _)))
              have LW := HL.out.drewN nq
              generalize wr.drewN nq = w5 at *
              have own5 := LW.own hown
              have lst5 := LW.lst hI
              have b5 := LW.below hB
              have cl5 := (LW.cell _).trans cl
              have bA := (Go.RowKit.Below.refl w5.heap.size w5).alloc (Nat.le_refl _) (.cells #[] 62)
              have hg5 := lst5.lt
              have hdl : (([] : List Nat)).length = 0 := rfl
              clear hown hI hB cl HL LW
              go_wp2_with (at_builtin; refine app_e okF rfl _ _ rfl w5.heap.size (by simp) (.slice (some ⟨w5.heap.size, 0, none⟩) 0 0) [] rfl (Own.start w5 _ (Nat.le_refl _)) (some ⟨g, 0, none⟩) (0) (0) (([] : List Nat)) rfl ⟨⟨_, rfl⟩, hdl, .inl rfl⟩ (by simp <;> omega) (fun h => by cases h) ?_)
              intro v6 w6 own6 b6 nn6
              have own6 : Own KF w6 w5.heap.size v6 (([] : List Nat)) := own6
              obtain ⟨h1, _⟩ | ⟨gr, cr, rfl, hgr, hcr, _, lst6⟩ := own6.lst
              · exact absurd h1 nn6
              rw [hdl]
              have b56 := bA.trans b6
              have ow6 : Own KF w6 w.heap.size (.slice (some ⟨g, 0, none⟩) (k + 1) (k + 1)) o := own5.kept (b56.block g hg5)
              have b06 := b5.trans (b56.mono b5.size)
              have cl6 := (b56.cell (by show ga < _; have := b5.size; omega)).trans cl5
              have hs6 : w5.heap.size ≤ w6.heap.size := b56.size
              have hlt6 := lst6.lt
              clear bA b6 own5 lst5 b5 cl5 own6 b56
              have hP := put_vals h64 HO.out (by omega) HX.out (by omega : (k + 1) ≤ o.length) HT.out HT2.out
              have hP2 : o.take (k + 1) ++ [cln x] ++ (([] : List Nat)) = inOrder (l.take (k + 1 + 1)) := by rw [← hP, List.drop_of_length_le (by omega)]
              have e7 : (o.take (k + 1) ++ [cln x]).length = (k + 1) + 1 := by simp <;> omega
              have e8 : (inOrder (l.take (k + 1 + 1))).length = k + 1 + 1 := by rw [inOrder_len]; simp <;> omega
              have hsz0 := b06.size
              have bx := (Go.RowKit.Below.refl w6.heap.size w6).alloc (Nat.le_refl _) (.cells #[.float .f64 (cln x)] 62)
              have cl7 := (bx.cell (by show ga < _; omega)).trans cl6
              have ow7 := (ow6.cut (by omega : (k + 1) ≤ o.length)).alloc (.cells #[.float .f64 (cln x)] 62)
              have b07 := b06.alloc (by omega) (.cells #[.float .f64 (cln x)] 62)
              have hx7 : (w6.alloc (.cells #[.float .f64 (cln x)] 62)).heap.size = w6.heap.size + 1 := by simp
              have k7 := Go.RowKit.Below.heap_alloc w6 (.cells #[.float .f64 (cln x)] 62) gr hlt6
              have HSZ := Lib.hid hx7
              have hj0 : (0 : Int) ≤ ((k + 1 : Nat) : Int) := by omega
              have hj1 : ((k + 1 : Nat) : Int) < (n : Int) := by omega
              have hk0 : (0 : Int) ≤ (((k + 1) : Nat) : Int) := by omega
              have hk1 : (((k + 1) : Nat) : Int) ≤ ((k + 1 : Nat) : Int) := by omega
              have q1 : (0 : Int) ≤ (k : Int) + 1 := by omega
              have q2 : (k : Int) + 1 < (n : Int) := by omega
              have q3 : k + 1 < n := by omega
              clear HT HT2 hx7 bx
              go_wp2_with fail
              go_region_held3 (fun w' => w'.cell? ⟨ga, off + (k + 1), none⟩ = some (.float .f64 x)) (first | exact cl6 | exact cl7 | exact cl8 | exact cl9)
                (first
                  | (go_at_call 62
                     refine (refClean_any x hx64 _).mono ?_
                     rintro e w' ⟨rfl, rfl⟩)
                  | (refine step_e okF (by rfl) _ _ (by rfl) w.heap.size (by show w.heap.size ≤ (w6.alloc _).heap.size; rw [HSZ.out]; omega) (.slice (some ⟨g, 0, none⟩) ((k + 1)) (k + 1)) (o.take (k + 1)) (by rfl) ow7.drew (some ⟨w6.heap.size, 0, none⟩) 1 1 [cln x] (by rfl) (CameE.new (cln x)).drew (by rw [List.length_take]; show _ + 1 ≤ _; omega) (fun h => by cases h) ?_
                     intro v7 w7 own7 grow7 nn7
                     rcases own7.lst with ⟨h1, _⟩ | ⟨g7, c7, rfl, hg7, _, _, _⟩
                     exact absurd h1 nn7
                     rw [e7] at own7 ⊢
                     have cl8 := (World.grownBy.cell grow7 cl7 (by show some ga ≠ some g; simp; omega))
                     have lst7 := lst6.kept ((grow7.block gr (by show gr < (w6.alloc _).heap.size; rw [HSZ.out]; omega) (by show some gr ≠ some g; simp; omega)).trans k7)
                     have b08 := b07.drew.grown grow7 (by show w.heap.size ≤ (w6.alloc _).heap.size; rw [HSZ.out]; omega) (fun k hk => by cases hk; exact hg)
                     have hs8 := b08.size)
                  | (refine step_e okF (by rfl) _ _ (by rfl) w.heap.size hs8 (.slice (some ⟨g7, 0, none⟩) ((k + 1) + 1) c7) (o.take (k + 1) ++ [cln x]) (by rfl) own7 (some ⟨gr, 0, none⟩) (0) cr (([] : List Nat)) (by rfl) ⟨⟨_, rfl⟩, hdl, lst7.holds⟩ (by rw [e7, hdl]; omega) (fun h => by cases h) ?_
                     intro v8 w8 own8 grow8 nn8
                     rw [hP2] at own8
                     rcases own8.lst with ⟨h1, _⟩ | ⟨g8, c8, rfl, hg8, hc8, _, _⟩
                     exact absurd h1 nn8
                     rw [e8] at own8 hc8 ⊢
                     have cl9 := (World.grownBy.cell grow8 cl8 (by show some ga ≠ some g7; simp; omega))
                     have b09 := b08.grown grow8 hs8 (fun k hk => by cases hk; exact hg7)))
              go_wp2_with fail
              exact ⟨⟨k + 1 + 1, g8, c8, inOrder (l.take (k + 1 + 1)), by omega, by go_num, rfl, hc8, own8, e8, b09, rfl⟩, by simp [intOf]; omega⟩
            · go_wp2_with fail
              go_big_quiet (first | (go_at_call 28; refine Calls.quiet_of_same (refCmp_same _ _ (by assumption) (by assumption) _)))
              have LW := HL.out.drewN nq
              generalize wr.drewN nq = w5 at *
              have own5 := LW.own hown
              have lst5 := LW.lst hI
              have b5 := LW.below hB
              have cl5 := (LW.cell _).trans cl
              have bA := (Go.RowKit.Below.refl w5.heap.size w5).alloc (Nat.le_refl _) (.cells #[] 62)
              have hg5 := lst5.lt
              have hdl : (o.drop (k + 1)).length = j - (k + 1) := by simp; omega
              clear hown hI hB cl HL LW
              go_wp2_with (at_builtin; refine app_e okF rfl _ _ rfl w5.heap.size (by simp) (.slice (some ⟨w5.heap.size, 0, none⟩) 0 0) [] rfl (Own.start w5 _ (Nat.le_refl _)) (some ⟨g, k + 1, none⟩) (j - (k + 1)) (c - (k + 1)) (o.drop (k + 1)) rfl ⟨⟨_, rfl⟩, hdl, by have h := ((lst5.below bA hg5).drop (k + 1)).holds; rw [Nat.zero_add] at h; exact h⟩ (by simp <;> omega) (fun h => by cases h) ?_)
              intro v6 w6 own6 b6 nn6
              have own6 : Own KF w6 w5.heap.size v6 (o.drop (k + 1)) := own6
              obtain ⟨h1, _⟩ | ⟨gr, cr, rfl, hgr, hcr, _, lst6⟩ := own6.lst
              · exact absurd h1 nn6
              rw [hdl]
              have b56 := bA.trans b6
              have ow6 : Own KF w6 w.heap.size (.slice (some ⟨g, 0, none⟩) (j) (c)) o := own5.kept (b56.block g hg5)
              have b06 := b5.trans (b56.mono b5.size)
              have cl6 := (b56.cell (by show ga < _; have := b5.size; omega)).trans cl5
              have hs6 : w5.heap.size ≤ w6.heap.size := b56.size
              have hlt6 := lst6.lt
              clear bA b6 own5 lst5 b5 cl5 own6 b56
              have hP := put_vals h64 HO.out (by omega) HX.out (by omega : (k + 1) ≤ o.length) HT.out HT2.out
              have hP2 : o.take (k + 1) ++ [cln x] ++ (o.drop (k + 1)) = inOrder (l.take (j + 1)) := hP
              have e7 : (o.take (k + 1) ++ [cln x]).length = (k + 1) + 1 := by simp <;> omega
              have e8 : (inOrder (l.take (j + 1))).length = j + 1 := by rw [inOrder_len]; simp <;> omega
              have hsz0 := b06.size
              have bx := (Go.RowKit.Below.refl w6.heap.size w6).alloc (Nat.le_refl _) (.cells #[.float .f64 (cln x)] 62)
              have cl7 := (bx.cell (by show ga < _; omega)).trans cl6
              have ow7 := (ow6.cut (by omega : (k + 1) ≤ o.length)).alloc (.cells #[.float .f64 (cln x)] 62)
              have b07 := b06.alloc (by omega) (.cells #[.float .f64 (cln x)] 62)
              have hx7 : (w6.alloc (.cells #[.float .f64 (cln x)] 62)).heap.size = w6.heap.size + 1 := by simp
              have k7 := Go.RowKit.Below.heap_alloc w6 (.cells #[.float .f64 (cln x)] 62) gr hlt6
              have HSZ := Lib.hid hx7
              have hj0 : (0 : Int) ≤ ((j : Nat) : Int) := by omega
              have hj1 : ((j : Nat) : Int) < (n : Int) := by omega
              have hk0 : (0 : Int) ≤ (((k + 1) : Nat) : Int) := by omega
              have hk1 : (((k + 1) : Nat) : Int) ≤ ((c : Nat) : Int) := by omega
              have q1 : (0 : Int) ≤ (k : Int) + 1 := by omega
              have q2 : (k : Int) + 1 ≤ (c : Int) := by omega
              clear HT HT2 hx7 bx
              go_wp2_with fail
              go_region_held3 (fun w' => w'.cell? ⟨ga, off + (j), none⟩ = some (.float .f64 x)) (first | exact cl6 | exact cl7 | exact cl8 | exact cl9)
                (first
                  | (go_at_call 62
                     refine (refClean_any x hx64 _).mono ?_
                     rintro e w' ⟨rfl, rfl⟩)
                  | (refine step_e okF (by rfl) _ _ (by rfl) w.heap.size (by show w.heap.size ≤ (w6.alloc _).heap.size; rw [HSZ.out]; omega) (.slice (some ⟨g, 0, none⟩) ((k + 1)) (c)) (o.take (k + 1)) (by rfl) ow7.drew (some ⟨w6.heap.size, 0, none⟩) 1 1 [cln x] (by rfl) (CameE.new (cln x)).drew (by rw [List.length_take]; show _ + 1 ≤ _; omega) (fun h => by cases h) ?_
                     intro v7 w7 own7 grow7 nn7
                     rcases own7.lst with ⟨h1, _⟩ | ⟨g7, c7, rfl, hg7, _, _, _⟩
                     exact absurd h1 nn7
                     rw [e7] at own7 ⊢
                     have cl8 := (World.grownBy.cell grow7 cl7 (by show some ga ≠ some g; simp; omega))
                     have lst7 := lst6.kept ((grow7.block gr (by show gr < (w6.alloc _).heap.size; rw [HSZ.out]; omega) (by show some gr ≠ some g; simp; omega)).trans k7)
                     have b08 := b07.drew.grown grow7 (by show w.heap.size ≤ (w6.alloc _).heap.size; rw [HSZ.out]; omega) (fun k hk => by cases hk; exact hg)
                     have hs8 := b08.size)
                  | (refine step_e okF (by rfl) _ _ (by rfl) w.heap.size hs8 (.slice (some ⟨g7, 0, none⟩) ((k + 1) + 1) c7) (o.take (k + 1) ++ [cln x]) (by rfl) own7 (some ⟨gr, 0, none⟩) (j - (k + 1)) cr (o.drop (k + 1)) (by rfl) ⟨⟨_, rfl⟩, hdl, lst7.holds⟩ (by rw [e7, hdl]; omega) (fun h => by cases h) ?_
                     intro v8 w8 own8 grow8 nn8
                     rw [hP2] at own8
                     rcases own8.lst with ⟨h1, _⟩ | ⟨g8, c8, rfl, hg8, hc8, _, _⟩
                     exact absurd h1 nn8
                     rw [e8] at own8 hc8 ⊢
                     have cl9 := (World.grownBy.cell grow8 cl8 (by show some ga ≠ some g7; simp; omega))
                     have b09 := b08.grown grow8 hs8 (fun k hk => by cases hk; exact hg7)))
              go_wp2_with fail
              exact ⟨⟨j + 1, g8, c8, inOrder (l.take (j + 1)), by omega, by go_num, rfl, hc8, own8, e8, b09, rfl⟩, by simp [intOf]; omega⟩
    · have hj2 : j = n := by omega
      obtain ⟨h1, _⟩ | ⟨g', c', e1, hg, _, _, hI⟩ := hown.lst
      · cases h1
      injection e1 with e1 e2 e3
      injection e1 with e1
      injection e1 with e1
      subst e1
      have hI2 : Lst KF g 0 (inOrder l) wr := by
        have := HO.out
        rw [hj2, List.take_of_length_le (by omega)] at this
        rw [← this]; exact hI
      clear e2 e3 HO hI hown hn ho
      subst hj2
      go_wp2_with fail
      go_ret
      exact ⟨⟨g, ⟨c, rfl⟩, hg, hI2⟩, hB⟩

end Go.Proofs.Ytjaogmbeoldefaa
