/-
  THE DOCUMENT'S OWN SORTING: what is handed in, rising. Condition: no more than 300 integers.
-/
import Derived.Test.YtmhggfgbefjcmaaOnceNum
import Derived.Test.YtmhggfgbefjcmaaRefRow
import Derived.Deep.RegionHeld3
namespace Go.Proofs.Ytmhggfgbefjcmaa
open Go.RowKit

/-- Nothing has turned but how often was drawn. -/
structure Like (w w' : World) : Prop where
  os : w'.os = w.os
  tape : w'.tape = w.tape
  output : w'.output = w.output
  heap : w'.heap = w.heap
theorem Like.refl (w : World) : Like w w := ⟨rfl, rfl, rfl, rfl⟩
theorem Like.drewN {w w' : World} (h : Like w w') (n : Nat) : Like w (w'.drewN n) := ⟨h.os, h.tape, h.output, h.heap⟩
theorem Like.cell {w w' : World} (h : Like w w') (p : Addr) : w'.cell? p = w.cell? p := by unfold World.cell?; rw [h.heap]
theorem Like.own {w w' : World} (h : Like w w') {B : Nat} {v : Value} {l : List Int} (ho : OwnI w B v l) : OwnI w' B v l := by
  unfold OwnI World.ownsRow at ho ⊢
  rw [h.heap]; exact ho
theorem Like.ints {w w' : World} (h : Like w w') {g : Nat} {l : List Int} (ho : Ints g l w) : Ints g l w' :=
  ⟨by rw [h.heap]; exact ho.lt, fun j hj => (h.cell _).trans (ho.cell j hj), fun j hj => by unfold World.frozen?; rw [h.heap]; exact ho.frozen j hj⟩
theorem Like.below {w0 w w' : World} (h : Like w w') {B : Nat} (hb : Below B w0 w) : Below B w0 w' :=
  ⟨h.os.trans hb.os, h.tape.trans hb.tape, h.output.trans hb.output, by rw [h.heap]; exact hb.size, fun k hk => by rw [h.heap]; exact hb.block k hk⟩

/-- One put among those that are rising. -/
theorem put_in {o l : List Int} {j k : Nat} {x : Int} (ho : o = sortI (l.take j)) (hj : j < l.length) (hx : l.getD j 0 = x) (hk : k ≤ o.length) (h1 : ∀ t, k ≤ t → t < o.length → x < o.getD t 0) (h2 : 0 < k → o.getD (k - 1) 0 ≤ x) :
    o.take k ++ [x] ++ o.drop k = sortI (l.take (j + 1)) := by
  have hs : o.Pairwise (fun a b => a ≤ b) := by rw [ho]; exact sortI_rising _
  have hs2 := List.pairwise_iff_getElem.1 hs
  have hp : (o.take k ++ [x] ++ o.drop k).Perm (l.take (j + 1)) := by
    have e1 : (o.take k ++ [x] ++ o.drop k).Perm ([x] ++ o) := by
      have : (o.take k ++ [x] ++ o.drop k).Perm ([x] ++ o.take k ++ o.drop k) := List.Perm.append_right _ List.perm_append_comm
      rwa [List.append_assoc [x], List.take_append_drop] at this
    have e2 : ([x] ++ o).Perm (o ++ [x]) := List.perm_append_comm
    have e3 : (o ++ [x]).Perm (l.take j ++ [x]) := List.Perm.append_right _ (by rw [ho]; exact sortI_perm _)
    have e4 : l.take (j + 1) = l.take j ++ [x] := by rw [List.take_add_one, List.getElem?_eq_getElem hj, ← hx, getD_at hj]; rfl
    rw [e4]
    exact (e1.trans e2).trans e3
  refine List.Perm.eq_of_pairwise (le := fun a b : Int => a ≤ b) (fun a b _ _ u v => Int.le_antisymm u v) ?_ (sortI_rising _) (hp.trans (sortI_perm _).symm)
  rw [List.append_assoc, List.pairwise_append]
  refine ⟨hs.sublist (List.take_sublist _ _), ?_, fun a ha b hb => ?_⟩
  · rw [List.singleton_append, List.pairwise_cons]
    refine ⟨fun b hb => ?_, hs.sublist (List.drop_sublist _ _)⟩
    obtain ⟨t, ht, rfl⟩ := List.mem_iff_getElem.1 hb
    rw [List.getElem_drop]
    simp at ht
    have := h1 (k + t) (by omega) (by omega)
    rw [getD_at (by omega)] at this
    omega
  · obtain ⟨s, hs', rfl⟩ := List.mem_iff_getElem.1 ha
    simp at hs'
    rw [List.getElem_take]
    have h0 := h2 (by omega)
    rw [getD_at (by omega)] at h0
    have hle : o[s] ≤ x := by
      by_cases e : s = k - 1
      · subst e; exact h0
      · have := hs2 s (k - 1) (by omega) (by omega) (by omega); omega
    rw [List.singleton_append, List.mem_cons] at hb
    rcases hb with rfl | hb
    · exact hle
    · obtain ⟨t, ht, rfl⟩ := List.mem_iff_getElem.1 hb
      rw [List.getElem_drop]
      simp at ht
      have := h1 (k + t) (by omega) (by omega)
      rw [getD_at (by omega)] at this
      omega

theorem OwnI.cut {w : World} {B g n cap k : Nat} {l : List Int} (h : OwnI w B (.slice (some ⟨g, 0, none⟩) n cap) l) (hk : k ≤ l.length) : OwnI w B (.slice (some ⟨g, 0, none⟩) k cap) (l.take k) := by
  obtain ⟨h1, ⟨h0, _⟩ | ⟨g', cap', cur, e, hB, hg, hc, hm, hs, ht⟩⟩ := h
  · cases h0
  · injection e with e1 e2 e3
    injection e1 with e1
    injection e1 with e1
    subst e1 e3
    have hkl : (l.take k).length = k := by simp; omega
    refine ⟨by simp, .inr ⟨g, cap, cur, by rw [hkl], hB, hg, by omega, hm, hs, ?_⟩⟩
    rw [hkl, Nat.mul_one]
    rw [Nat.mul_one] at ht
    have : cur.toList.take k = (cur.toList.take l.length).take k := by rw [List.take_take]; congr 1; omega
    rw [this, ht, List.map_take]

theorem OwnI.kept {w w' : World} {B g n cap : Nat} {l : List Int} (h : OwnI w B (.slice (some ⟨g, 0, none⟩) n cap) l) (hb : w'.heap[g]? = w.heap[g]?) : OwnI w' B (.slice (some ⟨g, 0, none⟩) n cap) l := by
  obtain ⟨h1, ⟨h0, _⟩ | ⟨g', cap', cur, e, hB, hg, hc, hm, hs, ht⟩⟩ := h
  · cases h0
  · injection e with e1 e2 e3
    injection e1 with e1
    injection e1 with e1
    subst e1 e3
    exact ⟨h1, .inr ⟨g, cap, cur, by rw [e2], hB, hb.trans hg, hc, hm, hs, ht⟩⟩
theorem OwnI.drew {w : World} {B : Nat} {v : Value} {l : List Int} (h : OwnI w B v l) : OwnI w.drew B v l := h
theorem Ints.drop {g : Nat} {l : List Int} {w : World} (h : Ints g l w) (k : Nat) : HoldsI w (some ⟨g, k, none⟩) (l.drop k) :=
  .inr ⟨g, k, rfl, h.lt, fun j hj => by
    simp at hj
    rw [h.cell (k + j) (by omega)]
    simp [List.getD_eq_getElem?_getD]⟩
theorem CameI.drew {w : World} {a : Option Addr} {n : Nat} {l : List Int} (h : CameI w a n l) : CameI w.drew a n l := h

theorem Ints.kept {g : Nat} {l : List Int} {w w' : World} (h : Ints g l w) (hb : w'.heap[g]? = w.heap[g]?) : Ints g l w' := by
  refine ⟨?_, fun j hj => (World.cell?_of_block (w := w) hb).trans (h.cell j hj), fun j hj => (World.frozen?_of_block (w := w) hb).trans (h.frozen j hj)⟩
  rcases Nat.lt_or_ge g w'.heap.size with h' | h'
  · exact h'
  · rw [Array.getElem?_eq_none h', Array.getElem?_eq_getElem h.lt] at hb; cases hb

theorem step_int {w : World} {ops : Array Oper} {o : Oper} {a : Act} {K : Act → World → Prop} {Q : Exit → Act → World → Prop} {E : Prop} (hw : Region.wanted o (yielded ops a.tmps) = true) (s x : Operand)
    (ho : o.op = .call { callee := .builtin .append, args := #[s, x], argTypes := #[28, 28] }) (B : Nat) (hB : B ≤ w.heap.size) (v : Value) (l : List Int) (hs : a.eval s = v) (hown : OwnI w B v l)
    (A : Option Addr) (m c : Nat) (k : List Int) (hx : a.eval x = .slice A m c) (hk : CameI w A m k) (hm : l.length + k.length ≤ 1000) (hv : v ≠ .slice none 0 0)
    (h : ∀ v' w', OwnI w' B v' (l ++ k) → w.grownBy w' v.ownBlock → v' ≠ .slice none 0 0 → K (a.put o.dst v') w') : if Region.wanted o (yielded ops a.tmps) = true then Oper.wp Try.prog o a w K Q else E := by
  obtain ⟨i0, hi, hz0, hz1, hz2⟩ := info_parts infoInt
  rw [if_pos hw]
  obtain ⟨⟨ad, rfl⟩, hl, hr⟩ := hk
  refine wp_append_own w s x 28 ho B 3 i0 _ 1 8 Try.underlying28 hi hz0 hz1 hz2 rfl (by decide) v _ _ hs hown ad m c (k.map (Value.int .i64)) hx (by simp [hl]) ?_ ?_ (by unfold maxLen; omega) (by omega) hB ?_
  · intro j u hu
    have hj : j < k.length := by
      rcases Nat.lt_or_ge j k.length with h' | h'
      · exact h'
      · rw [List.getElem?_eq_none (by simpa using h')] at hu; cases hu
    rcases hr with rfl | ⟨b, off, e, hb, hr⟩
    · simp at hj
    · obtain rfl := Option.some.inj e
      rw [Go.WideShapes.add_plain, hr j hj]
      simp [hj] at hu ⊢
      exact hu
  · intro u hu
    obtain ⟨z, _, rfl⟩ := List.mem_map.1 hu
    rfl
  · intro v' w' h2 h3 h4
    refine h v' w' ?_ h3 (fun h5 => hv (h4.1 h5).1)
    unfold OwnI
    rw [List.length_append, List.map_append, hl]; exact h2

set_option maxRecDepth 100000 in
set_option maxHeartbeats 2000000 in
theorem sorted_any (a : Option Addr) (n cap : Nat) (l : List Int) (hn : l.length = n) (h3 : n ≤ 300) (w : World) (hr : HoldsI w a l) :
    Calls Try.prog 31 #[.slice a n cap] w fun e w' => (∃ g c, e = .returned (.slice (some ⟨g, 0, none⟩) n c) ∧ Ints g (sortI l) w') ∧ Below w.heap.size w w' := by
  go_enter Try.func31, Try.ntmps31
  go_wp2_with fail
  go_loopw [3, 4] (fun v i wr => ∃ (j g c : Nat) (o : List Int), j ≤ n ∧ i = .int .i64 j ∧ v = .slice (some ⟨g, 0, none⟩) j c ∧ j ≤ c ∧ OwnI wr w.heap.size (.slice (some ⟨g, 0, none⟩) j c) o ∧ o.length = j ∧ Below w.heap.size w wr ∧ Hid (o = sortI (l.take j))) (fun _ i _ => n - (intOf i).toNat)
  case atStart => exact ⟨0, w.heap.size, 0, [], by omega, rfl, rfl, by omega, OwnI.start w _ (Nat.le_refl _), rfl, (Below.refl _ w).alloc (Nat.le_refl _) _, (List.mergeSort_of_pairwise List.Pairwise.nil : sortI [] = []).symm⟩
  case round =>
    obtain ⟨j, g, c, o, hj, rfl, rfl, hjc, hown, ho, hB, HO⟩ := hrel
    by_cases hlt : j < n
    · obtain ⟨ga, off, rfl, hga, hrow⟩ : ∃ g off, a = some ⟨g, off, none⟩ ∧ g < w.heap.size ∧ RowI w g off l := by
        rcases hr with rfl | h'
        · simp at hn; omega
        · exact h'
      obtain ⟨x, HX⟩ : ∃ x, Hid (l.getD j 0 = x) := ⟨_, rfl⟩
      have cl : wr.cell? ⟨ga, off + j, none⟩ = some (.int .i64 x) := by rw [← HX.out]; exact (hB.cell (by exact hga)).trans (hrow j (by omega))
      obtain ⟨h1, _⟩ | ⟨g', c', e1, hg, _, _, hI⟩ := hown.ints
      · cases h1
      injection e1 with e1 e2 e3
      injection e1 with e1
      injection e1 with e1
      subst e1
      clear e2 e3 hr hrow
      go_wp2_with fail
      generalize wr = w1 at *
      go_loopw [5] (fun kv wi => ∃ (k : Nat), k ≤ j ∧ kv = .int .i64 k ∧ Hid (Like w1 wi) ∧ Hid (∀ t, k ≤ t → t < o.length → x < o.getD t 0)) (fun kv _ => (intOf kv).toNat)
      case atStart => exact ⟨j, by omega, rfl, Like.refl _, fun t h1 h2 => by omega⟩
      case round =>
        obtain ⟨k, hk, rfl, HL, HT⟩ := hrel
        cases k with
        | zero =>
          have HT2 : Hid (0 < 0 → o.getD (0 - 1) 0 ≤ x) := fun h => by omega
          rw [show ((0 : Nat) : Int) = 0 from rfl]
          go_wp2_with fail
          go_quiet (fail)
          have LW := HL.out.drewN nq
          generalize wr.drewN nq = w5 at *
          have own5 := LW.own hown
          have int5 := LW.ints hI
          have b5 := LW.below hB
          have cl5 := (LW.cell _).trans cl
          have bA := (Below.refl w5.heap.size w5).alloc (Nat.le_refl _) (.cells #[] 3)
          have hg5 := int5.lt
          have hdl : (o).length = j := ho
          clear hown hI hB cl HL LW
          go_wp2_with (at_builtin; refine app_int rfl _ _ rfl w5.heap.size (by simp) (.slice (some ⟨w5.heap.size, 0, none⟩) 0 0) [] rfl (OwnI.start w5 _ (Nat.le_refl _)) (some ⟨g, 0, none⟩) (j) (c) (o) rfl ⟨⟨_, rfl⟩, hdl, (int5.below bA hg5).holds⟩ (by simp <;> omega) ?_ (fun h => by cases h))
          intro v6 w6 own6 b6 nn6
          have own6 : OwnI w6 w5.heap.size v6 (o) := own6
          obtain ⟨h1, _⟩ | ⟨gr, cr, rfl, hgr, hcr, _, int6⟩ := own6.ints
          · exact absurd h1 nn6
          rw [hdl]
          have b56 := bA.trans b6
          have ow6 : OwnI w6 w.heap.size (.slice (some ⟨g, 0, none⟩) (j) (c)) o := own5.kept (b56.block g hg5)
          have b06 := b5.trans (b56.mono b5.size)
          have cl6 := (b56.cell (by show ga < _; have := b5.size; omega)).trans cl5
          have hs6 : w5.heap.size ≤ w6.heap.size := b56.size
          have hlt6 := int6.lt
          clear bA b6 own5 int5 b5 cl5 own6 b56
          have hP := put_in HO.out (by omega) HX.out (by omega : 0 ≤ o.length) HT.out HT2.out
          have hP2 : o.take 0 ++ [x] ++ (o) = sortI (l.take (j + 1)) := by simpa using hP
          have e7 : (o.take 0 ++ [x]).length = 0 + 1 := by simp <;> omega
          have e8 : (sortI (l.take (j + 1))).length = j + 1 := by rw [sortI_len]; simp <;> omega
          have hsz0 := b06.size
          have bx := (Below.refl w6.heap.size w6).alloc (Nat.le_refl _) (.cells #[.int .i64 x] 3)
          have cl7 := (bx.cell (by show ga < _; omega)).trans cl6
          have ow7 := (ow6.cut (by omega : 0 ≤ o.length)).alloc (.cells #[.int .i64 x] 3)
          have b07 := b06.alloc (by omega) (.cells #[.int .i64 x] 3)
          have hx7 : (w6.alloc (.cells #[.int .i64 x] 3)).heap.size = w6.heap.size + 1 := by simp
          have k7 := Below.heap_alloc w6 (.cells #[.int .i64 x] 3) gr hlt6
          have HSZ := Lib.hid hx7
          have hj0 : (0 : Int) ≤ ((j : Nat) : Int) := by omega
          have hj1 : ((j : Nat) : Int) < (n : Int) := by omega
          have hk0 : (0 : Int) ≤ ((0 : Nat) : Int) := by omega
          have hk1 : ((0 : Nat) : Int) ≤ ((c : Nat) : Int) := by omega

          clear HT HT2 hx7 bx
          go_wp2_with fail
          go_region_held3 (fun w' => w'.cell? ⟨ga, off + (j), none⟩ = some (.int .i64 x)) (first | exact cl6 | exact cl7 | exact cl8 | exact cl9)
            (first
              | (refine step_int (by rfl) _ _ (by rfl) w.heap.size (by show w.heap.size ≤ (w6.alloc _).heap.size; rw [HSZ.out]; omega) (.slice (some ⟨g, 0, none⟩) (0) (c)) (o.take 0) (by rfl) ow7.drew (some ⟨w6.heap.size, 0, none⟩) 1 1 [x] (by rfl) (CameI.new x).drew (by simp <;> omega) (fun h => by cases h) ?_
                 intro v7 w7 own7 grow7 nn7
                 rcases own7.ints with ⟨h1, _⟩ | ⟨g7, c7, rfl, hg7, _, _, _⟩
                 exact absurd h1 nn7
                 rw [e7] at own7 ⊢
                 have cl8 := (World.grownBy.cell grow7 cl7 (by show some ga ≠ some g; simp; omega))
                 have int7 := int6.kept ((grow7.block gr (by show gr < (w6.alloc _).heap.size; rw [HSZ.out]; omega) (by show some gr ≠ some g; simp; omega)).trans k7)
                 have b08 := b07.drew.grown grow7 (by show w.heap.size ≤ (w6.alloc _).heap.size; rw [HSZ.out]; omega) (fun k hk => by cases hk; exact hg)
                 have hs8 := b08.size)
              | (refine step_int (by rfl) _ _ (by rfl) w.heap.size hs8 (.slice (some ⟨g7, 0, none⟩) (0 + 1) c7) (o.take 0 ++ [x]) (by rfl) own7 (some ⟨gr, 0, none⟩) (j) cr (o) (by rfl) ⟨⟨_, rfl⟩, hdl, int7.holds⟩ (by rw [e7, hdl]; omega) (fun h => by cases h) ?_
                 intro v8 w8 own8 grow8 nn8
                 rw [hP2] at own8
                 rcases own8.ints with ⟨h1, _⟩ | ⟨g8, c8, rfl, hg8, hc8, _, _⟩
                 exact absurd h1 nn8
                 rw [e8] at own8 hc8 ⊢
                 have cl9 := (World.grownBy.cell grow8 cl8 (by show some ga ≠ some g7; simp; omega))
                 have b09 := b08.grown grow8 hs8 (fun k hk => by cases hk; exact hg7)))
          go_wp2_with fail
          exact ⟨⟨j + 1, g8, c8, sortI (l.take (j + 1)), by omega, by go_num, rfl, hc8, own8, e8, b09, rfl⟩, by simp [intOf]; omega⟩
        | succ k =>
          obtain ⟨y, HY⟩ : ∃ y, Hid (o.getD k 0 = y) := ⟨_, rfl⟩
          have cy : wr.cell? ⟨g, k, none⟩ = some (.int .i64 y) := by rw [← HY.out]; exact (HL.out.cell _).trans (hI.cell k (by omega))
          have cx : wr.cell? ⟨ga, off + j, none⟩ = some (.int .i64 x) := (HL.out.cell _).trans cl
          by_cases hxy : x < y
          · have HT2 : Hid (∀ t, k ≤ t → t < o.length → x < o.getD t 0) := fun t h1 h2 => by
              by_cases e : t = k
              · subst e; rw [HY.out]; exact hxy
              · exact HT.out t (by omega) h2
            go_wp2_with fail
            go_quiet (fail)
            go_wp2_with fail
            go_roundw
            case rel => exact ⟨k, by omega, by go_num, HL.out.drewN _, HT2.out⟩
            case measure => simp [intOf]
          · have HT2 : Hid (0 < k + 1 → o.getD (k + 1 - 1) 0 ≤ x) := fun h => by rw [Nat.add_sub_cancel, HY.out]; omega
            by_cases hck : c = k + 1
            · obtain rfl : j = k + 1 := by omega
              subst hck
              go_wp2_with fail
              go_quiet (fail)
              have LW := HL.out.drewN nq
              generalize wr.drewN nq = w5 at *
              have own5 := LW.own hown
              have int5 := LW.ints hI
              have b5 := LW.below hB
              have cl5 := (LW.cell _).trans cl
              have bA := (Below.refl w5.heap.size w5).alloc (Nat.le_refl _) (.cells #[] 3)
              have hg5 := int5.lt
              have hdl : (([] : List Int)).length = 0 := rfl
              clear hown hI hB cl HL LW
              go_wp2_with (at_builtin; refine app_int rfl _ _ rfl w5.heap.size (by simp) (.slice (some ⟨w5.heap.size, 0, none⟩) 0 0) [] rfl (OwnI.start w5 _ (Nat.le_refl _)) (some ⟨g, 0, none⟩) (0) (0) (([] : List Int)) rfl ⟨⟨_, rfl⟩, hdl, .inl rfl⟩ (by simp <;> omega) ?_ (fun h => by cases h))
              intro v6 w6 own6 b6 nn6
              have own6 : OwnI w6 w5.heap.size v6 (([] : List Int)) := own6
              obtain ⟨h1, _⟩ | ⟨gr, cr, rfl, hgr, hcr, _, int6⟩ := own6.ints
              · exact absurd h1 nn6
              rw [hdl]
              have b56 := bA.trans b6
              have ow6 : OwnI w6 w.heap.size (.slice (some ⟨g, 0, none⟩) (k + 1) (k + 1)) o := own5.kept (b56.block g hg5)
              have b06 := b5.trans (b56.mono b5.size)
              have cl6 := (b56.cell (by show ga < _; have := b5.size; omega)).trans cl5
              have hs6 : w5.heap.size ≤ w6.heap.size := b56.size
              have hlt6 := int6.lt
              clear bA b6 own5 int5 b5 cl5 own6 b56
              have hP := put_in HO.out (by omega) HX.out (by omega : (k + 1) ≤ o.length) HT.out HT2.out
              have hP2 : o.take (k + 1) ++ [x] ++ (([] : List Int)) = sortI (l.take (k + 1 + 1)) := by rw [← hP, List.drop_of_length_le (by omega)]
              have e7 : (o.take (k + 1) ++ [x]).length = (k + 1) + 1 := by simp <;> omega
              have e8 : (sortI (l.take (k + 1 + 1))).length = k + 1 + 1 := by rw [sortI_len]; simp <;> omega
              have hsz0 := b06.size
              have bx := (Below.refl w6.heap.size w6).alloc (Nat.le_refl _) (.cells #[.int .i64 x] 3)
              have cl7 := (bx.cell (by show ga < _; omega)).trans cl6
              have ow7 := (ow6.cut (by omega : (k + 1) ≤ o.length)).alloc (.cells #[.int .i64 x] 3)
              have b07 := b06.alloc (by omega) (.cells #[.int .i64 x] 3)
              have hx7 : (w6.alloc (.cells #[.int .i64 x] 3)).heap.size = w6.heap.size + 1 := by simp
              have k7 := Below.heap_alloc w6 (.cells #[.int .i64 x] 3) gr hlt6
              have HSZ := Lib.hid hx7
              have hj0 : (0 : Int) ≤ ((k + 1 : Nat) : Int) := by omega
              have hj1 : ((k + 1 : Nat) : Int) < (n : Int) := by omega
              have hk0 : (0 : Int) ≤ (((k + 1) : Nat) : Int) := by omega
              have hk1 : (((k + 1) : Nat) : Int) ≤ ((k + 1 : Nat) : Int) := by omega
              have q1 : (0 : Int) ≤ (k : Int) + 1 := by omega
              have q2 : (k : Int) + 1 < (n : Int) := by omega
              have q3 : k + 1 < n := by omega
              clear HT HT2 hx7 bx
              go_wp2_with fail
              go_region_held3 (fun w' => w'.cell? ⟨ga, off + (k + 1), none⟩ = some (.int .i64 x)) (first | exact cl6 | exact cl7 | exact cl8 | exact cl9)
                (first
                  | (refine step_int (by rfl) _ _ (by rfl) w.heap.size (by show w.heap.size ≤ (w6.alloc _).heap.size; rw [HSZ.out]; omega) (.slice (some ⟨g, 0, none⟩) ((k + 1)) (k + 1)) (o.take (k + 1)) (by rfl) ow7.drew (some ⟨w6.heap.size, 0, none⟩) 1 1 [x] (by rfl) (CameI.new x).drew (by simp <;> omega) (fun h => by cases h) ?_
                     intro v7 w7 own7 grow7 nn7
                     rcases own7.ints with ⟨h1, _⟩ | ⟨g7, c7, rfl, hg7, _, _, _⟩
                     exact absurd h1 nn7
                     rw [e7] at own7 ⊢
                     have cl8 := (World.grownBy.cell grow7 cl7 (by show some ga ≠ some g; simp; omega))
                     have int7 := int6.kept ((grow7.block gr (by show gr < (w6.alloc _).heap.size; rw [HSZ.out]; omega) (by show some gr ≠ some g; simp; omega)).trans k7)
                     have b08 := b07.drew.grown grow7 (by show w.heap.size ≤ (w6.alloc _).heap.size; rw [HSZ.out]; omega) (fun k hk => by cases hk; exact hg)
                     have hs8 := b08.size)
                  | (refine step_int (by rfl) _ _ (by rfl) w.heap.size hs8 (.slice (some ⟨g7, 0, none⟩) ((k + 1) + 1) c7) (o.take (k + 1) ++ [x]) (by rfl) own7 (some ⟨gr, 0, none⟩) (0) cr (([] : List Int)) (by rfl) ⟨⟨_, rfl⟩, hdl, int7.holds⟩ (by rw [e7, hdl]; omega) (fun h => by cases h) ?_
                     intro v8 w8 own8 grow8 nn8
                     rw [hP2] at own8
                     rcases own8.ints with ⟨h1, _⟩ | ⟨g8, c8, rfl, hg8, hc8, _, _⟩
                     exact absurd h1 nn8
                     rw [e8] at own8 hc8 ⊢
                     have cl9 := (World.grownBy.cell grow8 cl8 (by show some ga ≠ some g7; simp; omega))
                     have b09 := b08.grown grow8 hs8 (fun k hk => by cases hk; exact hg7)))
              go_wp2_with fail
              exact ⟨⟨k + 1 + 1, g8, c8, sortI (l.take (k + 1 + 1)), by omega, by go_num, rfl, hc8, own8, e8, b09, rfl⟩, by simp [intOf]; omega⟩
            · go_wp2_with fail
              go_quiet (fail)
              have LW := HL.out.drewN nq
              generalize wr.drewN nq = w5 at *
              have own5 := LW.own hown
              have int5 := LW.ints hI
              have b5 := LW.below hB
              have cl5 := (LW.cell _).trans cl
              have bA := (Below.refl w5.heap.size w5).alloc (Nat.le_refl _) (.cells #[] 3)
              have hg5 := int5.lt
              have hdl : (o.drop (k + 1)).length = j - (k + 1) := by simp; omega
              clear hown hI hB cl HL LW
              go_wp2_with (at_builtin; refine app_int rfl _ _ rfl w5.heap.size (by simp) (.slice (some ⟨w5.heap.size, 0, none⟩) 0 0) [] rfl (OwnI.start w5 _ (Nat.le_refl _)) (some ⟨g, k + 1, none⟩) (j - (k + 1)) (c - (k + 1)) (o.drop (k + 1)) rfl ⟨⟨_, rfl⟩, hdl, (int5.below bA hg5).drop (k + 1)⟩ (by simp <;> omega) ?_ (fun h => by cases h))
              intro v6 w6 own6 b6 nn6
              have own6 : OwnI w6 w5.heap.size v6 (o.drop (k + 1)) := own6
              obtain ⟨h1, _⟩ | ⟨gr, cr, rfl, hgr, hcr, _, int6⟩ := own6.ints
              · exact absurd h1 nn6
              rw [hdl]
              have b56 := bA.trans b6
              have ow6 : OwnI w6 w.heap.size (.slice (some ⟨g, 0, none⟩) (j) (c)) o := own5.kept (b56.block g hg5)
              have b06 := b5.trans (b56.mono b5.size)
              have cl6 := (b56.cell (by show ga < _; have := b5.size; omega)).trans cl5
              have hs6 : w5.heap.size ≤ w6.heap.size := b56.size
              have hlt6 := int6.lt
              clear bA b6 own5 int5 b5 cl5 own6 b56
              have hP := put_in HO.out (by omega) HX.out (by omega : (k + 1) ≤ o.length) HT.out HT2.out
              have hP2 : o.take (k + 1) ++ [x] ++ (o.drop (k + 1)) = sortI (l.take (j + 1)) := hP
              have e7 : (o.take (k + 1) ++ [x]).length = (k + 1) + 1 := by simp <;> omega
              have e8 : (sortI (l.take (j + 1))).length = j + 1 := by rw [sortI_len]; simp <;> omega
              have hsz0 := b06.size
              have bx := (Below.refl w6.heap.size w6).alloc (Nat.le_refl _) (.cells #[.int .i64 x] 3)
              have cl7 := (bx.cell (by show ga < _; omega)).trans cl6
              have ow7 := (ow6.cut (by omega : (k + 1) ≤ o.length)).alloc (.cells #[.int .i64 x] 3)
              have b07 := b06.alloc (by omega) (.cells #[.int .i64 x] 3)
              have hx7 : (w6.alloc (.cells #[.int .i64 x] 3)).heap.size = w6.heap.size + 1 := by simp
              have k7 := Below.heap_alloc w6 (.cells #[.int .i64 x] 3) gr hlt6
              have HSZ := Lib.hid hx7
              have hj0 : (0 : Int) ≤ ((j : Nat) : Int) := by omega
              have hj1 : ((j : Nat) : Int) < (n : Int) := by omega
              have hk0 : (0 : Int) ≤ (((k + 1) : Nat) : Int) := by omega
              have hk1 : (((k + 1) : Nat) : Int) ≤ ((c : Nat) : Int) := by omega
              have q1 : (0 : Int) ≤ (k : Int) + 1 := by omega
              have q2 : (k : Int) + 1 ≤ (c : Int) := by omega
              clear HT HT2 hx7 bx
              go_wp2_with fail
              go_region_held3 (fun w' => w'.cell? ⟨ga, off + (j), none⟩ = some (.int .i64 x)) (first | exact cl6 | exact cl7 | exact cl8 | exact cl9)
                (first
                  | (refine step_int (by rfl) _ _ (by rfl) w.heap.size (by show w.heap.size ≤ (w6.alloc _).heap.size; rw [HSZ.out]; omega) (.slice (some ⟨g, 0, none⟩) ((k + 1)) (c)) (o.take (k + 1)) (by rfl) ow7.drew (some ⟨w6.heap.size, 0, none⟩) 1 1 [x] (by rfl) (CameI.new x).drew (by simp <;> omega) (fun h => by cases h) ?_
                     intro v7 w7 own7 grow7 nn7
                     rcases own7.ints with ⟨h1, _⟩ | ⟨g7, c7, rfl, hg7, _, _, _⟩
                     exact absurd h1 nn7
                     rw [e7] at own7 ⊢
                     have cl8 := (World.grownBy.cell grow7 cl7 (by show some ga ≠ some g; simp; omega))
                     have int7 := int6.kept ((grow7.block gr (by show gr < (w6.alloc _).heap.size; rw [HSZ.out]; omega) (by show some gr ≠ some g; simp; omega)).trans k7)
                     have b08 := b07.drew.grown grow7 (by show w.heap.size ≤ (w6.alloc _).heap.size; rw [HSZ.out]; omega) (fun k hk => by cases hk; exact hg)
                     have hs8 := b08.size)
                  | (refine step_int (by rfl) _ _ (by rfl) w.heap.size hs8 (.slice (some ⟨g7, 0, none⟩) ((k + 1) + 1) c7) (o.take (k + 1) ++ [x]) (by rfl) own7 (some ⟨gr, 0, none⟩) (j - (k + 1)) cr (o.drop (k + 1)) (by rfl) ⟨⟨_, rfl⟩, hdl, int7.holds⟩ (by rw [e7, hdl]; omega) (fun h => by cases h) ?_
                     intro v8 w8 own8 grow8 nn8
                     rw [hP2] at own8
                     rcases own8.ints with ⟨h1, _⟩ | ⟨g8, c8, rfl, hg8, hc8, _, _⟩
                     exact absurd h1 nn8
                     rw [e8] at own8 hc8 ⊢
                     have cl9 := (World.grownBy.cell grow8 cl8 (by show some ga ≠ some g7; simp; omega))
                     have b09 := b08.grown grow8 hs8 (fun k hk => by cases hk; exact hg7)))
              go_wp2_with fail
              exact ⟨⟨j + 1, g8, c8, sortI (l.take (j + 1)), by omega, by go_num, rfl, hc8, own8, e8, b09, rfl⟩, by simp [intOf]; omega⟩
    · have hj2 : j = n := by omega
      obtain ⟨h1, _⟩ | ⟨g', c', e1, hg, _, _, hI⟩ := hown.ints
      · cases h1
      injection e1 with e1 e2 e3
      injection e1 with e1
      injection e1 with e1
      subst e1
      have hI2 : Ints g (sortI l) wr := by
        have := HO.out
        rw [hj2, List.take_of_length_le (by omega)] at this
        rw [← this]; exact hI
      clear e2 e3 HO hI hown
      subst hj2
      go_wp2_with fail
      go_ret
      exact ⟨⟨g, ⟨c, rfl⟩, hI2⟩, hB⟩
end Go.Proofs.Ytmhggfgbefjcmaa
