/-
  DealOnce's walk: for every key, n and k the law answers true and turns no memory that was there, whatever the rounds. Conditions: the package's table of rounds holds nine numbers of 64 bits; n and k are at least 0 and below 2^16.
-/
import Derived.Test.YtmhggfgbefjcmaaOnceNum
import Derived.Test.YtmhggfgbefjcmaaStreamAny
namespace Go.Proofs.Ytmhggfgbefjcmaa
open Go.RowKit

theorem StreamS.made {r : R3} {t : TypeId} {fr : Nat × Nat} {w : World} (hg : w.heap[0]? = some (.cells r.cells t fr)) (key : Int) : StreamS r t fr w.heap.size key 0 (w.alloc (.cells #[.int .u64 key, .int .u64 0] 61)) := by
  have h0 : 0 < w.heap.size := (Array.getElem?_eq_some_iff.1 hg).1
  exact ⟨StreamAt.made w key, (Below.heap_alloc _ _ _ h0).trans hg, by omega⟩

theorem stream_stays_here {r : R3} {t : TypeId} {fr : Nat × Nat} {b : Nat} {key : Int} {k : Nat} {w : World} (h : StreamS r t fr b key k w) : Stays w.heap.size (StreamS r t fr b key) :=
  stream_stays h.1.lt (Array.getElem?_eq_some_iff.1 h.2.1).1

/-- What isn't among the first j of p is not seen yet. -/
def Unseen (q p : List Int) (m j : Nat) : Prop := q.length = m ∧ ∀ x, x < m → (∀ i, i < j → p.getD i 0 ≠ (x : Int)) → q.getD x 0 = 0
theorem Unseen.start (p : List Int) (m : Nat) : Unseen (List.replicate m 0) p m 0 := by
  refine ⟨by simp, fun x hx _ => ?_⟩
  rw [List.getD_eq_getElem?_getD, List.getElem?_replicate, if_pos hx]; rfl
theorem Unseen.here {q p : List Int} {m j x : Nat} (h : Unseen q p m j) (hp : Each p m) (hj : j < m) (hx : p.getD j 0 = x) : x < m ∧ q.getD x 0 = 0 := by
  have h1 := hp.2.1 j hj
  have hxm : x < m := by omega
  exact ⟨hxm, h.2 x hxm fun i hi => by rw [← hx]; exact hp.2.2 i j hi hj⟩
theorem Unseen.next {q p : List Int} {m j x : Nat} (h : Unseen q p m j) (hx : p.getD j 0 = x) : Unseen (q.set x 1) p m (j + 1) := by
  refine ⟨by rw [List.length_set]; exact h.1, fun y hy hn => ?_⟩
  have hne : x ≠ y := fun e => hn j (by omega) (by rw [hx, e])
  have := h.2 y hy fun i hi => hn i (by omega)
  rw [List.getD_eq_getElem?_getD, List.getElem?_set_ne hne, ← List.getD_eq_getElem?_getD]
  exact this

theorem sum_take (q : List Int) (j : Nat) (hj : j < q.length) : (q.take (j + 1)).sum = (q.take j).sum + q.getD j 0 := by
  rw [List.take_add_one, List.sum_append, List.getElem?_eq_getElem hj, getD_at hj]
  simp

theorem perm_stream (r : R3) (hok : r.ok) (t : TypeId) (fr : Nat × Nat) (b : Nat) (key n : Int) (k : Nat) (hk : k ≤ 100000000) (w : World) (h : StreamS r t fr b key k w) (p : List Int) (k' : Nat) (e' : Int) (hR : permR (fun i => r.at key i) n k = (p, k', e')) :
    Calls Try.prog 11 #[.iface 40 (.pointer (some ⟨b, 0, none⟩)), .int .i64 n] w fun e w' => (∃ x c, e = .returned (.tuple #[.slice x p.length c, .int .i64 e']) ∧ HoldsI w' x p) ∧ StreamS r t fr b key k' w' ∧ But b w w' := by
  refine (perm_any _ _ _ b _ _ _ (stream_src r hok t fr b key) n k (by omega) w h.1.lt (stream_stays_here h) h).mono ?_
  rintro e w' ⟨⟨v, rfl, hs⟩, h1, h2⟩
  rw [hR] at hs h1 ⊢
  obtain ⟨x, c, rfl, hr⟩ := hs.holds
  exact ⟨⟨x, c, rfl, hr⟩, h1, h2⟩
theorem deal_stream (r : R3) (hok : r.ok) (t : TypeId) (fr : Nat × Nat) (b : Nat) (key n : Int) (k : Nat) (hk : k ≤ 100000000) (w : World) (h : StreamS r t fr b key k w) (p : List Int) (k' : Nat) (e' : Int) (hR : dealR (fun i => r.at key i) n k = (p, k', e')) :
    Calls Try.prog 16 #[.iface 40 (.pointer (some ⟨b, 0, none⟩)), .int .i64 n] w fun e w' => (∃ x c, e = .returned (.tuple #[.slice x p.length c, .int .i64 e']) ∧ HoldsI w' x p) ∧ StreamS r t fr b key k' w' ∧ But b w w' := by
  refine (deal_any _ _ _ b _ _ _ (stream_src r hok t fr b key) n k (by omega) w h.1.lt (stream_stays_here h) h).mono ?_
  rintro e w' ⟨⟨v, rfl, hs⟩, h1, h2⟩
  rw [hR] at hs h1 ⊢
  obtain ⟨x, c, rfl, hr⟩ := hs.holds
  exact ⟨⟨x, c, rfl, hr⟩, h1, h2⟩
theorem choose_stream (r : R3) (hok : r.ok) (t : TypeId) (fr : Nat × Nat) (b : Nat) (key n c0 : Int) (k : Nat) (hk : k ≤ 100000000) (w : World) (h : StreamS r t fr b key k w) (p : List Int) (k' : Nat) (e' : Int) (hR : chooseR (fun i => r.at key i) n c0 k = (p, k', e')) :
    Calls Try.prog 14 #[.iface 40 (.pointer (some ⟨b, 0, none⟩)), .int .i64 n, .int .i64 c0] w fun e w' => (∃ x c, e = .returned (.tuple #[.slice x p.length c, .int .i64 e']) ∧ HoldsI w' x p) ∧ StreamS r t fr b key k' w' ∧ But b w w' := by
  refine (choose_any _ _ _ b _ _ _ (stream_src r hok t fr b key) n c0 k (by omega) w h.1.lt (stream_stays_here h) h).mono ?_
  rintro e w' ⟨⟨v, rfl, hs⟩, h1, h2⟩
  rw [hR] at hs h1 ⊢
  obtain ⟨x, c, rfl, hr⟩ := hs.holds
  exact ⟨⟨x, c, rfl, hr⟩, h1, h2⟩

set_option maxRecDepth 100000 in
set_option maxHeartbeats 1000000 in
theorem once_any (r : R3) (hok : r.ok) (t : TypeId) (fr : Nat × Nat) (key n k : Int) (hn0 : 0 ≤ n) (hn1 : n < 65536) (hk0 : 0 ≤ k) (hk1 : k < 65536) (w : World) (hg : w.heap[0]? = some (.cells r.cells t fr)) :
    Calls Try.prog 6 #[.int .u64 key, .int .u16 n, .int .u16 k] w fun e w' => e = .returned (.bool true) ∧ Below w.heap.size w w' := by
  have hz : 0 < w.heap.size := (Array.getElem?_eq_some_iff.1 hg).1
  have HG := Lib.hid hg; clear hg
  obtain ⟨m, hm⟩ : ∃ m : Nat, n % 300 = m := ⟨(n % 300).toNat, by omega⟩
  have hm3 : m < 300 := by omega
  obtain ⟨p, k1, e1, hP⟩ : ∃ p k1 e1, permR (fun i => r.at key i) (m : Int) 0 = (p, k1, e1) := ⟨_, _, _, rfl⟩
  obtain ⟨q, k3, e3, hQ⟩ : ∃ q k3 e3, dealR (fun i => r.at key i) (m : Int) 0 = (q, k3, e3) := ⟨_, _, _, rfl⟩
  have tP := perm_told (fun i => r.at key i) m 0 (by omega)
  have tQ := deal_told (fun i => r.at key i) m 0 (by omega)
  rw [hP] at tP
  rw [hQ] at tQ
  simp only at tP tQ
  have HP := Lib.hid hP
  have HQ := Lib.hid hQ
  clear hP hQ
  by_cases hpos : 0 < n % 300
  · obtain ⟨c, hc⟩ : ∃ c : Nat, k % ((m : Int) + 1) = c := ⟨(k % ((m : Int) + 1)).toNat, by have := Int.emod_nonneg k (by omega : (m : Int) + 1 ≠ 0); omega⟩
    have hcm : c ≤ m := by have := Int.emod_lt_of_pos k (by omega : 0 < (m : Int) + 1); omega
    obtain ⟨s, k2, e2, hC⟩ : ∃ s k2 e2, chooseR (fun i => r.at key i) (m : Int) (c : Int) 0 = (s, k2, e2) := ⟨_, _, _, rfl⟩
    have tC := choose_told (fun i => r.at key i) m c 0 (by omega) hcm
    rw [hC] at tC
    simp only at tC
    have HC := Lib.hid hC
    have hmp : 0 < m := by omega
    clear hC
    go_enter Try.func6, Try.ntmps6
    go_wp2_with fail
    refine (new_any key _).mono ?_
    rintro e w1 ⟨rfl, rfl⟩
    go_wp2_with fail
    refine (perm_stream r hok t fr _ key _ 0 (by decide) _ (StreamS.made HG.out key) p k1 e1 HP.out).mono ?_
    rintro e w1 ⟨⟨x1, q1, rfl, r1⟩, _, hB1⟩
    have b1 := hB1.past1
    have g1 := Lib.hid (laid_below HG.out hz b1)
    clear hB1
    go_wp2_with fail
    refine (new_any key _).mono ?_
    rintro e w2 ⟨rfl, rfl⟩
    go_wp2_with fail
    refine (choose_stream r hok t fr _ key _ _ 0 (by decide) _ (StreamS.made g1.out key) s k2 e2 HC.out).mono ?_
    rintro e w2 ⟨⟨x2, q2, rfl, r2⟩, _, hB2⟩
    have b2 := hB2.past1
    have r1 := r1.below b2
    have b2 := b1.trans (b2.mono b1.size)
    have g2 := Lib.hid (laid_below HG.out hz b2)
    clear hB2 b1 g1
    go_wp2_with fail
    refine (new_any key _).mono ?_
    rintro e w3 ⟨rfl, rfl⟩
    go_wp2_with fail
    refine (deal_stream r hok t fr _ key _ 0 (by decide) _ (StreamS.made g2.out key) q k3 e3 HQ.out).mono ?_
    rintro e w3 ⟨⟨x3, q3, rfl, r3⟩, _, hB3⟩
    have b3 := hB3.past1
    have r1 := r1.below b3
    have r2 := r2.below b3
    have b3 := b2.trans (b3.mono b2.size)
    clear hB3 b2 g2 HP HC HQ
    rcases tP with ⟨rfl, tP⟩ | rfl
    · rcases tC with ⟨rfl, tC⟩ | rfl
      · rcases tQ with ⟨rfl, tQ⟩ | rfl
        · skip
          have hp := tP.1
          have hs := tC.1
          have hq := tQ.1
          have hmk := run_made w3 m (by omega)
          have HI := Lib.hid (Ints.made w3 (List.replicate m 0))
          have HB := Lib.hid ((Below.refl w3.heap.size w3).alloc (Nat.le_refl _) (.cells ((List.replicate m (0 : Int)).map (Value.int .i64)).toArray 3))
          generalize (Obj.cells ((List.replicate m (0 : Int)).map (Value.int .i64)).toArray 3) = ob at *
          have TP := Lib.hid tP
          have TC := Lib.hid tC
          have TQ := Lib.hid tQ
          clear tP tC tQ
          go_wp2_with fail
          go_loopw [97] (fun i wr => ∃ (j : Nat) (u : List Int), j ≤ m ∧ i = .int .i64 j ∧ Below w3.heap.size w3 wr ∧ Ints w3.heap.size u wr ∧ Hid (Unseen u p m j)) (fun i _ => m - (intOf i).toNat)
          case atStart => exact ⟨0, _, by omega, rfl, HB.out, HI.out, Unseen.start p m⟩
          case round =>
            clear HI HB hmk
            obtain ⟨j, u, hj, rfl, hB, hI, HU⟩ := hrel
            by_cases hlt : j < m
            · obtain ⟨g, off, rfl, hg, hrow⟩ : ∃ g off, x1 = some ⟨g, off, none⟩ ∧ g < w3.heap.size ∧ RowI w3 g off p := by
                rcases r1 with rfl | h'
                · simp at hp; omega
                · exact h'
              have hpj := TP.out.2.1 j hlt
              obtain ⟨x, HX⟩ : ∃ x : Nat, Hid (p.getD j 0 = x) := ⟨(p.getD j 0).toNat, by show _ = _; omega⟩
              obtain ⟨hxm, hux⟩ := HU.out.here TP.out hlt HX.out
              have cp : wr.cell? ⟨g, off + j, none⟩ = some (.int .i64 (x : Int)) := by rw [← HX.out]; exact (hB.cell (by exact hg)).trans (hrow j (by omega))
              have cu := hI.cell x (by rw [HU.out.1]; exact hxm)
              have fu := hI.frozen x (by rw [HU.out.1]; exact hxm)
              rw [hux] at cu
              have HI2 := Lib.hid (hI.set x 1 (by rw [HU.out.1]; exact hxm))
              have HB2 := Lib.hid (hB.setCell (p := ⟨w3.heap.size, x, none⟩) (Nat.le_refl _) (.int .i64 1))
              have HU2 := Lib.hid (HU.out.next HX.out)
              have hx0 : ¬ (x : Int) < 0 := by omega
              have hx1 : ¬ (m : Int) ≤ (x : Int) := by omega
              clear hpj hI hB hrow r1 hux
              go_wp2_with fail
              go_roundw
              case rel => exact ⟨j + 1, u.set x 1, by omega, by go_num, HB2.out, HI2.out, HU2.out⟩
              case measure => simp [intOf]; omega
            · have hB4 := hB
              have r2 := r2.below hB
              have r3 := r3.below hB
              have b4 := b3.trans (hB.mono b3.size)
              generalize wr = w4 at *
              clear hI HU hB hj r1 b3 hB4
              go_wp2_with fail
              go_loopw [18, 19, 124] (fun _ _ i wr => ∃ (j : Nat), j ≤ c ∧ i = .int .i64 j ∧ w4 = wr) (fun _ _ i _ => c - (intOf i).toNat)
              case atStart => exact ⟨0, by omega, rfl, rfl⟩
              case round =>
                obtain ⟨j, hj, rfl, rfl⟩ := hrel
                by_cases hlt : j < c
                · obtain ⟨g, off, rfl, hg, hrow⟩ : ∃ g off, x2 = some ⟨g, off, none⟩ ∧ g < w4.heap.size ∧ RowI w4 g off s := by
                    rcases r2 with rfl | h'
                    · simp at hs; omega
                    · exact h'
                  have hsj := TC.out.2.1 j hlt
                  have cs := hrow j (by omega)
                  have hx0 : ¬ s.getD j 0 < 0 := by omega
                  have hx1 : ¬ (m : Int) ≤ s.getD j 0 := by omega
                  cases j with
                  | zero =>
                    rw [Nat.add_zero] at cs
                    generalize s.getD 0 0 = y at *
                    clear hsj hrow r2
                    go_wp2_with fail
                    go_roundw
                    case rel => exact ⟨1, by omega, by go_num, by trivial⟩
                    case measure => simp [intOf]; omega
                  | succ i =>
                    have hri := TC.out.2.2 (i + 1) (by omega) hlt
                    have cs0 := hrow i (by omega)
                    rw [Nat.add_sub_cancel] at hri
                    have hri2 : ¬ s.getD (i + 1) 0 ≤ s.getD i 0 := by omega
                    generalize s.getD (i + 1) 0 = y at *
                    generalize s.getD i 0 = y0 at *
                    clear hsj hrow r2 hri
                    go_wp2_with fail
                    go_roundw
                    case rel => exact ⟨i + 1 + 1, by omega, by go_num, by trivial⟩
                    case measure => simp [intOf]; omega
                · go_wp2_with fail
                  go_loopw [20, 152] (fun a i wr => ∃ (j : Nat) (z : Int), j ≤ m ∧ i = .int .i64 j ∧ a = .int .i64 z ∧ 0 ≤ z ∧ z ≤ 300 * (j : Int) ∧ Hid ((q.take j).sum = z) ∧ w4 = wr) (fun _ i _ => m - (intOf i).toNat)
                  case atStart => exact ⟨0, 0, by omega, rfl, rfl, by omega, by omega, rfl, rfl⟩
                  case round =>
                    obtain ⟨j, z, hj, rfl, rfl, hz0, hz1, HZ, rfl⟩ := hrel
                    by_cases hlt : j < m
                    · obtain ⟨g, off, rfl, hg, hrow⟩ : ∃ g off, x3 = some ⟨g, off, none⟩ ∧ g < w4.heap.size ∧ RowI w4 g off q := by
                        rcases r3 with rfl | h'
                        · simp at hq; omega
                        · exact h'
                      have hqj := TQ.out.2.1 j hlt
                      have cq := hrow j (by omega)
                      have HZ2 := Lib.hid ((sum_take q j (by omega)).trans (by rw [HZ.out]))
                      have hx0 : ¬ q.getD j 0 < 0 := by omega
                      have hx1 : ¬ (m : Int) < q.getD j 0 := by omega
                      have hz2 : 0 ≤ z + q.getD j 0 ∧ z + q.getD j 0 ≤ 300 * ((j : Int) + 1) := by omega
                      generalize q.getD j 0 = y at *
                      clear hqj hrow r3 HZ
                      go_wp2_with fail
                      go_roundw
                      case rel => exact ⟨j + 1, z + y, by omega, by go_num, by go_num, by omega, by omega, HZ2.out, by trivial⟩
                      case measure => simp [intOf]; omega
                    · have hj2 : j = m := by omega
                      have hta : q.take j = q := List.take_of_length_le (by omega)
                      have hzm : z = (m : Int) := by rw [← HZ.out, hta]; exact TQ.out.2.2
                      subst hzm
                      clear hj2 HZ r3 hta
                      go_wp2_with fail
                      refine (fixed_any _).mono ?_
                      rintro e w5 ⟨rfl, b5⟩
                      have b5 := b4.trans (b5.mono b4.size)
                      go_wp2_with fail
                      go_ret
                      exact ⟨rfl, b5⟩
        · skip
          go_wp2_with fail
          refine (fixed_any _).mono ?_
          rintro e w4 ⟨rfl, b4⟩
          have b4 := b3.trans (b4.mono b3.size)
          clear b3 r1 r2 r3
          go_wp2_with fail
          go_ret
          exact ⟨rfl, b4⟩
      · rcases tQ with ⟨rfl, tQ⟩ | rfl
        all_goals
          go_wp2_with fail
          refine (fixed_any _).mono ?_
          rintro e w4 ⟨rfl, b4⟩
          have b4 := b3.trans (b4.mono b3.size)
          clear b3 r1 r2 r3
          go_wp2_with fail
          go_ret
          exact ⟨rfl, b4⟩
    · rcases tC with ⟨rfl, tC⟩ | rfl
      all_goals
        rcases tQ with ⟨rfl, tQ⟩ | rfl
        all_goals
          go_wp2_with fail
          refine (fixed_any _).mono ?_
          rintro e w4 ⟨rfl, b4⟩
          have b4 := b3.trans (b4.mono b3.size)
          clear b3 r1 r2 r3
          go_wp2_with fail
          go_ret
          exact ⟨rfl, b4⟩
  · have hm0 : m = 0 := by omega
    subst hm0
    obtain ⟨s, k2, e2, hC⟩ : ∃ s k2 e2, chooseR (fun i => r.at key i) 0 0 0 = (s, k2, e2) := ⟨_, _, _, rfl⟩
    have tC := choose_told (fun i => r.at key i) 0 0 0 (by omega) (by omega)
    rw [show chooseR (fun i => r.at key i) ((0 : Nat) : Int) ((0 : Nat) : Int) 0 = _ from hC] at tC
    simp only at tC
    have HC := Lib.hid hC
    clear hC
    go_enter Try.func6, Try.ntmps6
    go_wp2_with fail
    refine (new_any key _).mono ?_
    rintro e w1 ⟨rfl, rfl⟩
    go_wp2_with fail
    refine (perm_stream r hok t fr _ key _ 0 (by decide) _ (StreamS.made HG.out key) p k1 e1 HP.out).mono ?_
    rintro e w1 ⟨⟨x1, q1, rfl, r1⟩, _, hB1⟩
    have b1 := hB1.past1
    have g1 := Lib.hid (laid_below HG.out hz b1)
    clear hB1
    go_wp2_with fail
    refine (new_any key _).mono ?_
    rintro e w2 ⟨rfl, rfl⟩
    go_wp2_with fail
    refine (choose_stream r hok t fr _ key _ _ 0 (by decide) _ (StreamS.made g1.out key) s k2 e2 HC.out).mono ?_
    rintro e w2 ⟨⟨x2, q2, rfl, r2⟩, _, hB2⟩
    have b2 := hB2.past1
    have r1 := r1.below b2
    have b2 := b1.trans (b2.mono b1.size)
    have g2 := Lib.hid (laid_below HG.out hz b2)
    clear hB2 b1 g1
    go_wp2_with fail
    refine (new_any key _).mono ?_
    rintro e w3 ⟨rfl, rfl⟩
    go_wp2_with fail
    refine (deal_stream r hok t fr _ key _ 0 (by decide) _ (StreamS.made g2.out key) q k3 e3 HQ.out).mono ?_
    rintro e w3 ⟨⟨x3, q3, rfl, r3⟩, _, hB3⟩
    have b3 := hB3.past1
    have r1 := r1.below b3
    have r2 := r2.below b3
    have b3 := b2.trans (b3.mono b2.size)
    clear hB3 b2 g2 HP HC HQ
    rcases tP with ⟨rfl, tP⟩ | rfl
    · rcases tC with ⟨rfl, tC⟩ | rfl
      · rcases tQ with ⟨rfl, tQ⟩ | rfl
        · skip
          have hp : p = [] := List.eq_nil_of_length_eq_zero tP.1
          have hs : s = [] := List.eq_nil_of_length_eq_zero tC.1
          have hq : q = [] := List.eq_nil_of_length_eq_zero tQ.1
          subst hp hs hq
          have hmk : (Instr.makeSlice 28 (.int .i64 0) (.int .i64 0)).run Try.prog w3 = _ := run_made w3 0 (by omega)
          have HB := Lib.hid ((Below.refl w3.heap.size w3).alloc (Nat.le_refl _) (.cells ((List.replicate 0 (0 : Int)).map (Value.int .i64)).toArray 3))
          generalize w3.alloc (Obj.cells ((List.replicate 0 (0 : Int)).map (Value.int .i64)).toArray 3) = w4 at *
          have b4 := b3.trans (HB.out.mono b3.size)
          clear tP tC tQ HB
          go_wp2_with fail
          refine wp_loop_rounds 1 ?_
          rw [rounds_succ]
          go_wp2_with fail
          refine wp_loop_rounds 1 ?_
          rw [rounds_succ]
          go_wp2_with fail
          refine wp_loop_rounds 1 ?_
          rw [rounds_succ]
          go_wp2_with fail
          refine (fixed_any _).mono ?_
          rintro e w5 ⟨rfl, b5⟩
          have b5 := b4.trans (b5.mono b4.size)
          go_wp2_with fail
          go_ret
          exact ⟨rfl, b5⟩
        · skip
          go_wp2_with fail
          refine (fixed_any _).mono ?_
          rintro e w4 ⟨rfl, b4⟩
          have b4 := b3.trans (b4.mono b3.size)
          clear b3 r1 r2 r3
          go_wp2_with fail
          go_ret
          exact ⟨rfl, b4⟩
      · rcases tQ with ⟨rfl, tQ⟩ | rfl
        all_goals
          go_wp2_with fail
          refine (fixed_any _).mono ?_
          rintro e w4 ⟨rfl, b4⟩
          have b4 := b3.trans (b4.mono b3.size)
          clear b3 r1 r2 r3
          go_wp2_with fail
          go_ret
          exact ⟨rfl, b4⟩
    · rcases tC with ⟨rfl, tC⟩ | rfl
      all_goals
        rcases tQ with ⟨rfl, tQ⟩ | rfl
        all_goals
          go_wp2_with fail
          refine (fixed_any _).mono ?_
          rintro e w4 ⟨rfl, b4⟩
          have b4 := b3.trans (b4.mono b3.size)
          clear b3 r1 r2 r3
          go_wp2_with fail
          go_ret
          exact ⟨rfl, b4⟩
end Go.Proofs.Ytmhggfgbefjcmaa
