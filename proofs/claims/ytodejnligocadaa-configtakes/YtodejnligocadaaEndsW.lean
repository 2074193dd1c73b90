/-
  ConfigEnds' walk: of a config that may be, each field may be as little, and as much, as it may, and no less, and no more. No condition.
-/
import Derived.Test.YtodejnligocadaaCFix
namespace Go.Proofs.Ytodejnligocadaa
open Go.RowKit

theorem st_ok {n lo hi ab r : Int} (hab : ab ≠ 0) (h : st n lo hi ab r = 0) : lo ≤ n ∧ n ≤ hi ∧ r = 0 := by
  unfold st at h
  split at h
  · omega
  · split at h
    · exact absurd h hab
    · exact ⟨by omega, by omega, h⟩
theorem chk_ok {k c b t d l p : Int} (h : chk k c b t d l p = 0) : (k = 0 ∧ 2 ≤ c ∧ c ≤ 256 ∨ k = 1 ∧ c = 0) ∧ 2 ≤ b ∧ b ≤ 256 ∧ 1 ≤ t ∧ t ≤ 4096 ∧ 0 ≤ d ∧ d ≤ 32 ∧ 1 ≤ l ∧ l ≤ 1048576 ∧ 1 ≤ p ∧ p ≤ 1024 := by
  unfold chk at h
  obtain ⟨a1, a2, h⟩ := st_ok (by decide) h
  obtain ⟨b1, b2, h⟩ := st_ok (by unfold cAb; split <;> decide) h
  obtain ⟨c1, c2, h⟩ := st_ok (by decide) h
  obtain ⟨d1, d2, h⟩ := st_ok (by decide) h
  obtain ⟨e1, e2, h⟩ := st_ok (by decide) h
  obtain ⟨f1, f2, h⟩ := st_ok (by decide) h
  obtain ⟨g1, g2, h⟩ := st_ok (by decide) h
  refine ⟨?_, c1, c2, d1, d2, e1, e2, f1, f2, g1, g2⟩
  unfold cLo cHi at *
  by_cases h1 : k = 1
  · rw [if_pos h1] at b1 b2
    omega
  · rw [if_neg h1] at b1 b2
    omega

/-- The two rows of ends, as they are laid. -/
def lowsW (w : World) : World := (w.alloc (.cells #[.int .i64 2, .int .i64 1, .int .i64 0, .int .i64 1, .int .i64 1] 3)).alloc (.cells #[.int .i64 256, .int .i64 4096, .int .i64 32, .int .i64 1048576, .int .i64 1024] 3)
/-- Five numbers lie in a block. -/
def Five (N : Nat) (x0 x1 x2 x3 x4 : Int) (w : World) : Prop := N < w.heap.size ∧ w.cell? ⟨N, 0, none⟩ = some (.int .i64 x0) ∧ w.cell? ⟨N, 1, none⟩ = some (.int .i64 x1) ∧ w.cell? ⟨N, 2, none⟩ = some (.int .i64 x2) ∧ w.cell? ⟨N, 3, none⟩ = some (.int .i64 x3) ∧ w.cell? ⟨N, 4, none⟩ = some (.int .i64 x4)
theorem Five.below {N B : Nat} {x0 x1 x2 x3 x4 : Int} {w w' : World} (h : Five N x0 x1 x2 x3 x4 w) (b : Below B w w') (hB : N < B) : Five N x0 x1 x2 x3 x4 w' :=
  ⟨Nat.lt_of_lt_of_le h.1 b.size, (b.cell (by exact hB)).trans h.2.1, (b.cell (by exact hB)).trans h.2.2.1, (b.cell (by exact hB)).trans h.2.2.2.1, (b.cell (by exact hB)).trans h.2.2.2.2.1, (b.cell (by exact hB)).trans h.2.2.2.2.2⟩
theorem lows_of (w : World) : Five w.heap.size 2 1 0 1 1 (lowsW w) ∧ Five (w.heap.size + 1) 256 4096 32 1048576 1024 (lowsW w) ∧ Below w.heap.size w (lowsW w) := by
  refine ⟨⟨by simp [lowsW]; omega, ?_, ?_, ?_, ?_, ?_⟩, ⟨by simp [lowsW], ?_, ?_, ?_, ?_, ?_⟩, ((Below.refl _ w).alloc (Nat.le_refl _) _).alloc (by simp) _⟩ <;> simp [lowsW, go_sem]

set_option maxHeartbeats 8000000 in
theorem ends_any (k c b t d l p n : Int) (w : World) :
    Calls Try.prog 5 #[cf k c b t d l p, .int .i64 n] w fun e w' => e = .returned (.bool true) ∧ Below w.heap.size w w' := by
  have hk := check_any k c b t d l p
  have hf := fixed_any
  have hk0 := check_any k c n t d l p
  have hk1 := check_any k c b n d l p
  have hk2 := check_any k c b t n l p
  have hk3 := check_any k c b t d n p
  have hk4 := check_any k c b t d l n
  unfold cf at *
  have q0 := Seven.new k c b t d l p w 23
  have b0 := (Below.refl w.heap.size w).alloc (Nat.le_refl _) (.cells #[.int .i64 k, .int .i64 c, .int .i64 b, .int .i64 t, .int .i64 d, .int .i64 l, .int .i64 p] 23)
  by_cases hz : chk k c b t d l p = 0
  · rw [hz] at hk
    have HZ := Lib.hid hz
    clear hz
    go_enter Try.func5, Try.ntmps5
    go_wp2_with fail
    refine (hk _).mono ?_
    rintro e w1 ⟨rfl, b1⟩
    have q1 := q0.below b1 q0.1
    have b01 := b0.trans (b1.mono b0.size)
    clear hk q0 b0 b1
    have lw := (lows_of w1).1
    have hw := (lows_of w1).2.1
    have b12 := (lows_of w1).2.2
    have b02 := b01.trans (b12.mono b01.size)
    have q2 := q1.below b12 q1.1
    clear b01 b12
    go_wp2_with fail
    change Code.wp _ _ _ _ (lowsW w1)
    have hq1 := q1.1
    clear q1
    generalize lowsW w1 = w2 at *
    go_loopw [19] (fun v19 wr => ∃ j : Nat, j ≤ 5 ∧ v19 = .int .i64 (j : Int) ∧ Below w2.heap.size w2 wr) (fun v19 _ => 5 - (intOf v19).toNat)
    case atStart => exact ⟨0, by omega, rfl, Below.refl _ _⟩
    case round =>
      obtain ⟨j, hj, rfl, bel⟩ := hrel
      have q3 := q2.below bel q2.1
      have lw3 := lw.below bel lw.1
      have hw3 := hw.below bel hw.1
      obtain ⟨c0, c1, c2, c3, c4, c5, c6⟩ := q3.cells
      obtain ⟨-, l0, l1, l2, l3, l4⟩ := lw3
      obtain ⟨-, h0, h1, h2, h3, h4⟩ := hw3
      have HB := Lib.hid (b02.trans (bel.mono b02.size))
      have HBL := Lib.hid bel
      have hsz := bel.size
      clear q2 q3 lw hw b02 bel
      match j, hj with
      | 0, _ =>
        clear hk1 hk2 hk3 hk4 l1 h1 l2 h2 l3 h3 l4 h4
        have bz : Below wr.heap.size wr ((wr.alloc (.cells #[.int .i64 k, .int .i64 c, .int .i64 n, .int .i64 t, .int .i64 d, .int .i64 l, .int .i64 p] 23)).alloc (.cells #[.pointer (some ⟨wr.heap.size, 2, none⟩), .pointer (some ⟨wr.heap.size, 3, none⟩), .pointer (some ⟨wr.heap.size, 4, none⟩), .pointer (some ⟨wr.heap.size, 5, none⟩), .pointer (some ⟨wr.heap.size, 6, none⟩)] 38)) := ((Below.refl _ wr).alloc (Nat.le_refl _) _).alloc (by simp) _
        have lz := (bz.cell (World.block_lt_of_cell? wr _ l0)).trans l0
        have hz := (bz.cell (World.block_lt_of_cell? wr _ h0)).trans h0
        have HBZ := Lib.hid bz
        clear bz l0 h0
        by_cases g1 : n < 2
        · skip
          have HR : Hid (chk k c n t d l p = 3) := by show _ = _; have := chk_ok HZ.out; unfold chk st cLo cHi cAb; repeat' (first | omega | split)
          rw [HR.out] at hk0
          clear HZ HR
          go_wp2_with fail
          refine (hk0 _).mono ?_
          rintro e w4 ⟨rfl, b4⟩
          have HB4 := Lib.hid (HBL.out.trans ((HBZ.out.trans (b4.mono HBZ.out.size)).mono hsz))
          clear hk0 HBZ b4 lz hz c0 c1 c2 c3 c4 c5 c6
          go_wp2_with fail
          go_roundw
          case rel => exact ⟨1, by omega, by go_num, HB4.out⟩
          case measure => simp [intOf]
        · by_cases g2 : 256 < n
          · skip
            have HR : Hid (chk k c n t d l p = 4) := by show _ = _; have := chk_ok HZ.out; unfold chk st cLo cHi cAb; repeat' (first | omega | split)
            rw [HR.out] at hk0
            clear HZ HR
            go_wp2_with fail
            refine (hk0 _).mono ?_
            rintro e w4 ⟨rfl, b4⟩
            have HB4 := Lib.hid (HBL.out.trans ((HBZ.out.trans (b4.mono HBZ.out.size)).mono hsz))
            clear hk0 HBZ b4 lz hz c0 c1 c2 c3 c4 c5 c6
            go_wp2_with fail
            go_roundw
            case rel => exact ⟨1, by omega, by go_num, HB4.out⟩
            case measure => simp [intOf]
          · skip
            have HR : Hid (chk k c n t d l p = 0) := by show _ = _; have := chk_ok HZ.out; unfold chk st cLo cHi cAb; repeat' (first | omega | split)
            rw [HR.out] at hk0
            clear HZ HR
            go_wp2_with fail
            refine (hk0 _).mono ?_
            rintro e w4 ⟨rfl, b4⟩
            have HB4 := Lib.hid (HBL.out.trans ((HBZ.out.trans (b4.mono HBZ.out.size)).mono hsz))
            clear hk0 HBZ b4 lz hz c0 c1 c2 c3 c4 c5 c6
            go_wp2_with fail
            go_roundw
            case rel => exact ⟨1, by omega, by go_num, HB4.out⟩
            case measure => simp [intOf]
      | 1, _ =>
        clear hk0 hk2 hk3 hk4 l0 h0 l2 h2 l3 h3 l4 h4
        have bz : Below wr.heap.size wr ((wr.alloc (.cells #[.int .i64 k, .int .i64 c, .int .i64 b, .int .i64 n, .int .i64 d, .int .i64 l, .int .i64 p] 23)).alloc (.cells #[.pointer (some ⟨wr.heap.size, 2, none⟩), .pointer (some ⟨wr.heap.size, 3, none⟩), .pointer (some ⟨wr.heap.size, 4, none⟩), .pointer (some ⟨wr.heap.size, 5, none⟩), .pointer (some ⟨wr.heap.size, 6, none⟩)] 38)) := ((Below.refl _ wr).alloc (Nat.le_refl _) _).alloc (by simp) _
        have lz := (bz.cell (World.block_lt_of_cell? wr _ l1)).trans l1
        have hz := (bz.cell (World.block_lt_of_cell? wr _ h1)).trans h1
        have HBZ := Lib.hid bz
        clear bz l1 h1
        by_cases g1 : n < 1
        · skip
          have HR : Hid (chk k c b n d l p = 3) := by show _ = _; have := chk_ok HZ.out; unfold chk st cLo cHi cAb; repeat' (first | omega | split)
          rw [HR.out] at hk1
          clear HZ HR
          go_wp2_with fail
          refine (hk1 _).mono ?_
          rintro e w4 ⟨rfl, b4⟩
          have HB4 := Lib.hid (HBL.out.trans ((HBZ.out.trans (b4.mono HBZ.out.size)).mono hsz))
          clear hk1 HBZ b4 lz hz c0 c1 c2 c3 c4 c5 c6
          go_wp2_with fail
          go_roundw
          case rel => exact ⟨2, by omega, by go_num, HB4.out⟩
          case measure => simp [intOf]
        · by_cases g2 : 4096 < n
          · skip
            have HR : Hid (chk k c b n d l p = 4) := by show _ = _; have := chk_ok HZ.out; unfold chk st cLo cHi cAb; repeat' (first | omega | split)
            rw [HR.out] at hk1
            clear HZ HR
            go_wp2_with fail
            refine (hk1 _).mono ?_
            rintro e w4 ⟨rfl, b4⟩
            have HB4 := Lib.hid (HBL.out.trans ((HBZ.out.trans (b4.mono HBZ.out.size)).mono hsz))
            clear hk1 HBZ b4 lz hz c0 c1 c2 c3 c4 c5 c6
            go_wp2_with fail
            go_roundw
            case rel => exact ⟨2, by omega, by go_num, HB4.out⟩
            case measure => simp [intOf]
          · skip
            have HR : Hid (chk k c b n d l p = 0) := by show _ = _; have := chk_ok HZ.out; unfold chk st cLo cHi cAb; repeat' (first | omega | split)
            rw [HR.out] at hk1
            clear HZ HR
            go_wp2_with fail
            refine (hk1 _).mono ?_
            rintro e w4 ⟨rfl, b4⟩
            have HB4 := Lib.hid (HBL.out.trans ((HBZ.out.trans (b4.mono HBZ.out.size)).mono hsz))
            clear hk1 HBZ b4 lz hz c0 c1 c2 c3 c4 c5 c6
            go_wp2_with fail
            go_roundw
            case rel => exact ⟨2, by omega, by go_num, HB4.out⟩
            case measure => simp [intOf]
      | 2, _ =>
        clear hk0 hk1 hk3 hk4 l0 h0 l1 h1 l3 h3 l4 h4
        have bz : Below wr.heap.size wr ((wr.alloc (.cells #[.int .i64 k, .int .i64 c, .int .i64 b, .int .i64 t, .int .i64 n, .int .i64 l, .int .i64 p] 23)).alloc (.cells #[.pointer (some ⟨wr.heap.size, 2, none⟩), .pointer (some ⟨wr.heap.size, 3, none⟩), .pointer (some ⟨wr.heap.size, 4, none⟩), .pointer (some ⟨wr.heap.size, 5, none⟩), .pointer (some ⟨wr.heap.size, 6, none⟩)] 38)) := ((Below.refl _ wr).alloc (Nat.le_refl _) _).alloc (by simp) _
        have lz := (bz.cell (World.block_lt_of_cell? wr _ l2)).trans l2
        have hz := (bz.cell (World.block_lt_of_cell? wr _ h2)).trans h2
        have HBZ := Lib.hid bz
        clear bz l2 h2
        by_cases g1 : n < 0
        · skip
          have HR : Hid (chk k c b t n l p = 3) := by show _ = _; have := chk_ok HZ.out; unfold chk st cLo cHi cAb; repeat' (first | omega | split)
          rw [HR.out] at hk2
          clear HZ HR
          go_wp2_with fail
          refine (hk2 _).mono ?_
          rintro e w4 ⟨rfl, b4⟩
          have HB4 := Lib.hid (HBL.out.trans ((HBZ.out.trans (b4.mono HBZ.out.size)).mono hsz))
          clear hk2 HBZ b4 lz hz c0 c1 c2 c3 c4 c5 c6
          go_wp2_with fail
          go_roundw
          case rel => exact ⟨3, by omega, by go_num, HB4.out⟩
          case measure => simp [intOf]
        · by_cases g2 : 32 < n
          · skip
            have HR : Hid (chk k c b t n l p = 4) := by show _ = _; have := chk_ok HZ.out; unfold chk st cLo cHi cAb; repeat' (first | omega | split)
            rw [HR.out] at hk2
            clear HZ HR
            go_wp2_with fail
            refine (hk2 _).mono ?_
            rintro e w4 ⟨rfl, b4⟩
            have HB4 := Lib.hid (HBL.out.trans ((HBZ.out.trans (b4.mono HBZ.out.size)).mono hsz))
            clear hk2 HBZ b4 lz hz c0 c1 c2 c3 c4 c5 c6
            go_wp2_with fail
            go_roundw
            case rel => exact ⟨3, by omega, by go_num, HB4.out⟩
            case measure => simp [intOf]
          · skip
            have HR : Hid (chk k c b t n l p = 0) := by show _ = _; have := chk_ok HZ.out; unfold chk st cLo cHi cAb; repeat' (first | omega | split)
            rw [HR.out] at hk2
            clear HZ HR
            go_wp2_with fail
            refine (hk2 _).mono ?_
            rintro e w4 ⟨rfl, b4⟩
            have HB4 := Lib.hid (HBL.out.trans ((HBZ.out.trans (b4.mono HBZ.out.size)).mono hsz))
            clear hk2 HBZ b4 lz hz c0 c1 c2 c3 c4 c5 c6
            go_wp2_with fail
            go_roundw
            case rel => exact ⟨3, by omega, by go_num, HB4.out⟩
            case measure => simp [intOf]
      | 3, _ =>
        clear hk0 hk1 hk2 hk4 l0 h0 l1 h1 l2 h2 l4 h4
        have bz : Below wr.heap.size wr ((wr.alloc (.cells #[.int .i64 k, .int .i64 c, .int .i64 b, .int .i64 t, .int .i64 d, .int .i64 n, .int .i64 p] 23)).alloc (.cells #[.pointer (some ⟨wr.heap.size, 2, none⟩), .pointer (some ⟨wr.heap.size, 3, none⟩), .pointer (some ⟨wr.heap.size, 4, none⟩), .pointer (some ⟨wr.heap.size, 5, none⟩), .pointer (some ⟨wr.heap.size, 6, none⟩)] 38)) := ((Below.refl _ wr).alloc (Nat.le_refl _) _).alloc (by simp) _
        have lz := (bz.cell (World.block_lt_of_cell? wr _ l3)).trans l3
        have hz := (bz.cell (World.block_lt_of_cell? wr _ h3)).trans h3
        have HBZ := Lib.hid bz
        clear bz l3 h3
        by_cases g1 : n < 1
        · skip
          have HR : Hid (chk k c b t d n p = 3) := by show _ = _; have := chk_ok HZ.out; unfold chk st cLo cHi cAb; repeat' (first | omega | split)
          rw [HR.out] at hk3
          clear HZ HR
          go_wp2_with fail
          refine (hk3 _).mono ?_
          rintro e w4 ⟨rfl, b4⟩
          have HB4 := Lib.hid (HBL.out.trans ((HBZ.out.trans (b4.mono HBZ.out.size)).mono hsz))
          clear hk3 HBZ b4 lz hz c0 c1 c2 c3 c4 c5 c6
          go_wp2_with fail
          go_roundw
          case rel => exact ⟨4, by omega, by go_num, HB4.out⟩
          case measure => simp [intOf]
        · by_cases g2 : 1048576 < n
          · skip
            have HR : Hid (chk k c b t d n p = 4) := by show _ = _; have := chk_ok HZ.out; unfold chk st cLo cHi cAb; repeat' (first | omega | split)
            rw [HR.out] at hk3
            clear HZ HR
            go_wp2_with fail
            refine (hk3 _).mono ?_
            rintro e w4 ⟨rfl, b4⟩
            have HB4 := Lib.hid (HBL.out.trans ((HBZ.out.trans (b4.mono HBZ.out.size)).mono hsz))
            clear hk3 HBZ b4 lz hz c0 c1 c2 c3 c4 c5 c6
            go_wp2_with fail
            go_roundw
            case rel => exact ⟨4, by omega, by go_num, HB4.out⟩
            case measure => simp [intOf]
          · skip
            have HR : Hid (chk k c b t d n p = 0) := by show _ = _; have := chk_ok HZ.out; unfold chk st cLo cHi cAb; repeat' (first | omega | split)
            rw [HR.out] at hk3
            clear HZ HR
            go_wp2_with fail
            refine (hk3 _).mono ?_
            rintro e w4 ⟨rfl, b4⟩
            have HB4 := Lib.hid (HBL.out.trans ((HBZ.out.trans (b4.mono HBZ.out.size)).mono hsz))
            clear hk3 HBZ b4 lz hz c0 c1 c2 c3 c4 c5 c6
            go_wp2_with fail
            go_roundw
            case rel => exact ⟨4, by omega, by go_num, HB4.out⟩
            case measure => simp [intOf]
      | 4, _ =>
        clear hk0 hk1 hk2 hk3 l0 h0 l1 h1 l2 h2 l3 h3
        have bz : Below wr.heap.size wr ((wr.alloc (.cells #[.int .i64 k, .int .i64 c, .int .i64 b, .int .i64 t, .int .i64 d, .int .i64 l, .int .i64 n] 23)).alloc (.cells #[.pointer (some ⟨wr.heap.size, 2, none⟩), .pointer (some ⟨wr.heap.size, 3, none⟩), .pointer (some ⟨wr.heap.size, 4, none⟩), .pointer (some ⟨wr.heap.size, 5, none⟩), .pointer (some ⟨wr.heap.size, 6, none⟩)] 38)) := ((Below.refl _ wr).alloc (Nat.le_refl _) _).alloc (by simp) _
        have lz := (bz.cell (World.block_lt_of_cell? wr _ l4)).trans l4
        have hz := (bz.cell (World.block_lt_of_cell? wr _ h4)).trans h4
        have HBZ := Lib.hid bz
        clear bz l4 h4
        by_cases g1 : n < 1
        · skip
          have HR : Hid (chk k c b t d l n = 3) := by show _ = _; have := chk_ok HZ.out; unfold chk st cLo cHi cAb; repeat' (first | omega | split)
          rw [HR.out] at hk4
          clear HZ HR
          go_wp2_with fail
          refine (hk4 _).mono ?_
          rintro e w4 ⟨rfl, b4⟩
          have HB4 := Lib.hid (HBL.out.trans ((HBZ.out.trans (b4.mono HBZ.out.size)).mono hsz))
          clear hk4 HBZ b4 lz hz c0 c1 c2 c3 c4 c5 c6
          go_wp2_with fail
          go_roundw
          case rel => exact ⟨5, by omega, by go_num, HB4.out⟩
          case measure => simp [intOf]
        · by_cases g2 : 1024 < n
          · skip
            have HR : Hid (chk k c b t d l n = 4) := by show _ = _; have := chk_ok HZ.out; unfold chk st cLo cHi cAb; repeat' (first | omega | split)
            rw [HR.out] at hk4
            clear HZ HR
            go_wp2_with fail
            refine (hk4 _).mono ?_
            rintro e w4 ⟨rfl, b4⟩
            have HB4 := Lib.hid (HBL.out.trans ((HBZ.out.trans (b4.mono HBZ.out.size)).mono hsz))
            clear hk4 HBZ b4 lz hz c0 c1 c2 c3 c4 c5 c6
            go_wp2_with fail
            go_roundw
            case rel => exact ⟨5, by omega, by go_num, HB4.out⟩
            case measure => simp [intOf]
          · skip
            have HR : Hid (chk k c b t d l n = 0) := by show _ = _; have := chk_ok HZ.out; unfold chk st cLo cHi cAb; repeat' (first | omega | split)
            rw [HR.out] at hk4
            clear HZ HR
            go_wp2_with fail
            refine (hk4 _).mono ?_
            rintro e w4 ⟨rfl, b4⟩
            have HB4 := Lib.hid (HBL.out.trans ((HBZ.out.trans (b4.mono HBZ.out.size)).mono hsz))
            clear hk4 HBZ b4 lz hz c0 c1 c2 c3 c4 c5 c6
            go_wp2_with fail
            go_roundw
            case rel => exact ⟨5, by omega, by go_num, HB4.out⟩
            case measure => simp [intOf]
      | 5, _ =>
        clear hk0 hk1 hk2 hk3 hk4 c0 c1 c2 c3 c4 c5 c6 l0 l1 l2 l3 l4 h0 h1 h2 h3 h4
        go_wp2_with fail
        refine (hf _).mono ?_
        rintro e w4 ⟨rfl, b4⟩
        have HB4 := Lib.hid (HB.out.trans (b4.mono HB.out.size))
        clear hf b4
        go_wp2_with fail
        go_ret
        exact ⟨rfl, HB4.out⟩
      | m + 6, hm => exact absurd hm (by omega)
  · have g : (chk k c b t d l p != 0) = true := by simpa using hz
    clear hz q0
    generalize chk k c b t d l p = CK at *
    go_enter Try.func5, Try.ntmps5
    go_wp2_with fail
    refine (hk _).mono ?_
    rintro e w1 ⟨rfl, b1⟩
    have b01 := b0.trans (b1.mono b0.size)
    clear hk b0 b1
    go_wp2_with fail
    refine (hf _).mono ?_
    rintro e w2 ⟨rfl, b2⟩
    have HB := Lib.hid (b01.trans (b2.mono b01.size))
    clear hf b01 b2
    go_wp2_with fail
    go_ret
    exact ⟨rfl, HB.out⟩
end Go.Proofs.Ytodejnligocadaa
