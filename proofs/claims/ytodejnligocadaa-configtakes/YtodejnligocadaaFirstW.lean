/-
  ConfigFirst's walk: where several fields are wrong, what is told is what the first one of them tells alone. No condition.
-/
import Derived.Test.YtodejnligocadaaFirstN
namespace Go.Proofs.Ytodejnligocadaa
open Go.RowKit

/-- Two configs, as they are laid. -/
def twoW (w : World) (k c b t d l p k' c' b' t' d' l' p' : Int) : World := (w.alloc (.cells #[.int .i64 k, .int .i64 c, .int .i64 b, .int .i64 t, .int .i64 d, .int .i64 l, .int .i64 p] 23)).alloc (.cells #[.int .i64 k', .int .i64 c', .int .i64 b', .int .i64 t', .int .i64 d', .int .i64 l', .int .i64 p'] 23)
theorem twoW_facts (w : World) (k c b t d l p k' c' b' t' d' l' p' : Int) : Seven w.heap.size (nf k c b t d l p) (twoW w k c b t d l p k' c' b' t' d' l' p') ∧ Seven (w.heap.size + 1) (nf k' c' b' t' d' l' p') (twoW w k c b t d l p k' c' b' t' d' l' p') ∧ Below w.heap.size w (twoW w k c b t d l p k' c' b' t' d' l' p') := by
  have q0 := Seven.new k c b t d l p w 23
  have b0 := (Below.refl w.heap.size w).alloc (Nat.le_refl _) (.cells #[.int .i64 k, .int .i64 c, .int .i64 b, .int .i64 t, .int .i64 d, .int .i64 l, .int .i64 p] 23)
  have s0 : (w.alloc (.cells #[.int .i64 k, .int .i64 c, .int .i64 b, .int .i64 t, .int .i64 d, .int .i64 l, .int .i64 p] 23)).heap.size = w.heap.size + 1 := by simp
  unfold twoW
  generalize w.alloc (.cells #[.int .i64 k, .int .i64 c, .int .i64 b, .int .i64 t, .int .i64 d, .int .i64 l, .int .i64 p] 23) = w0 at *
  have q1 := Seven.new k' c' b' t' d' l' p' w0 23
  have b1 := (Below.refl w0.heap.size w0).alloc (Nat.le_refl _) (.cells #[.int .i64 k', .int .i64 c', .int .i64 b', .int .i64 t', .int .i64 d', .int .i64 l', .int .i64 p'] 23)
  rw [s0] at q1
  exact ⟨q0.below b1 q0.1, q1, b0.trans (b1.mono (by omega))⟩

/-- One config's numbers, and where another one's stand, as they are laid. -/
def firW (w : World) (M : Nat) (k c b t d l p : Int) : World := (w.alloc (.cells #[.int .i64 k, .int .i64 c, .int .i64 b, .int .i64 t, .int .i64 d, .int .i64 l, .int .i64 p] 3)).alloc (.cells #[.pointer (some ⟨M, 0, none⟩), .pointer (some ⟨M, 1, none⟩), .pointer (some ⟨M, 2, none⟩), .pointer (some ⟨M, 3, none⟩), .pointer (some ⟨M, 4, none⟩), .pointer (some ⟨M, 5, none⟩), .pointer (some ⟨M, 6, none⟩)] 38)
theorem firW_facts (w : World) (M : Nat) (k c b t d l p : Int) : Seven w.heap.size (nf k c b t d l p) (firW w M k c b t d l p) ∧ (∀ j, j < 7 → (firW w M k c b t d l p).cell? ⟨w.heap.size + 1, j, none⟩ = some (.pointer (some ⟨M, j, none⟩))) ∧ (firW w M k c b t d l p).heap.size = w.heap.size + 2 ∧ Below w.heap.size w (firW w M k c b t d l p) := by
  have q0 := Seven.new k c b t d l p w 3
  have b0 := (Below.refl w.heap.size w).alloc (Nat.le_refl _) (.cells #[.int .i64 k, .int .i64 c, .int .i64 b, .int .i64 t, .int .i64 d, .int .i64 l, .int .i64 p] 3)
  have s0 : (w.alloc (.cells #[.int .i64 k, .int .i64 c, .int .i64 b, .int .i64 t, .int .i64 d, .int .i64 l, .int .i64 p] 3)).heap.size = w.heap.size + 1 := by simp
  unfold firW
  generalize w.alloc (.cells #[.int .i64 k, .int .i64 c, .int .i64 b, .int .i64 t, .int .i64 d, .int .i64 l, .int .i64 p] 3) = w0 at *
  have b1 := (Below.refl w0.heap.size w0).alloc (Nat.le_refl _) (.cells #[.pointer (some ⟨M, 0, none⟩), .pointer (some ⟨M, 1, none⟩), .pointer (some ⟨M, 2, none⟩), .pointer (some ⟨M, 3, none⟩), .pointer (some ⟨M, 4, none⟩), .pointer (some ⟨M, 5, none⟩), .pointer (some ⟨M, 6, none⟩)] 38)
  refine ⟨q0.below b1 q0.1, fun j hj => ?_, by simp [s0], b0.trans (b1.mono (by omega))⟩
  rw [← s0]
  match j with
  | 0 => simp [go_sem]
  | 1 => simp [go_sem]
  | 2 => simp [go_sem]
  | 3 => simp [go_sem]
  | 4 => simp [go_sem]
  | 5 => simp [go_sem]
  | 6 => simp [go_sem]
  | n + 7 => omega

/-- Seven numbers lie in a block, and may be written. -/
def SevW (N : Nat) (f : Nat → Int) (w : World) : Prop := N < w.heap.size ∧ (∀ j, j < 7 → w.cell? ⟨N, j, none⟩ = some (.int .i64 (f j))) ∧ ∀ j, j < 7 → w.frozen? ⟨N, j, none⟩ = false
theorem SevW.below {N B : Nat} {f : Nat → Int} {w w' : World} (h : SevW N f w) (b : Below B w w') (hB : N < B) : SevW N f w' :=
  ⟨Nat.lt_of_lt_of_le h.1 b.size, fun j hj => (b.cell (by exact hB)).trans (h.2.1 j hj), fun j hj => (b.frozen (by exact hB)).trans (h.2.2 j hj)⟩
theorem SevW.sev {N : Nat} {f : Nat → Int} {w : World} (h : SevW N f w) : Seven N f w := ⟨h.1, h.2.1⟩
theorem SevW.new (k c b t d l p : Int) (w : World) (ty : TypeId) : SevW w.heap.size (nf k c b t d l p) (w.alloc (.cells #[.int .i64 k, .int .i64 c, .int .i64 b, .int .i64 t, .int .i64 d, .int .i64 l, .int .i64 p] ty)) :=
  ⟨by simp, (Seven.new k c b t d l p w ty).2, fun j hj => by simp [go_sem]⟩
theorem SevW.set {N : Nat} {f g : Nat → Int} {w : World} (h : SevW N f w) (j : Nat) (hj : j < 7) (x : Int) (hg : ∀ t, g t = if t = j then x else f t) : SevW N g (w.setCell ⟨N, j, none⟩ (.int .i64 x)) := by
  refine ⟨by simpa [World.setCell] using h.1, fun t ht => ?_, fun t ht => by rw [World.frozen?_setCell]; exact h.2.2 t ht⟩
  rw [hg t]
  by_cases e : t = j
  · subst e
    rw [if_pos rfl]
    exact World.cell?_setCell_same _ _ _ (h.2.1 t ht)
  · rw [if_neg e, World.cell?_setCell_other _ _ _ _ (by simp)]
    exact h.2.1 t ht
theorem mx_step (i : Nat) (f g : Nat → Int) (j : Nat) : (j ≤ i → ∀ t, mx i (j + 1) f g t = if t = j then f j else mx i j f g t) ∧ (¬ j ≤ i → mx i (j + 1) f g = mx i j f g) := by
  constructor
  · intro h t
    unfold mx
    by_cases e : t = j
    · subst e
      rw [if_pos ⟨by omega, h⟩, if_pos rfl]
    · rw [if_neg e]
      by_cases e2 : t < j ∧ t ≤ i
      · rw [if_pos e2, if_pos ⟨by omega, e2.2⟩]
      · rw [if_neg e2, if_neg (by omega)]
  · intro h
    funext t
    unfold mx
    by_cases e2 : t < j ∧ t ≤ i
    · rw [if_pos e2, if_pos ⟨by omega, e2.2⟩]
    · rw [if_neg e2, if_neg (by omega)]

set_option maxRecDepth 20000 in
set_option maxHeartbeats 8000000 in
theorem first_any (k c b t d l p k' c' b' t' d' l' p' : Int) (w : World) :
    Calls Try.prog 6 #[cf k c b t d l p, cf k' c' b' t' d' l' p'] w fun e w' => e = .returned (.bool true) ∧ Below w.heap.size w w' := by
  have hk := check_any k c b t d l p
  have hg := check_any k' c' b' t' d' l' p'
  have hf := fixed_any
  unfold cf at *
  obtain ⟨q0, q1, bb⟩ := twoW_facts w k c b t d l p k' c' b' t' d' l' p'
  by_cases hz : chk k' c' b' t' d' l' p' = 0
  · rw [hz] at hg
    have HZ := Lib.hid hz
    clear hz
    go_enter Try.func6, Try.ntmps6
    go_wp2_with fail
    change Calls Try.prog _ _ (twoW w k c b t d l p k' c' b' t' d' l' p') _
    generalize twoW w k c b t d l p k' c' b' t' d' l' p' = W at *
    refine (hg _).mono ?_
    rintro e w1 ⟨rfl, b1⟩
    replace q0 := q0.below b1 q0.1
    replace q1 := q1.below b1 q1.1
    replace bb := bb.trans (b1.mono bb.size)
    clear hg b1
    obtain ⟨N, hN⟩ : ∃ N, w.heap.size = N := ⟨_, rfl⟩
    have HN := Lib.hid hN
    rw [hN] at q0 q1 ⊢
    clear hN
    obtain ⟨c00, c01, c02, c03, c04, c05, c06⟩ := q0.cells
    go_wp2_with fail
    refine (hk _).mono ?_
    rintro e w2 ⟨rfl, b1⟩
    replace q0 := q0.below b1 q0.1
    replace q1 := q1.below b1 q1.1
    replace bb := bb.trans (b1.mono bb.size)
    clear hk b1 c00 c01 c02 c03 c04 c05 c06
    go_wp2_with fail
    go_loopw [18] (fun v18 wr => ∃ i : Nat, i ≤ 7 ∧ v18 = .int .i64 (i : Int) ∧ okT k c b t d l p i ∧ Below w2.heap.size w2 wr) (fun v18 _ => 7 - (intOf v18).toNat)
    case atStart => exact ⟨0, by omega, rfl, trivial, Below.refl _ _⟩
    case round =>
      obtain ⟨i, hi, rfl, ok, bel⟩ := hrel
      have HO := Lib.hid ok
      clear ok
      by_cases hlt : i < 7
      · have i1 : (i : Int) < 7 := by omega
        replace q0 := q0.below bel q0.1
        replace q1 := q1.below bel q1.1
        obtain ⟨c10, c11, c12, c13, c14, c15, c16⟩ := q1.cells
        obtain ⟨M, hM⟩ : ∃ M, wr.heap.size = M := ⟨_, rfl⟩
        have qx := SevW.new k' c' b' t' d' l' p' wr 23
        have bx := (Below.refl wr.heap.size wr).alloc (Nat.le_refl _) (.cells #[.int .i64 k', .int .i64 c', .int .i64 b', .int .i64 t', .int .i64 d', .int .i64 l', .int .i64 p'] 23)
        have sx : (wr.alloc (.cells #[.int .i64 k', .int .i64 c', .int .i64 b', .int .i64 t', .int .i64 d', .int .i64 l', .int .i64 p'] 23)).heap.size = wr.heap.size + 1 := by simp
        have q0x := q0.below bx q0.1
        go_upto_region 8 with fail
        have HM := Lib.hid hM
        rw [hM] at qx bx sx
        have SX := Lib.hid sx
        clear hM sx c10 c11 c12 c13 c14 c15 c16 q0
        generalize wr.alloc (.cells #[.int .i64 k', .int .i64 c', .int .i64 b', .int .i64 t', .int .i64 d', .int .i64 l', .int .i64 p'] 23) = wx at *
        obtain ⟨c00, c01, c02, c03, c04, c05, c06⟩ := q0x.cells
        obtain ⟨g1, g2, g3, g4⟩ := firW_facts wx M k c b t d l p
        go_wp2_with fail
        change Code.wp _ _ _ _ (firW wx M k c b t d l p)
        have sq := qx.1
        have sv := qx.below g4 sq
        have q0y := q0x.below g4 q0x.1
        have BX := Lib.hid (bel.trans ((bx.trans (g4.mono (by have := bx.size; have := HM.out; omega))).mono (by have := bel.size; have := HM.out; omega)))
        have WM : w2.heap.size ≤ M := by have := bel.size; have := HM.out; omega
        generalize firW wx M k c b t d l p = wy at *
        obtain ⟨P, hP⟩ : ∃ P, wx.heap.size = P := ⟨_, rfl⟩
        rw [hP] at g1 g2 g3 sq ⊢
        have NM : N < M := by have := HM.out; have := q1.1; omega
        clear c00 c01 c02 c03 c04 c05 c06 q0x qx g4 bx q1 hP bel HM
        have hmx := mx_step i (nf k c b t d l p) (nf k' c' b' t' d' l' p')
        have h7 : Hid (mchk i (nf k c b t d l p) (nf k' c' b' t' d' l' p') = chk (mx i 7 (nf k c b t d l p) (nf k' c' b' t' d' l' p') 0) (mx i 7 (nf k c b t d l p) (nf k' c' b' t' d' l' p') 1) (mx i 7 (nf k c b t d l p) (nf k' c' b' t' d' l' p') 2) (mx i 7 (nf k c b t d l p) (nf k' c' b' t' d' l' p') 3) (mx i 7 (nf k c b t d l p) (nf k' c' b' t' d' l' p') 4) (mx i 7 (nf k c b t d l p) (nf k' c' b' t' d' l' p') 5) (mx i 7 (nf k c b t d l p) (nf k' c' b' t' d' l' p') 6)) := rfl
        have ms := Lib.hid (mchk_step k c b t d l p k' c' b' t' d' l' p' HZ.out i hlt HO.out)
        have m0 : mx i 0 (nf k c b t d l p) (nf k' c' b' t' d' l' p') = nf k' c' b' t' d' l' p' := by funext t; simp [mx]
        rw [← m0] at sv
        clear m0
        generalize mx i = mi at *
        generalize hf0 : nf k c b t d l p = ff at *
        generalize nf k' c' b' t' d' l' p' = gg at *
        have HF := Lib.hid hf0
        clear hf0
        go_loopw [46] (fun v46 wz => ∃ j : Nat, j ≤ 7 ∧ v46 = .int .i64 (j : Int) ∧ SevW M (mi j ff gg) wz ∧ But M wy wz) (fun v46 _ => 7 - (intOf v46).toNat)
        case atStart => exact ⟨0, by omega, rfl, sv, But.refl _ _⟩
        case round =>
          rename_i wr0 _ _
          obtain ⟨j, hj, rfl, sw, but⟩ := hrel
          by_cases jlt : j < 7
          · have j1 : (j : Int) < 7 := by omega
            have e1 := (but.cell (p := ⟨P + 1, j, none⟩) (by show P + 1 < _; omega) (by show P + 1 ≠ M; omega)).trans (g2 j jlt)
            by_cases jle : j ≤ i
            · have j2 : (j : Int) ≤ (i : Int) := by omega
              have e2 := (but.cell (p := ⟨P, j, none⟩) (by show P < _; omega) (by show P ≠ M; omega)).trans (g1.2 j jlt)
              have e3 := sw.2.1 j jlt
              have e4 := sw.2.2 j jlt
              have HS := Lib.hid (sw.set j jlt (ff j) ((hmx j).1 jle))
              have HBU := Lib.hid (but.trans (But.setCell M j wr (.int .i64 (ff j))))
              clear sw but hmx g1 g2 sv q0y
              go_wp2_with fail
              go_roundw
              case rel => exact ⟨j + 1, by omega, by go_num, HS.out, HBU.out⟩
              case measure => simp [intOf]; omega
            · have j2 : ¬ (j : Int) ≤ (i : Int) := by omega
              have HS := Lib.hid sw
              have HX := Lib.hid ((hmx j).2 jle)
              have HBU := Lib.hid but
              clear sw but hmx g1 g2 sv q0y
              go_wp2_with fail
              go_roundw
              case rel => exact ⟨j + 1, by omega, by go_num, by rw [HX.out]; exact HS.out, HBU.out⟩
              case measure => simp [intOf]; omega
          · have j1 : ¬ (j : Int) < 7 := by omega
            obtain rfl : j = 7 := by omega
            have hc := check_any (mi 7 ff gg 0) (mi 7 ff gg 1) (mi 7 ff gg 2) (mi 7 ff gg 3) (mi 7 ff gg 4) (mi 7 ff gg 5) (mi 7 ff gg 6)
            rw [← h7.out] at hc
            unfold cf at hc
            have ck : wr.cell? ⟨N, 0, none⟩ = some (.int .i64 k) := (but.cell (p := ⟨N, 0, none⟩) q0y.1 (by show N ≠ M; omega)).trans ((q0y.2 0 (by omega)).trans (by rw [← HF.out]; rfl))
            have e0 := sw.2.1 0 (by omega)
            have e1 := sw.2.1 1 (by omega)
            have e2 := sw.2.1 2 (by omega)
            have e3 := sw.2.1 3 (by omega)
            have e4 := sw.2.1 4 (by omega)
            have e5 := sw.2.1 5 (by omega)
            have e6 := sw.2.1 6 (by omega)
            have nl := Nat.lt_of_lt_of_le q0y.1 but.size
            have BY := BX.out.trans (but.below WM (by have := q0y.1; omega))
            clear hmx g1 g2 sv q0y sw but BX
            go_wp2_with fail
            refine (hc _).mono ?_
            rintro e w5 ⟨rfl, b5⟩
            have ck5 := (b5.cell (p := ⟨N, 0, none⟩) nl).trans ck
            replace BY := BY.trans (b5.mono BY.size)
            clear hc b5 ck e0 e1 e2 e3 e4 e5 e6
            clear h7
            generalize mchk i ff gg = X at *
            have HB := bb.trans (BY.mono bb.size)
            clear bb
            by_cases hx : X = 0
            · have HN2 := Lib.hid (ms.out.2 (.inl hx))
              have HBY := Lib.hid BY
              have hx1 : (X != 0) = false := by simpa using hx
              clear ms hx BY HB
              go_wp2_with fail
              go_roundw
              case rel => exact ⟨i + 1, by omega, by go_num, HN2.out, HBY.out⟩
              case measure => simp [intOf]; omega
            · have hx1 : (X != 0) = true := by simpa using hx
              by_cases h0 : 0 < i
              · have HE := Lib.hid (ms.out.1 (.inl h0) hx)
                have i0 : (0 : Int) < (i : Int) := by omega
                clear ms hx BY
                rw [HE.out]
                go_wp2_with fail
                refine (hf _).mono ?_
                rintro e w6 ⟨rfl, b6⟩
                have HB2 := Lib.hid (HB.trans (b6.mono HB.size))
                clear hf b6 HB
                go_wp2_with fail
                go_ret
                exact ⟨rfl, HB2.out⟩
              · have i0 : ¬ (0 : Int) < (i : Int) := by omega
                by_cases hk : k = 0 ∨ k = 1
                · have HN2 := Lib.hid (ms.out.2 (.inr ⟨by omega, hk⟩))
                  have HBY := Lib.hid BY
                  clear ms hx BY HB
                  rcases hk with hk | hk
                  · have hk1 : (k != 0) = false := by simpa using hk
                    clear hk
                    go_wp2_with fail
                    go_roundw
                    case rel => exact ⟨i + 1, by omega, by go_num, HN2.out, HBY.out⟩
                    case measure => simp [intOf]; omega
                  · have hk1 : (k != 0) = true := by subst hk; rfl
                    have hk2 : (k != 1) = false := by simpa using hk
                    clear hk
                    go_wp2_with fail
                    go_roundw
                    case rel => exact ⟨i + 1, by omega, by go_num, HN2.out, HBY.out⟩
                    case measure => simp [intOf]; omega
                · have HE := Lib.hid (ms.out.1 (.inr hk) hx)
                  have hk1 : (k != 0) = true := by simp; omega
                  have hk2 : (k != 1) = true := by simp; omega
                  clear ms hx BY hk
                  rw [HE.out]
                  go_wp2_with fail
                  refine (hf _).mono ?_
                  rintro e w6 ⟨rfl, b6⟩
                  have HB2 := Lib.hid (HB.trans (b6.mono HB.size))
                  clear hf b6 HB
                  go_wp2_with fail
                  go_ret
                  exact ⟨rfl, HB2.out⟩
      · have i1 : ¬ (i : Int) < 7 := by omega
        obtain rfl : i = 7 := by omega
        have HE := Lib.hid (okT_all HO.out)
        have HB := bb.trans (bel.mono bb.size)
        clear q0 q1 bel bb
        rw [HE.out]
        go_wp2_with fail
        refine (hf _).mono ?_
        rintro e w5 ⟨rfl, b5⟩
        have HB2 := Lib.hid (HB.trans (b5.mono HB.size))
        clear hf b5 HB
        go_wp2_with fail
        go_ret
        exact ⟨rfl, HB2.out⟩
  · have g : (chk k' c' b' t' d' l' p' != 0) = true := by simpa using hz
    clear hz q0 q1
    generalize chk k' c' b' t' d' l' p' = CK at *
    go_enter Try.func6, Try.ntmps6
    go_wp2_with fail
    change Calls Try.prog _ _ (twoW w k c b t d l p k' c' b' t' d' l' p') _
    generalize twoW w k c b t d l p k' c' b' t' d' l' p' = W at *
    refine (hg _).mono ?_
    rintro e w1 ⟨rfl, b1⟩
    replace bb := bb.trans (b1.mono bb.size)
    clear hg b1
    go_wp2_with fail
    refine (hf _).mono ?_
    rintro e w2 ⟨rfl, b2⟩
    have HB := Lib.hid (bb.trans (b2.mono bb.size))
    clear hf bb b2
    go_wp2_with fail
    go_ret
    exact ⟨rfl, HB.out⟩
end Go.Proofs.Ytodejnligocadaa
