/-
  THE DOCUMENT's: could these be edges? Condition: at most 1000 edges, of 64 bits each.
-/
import Derived.Test.YtmhdhifdkcadaaaEdgeR
import Derived.Maps.AppendAt
namespace Go.Proofs.Ytmhdhifdkcadaaa
open Go.RowKit

theorem refMissing_same (b : Nat) (h : b < 18446744073709551616) (w : World) :
    Calls Try.prog 18 #[.float .f64 b] w fun e w' => e = .returned (.bool (decide (mis b))) ∧ w' = w :=
  (refMissing_any b h w).mono fun _ _ h => ⟨h.1, h.2.symm⟩
theorem refMissing_yes (b : Nat) (h : b < 18446744073709551616) (hm : decide (mis b) = true) (w : World) :
    Calls Try.prog 18 #[.float .f64 b] w fun e w' => e = .returned (.bool true) ∧ w' = w :=
  (refMissing_any b h w).mono fun _ _ h => ⟨by rw [← hm]; exact h.1, h.2.symm⟩
theorem refMissing_no (b : Nat) (h : b < 18446744073709551616) (hm : decide (mis b) = false) (w : World) :
    Calls Try.prog 18 #[.float .f64 b] w fun e w' => e = .returned (.bool false) ∧ w' = w :=
  (refMissing_any b h w).mono fun _ _ h => ⟨by rw [← hm]; exact h.1, h.2.symm⟩
theorem cmp_is {a b : Nat} {c : Int} (ha : a < 18446744073709551616) (hb : b < 18446744073709551616) (h : cmpI (key a) (key b) = c) (w : World) :
    Calls Try.prog 19 #[.float .f64 a, .float .f64 b] w fun e w' => e = .returned (.int .i64 c) ∧ w' = w :=
  (refCmp_any a b ha hb w).mono fun _ _ k => ⟨by rw [← h]; exact k.1, k.2.symm⟩
theorem refClean_same (b : Nat) (h : b < 18446744073709551616) (w : World) :
    Calls Try.prog 30 #[.float .f64 b] w fun e w' => e = .returned (.float .f64 (cln b)) ∧ w' = w :=
  (refClean_any b h w).mono fun _ _ h => ⟨h.1, h.2.symm⟩
theorem one_list {a b : Nat} : decide ([a] = [b]) = decide (b = a) := decide_eq_decide.2 (by simp; exact eq_comm)
theorem holds_one {w : World} {g x : Nat} (h : w.cell? ⟨g, 0, none⟩ = some (.float .f64 x)) (hl : g < w.heap.size) : HoldsE KF w (some ⟨g, 0, none⟩) [x] :=
  .inr ⟨g, 0, rfl, hl, fun j hj => by
    obtain rfl : j = 0 := by simp at hj; omega
    exact h⟩

theorem two_below (w : World) (a b : Obj) : Go.RowKit.Below w.heap.size w ((w.alloc a).alloc b).drew := by
  have := ((Go.RowKit.Below.refl _ w).alloc (Nat.le_refl _) a).alloc (by simp) b
  exact ⟨this.os, this.tape, this.output, this.size, this.block⟩
theorem two_first (w : World) (x y : Nat) : HoldsE KF ((w.alloc (.cells #[.float .f64 x] 32)).alloc (.cells #[.float .f64 y] 32)).drew (some ⟨w.heap.size, 0, none⟩) [x] :=
  holds_one (w := ((w.alloc (.cells #[.float .f64 x] 32)).alloc (.cells #[.float .f64 y] 32)).drew) (Lib.cell?_alloc_some (W := w.alloc (.cells #[.float .f64 x] 32)) _ (cell_one_new w (.float .f64 x) 32 0 _ rfl)) (by show _ < ((w.alloc _).alloc _).heap.size; simp; omega)
theorem two_second (w : World) (x y : Nat) : HoldsE KF ((w.alloc (.cells #[.float .f64 x] 32)).alloc (.cells #[.float .f64 y] 32)).drew (some ⟨w.heap.size + 1, 0, none⟩) [y] :=
  holds_one (w := ((w.alloc (.cells #[.float .f64 x] 32)).alloc (.cells #[.float .f64 y] 32)).drew) (by
    have := cell_one_new (w.alloc (.cells #[.float .f64 x] 32)) (.float .f64 y) 32 0 _ rfl
    rw [World.size_alloc] at this
    exact this) (by show _ < ((w.alloc _).alloc _).heap.size; simp)
theorem below_after {w w1 w2 : World} (h : Go.RowKit.Below w.heap.size w w1) (k : Go.RowKit.Below w1.heap.size w1 w2) : Go.RowKit.Below w.heap.size w w2 := h.trans (k.mono h.size)
theorem below_drewN {B : Nat} {w w1 : World} (h : Go.RowKit.Below B w w1) (n : Nat) : Go.RowKit.Below B w (w1.drewN n) := ⟨h.os, h.tape, h.output, h.size, h.block⟩

set_option maxRecDepth 100000 in
set_option maxHeartbeats 2000000 in
theorem refRight_any (a : Option Addr) (cap n : Nat) (E : List Nat) (hn : E.length = n) (hb : n ≤ 1000) (h64 : ∀ e ∈ E, e < 18446744073709551616) (w : World) (hr : HoldsE KF w a E) :
    Calls Try.prog 17 #[.slice a n cap] w fun e w' => e = .returned (.bool (rightB E)) ∧ Go.RowKit.Below w.heap.size w w' := by
  by_cases hl : 255 < n
  · have HZ : Hid (rightB E = false) := rightB_long (by omega)
    rw [HZ.out]
    have hl2 : (255 : Int) < (n : Int) := by omega
    clear hn hr h64 hl
    go_enter Try.func17, Try.ntmps17
    go_wp2_with fail
    go_ret
    exact ⟨rfl, Go.RowKit.Below.refl _ _⟩
  · have HN := Lib.hid hn
    have HB := Lib.hid hl
    have hl2 : ¬ (255 : Int) < (n : Int) := by omega
    clear hn hb hl
    go_enter Try.func17, Try.ntmps17
    go_wp2_with fail
    go_loopw [3] (fun i wr => ∃ j : Nat, j ≤ n ∧ i = .int .i64 (j : Int) ∧ Hid (∀ t, t < j → okAt E t) ∧ Go.RowKit.Below w.heap.size w wr) (fun i _ => n - (intOf i).toNat)
    case atStart => exact ⟨0, by omega, rfl, fun t ht => by omega, Go.RowKit.Below.refl _ _⟩
    case round =>
      obtain ⟨j, hj, rfl, HO, hBW⟩ := hrel
      have hn := HN.out
      have hb := HB.out
      by_cases hlt : j < n
      · obtain ⟨g, off, rfl, hg, hrow⟩ := hr.some hn hlt
        have hx := at64 h64 (show j < E.length by omega)
        have cx : wr.cell? ⟨g, off + j, none⟩ = some (.float .f64 (E.getD j 0)) := (hBW.cell (by exact hg)).trans (hrow j (by omega))
        have hj1 : (j : Int) < (n : Int) := by omega
        have hj2 : (j : Int) ≤ 1048576 := by omega
        have hj0 : (0 : Int) ≤ (j : Int) := by omega
        have HJ := Lib.hid hlt
        have HBW := Lib.hid hBW
        obtain ⟨x, HX⟩ : ∃ x, Hid (E.getD j 0 = x) := ⟨_, rfl⟩
        rw [HX.out] at hx cx
        by_cases hm : mis x
        · have HZ : Hid (rightB E = false) := rightB_no (show j < E.length by omega) (fun h => h.1 (by rw [HX.out]; exact hm))
          have hmd : decide (mis x) = true := decide_eq_true hm
          clear hn hb hrow h64 hr hlt hm hBW hj hl2 hg
          go_wp2_with fail
          go_big_quiet (first | (go_at_call 18; refine Calls.quiet_of_same (refMissing_yes x hx (by assumption) _)))
          go_wp2_with fail
          go_ret
          exact ⟨by rw [HZ.out]; rfl, HBW.out.trans ⟨rfl, rfl, rfl, Nat.le_refl _, fun _ _ => rfl⟩⟩
        · have hmd : decide (mis x) = false := decide_eq_false hm
          have hgr : g < wr.heap.size := Nat.lt_of_lt_of_le hg hBW.size
          have k0d : wr.drew.cell? ⟨g, off + j, none⟩ = some (.float .f64 x) := cx
          have k1 : ∀ o, (wr.alloc o).cell? ⟨g, off + j, none⟩ = some (.float .f64 x) := fun o => Lib.cell?_alloc_some o cx
          have k1d : ∀ o, (wr.alloc o).drew.cell? ⟨g, off + j, none⟩ = some (.float .f64 x) := k1
          have k2 : ∀ o o', ((wr.alloc o).alloc o').cell? ⟨g, off + j, none⟩ = some (.float .f64 x) := fun o o' => Lib.cell?_alloc_some o' (k1 o)
          have k2d : ∀ o o', ((wr.alloc o).alloc o').drew.cell? ⟨g, off + j, none⟩ = some (.float .f64 x) := k2
          obtain ⟨y, HY⟩ : ∃ y, Hid (cln x = y) := ⟨_, rfl⟩
          have HCL : Hid (∀ w, Calls Try.prog 30 #[.float .f64 x] w fun e w' => e = .returned (.float .f64 y) ∧ w' = w) := fun w => by
            have := refClean_same x hx w
            rw [HY.out] at this
            exact this
          have HR : Hid (∀ W', Go.RowKit.Below w.heap.size w W' → ∀ i, i < n → W'.cell? ⟨g, off + i, none⟩ = some (.float .f64 (E.getD i 0))) := fun W' hW i hi => (hW.cell (by exact hg)).trans (hrow i (by omega))
          by_cases hc : cln x = x
          · have HCD : Hid (decide ([x] = [y]) = true) := by show _ = _; rw [one_list, ← HY.out]; exact decide_eq_true hc
            have HC := Lib.hid hc
            have HM := Lib.hid hm
            rcases Nat.eq_zero_or_pos j with h0 | h0
            · have HO2 : Hid (∀ t, t < j + 1 → okAt E t) := fun t ht => by
                obtain rfl : t = 0 := by omega
                obtain rfl : j = 0 := h0
                exact ⟨by rw [HX.out]; exact hm, by rw [HX.out]; exact hc, fun h => by omega⟩
              have hz : decide (0 < j) = false := decide_eq_false (by omega)
              clear hn hb hrow h64 hlt hm hBW hj hl2 hg hc h0
              go_wp2_with fail
              go_region_held3 (fun w' => w'.cell? ⟨g, off + j, none⟩ = some (.float .f64 x)) (first | exact cS | exact k2d _ _ | exact k2 _ _ | exact k1d _ | exact k1 _ | exact k0d | exact cx)
                (first
                  | (go_at_call 18; refine (refMissing_no x hx (by assumption) _).mono ?_; rintro e w' ⟨rfl, rfl⟩)
                  | (go_at_call 30; refine (HCL.out _).mono ?_; rintro e w' ⟨rfl, rfl⟩)
                  | (go_at_call 11; refine (refSame_any _ _ 1 1 1 1 [x] [y] rfl rfl (by decide) (by decide) _ (by first | exact two_first wr x y | exact two_second wr y x) (by first | exact two_second wr x y | exact two_first wr y x)).mono ?_; rintro e w9 ⟨rfl, b9⟩; rw [HCD.out]; have b8 := below_after (two_below _ _ _) b9; have HB8 := Lib.hid (below_after HBW.out b8); have cS := (b8.cell (p := ⟨g, off + j, none⟩) (by exact hgr)).trans cx; clear b9 b8))
              all_goals
                go_wp2_with fail
                go_big_quiet (fail)
                have HB9 := Lib.hid (below_drewN HB8.out nq)
                go_wp2_with fail
                go_roundw
                case rel => have h1 := HJ.out; exact ⟨j + 1, by omega, by go_num, HO2, HB9.out⟩
                case measure => have h1 := HJ.out; simp [intOf]; omega
            · have hz : decide (0 < j) = true := decide_eq_true (by omega)
              obtain ⟨k, hk⟩ : ∃ k, j = k + 1 := ⟨j - 1, by omega⟩
              have hv := at64 h64 (show k < E.length by omega)
              obtain ⟨v, HV⟩ : ∃ v, Hid (E.getD k 0 = v) := ⟨_, rfl⟩
              rw [HV.out] at hv
              have HKL : Hid (k < n) := by show _ < _; omega
              have ek : ((j : Int) - 1) = (k : Int) := by omega
              have hk0 : (0 : Int) ≤ (k : Int) := by omega
              have hk1 : (k : Int) < (n : Int) := by omega
              by_cases hlt2 : key v < key x
              · have HO2 : Hid (∀ t, t < j + 1 → okAt E t) := fun t ht => by
                  by_cases e : t = j
                  · subst e
                    exact ⟨by rw [HX.out]; exact hm, by rw [HX.out]; exact hc, fun h => by rw [show t - 1 = k by omega, HV.out, HX.out]; exact hlt2⟩
                  · exact HO.out t (by omega)
                have HCM : Hid (cmpI (key v) (key x) = -1) := cmpI_lt (by omega)
                clear hn hb hrow h64 hlt hm hBW hj hl2 hg hc h0 hk hlt2
                go_wp2_with fail
                go_region_held3 (fun w' => w'.cell? ⟨g, off + j, none⟩ = some (.float .f64 x)) (first | exact cS | exact k2d _ _ | exact k2 _ _ | exact k1d _ | exact k1 _ | exact k0d | exact cx)
                  (first
                    | (go_at_call 18; refine (refMissing_no x hx (by assumption) _).mono ?_; rintro e w' ⟨rfl, rfl⟩)
                    | (go_at_call 30; refine (HCL.out _).mono ?_; rintro e w' ⟨rfl, rfl⟩)
                    | (go_at_call 11; refine (refSame_any _ _ 1 1 1 1 [x] [y] rfl rfl (by decide) (by decide) _ (by first | exact two_first wr x y | exact two_second wr y x) (by first | exact two_second wr x y | exact two_first wr y x)).mono ?_; rintro e w9 ⟨rfl, b9⟩; rw [HCD.out]; have b8 := below_after (two_below _ _ _) b9; have HB8 := Lib.hid (below_after HBW.out b8); have cS := (b8.cell (p := ⟨g, off + j, none⟩) (by exact hgr)).trans cx; clear b9 b8))
                all_goals
                  have cv := HR.out w9 HB8.out k HKL.out
                  rw [HV.out] at cv
                  go_wp2_with fail
                  go_big_quiet (first | (go_at_call 19; refine Calls.quiet_of_same (cmp_is hv hx HCM.out _)))
                  have HB9 := Lib.hid (below_drewN HB8.out nq)
                  go_wp2_with fail
                  go_roundw
                  case rel => have h1 := HJ.out; exact ⟨j + 1, by omega, by go_num, HO2, HB9.out⟩
                  case measure => have h1 := HJ.out; simp [intOf]; omega
              · have HZ : Hid (rightB E = false) := rightB_no (show j < E.length by omega) (fun h => hlt2 (by have := h.2.2 h0; rwa [show j - 1 = k by omega, HV.out, HX.out] at this))
                obtain ⟨c, HCM, hcc⟩ : ∃ c : Int, Hid (cmpI (key v) (key x) = c) ∧ (0 : Int) ≤ c := ⟨_, rfl, by have := cmpI_pos (key v) (key x); have := cmpI_le (key v) (key x); unfold cmpI; split <;> (try split) <;> omega⟩
                clear hn hb hrow h64 hlt hm hBW hj hl2 hg hc h0 hk hlt2
                go_wp2_with fail
                go_region_held3 (fun w' => w'.cell? ⟨g, off + j, none⟩ = some (.float .f64 x)) (first | exact cS | exact k2d _ _ | exact k2 _ _ | exact k1d _ | exact k1 _ | exact k0d | exact cx)
                  (first
                    | (go_at_call 18; refine (refMissing_no x hx (by assumption) _).mono ?_; rintro e w' ⟨rfl, rfl⟩)
                    | (go_at_call 30; refine (HCL.out _).mono ?_; rintro e w' ⟨rfl, rfl⟩)
                    | (go_at_call 11; refine (refSame_any _ _ 1 1 1 1 [x] [y] rfl rfl (by decide) (by decide) _ (by first | exact two_first wr x y | exact two_second wr y x) (by first | exact two_second wr x y | exact two_first wr y x)).mono ?_; rintro e w9 ⟨rfl, b9⟩; rw [HCD.out]; have b8 := below_after (two_below _ _ _) b9; have HB8 := Lib.hid (below_after HBW.out b8); have cS := (b8.cell (p := ⟨g, off + j, none⟩) (by exact hgr)).trans cx; clear b9 b8))
                all_goals
                  have cv := HR.out w9 HB8.out k HKL.out
                  rw [HV.out] at cv
                  go_wp2_with fail
                  go_big_quiet (first | (go_at_call 19; refine Calls.quiet_of_same (cmp_is hv hx HCM.out _)))
                  have HB9 := Lib.hid (below_drewN HB8.out nq)
                  go_wp2_with fail
                  go_ret
                  exact ⟨by rw [HZ.out]; rfl, HB9.out⟩
          · have HCD : Hid (decide ([x] = [y]) = false) := by show _ = _; rw [one_list, ← HY.out]; exact decide_eq_false hc
            have HZ : Hid (rightB E = false) := rightB_no (show j < E.length by omega) (fun h => hc (by have := h.2.1; rwa [HX.out] at this))
            clear hn hb hrow h64 hlt hm hBW hj hl2 hg hc
            go_wp2_with fail
            go_region_held3 (fun w' => w'.cell? ⟨g, off + j, none⟩ = some (.float .f64 x)) (first | exact cS | exact k2d _ _ | exact k2 _ _ | exact k1d _ | exact k1 _ | exact k0d | exact cx)
              (first
                | (go_at_call 18; refine (refMissing_no x hx (by assumption) _).mono ?_; rintro e w' ⟨rfl, rfl⟩)
                | (go_at_call 30; refine (HCL.out _).mono ?_; rintro e w' ⟨rfl, rfl⟩)
                | (go_at_call 11; refine (refSame_any _ _ 1 1 1 1 [x] [y] rfl rfl (by decide) (by decide) _ (by first | exact two_first wr x y | exact two_second wr y x) (by first | exact two_second wr x y | exact two_first wr y x)).mono ?_; rintro e w9 ⟨rfl, b9⟩; rw [HCD.out]; have b8 := below_after (two_below _ _ _) b9; have HB8 := Lib.hid (below_after HBW.out b8); have cS := (b8.cell (p := ⟨g, off + j, none⟩) (by exact hgr)).trans cx; clear b9 b8))
            all_goals
              go_wp2_with fail
              go_ret
              exact ⟨by rw [HZ.out]; rfl, HB8.out⟩
      · have HZ : Hid (rightB E = true) := rightB_yes (by omega) (fun t ht => HO.out t (by omega))
        clear hn hb h64 hr
        go_wp2_with fail
        go_ret
        exact ⟨by rw [HZ.out]; rfl, hBW⟩

end Go.Proofs.Ytmhdhifdkcadaaa
