/-
  THE WALK OF EdgesOrder: it returns true; nothing that was there turns. Condition: the numbers are of 64 bits each.
-/
import Derived.Test.YtmhdhifdkcadaaaEdgeX
import Derived.Test.YtmhdhifdkcadaaaArgsE
namespace Go.Proofs.Ytmhdhifdkcadaaa
open Go.RowKit

theorem binL_mono {E : List Nat} {f g : Nat} (hf : f < 18446744073709551616) (hg : g < 18446744073709551616) (h : key f ≤ key g) : binL E f ≤ binL E g := by
  by_cases hm : mis f
  · rw [binL_mis hm]; omega
  · have hm2 : ¬ mis g := fun m => by
      have := key_pos hm hf
      rw [(mis_key hg).1 m] at h
      omega
    rw [binL_is hm, binL_is hm2]
    have : E.countP (fun e => decide (key e ≤ key f)) ≤ E.countP (fun e => decide (key e ≤ key g)) := List.countP_mono_left fun e _ he => by simp at he ⊢; omega
    omega

theorem cmp_c {a b : Nat} {c : Int} (ha : a < 18446744073709551616) (hb : b < 18446744073709551616) (h : cmpI (key a) (key b) = c) (w : World) :
    Calls Try.prog 19 #[.float .f64 a, .float .f64 b] w fun e w' => e = .returned (.int .i64 c) ∧ w = w' :=
  (refCmp_any a b ha hb w).mono fun _ _ k => ⟨by rw [← h]; exact k.1, k.2⟩

theorem order_great (a : Option Addr) (n cap : Nat) (f g : Int) (hg : 300 < n) (w : World) :
    Calls Try.prog 7 #[.slice a n cap, .int .u64 f, .int .u64 g] w fun e w' => e = .returned (.bool true) ∧ Go.RowKit.Below w.heap.size w w' := by
  go_enter Try.func7, Try.ntmps7
  go_wp2_with (go_at_call 8; refine (efixed_any _).mono ?_; rintro e w' ⟨rfl, hB⟩)
  go_ret
  exact ⟨rfl, hB⟩

set_option maxHeartbeats 1000000 in
theorem order_any (a : Option Addr) (n cap : Nat) (l : List Int) (hn : l.length = n) (hb : n ≤ 300) (h64 : ∀ z ∈ l, 0 ≤ z ∧ z < 18446744073709551616) (f g : Int) (hf : f.toNat < 18446744073709551616) (hg : g.toNat < 18446744073709551616) (w : World) (hr : HoldsE KU w a l) :
    Calls Try.prog 7 #[.slice a n cap, .int .u64 f, .int .u64 g] w fun e w' => e = .returned (.bool true) ∧ Go.RowKit.Below w.heap.size w w' := by
  have hB64 := bits64_of h64
  have hbl : (bitsOf l).length = n := by rw [bitsOf_len]; exact hn
  have C1 := refOf_any a cap n l hn (by omega) w hr
  obtain ⟨E, HE⟩ : ∃ E, Hid (bitsOf l = E) := ⟨_, rfl⟩
  rw [HE.out] at C1 hB64 hbl
  have hx1 := binL_le E f.toNat
  have hxy : key f.toNat ≤ key g.toNat → binL E f.toNat ≤ binL E g.toNat := binL_mono hf hg
  have hyx : key g.toNat ≤ key f.toNat → binL E g.toNat ≤ binL E f.toNat := binL_mono hg hf
  have hfb : ∀ w : World, (callFunc 15 #[.int .u64 f]).run Try.prog w = .ok (.value (.float .f64 f.toNat)) w := fromb f
  have hgb : ∀ w : World, (callFunc 15 #[.int .u64 g]).run Try.prog w = .ok (.value (.float .f64 g.toNat)) w := fromb g
  have HBL := Lib.hid hbl
  have H64 := Lib.hid hB64
  rw [hbl] at hx1
  generalize f.toNat = F at *
  generalize g.toNat = G at *
  have CX : Hid (∀ (g : Nat) (c : Nat) (w : World), HoldsE KF w (some ⟨g, 0, none⟩) E → Calls Try.prog 14 #[.slice (some ⟨g, 0, none⟩) n c, .float .f64 F] w fun e w' => e = .returned (.int .i64 ((binL E F : Nat) : Int)) ∧ w = w') := fun g c w h => bin_any _ c n E HBL.out (by omega) H64.out F hf w h
  have CY : Hid (∀ (g : Nat) (c : Nat) (w : World), HoldsE KF w (some ⟨g, 0, none⟩) E → Calls Try.prog 14 #[.slice (some ⟨g, 0, none⟩) n c, .float .f64 G] w fun e w' => e = .returned (.int .i64 ((binL E G : Nat) : Int)) ∧ w = w') := fun g c w h => bin_any _ c n E HBL.out (by omega) H64.out G hg w h
  generalize binL E F = x at *
  generalize binL E G = y at *
  have hxn : (x : Int) ≤ (n : Int) + 1 := by omega
  have hx0 : (0 : Int) ≤ (x : Int) := by omega
  have hnb : (n : Int) ≤ 300 := by omega
  have hf2 := Lib.hid hf
  have hg2 := Lib.hid hg
  rcases Nat.lt_trichotomy (key F) (key G) with h | h | h
  · have HC : Hid (cmpI (key F) (key G) = -1) := cmpI_lt (by omega)
    have hle : (x : Int) ≤ (y : Int) := by have := hxy (by omega); omega
    clear hn hb h64 hbl hB64 hr hxy hyx hx1 h hf hg
    go_enter Try.func7, Try.ntmps7
    go_wp2_with fail
    refine C1.mono ?_
    rintro e w1 ⟨⟨g1, c1, rfl, hg1, hL1⟩, hB1⟩
    have HB1 := Lib.hid hB1
    have D1 := CX.out g1 c1 w1 hL1.holds
    have D2 := CY.out g1 c1 w1 hL1.holds
    clear C1 hB1 hL1 hg1
    go_wp2_with fail
    refine D1.mono ?_
    rintro e w' ⟨rfl, rfl⟩
    go_wp2_with fail
    refine D2.mono ?_
    rintro e w' ⟨rfl, rfl⟩
    clear D1 D2
    go_wp2_with (first
      | (go_at_call 19; refine (cmp_c hf2.out hg2.out HC.out _).mono ?_; rintro e w' ⟨rfl, rfl⟩)
      | (go_at_call 8; refine (efixed_any _).mono ?_; rintro e w3 ⟨rfl, hB3⟩; have HB3 := Lib.hid (HB1.out.trans (hB3.mono HB1.out.size)); clear hB3))
    go_ret
    exact ⟨rfl, HB3.out⟩
  · have HC : Hid (cmpI (key F) (key G) = 0) := cmpI_eq (by omega)
    have hle : x = y := Nat.le_antisymm (hxy (by omega)) (hyx (by omega))
    subst hle
    clear hn hb h64 hbl hB64 hr hxy hyx hx1 h hf hg
    go_enter Try.func7, Try.ntmps7
    go_wp2_with fail
    refine C1.mono ?_
    rintro e w1 ⟨⟨g1, c1, rfl, hg1, hL1⟩, hB1⟩
    have HB1 := Lib.hid hB1
    have D1 := CX.out g1 c1 w1 hL1.holds
    have D2 := CY.out g1 c1 w1 hL1.holds
    clear C1 hB1 hL1 hg1
    go_wp2_with fail
    refine D1.mono ?_
    rintro e w' ⟨rfl, rfl⟩
    go_wp2_with fail
    refine D2.mono ?_
    rintro e w' ⟨rfl, rfl⟩
    clear D1 D2
    go_wp2_with (first
      | (go_at_call 19; refine (cmp_c hf2.out hg2.out HC.out _).mono ?_; rintro e w' ⟨rfl, rfl⟩)
      | (go_at_call 8; refine (efixed_any _).mono ?_; rintro e w3 ⟨rfl, hB3⟩; have HB3 := Lib.hid (HB1.out.trans (hB3.mono HB1.out.size)); clear hB3))
    go_ret
    exact ⟨rfl, HB3.out⟩
  · have HC : Hid (cmpI (key F) (key G) = 1) := cmpI_gt (by omega)
    clear hn hb h64 hbl hB64 hr hxy hyx hx1 h hf hg
    go_enter Try.func7, Try.ntmps7
    go_wp2_with fail
    refine C1.mono ?_
    rintro e w1 ⟨⟨g1, c1, rfl, hg1, hL1⟩, hB1⟩
    have HB1 := Lib.hid hB1
    have D1 := CX.out g1 c1 w1 hL1.holds
    have D2 := CY.out g1 c1 w1 hL1.holds
    clear C1 hB1 hL1 hg1
    go_wp2_with fail
    refine D1.mono ?_
    rintro e w' ⟨rfl, rfl⟩
    go_wp2_with fail
    refine D2.mono ?_
    rintro e w' ⟨rfl, rfl⟩
    clear D1 D2
    go_wp2_with (first
      | (go_at_call 19; refine (cmp_c hf2.out hg2.out HC.out _).mono ?_; rintro e w' ⟨rfl, rfl⟩)
      | (go_at_call 8; refine (efixed_any _).mono ?_; rintro e w3 ⟨rfl, hB3⟩; have HB3 := Lib.hid (HB1.out.trans (hB3.mono HB1.out.size)); clear hB3))
    go_ret
    exact ⟨rfl, HB3.out⟩

end Go.Proofs.Ytmhdhifdkcadaaa
