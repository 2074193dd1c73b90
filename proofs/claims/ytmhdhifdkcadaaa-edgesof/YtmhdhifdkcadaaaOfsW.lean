/-
  THE WALK OF EdgesOf: it returns true; nothing that was there turns. Condition: the numbers are of 64 bits each.
-/
import Derived.Test.YtmhdhifdkcadaaaEdgeX
import Derived.Test.YtmhdhifdkcadaaaRef10
namespace Go.Proofs.Ytmhdhifdkcadaaa
open Go.RowKit

theorem right_of_edges {E : List Nat} (h : Edges E) (hl : E.length ≤ 255) : rightB E = true := by
  refine rightB_yes hl fun j hj => ⟨?_, ?_, fun h0 => ?_⟩
  · exact h.no _ (getD_in hj)
  · exact h.cl _ (getD_in hj)
  · have := List.pairwise_iff_getElem.1 h.up (j - 1) j (by omega) hj (by omega)
    simpa [List.getD_eq_getElem?_getD, hj, show j - 1 < E.length by omega] using this

theorem ofs_great (a : Option Addr) (n cap : Nat) (b : Int) (hg : 200 < n) (w : World) :
    Calls Try.prog 3 #[.slice a n cap, .int .i64 b] w fun e w' => e = .returned (.bool true) ∧ Go.RowKit.Below w.heap.size w w' := by
  go_enter Try.func3, Try.ntmps3
  go_wp2_with (go_at_call 8; refine (efixed_any _).mono ?_; rintro e w' ⟨rfl, hB⟩)
  go_ret
  exact ⟨rfl, hB⟩

set_option maxHeartbeats 1000000 in
theorem ofs_any (a : Option Addr) (n cap : Nat) (l : List Int) (hn : l.length = n) (hb : n ≤ 200) (h64 : ∀ z ∈ l, 0 ≤ z ∧ z < 18446744073709551616) (b : Int) (w : World) (hr : HoldsE KU w a l) :
    Calls Try.prog 3 #[.slice a n cap, .int .i64 b] w fun e w' => e = .returned (.bool true) ∧ Go.RowKit.Below w.heap.size w w' := by
  have hB64 := bits64_of h64
  have hbl : (bitsOf l).length = n := by rw [bitsOf_len]; exact hn
  have C1 := refOf_any a cap n l hn (by omega) w hr
  have HC1 : Hid (∀ w', Go.RowKit.Below w.heap.size w w' → Calls Try.prog 9 #[.slice a n cap] w' fun e w'' => (∃ g c, e = .returned (.slice (some ⟨g, 0, none⟩) n c) ∧ w'.heap.size ≤ g ∧ Lst KF g 0 (bitsOf l) w'') ∧ Go.RowKit.Below w'.heap.size w' w'') :=
    fun w' h => refOf_any a cap n l hn (by omega) w' (hr.below h)
  obtain ⟨E, HE⟩ : ∃ E, Hid (bitsOf l = E) := ⟨_, rfl⟩
  rw [HE.out] at C1 hB64 hbl
  have HBL := Lib.hid hbl
  have H64 := Lib.hid hB64
  have HNB := Lib.hid hb
  have HED := Lib.hid (edges_are hB64 b)
  have HEL := Lib.hid (edges_len E b)
  have hnb : (n : Int) ≤ 200 := by omega
  have HRB : Hid (rightB (edgesL E b) = true) := right_of_edges (edges_are hB64 b) (edges_len E b).1
  have HO : Hid (∀ (g c : Nat) (w : World), HoldsE KF w (some ⟨g, 0, none⟩) E → Calls Try.prog 10 #[.slice (some ⟨g, 0, none⟩) n c, .int .i64 b] w fun e w' => GotF e w' (edgesL E b) ∧ Go.RowKit.Below w.heap.size w w') :=
    fun g c w h => of_any' _ c n E hbl (by omega) hB64 b w h
  have HR : Hid (∀ (g c : Nat) (w : World), HoldsE KF w (some ⟨g, 0, none⟩) E → Calls Try.prog 12 #[.slice (some ⟨g, 0, none⟩) n c, .int .i64 b] w fun e w' => GotR e w' w.heap.size (edgesL E b) ∧ Go.RowKit.Below w.heap.size w w') :=
    fun g c w h => ref10_any _ c n E hbl (by omega) hB64 b w h
  generalize edgesL E b = D at *
  obtain ⟨d, HD⟩ : ∃ d, Hid (D.length = d) := ⟨_, rfl⟩
  clear hn hb h64 hbl hB64 hr
  go_enter Try.func3, Try.ntmps3
  go_wp2_with fail
  refine C1.mono ?_
  rintro e w1 ⟨⟨g1, c1, rfl, hg1, hL1⟩, hB1⟩
  have HB1 := Lib.hid hB1
  have h1 := hL1.holds
  clear C1 hB1 hL1 hg1
  go_wp2_with fail
  refine (HO.out g1 c1 w1 h1).mono ?_
  rintro e w2 ⟨⟨a2, c2, rfl, h2⟩, hB2⟩
  have h12 := h1.below hB2
  have HB2 := Lib.hid (HB1.out.trans (hB2.mono HB1.out.size))
  rw [HD.out]
  clear hB2 h1
  go_wp2_with fail
  refine (efixed_any w2).mono ?_
  rintro e w3 ⟨rfl, hB3⟩
  have h13 := h12.below hB3
  have h23 := h2.below hB3
  have HB3 := Lib.hid (HB2.out.trans (hB3.mono HB2.out.size))
  clear hB3 h12 h2
  go_wp2_with fail
  refine (HR.out g1 c1 w3 h13).mono ?_
  rintro e w4 ⟨⟨g4, c4, rfl, hg4, hL4⟩, hB4⟩
  have h14 := h13.below hB4
  have h24 := h23.below hB4
  have h4 := hL4.holds
  have HB4 := Lib.hid (HB3.out.trans (hB4.mono HB3.out.size))
  rw [HD.out]
  clear hB4 h13 h23 hL4 hg4
  go_wp2_with fail
  refine (refSame_any a2 (some ⟨g4, 0, none⟩) c2 c4 d d D D HD.out HD.out (by have := HEL.out.1; have := HD.out; omega) (by have := HEL.out.1; have := HD.out; omega) w4 h24 h4).mono ?_
  rintro e w5 ⟨rfl, hB5⟩
  have h15 := h14.below hB5
  have h25 := h24.below hB5
  have HB5 := Lib.hid (HB4.out.trans (hB5.mono HB4.out.size))
  have hdd : decide (D = D) = true := decide_eq_true rfl
  rw [hdd]
  clear hB5 h14 h24 h4 hdd
  go_wp2_with fail
  refine (right_any a2 c2 d D HD.out (by have := HEL.out.1; have := HD.out; omega) (fun e he => HED.out.bits e he) w5 h25).mono ?_
  rintro e w' ⟨rfl, rfl⟩
  rw [HRB.out]
  go_wp2_with fail
  refine (HC1.out w5 HB5.out).mono ?_
  rintro e w6 ⟨⟨g6, c6, rfl, hg6, hL6⟩, hB6⟩
  rw [HE.out] at hL6
  have h16 := h15.below hB6
  have h6 := hL6.holds
  have HB6 := Lib.hid (HB5.out.trans (hB6.mono HB5.out.size))
  clear hB6 h15 h25 hL6 hg6
  go_wp2_with fail
  refine (refSame_any (some ⟨g1, 0, none⟩) (some ⟨g6, 0, none⟩) c1 c6 n n E E HBL.out HBL.out (by have := HNB.out; omega) (by have := HNB.out; omega) w6 h16 h6).mono ?_
  rintro e w7 ⟨rfl, hB7⟩
  have HB7 := Lib.hid (HB6.out.trans (hB7.mono HB6.out.size))
  have hdd : decide (E = E) = true := decide_eq_true rfl
  rw [hdd]
  clear hB7 h16 h6 hdd
  go_wp2_with fail
  go_ret
  exact ⟨rfl, HB7.out⟩

end Go.Proofs.Ytmhdhifdkcadaaa
