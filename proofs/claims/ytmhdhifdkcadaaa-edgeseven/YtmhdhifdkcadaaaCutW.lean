/-
  THE WALK OF EdgesCut: it returns true; nothing that was there turns. Condition: the numbers are of 64 bits each, the number of bins is one of 8 bits.
-/
import Derived.Test.YtmhdhifdkcadaaaEdgeX
import Derived.Test.YtmhdhifdkcadaaaCutN
namespace Go.Proofs.Ytmhdhifdkcadaaa
open Go.RowKit

theorem cut_great (a : Option Addr) (n cap : Nat) (b : Int) (hg : 200 < n) (w : World) :
    Calls Try.prog 5 #[.slice a n cap, .int .u8 b] w fun e w' => e = .returned (.bool true) ∧ Go.RowKit.Below w.heap.size w w' := by
  go_enter Try.func5, Try.ntmps5
  go_wp2_with (go_at_call 8; refine (efixed_any _).mono ?_; rintro e w' ⟨rfl, hB⟩)
  go_ret
  exact ⟨rfl, hB⟩

theorem missing_yes' (b : Nat) (h : b < 18446744073709551616) (hm : mis b) (w : World) :
    Calls Try.prog 18 #[.float .f64 b] w fun e w' => e = .returned (.bool true) ∧ w = w' :=
  (refMissing_any b h w).mono fun _ _ k => ⟨by rw [← decide_eq_true hm]; exact k.1, k.2⟩
theorem missing_no' (b : Nat) (h : b < 18446744073709551616) (hm : ¬ mis b) (w : World) :
    Calls Try.prog 18 #[.float .f64 b] w fun e w' => e = .returned (.bool false) ∧ w = w' :=
  (refMissing_any b h w).mono fun _ _ k => ⟨by rw [← decide_eq_false hm]; exact k.1, k.2⟩

theorem cmp_cc {a b : Nat} {c : Int} (ha : a < 18446744073709551616) (hb : b < 18446744073709551616) (h : cmpI (key a) (key b) = c) (w : World) :
    Calls Try.prog 19 #[.float .f64 a, .float .f64 b] w fun e w' => e = .returned (.int .i64 c) ∧ w = w' :=
  (refCmp_any a b ha hb w).mono fun _ _ k => ⟨by rw [← h]; exact k.1, k.2⟩

/-- What is there when the values are counted: the values, the edges, the counts, in a world behind this one. -/
structure Cut (L E : List Nat) (g1 : Nat) (a2 : Option Addr) (gc m : Nat) (w w2 wr : World) (j : Nat) : Prop where
  row : Lst KI gc 0 (cntL L E m j) wr
  below : Go.RowKit.Below w2.heap.size w2 wr
  old : Go.RowKit.Below w.heap.size w w2
  vals : HoldsE KF w2 (some ⟨g1, 0, none⟩) L
  edges : HoldsE KF w2 a2 E
  at_ : w2.heap.size ≤ gc

section
variable {L E : List Nat} {g1 : Nat} {a2 : Option Addr} {gc m : Nat} {w w2 wr : World} {j : Nat}
theorem Cut.all (h : Cut L E g1 a2 gc m w w2 wr j) : Go.RowKit.Below w.heap.size w wr := h.old.trans (h.below.mono h.old.size)
theorem Cut.val (h : Cut L E g1 a2 gc m w w2 wr j) {i : Nat} (hi : i < L.length) : wr.cell? ⟨g1, i, none⟩ = some (.float .f64 (L.getD i 0)) := by
  rcases h.vals.below h.below with h0 | ⟨g, off, e, hg, hc⟩
  · rw [h0] at hi; cases hi
  · injection e with e; injection e with e1 e2; subst e1; subst e2
    have := hc i hi
    rw [Nat.zero_add] at this
    exact this
theorem Cut.edge (h : Cut L E g1 a2 gc m w w2 wr j) {i : Nat} (hi : i < E.length) : ∃ g off, a2 = some ⟨g, off, none⟩ ∧ wr.cell? ⟨g, off + i, none⟩ = some (.float .f64 (E.getD i 0)) := by
  rcases h.edges.below h.below with h0 | ⟨g, off, e, hg, hc⟩
  · rw [h0] at hi; cases hi
  · exact ⟨g, off, e, hc i hi⟩
theorem Cut.count (h : Cut L E g1 a2 gc m w w2 wr j) {i : Nat} (hi : i < m) : wr.cell? ⟨gc, i, none⟩ = some (.int .i64 ((cntL L E m j).getD i 0)) ∧ wr.frozen? ⟨gc, i, none⟩ = false := by
  have h1 := h.row.cell i (by rw [cntL_len]; exact hi)
  have h2 := h.row.frozen i (by rw [cntL_len]; exact hi)
  rw [Nat.zero_add] at h1 h2
  exact ⟨h1, h2⟩
theorem Cut.step (h : Cut L E g1 a2 gc m w w2 wr j) {i : Nat} {c : Int} (hj : j < L.length) (hb : binL E (L.getD j 0) = i) (hi : i < m) (hc : (cntL L E m j).getD i 0 = c) : Cut L E g1 a2 gc m w w2 (wr.setCell ⟨gc, i, none⟩ (.int .i64 (c + 1))) (j + 1) := by
  have hs := h.row.set i (c + 1) (by rw [cntL_len]; exact hi)
  rw [Nat.zero_add] at hs
  have e := cntL_set (m := m) (E := E) hj (by rw [hb]; exact hi)
  rw [hb, hc] at e
  rw [e] at hs
  exact ⟨hs, h.below.setCell (p := ⟨gc, i, none⟩) h.at_ _, h.old, h.vals, h.edges, h.at_⟩
end

set_option maxRecDepth 100000 in
set_option maxHeartbeats 4000000 in
theorem cut_any (a : Option Addr) (n cap : Nat) (l : List Int) (hn : l.length = n) (hb : n ≤ 200) (h64 : ∀ z ∈ l, 0 ≤ z ∧ z < 18446744073709551616) (b : Int) (hb0 : 0 ≤ b) (hb1 : b < 256) (w : World) (hr : HoldsE KU w a l) :
    Calls Try.prog 5 #[.slice a n cap, .int .u8 b] w fun e w' => e = .returned (.bool true) ∧ Go.RowKit.Below w.heap.size w w' := by
  have hB64 := bits64_of h64
  have hbl : (bitsOf l).length = n := by rw [bitsOf_len]; exact hn
  have C1 := refOf_any a cap n l hn (by omega) w hr
  obtain ⟨L, HL⟩ : ∃ L, Hid (bitsOf l = L) := ⟨_, rfl⟩
  rw [HL.out] at C1 hB64 hbl
  have HLL := Lib.hid hbl
  have H64 := Lib.hid hB64
  have HNB := Lib.hid hb
  have hnb : (n : Int) ≤ 200 := by omega
  have HED := Lib.hid (edges_are hB64 b)
  have HEL := Lib.hid (edges_len L b)
  have HEO : Hid (∀ i, i < (edgesL L b).length → ∃ f ∈ L, key f = key ((edgesL L b).getD i 0)) := fun i hi => by
    obtain ⟨f, hf, _, e⟩ := edge_of hB64 (getD_in hi)
    exact ⟨f, hf, e⟩
  have HNE : Hid ((∃ f ∈ L, ¬ mis f) → ∀ k, 1 ≤ k → k ≤ (edgesL L b).length + 1 → ∃ f ∈ L, binL (edgesL L b) f = k) := fun hs k h1 h2 => no_empty hB64 hs h1 h2
  have HO : Hid (∀ (g c : Nat) (w : World), HoldsE KF w (some ⟨g, 0, none⟩) L → Calls Try.prog 10 #[.slice (some ⟨g, 0, none⟩) n c, .int .i64 b] w fun e w' => GotF e w' (edgesL L b) ∧ Go.RowKit.Below w.heap.size w w') :=
    fun g c w h => of_any' _ c n L hbl (by omega) hB64 b w h
  generalize edgesL L b = E at *
  obtain ⟨d, HD⟩ : ∃ d, Hid (E.length = d) := ⟨_, rfl⟩
  have hd255 : (d : Int) ≤ 255 := by have := HEL.out.1; have := HD.out; omega
  have hdb : ¬ (0 : Int) < (d : Int) ∨ ((0 : Int) < (d : Int) ∧ ¬ b ≤ (d : Int)) := by
    rcases Nat.eq_zero_or_pos d with h0 | h0
    · left; omega
    · right
      refine ⟨by omega, fun hc => ?_⟩
      by_cases h2 : 2 ≤ b
      · have := HEL.out.2.1 h2; have := HD.out; omega
      · have := HEL.out.2.2 (by omega)
        have h3 := HD.out
        rw [this] at h3; simp at h3; omega
  obtain ⟨m, hm⟩ : ∃ m : Nat, (d : Int) + 2 = (m : Int) := ⟨d + 2, by omega⟩
  have HM : Hid (m = d + 2) := by show _ = _; omega
  have HM2 : Hid (m ≤ 1048576) := by show _ ≤ _; omega
  clear hn hb h64 hbl hB64 hr
  go_enter Try.func5, Try.ntmps5
  go_wp2_with fail
  refine C1.mono ?_
  rintro e w1 ⟨⟨g1, c1, rfl, hg1, hL1⟩, hB1⟩
  have HB1 := Lib.hid hB1
  have h1 := hL1.holds
  clear C1 hB1 hL1 hg1
  go_wp2_with fail
  refine (HO.out g1 c1 w1 h1).mono ?_
  rintro e w2 ⟨⟨a2, c2, rfl, h2⟩, hB2⟩
  have h12 := h1.below hB2
  have HB2 := Lib.hid (HB1.out.trans (hB2.mono HB1.out.size))
  rw [HD.out]
  clear hB2 h1
  have hmk : (Instr.makeSlice 35 (.int .i64 (m : Int)) (.int .i64 (m : Int))).run Try.prog w2 = .ok (.slice (some ⟨w2.heap.size, 0, none⟩) m m) (w2.alloc (.cells ((List.replicate m (0 : Int)).map KI.enc).toArray KI.e)) := run_madeE okI w2 m HM2.out
  have hI := Lst.made (K := KI) w2 (List.replicate m 0)
  have hB := (Go.RowKit.Below.refl w2.heap.size w2).alloc (Nat.le_refl _) (.cells ((List.replicate m (0 : Int)).map KI.enc).toArray KI.e)
  generalize (w2.alloc (.cells ((List.replicate m (0 : Int)).map KI.enc).toArray KI.e)) = w3 at *
  rw [← cntL_zero L E m] at hI
  have HC0 : Hid (Cut L E g1 a2 w2.heap.size m w w2 w3 0) := ⟨hI, hB, HB2.out, h12, h2, Nat.le_refl _⟩
  clear hI hB h12 h2
  rcases hdb with hdb | ⟨hdb0, hdb⟩
  · go_wp2_with fail
    go_loopw [8, 44] (fun t q wr => ∃ j : Nat, j ≤ n ∧ q = .int .i64 (j : Int) ∧ t = .int .i64 ((tcnt L j : Nat) : Int) ∧ Cut L E g1 a2 w2.heap.size m w w2 wr j) (fun _ q _ => n - (intOf q).toNat)
    case atStart => exact ⟨0, Nat.zero_le _, rfl, by rw [tcnt_zero]; rfl, HC0.out⟩
    case round =>
      obtain ⟨j, hjn, rfl, rfl, hC⟩ := hrel
      clear hmk hdb
      by_cases hlj : j < n
      · have hjL : j < L.length := by have := HLL.out; omega
        have cf := hC.val hjL
        have hf := at64 (fun e he => H64.out e he) hjL
        have hj1 : (j : Int) < (n : Int) := by omega
        have hj0 : (0 : Int) ≤ (j : Int) := by omega
        have hjb : (j : Int) ≤ 200 := by omega
        have HJ := Lib.hid hlj
        have CB := bin_any a2 c2 d E HD.out (by have := HEL.out.1; have := HD.out; omega) (fun e he => HED.out.bits e he) (L.getD j 0) hf wr (hC.edges.below hC.below)
        by_cases hm0 : mis (L.getD j 0)
        · have hbz : binL E (L.getD j 0) = 0 := binL_mis hm0
          have HTC := Lib.hid (tcnt_yes hjL hm0)
          have hcc := hC.count (show 0 < m by have := HM.out; omega)
          obtain ⟨cv, hcv⟩ : ∃ cv, (cntL L E m j).getD 0 0 = cv := ⟨_, rfl⟩
          have hcb := cntL_le L E m j 0
          rw [hcv] at hcc hcb
          have HS := Lib.hid (hC.step (c := cv) hjL hbz (show 0 < m by have := HM.out; omega) hcv)
          rw [hbz] at CB
          obtain ⟨f, HF⟩ : ∃ f, Hid (L.getD j 0 = f) := ⟨_, rfl⟩
          rw [HF.out] at cf hf hm0 CB
          obtain ⟨tv, HTV⟩ : ∃ tv, Hid (tcnt L j = tv) := ⟨_, rfl⟩
          rw [HTV.out] at HTC ⊢
          have hc1 := hcc.1
          have hc2 := hcc.2
          have hcb1 : cv ≤ 200 := by omega
          have hcb0 := hcb.1
          have hmp : (0 : Int) < (m : Int) := by have := HM.out; omega
          have hst : ∀ (w : World) (p : Addr) (x : Int) (md : Mode), (store p (.int .i64 x) md).run Try.prog w = stored Try.prog w p (.int .i64 x) md := fun w p x md => run_store Try.prog w p _ md rfl
          have CB0 : Calls Try.prog 14 #[.slice a2 d c2, .float .f64 f] wr fun e w' => e = .returned (.int .i64 0) ∧ wr = w' := CB
          clear hjn hlj hjL hC hbz hcv hcc hcb CB
          go_wp2_with (first
            | (go_at_call 14; refine CB0.mono ?_; rintro e w' ⟨rfl, rfl⟩)
            | (go_at_call 18; refine (missing_yes' f hf hm0 _).mono ?_; rintro e w' ⟨rfl, rfl⟩))
          go_roundw
          case rel => have h := HJ.out; exact ⟨j + 1, by omega, by go_num, by rw [HTC.out], HS.out⟩
          case measure => have h := HJ.out; simp [intOf]; omega
        · obtain ⟨z, hbz⟩ : ∃ z, binL E (L.getD j 0) = z := ⟨_, rfl⟩
          have hz1 : 1 ≤ z := by rw [← hbz, binL_is hm0]; omega
          have hz2 : z < m := by have := binL_le E (L.getD j 0); have := HD.out; have := HM.out; omega
          have HTC := Lib.hid (tcnt_no hjL hm0)
          have hcc := hC.count hz2
          obtain ⟨cv, hcv⟩ : ∃ cv, (cntL L E m j).getD z 0 = cv := ⟨_, rfl⟩
          have hcb := cntL_le L E m j z
          rw [hcv] at hcc hcb
          have HS := Lib.hid (hC.step (c := cv) hjL hbz hz2 hcv)
          rw [hbz] at CB
          obtain ⟨f, HF⟩ : ∃ f, Hid (L.getD j 0 = f) := ⟨_, rfl⟩
          rw [HF.out] at cf hf hm0 CB
          have htb := tcnt_le L j
          obtain ⟨tv, HTV⟩ : ∃ tv, Hid (tcnt L j = tv) := ⟨_, rfl⟩
          rw [HTV.out] at HTC htb ⊢
          have htb2 : (tv : Int) ≤ 200 := by omega
          have hc1 := hcc.1
          have hc2 := hcc.2
          have hcb1 : cv ≤ 200 := by omega
          have hcb0 := hcb.1
          have hzp : (0 : Int) < (z : Int) := by omega
          have hz0 : ((z : Int) == 0) = false := beq_eq_false_iff_ne.2 (by omega)
          have hzm : (z : Int) < (m : Int) := by omega
          have hst : ∀ (w : World) (p : Addr) (x : Int) (md : Mode), (store p (.int .i64 x) md).run Try.prog w = stored Try.prog w p (.int .i64 x) md := fun w p x md => run_store Try.prog w p _ md rfl
          clear hjn hlj hjL hC hbz hcv hcc hcb htb hz1 hz2
          go_wp2_with (first
            | (go_at_call 14; refine CB.mono ?_; rintro e w' ⟨rfl, rfl⟩)
            | (go_at_call 18; refine (missing_no' f hf hm0 _).mono ?_; rintro e w' ⟨rfl, rfl⟩))
          go_roundw
          case rel => have h := HJ.out; exact ⟨j + 1, by omega, by go_num, by rw [HTC.out]; go_num, HS.out⟩
          case measure => have h := HJ.out; simp [intOf]; omega
      · obtain rfl : n = j := by omega
        have hlj2 : ¬ (n : Int) < (n : Int) := by omega
        clear hjn hlj
        have HCC := Lib.hid hC
        clear hC
        go_wp2_with fail
        go_loopw [79] (fun q wq => ∃ i : Nat, i ≤ d ∧ q = .int .i64 (i : Int) ∧ wq = wr) (fun q _ => d - (intOf q).toNat)
        case atStart => exact ⟨0, Nat.zero_le _, rfl, rfl⟩
        case round =>
          obtain ⟨i, hid, rfl, rfl⟩ := hrel
          by_cases hlt : i < d
          · have hiE : i < E.length := by have := HD.out; omega
            obtain ⟨ge, oe, rfl, cx⟩ := HCC.out.edge hiE
            have hx := at64 (fun e he => HED.out.bits e he) hiE
            have HBE := Lib.hid (bin_edge HED.out hiE)
            have HIS := Lib.hid (isTo_all (j := n) (by have := HLL.out; omega) (HEO.out i hiE))
            obtain ⟨x, HX⟩ : ∃ x, Hid (E.getD i 0 = x) := ⟨_, rfl⟩
            rw [HX.out] at cx hx HBE HIS
            have CB := bin_any (some ⟨ge, oe, none⟩) c2 d E HD.out (by have := HEL.out.1; have := HD.out; omega) (fun e he => HED.out.bits e he) x hx wr (HCC.out.edges.below HCC.out.below)
            rw [HBE.out] at CB
            have hi1 : (i : Int) < (d : Int) := by omega
            have hi0 : (0 : Int) ≤ (i : Int) := by omega
            have hib : (i : Int) ≤ 255 := by omega
            have HI := Lib.hid hlt
            have hbi : ((i + 2 : Nat) : Int) = (i : Int) + 2 := by omega
            rw [hbi] at CB
            clear hid hlt hiE hbi
            go_wp2_with fail
            go_loopw [14, 86] (fun is q wq => ∃ j : Nat, j ≤ n ∧ q = .int .i64 (j : Int) ∧ is = .bool (isTo L x j) ∧ wq = wr) (fun _ q _ => n - (intOf q).toNat)
            case atStart => exact ⟨0, Nat.zero_le _, rfl, by rw [isTo_zero], rfl⟩
            case round =>
              obtain ⟨j, hjn, rfl, rfl, rfl⟩ := hrel
              by_cases hlj : j < n
              · have hjL : j < L.length := by have := HLL.out; omega
                have cf := HCC.out.val hjL
                have hf := at64 (fun e he => H64.out e he) hjL
                have HST := Lib.hid (isTo_step (x := x) hjL)
                obtain ⟨f, HF⟩ : ∃ f, Hid (L.getD j 0 = f) := ⟨_, rfl⟩
                rw [HF.out] at cf hf HST
                have hj1 : (j : Int) < (n : Int) := by omega
                have hj0 : (0 : Int) ≤ (j : Int) := by omega
                have hjb : (j : Int) ≤ 200 := by omega
                have HJ := Lib.hid hlj
                cases hT : isTo L x j with
                | true =>
                  have HST2 : Hid (isTo L x (j + 1) = true) := by show _ = _; rw [HST.out, hT]; rfl
                  clear hT hjn hlj hjL CB
                  go_wp2_with fail
                  go_roundw
                  case rel => have h := HJ.out; exact ⟨j + 1, by omega, by go_num, by rw [HST2.out], trivial⟩
                  case measure => have h := HJ.out; simp [intOf]; omega
                | false =>
                  have hcm : (cmpI (key f) (key x) == 0) = decide (key f = key x) := by
                    rcases Nat.lt_trichotomy (key f) (key x) with h | h | h
                    · rw [cmpI_lt (by omega), decide_eq_false (by omega)]; rfl
                    · rw [cmpI_eq (by omega), decide_eq_true h]; rfl
                    · rw [cmpI_gt (by omega), decide_eq_false (by omega)]; rfl
                  have HST2 : Hid (isTo L x (j + 1) = (cmpI (key f) (key x) == 0)) := by show _ = _; rw [HST.out, hT, hcm]; rfl
                  obtain ⟨c, HC⟩ : ∃ c, Hid (cmpI (key f) (key x) = c) := ⟨_, rfl⟩
                  rw [HC.out] at HST2
                  clear hT hjn hlj hjL CB hcm
                  go_wp2_with (go_at_call 19; refine (cmp_cc hf hx HC.out _).mono ?_; rintro e w' ⟨rfl, rfl⟩)
                  go_roundw
                  case rel => have h := HJ.out; exact ⟨j + 1, by omega, by go_num, by rw [HST2.out], trivial⟩
                  case measure => have h := HJ.out; simp [intOf]; omega
              · obtain rfl : n = j := by omega
                rw [HIS.out]
                have hlj2 : ¬ (n : Int) < (n : Int) := by omega
                clear hjn hlj
                go_wp2_with (go_at_call 14; refine CB.mono ?_; rintro e w' ⟨rfl, rfl⟩)
                go_roundw
                case rel => have h := HI.out; exact ⟨i + 1, by omega, by go_num, trivial⟩
                case measure => have h := HI.out; simp [intOf]; omega
          · have hlt2 : ¬ (i : Int) < (d : Int) := by omega
            clear hid hlt
            go_wp2_with fail
            go_loopw [17] (fun q wq => ∃ k : Nat, 1 ≤ k ∧ k ≤ m ∧ q = .int .i64 (k : Int) ∧ wq = wr) (fun q _ => m - (intOf q).toNat)
            case atStart => exact ⟨1, Nat.le_refl _, by have := HM.out; omega, rfl, rfl⟩
            case round =>
              obtain ⟨k, hk1, hk2, rfl, rfl⟩ := hrel
              by_cases hkm : k < m
              · by_cases ht : 0 < tcnt L n
                · have hcl := HCC.out.count hkm
                  have hcp : ((cntL L E m n).getD k 0 == 0) = false := cnt_pos (by have := HLL.out; omega) hkm (HNE.out (tcnt_some (by have := HLL.out; omega) ht) k hk1 (by have := HD.out; have := HM.out; omega))
                  obtain ⟨cv, HCV⟩ : ∃ cv, Hid ((cntL L E m n).getD k 0 = cv) := ⟨_, rfl⟩
                  obtain ⟨tv, HTV⟩ : ∃ tv, Hid (tcnt L n = tv) := ⟨_, rfl⟩
                  have hc1 := hcl.1
                  rw [HCV.out] at hcp hc1
                  rw [HTV.out] at ht ⊢
                  have ht2 : (0 : Int) < (tv : Int) := by omega
                  have hkm2 : (k : Int) < (m : Int) := by omega
                  have hk0 : (0 : Int) ≤ (k : Int) := by omega
                  have hkb : (k : Int) ≤ 1048576 := by have := HM2.out; omega
                  have HK := Lib.hid (And.intro hk1 hkm)
                  clear hcl ht hk1 hk2 hkm
                  go_wp2_with fail
                  go_roundw
                  case rel => have h := HK.out; exact ⟨k + 1, by omega, by omega, by go_num, trivial⟩
                  case measure => have h := HK.out; simp [intOf]; omega
                · obtain ⟨tv, HTV⟩ : ∃ tv, Hid (tcnt L n = tv) := ⟨_, rfl⟩
                  rw [HTV.out] at ht ⊢
                  have ht2 : ¬ (0 : Int) < (tv : Int) := by omega
                  have hkm2 : (k : Int) < (m : Int) := by omega
                  clear ht hk1 hk2 hkm
                  go_wp2_with fail
                  refine (efixed_any wr).mono ?_
                  rintro e w9 ⟨rfl, hB9⟩
                  go_wp2_with fail
                  go_ret
                  exact ⟨rfl, HCC.out.all.trans (hB9.mono HCC.out.all.size)⟩
              · have hkm2 : ¬ (k : Int) < (m : Int) := by omega
                clear hk1 hk2 hkm
                go_wp2_with fail
                refine (efixed_any wr).mono ?_
                rintro e w9 ⟨rfl, hB9⟩
                go_wp2_with fail
                go_ret
                exact ⟨rfl, HCC.out.all.trans (hB9.mono HCC.out.all.size)⟩
  · go_wp2_with fail
    go_loopw [8, 44] (fun t q wr => ∃ j : Nat, j ≤ n ∧ q = .int .i64 (j : Int) ∧ t = .int .i64 ((tcnt L j : Nat) : Int) ∧ Cut L E g1 a2 w2.heap.size m w w2 wr j) (fun _ q _ => n - (intOf q).toNat)
    case atStart => exact ⟨0, Nat.zero_le _, rfl, by rw [tcnt_zero]; rfl, HC0.out⟩
    case round =>
      obtain ⟨j, hjn, rfl, rfl, hC⟩ := hrel
      clear hmk hdb
      by_cases hlj : j < n
      · have hjL : j < L.length := by have := HLL.out; omega
        have cf := hC.val hjL
        have hf := at64 (fun e he => H64.out e he) hjL
        have hj1 : (j : Int) < (n : Int) := by omega
        have hj0 : (0 : Int) ≤ (j : Int) := by omega
        have hjb : (j : Int) ≤ 200 := by omega
        have HJ := Lib.hid hlj
        have CB := bin_any a2 c2 d E HD.out (by have := HEL.out.1; have := HD.out; omega) (fun e he => HED.out.bits e he) (L.getD j 0) hf wr (hC.edges.below hC.below)
        by_cases hm0 : mis (L.getD j 0)
        · have hbz : binL E (L.getD j 0) = 0 := binL_mis hm0
          have HTC := Lib.hid (tcnt_yes hjL hm0)
          have hcc := hC.count (show 0 < m by have := HM.out; omega)
          obtain ⟨cv, hcv⟩ : ∃ cv, (cntL L E m j).getD 0 0 = cv := ⟨_, rfl⟩
          have hcb := cntL_le L E m j 0
          rw [hcv] at hcc hcb
          have HS := Lib.hid (hC.step (c := cv) hjL hbz (show 0 < m by have := HM.out; omega) hcv)
          rw [hbz] at CB
          obtain ⟨f, HF⟩ : ∃ f, Hid (L.getD j 0 = f) := ⟨_, rfl⟩
          rw [HF.out] at cf hf hm0 CB
          obtain ⟨tv, HTV⟩ : ∃ tv, Hid (tcnt L j = tv) := ⟨_, rfl⟩
          rw [HTV.out] at HTC ⊢
          have hc1 := hcc.1
          have hc2 := hcc.2
          have hcb1 : cv ≤ 200 := by omega
          have hcb0 := hcb.1
          have hmp : (0 : Int) < (m : Int) := by have := HM.out; omega
          have hst : ∀ (w : World) (p : Addr) (x : Int) (md : Mode), (store p (.int .i64 x) md).run Try.prog w = stored Try.prog w p (.int .i64 x) md := fun w p x md => run_store Try.prog w p _ md rfl
          have CB0 : Calls Try.prog 14 #[.slice a2 d c2, .float .f64 f] wr fun e w' => e = .returned (.int .i64 0) ∧ wr = w' := CB
          clear hjn hlj hjL hC hbz hcv hcc hcb CB
          go_wp2_with (first
            | (go_at_call 14; refine CB0.mono ?_; rintro e w' ⟨rfl, rfl⟩)
            | (go_at_call 18; refine (missing_yes' f hf hm0 _).mono ?_; rintro e w' ⟨rfl, rfl⟩))
          go_roundw
          case rel => have h := HJ.out; exact ⟨j + 1, by omega, by go_num, by rw [HTC.out], HS.out⟩
          case measure => have h := HJ.out; simp [intOf]; omega
        · obtain ⟨z, hbz⟩ : ∃ z, binL E (L.getD j 0) = z := ⟨_, rfl⟩
          have hz1 : 1 ≤ z := by rw [← hbz, binL_is hm0]; omega
          have hz2 : z < m := by have := binL_le E (L.getD j 0); have := HD.out; have := HM.out; omega
          have HTC := Lib.hid (tcnt_no hjL hm0)
          have hcc := hC.count hz2
          obtain ⟨cv, hcv⟩ : ∃ cv, (cntL L E m j).getD z 0 = cv := ⟨_, rfl⟩
          have hcb := cntL_le L E m j z
          rw [hcv] at hcc hcb
          have HS := Lib.hid (hC.step (c := cv) hjL hbz hz2 hcv)
          rw [hbz] at CB
          obtain ⟨f, HF⟩ : ∃ f, Hid (L.getD j 0 = f) := ⟨_, rfl⟩
          rw [HF.out] at cf hf hm0 CB
          have htb := tcnt_le L j
          obtain ⟨tv, HTV⟩ : ∃ tv, Hid (tcnt L j = tv) := ⟨_, rfl⟩
          rw [HTV.out] at HTC htb ⊢
          have htb2 : (tv : Int) ≤ 200 := by omega
          have hc1 := hcc.1
          have hc2 := hcc.2
          have hcb1 : cv ≤ 200 := by omega
          have hcb0 := hcb.1
          have hzp : (0 : Int) < (z : Int) := by omega
          have hz0 : ((z : Int) == 0) = false := beq_eq_false_iff_ne.2 (by omega)
          have hzm : (z : Int) < (m : Int) := by omega
          have hst : ∀ (w : World) (p : Addr) (x : Int) (md : Mode), (store p (.int .i64 x) md).run Try.prog w = stored Try.prog w p (.int .i64 x) md := fun w p x md => run_store Try.prog w p _ md rfl
          clear hjn hlj hjL hC hbz hcv hcc hcb htb hz1 hz2
          go_wp2_with (first
            | (go_at_call 14; refine CB.mono ?_; rintro e w' ⟨rfl, rfl⟩)
            | (go_at_call 18; refine (missing_no' f hf hm0 _).mono ?_; rintro e w' ⟨rfl, rfl⟩))
          go_roundw
          case rel => have h := HJ.out; exact ⟨j + 1, by omega, by go_num, by rw [HTC.out]; go_num, HS.out⟩
          case measure => have h := HJ.out; simp [intOf]; omega
      · obtain rfl : n = j := by omega
        have hlj2 : ¬ (n : Int) < (n : Int) := by omega
        clear hjn hlj
        have HCC := Lib.hid hC
        clear hC
        go_wp2_with fail
        go_loopw [79] (fun q wq => ∃ i : Nat, i ≤ d ∧ q = .int .i64 (i : Int) ∧ wq = wr) (fun q _ => d - (intOf q).toNat)
        case atStart => exact ⟨0, Nat.zero_le _, rfl, rfl⟩
        case round =>
          obtain ⟨i, hid, rfl, rfl⟩ := hrel
          by_cases hlt : i < d
          · have hiE : i < E.length := by have := HD.out; omega
            obtain ⟨ge, oe, rfl, cx⟩ := HCC.out.edge hiE
            have hx := at64 (fun e he => HED.out.bits e he) hiE
            have HBE := Lib.hid (bin_edge HED.out hiE)
            have HIS := Lib.hid (isTo_all (j := n) (by have := HLL.out; omega) (HEO.out i hiE))
            obtain ⟨x, HX⟩ : ∃ x, Hid (E.getD i 0 = x) := ⟨_, rfl⟩
            rw [HX.out] at cx hx HBE HIS
            have CB := bin_any (some ⟨ge, oe, none⟩) c2 d E HD.out (by have := HEL.out.1; have := HD.out; omega) (fun e he => HED.out.bits e he) x hx wr (HCC.out.edges.below HCC.out.below)
            rw [HBE.out] at CB
            have hi1 : (i : Int) < (d : Int) := by omega
            have hi0 : (0 : Int) ≤ (i : Int) := by omega
            have hib : (i : Int) ≤ 255 := by omega
            have HI := Lib.hid hlt
            have hbi : ((i + 2 : Nat) : Int) = (i : Int) + 2 := by omega
            rw [hbi] at CB
            clear hid hlt hiE hbi
            go_wp2_with fail
            go_loopw [14, 86] (fun is q wq => ∃ j : Nat, j ≤ n ∧ q = .int .i64 (j : Int) ∧ is = .bool (isTo L x j) ∧ wq = wr) (fun _ q _ => n - (intOf q).toNat)
            case atStart => exact ⟨0, Nat.zero_le _, rfl, by rw [isTo_zero], rfl⟩
            case round =>
              obtain ⟨j, hjn, rfl, rfl, rfl⟩ := hrel
              by_cases hlj : j < n
              · have hjL : j < L.length := by have := HLL.out; omega
                have cf := HCC.out.val hjL
                have hf := at64 (fun e he => H64.out e he) hjL
                have HST := Lib.hid (isTo_step (x := x) hjL)
                obtain ⟨f, HF⟩ : ∃ f, Hid (L.getD j 0 = f) := ⟨_, rfl⟩
                rw [HF.out] at cf hf HST
                have hj1 : (j : Int) < (n : Int) := by omega
                have hj0 : (0 : Int) ≤ (j : Int) := by omega
                have hjb : (j : Int) ≤ 200 := by omega
                have HJ := Lib.hid hlj
                cases hT : isTo L x j with
                | true =>
                  have HST2 : Hid (isTo L x (j + 1) = true) := by show _ = _; rw [HST.out, hT]; rfl
                  clear hT hjn hlj hjL CB
                  go_wp2_with fail
                  go_roundw
                  case rel => have h := HJ.out; exact ⟨j + 1, by omega, by go_num, by rw [HST2.out], trivial⟩
                  case measure => have h := HJ.out; simp [intOf]; omega
                | false =>
                  have hcm : (cmpI (key f) (key x) == 0) = decide (key f = key x) := by
                    rcases Nat.lt_trichotomy (key f) (key x) with h | h | h
                    · rw [cmpI_lt (by omega), decide_eq_false (by omega)]; rfl
                    · rw [cmpI_eq (by omega), decide_eq_true h]; rfl
                    · rw [cmpI_gt (by omega), decide_eq_false (by omega)]; rfl
                  have HST2 : Hid (isTo L x (j + 1) = (cmpI (key f) (key x) == 0)) := by show _ = _; rw [HST.out, hT, hcm]; rfl
                  obtain ⟨c, HC⟩ : ∃ c, Hid (cmpI (key f) (key x) = c) := ⟨_, rfl⟩
                  rw [HC.out] at HST2
                  clear hT hjn hlj hjL CB hcm
                  go_wp2_with (go_at_call 19; refine (cmp_cc hf hx HC.out _).mono ?_; rintro e w' ⟨rfl, rfl⟩)
                  go_roundw
                  case rel => have h := HJ.out; exact ⟨j + 1, by omega, by go_num, by rw [HST2.out], trivial⟩
                  case measure => have h := HJ.out; simp [intOf]; omega
              · obtain rfl : n = j := by omega
                rw [HIS.out]
                have hlj2 : ¬ (n : Int) < (n : Int) := by omega
                clear hjn hlj
                go_wp2_with (go_at_call 14; refine CB.mono ?_; rintro e w' ⟨rfl, rfl⟩)
                go_roundw
                case rel => have h := HI.out; exact ⟨i + 1, by omega, by go_num, trivial⟩
                case measure => have h := HI.out; simp [intOf]; omega
          · have hlt2 : ¬ (i : Int) < (d : Int) := by omega
            clear hid hlt
            go_wp2_with fail
            go_loopw [17] (fun q wq => ∃ k : Nat, 1 ≤ k ∧ k ≤ m ∧ q = .int .i64 (k : Int) ∧ wq = wr) (fun q _ => m - (intOf q).toNat)
            case atStart => exact ⟨1, Nat.le_refl _, by have := HM.out; omega, rfl, rfl⟩
            case round =>
              obtain ⟨k, hk1, hk2, rfl, rfl⟩ := hrel
              by_cases hkm : k < m
              · by_cases ht : 0 < tcnt L n
                · have hcl := HCC.out.count hkm
                  have hcp : ((cntL L E m n).getD k 0 == 0) = false := cnt_pos (by have := HLL.out; omega) hkm (HNE.out (tcnt_some (by have := HLL.out; omega) ht) k hk1 (by have := HD.out; have := HM.out; omega))
                  obtain ⟨cv, HCV⟩ : ∃ cv, Hid ((cntL L E m n).getD k 0 = cv) := ⟨_, rfl⟩
                  obtain ⟨tv, HTV⟩ : ∃ tv, Hid (tcnt L n = tv) := ⟨_, rfl⟩
                  have hc1 := hcl.1
                  rw [HCV.out] at hcp hc1
                  rw [HTV.out] at ht ⊢
                  have ht2 : (0 : Int) < (tv : Int) := by omega
                  have hkm2 : (k : Int) < (m : Int) := by omega
                  have hk0 : (0 : Int) ≤ (k : Int) := by omega
                  have hkb : (k : Int) ≤ 1048576 := by have := HM2.out; omega
                  have HK := Lib.hid (And.intro hk1 hkm)
                  clear hcl ht hk1 hk2 hkm
                  go_wp2_with fail
                  go_roundw
                  case rel => have h := HK.out; exact ⟨k + 1, by omega, by omega, by go_num, trivial⟩
                  case measure => have h := HK.out; simp [intOf]; omega
                · obtain ⟨tv, HTV⟩ : ∃ tv, Hid (tcnt L n = tv) := ⟨_, rfl⟩
                  rw [HTV.out] at ht ⊢
                  have ht2 : ¬ (0 : Int) < (tv : Int) := by omega
                  have hkm2 : (k : Int) < (m : Int) := by omega
                  clear ht hk1 hk2 hkm
                  go_wp2_with fail
                  refine (efixed_any wr).mono ?_
                  rintro e w9 ⟨rfl, hB9⟩
                  go_wp2_with fail
                  go_ret
                  exact ⟨rfl, HCC.out.all.trans (hB9.mono HCC.out.all.size)⟩
              · have hkm2 : ¬ (k : Int) < (m : Int) := by omega
                clear hk1 hk2 hkm
                go_wp2_with fail
                refine (efixed_any wr).mono ?_
                rintro e w9 ⟨rfl, hB9⟩
                go_wp2_with fail
                go_ret
                exact ⟨rfl, HCC.out.all.trans (hB9.mono HCC.out.all.size)⟩

end Go.Proofs.Ytmhdhifdkcadaaa
