/-
  THE WALK OF EdgesEven: it returns true; nothing that was there turns. Condition: the numbers are of 64 bits each, the number of bins is one of 8 bits.
-/
import Derived.Test.YtmhdhifdkcadaaaCutW
import Derived.Test.YtmhdhifdkcadaaaEvenN
namespace Go.Proofs.Ytmhdhifdkcadaaa
open Go.RowKit

theorem even_great (a : Option Addr) (n cap : Nat) (b : Int) (hg : 200 < n) (w : World) :
    Calls Try.prog 6 #[.slice a n cap, .int .u8 b] w fun e w' => e = .returned (.bool true) ∧ Go.RowKit.Below w.heap.size w w' := by
  go_enter Try.func6, Try.ntmps6
  go_wp2_with (go_at_call 8; refine (efixed_any _).mono ?_; rintro e w' ⟨rfl, hB⟩)
  go_ret
  exact ⟨rfl, hB⟩
theorem even_few (a : Option Addr) (n cap : Nat) (b : Int) (hg : ¬ 200 < n) (hb : b < 2) (w : World) :
    Calls Try.prog 6 #[.slice a n cap, .int .u8 b] w fun e w' => e = .returned (.bool true) ∧ Go.RowKit.Below w.heap.size w w' := by
  go_enter Try.func6, Try.ntmps6
  go_wp2_with (go_at_call 8; refine (efixed_any _).mono ?_; rintro e w' ⟨rfl, hB⟩)
  go_ret
  exact ⟨rfl, hB⟩

/-- Not missing, and beside no other one. -/
def okE (L : List Nat) (i k : Nat) : Prop := ¬ mis (L.getD i 0) ∧ (i ≠ k → key (L.getD i 0) ≠ key (L.getD k 0))
theorem unlike_of {L : List Nat} (h : ∀ i, i < L.length → ∀ k, k < L.length → okE L i k) : Unlike L := by
  refine ⟨fun f hf => ?_, fun i j hi hj hij => (h i hi j hj).2 hij⟩
  obtain ⟨i, hi, rfl⟩ := List.mem_iff_getElem.1 hf
  have := (h i hi i hi).1
  simpa [List.getD_eq_getElem?_getD, hi] using this
theorem val_at {w : World} {g i : Nat} {L : List Nat} (h : HoldsE KF w (some ⟨g, 0, none⟩) L) (hi : i < L.length) : w.cell? ⟨g, i, none⟩ = some (.float .f64 (L.getD i 0)) := by
  rcases h with h0 | ⟨g', off, e, hg, hc⟩
  · rw [h0] at hi; cases hi
  · injection e with e; injection e with e1 e2; subst e1; subst e2
    have := hc i hi
    rw [Nat.zero_add] at this
    exact this
theorem most_num {n b : Nat} (hn : n ≤ 200) (hb : 2 ≤ b) (hb2 : b ≤ 256) : ∃ S M : Nat, (n : Int) + (b : Int) - 1 = (S : Int) ∧ Int.tdiv (S : Int) (b : Int) = (M : Int) ∧ wrap64 (M : Int) = (M : Int) ∧ M = (n + b - 1) / b ∧ (S : Int) ≤ 1000 := by
  refine ⟨n + b - 1, (n + b - 1) / b, by omega, rfl, ?_, rfl, by omega⟩
  have := Nat.div_le_self (n + b - 1) b
  have h : ((n + b - 1) / b : Nat) ≤ 1000 := by omega
  generalize (n + b - 1) / b = M at h
  unfold wrap64
  omega

set_option maxRecDepth 100000 in
set_option maxHeartbeats 4000000 in
theorem even_any (a : Option Addr) (n cap : Nat) (l : List Int) (hn : l.length = n) (hb : n ≤ 200) (h64 : ∀ z ∈ l, 0 ≤ z ∧ z < 18446744073709551616) (b : Nat) (hb0 : 2 ≤ b) (hb1 : b < 256) (w : World) (hr : HoldsE KU w a l) :
    Calls Try.prog 6 #[.slice a n cap, .int .u8 (b : Int)] w fun e w' => e = .returned (.bool true) ∧ Go.RowKit.Below w.heap.size w w' := by
  have hB64 := bits64_of h64
  have hbl : (bitsOf l).length = n := by rw [bitsOf_len]; exact hn
  have C1 := refOf_any a cap n l hn (by omega) w hr
  obtain ⟨L, HL⟩ : ∃ L, Hid (bitsOf l = L) := ⟨_, rfl⟩
  rw [HL.out] at C1 hB64 hbl
  have HLL := Lib.hid hbl
  have H64 := Lib.hid hB64
  have HNB := Lib.hid hb
  have HBB := Lib.hid (And.intro hb0 hb1)
  have hnb : (n : Int) ≤ 200 := by omega
  have hbi : ¬ (b : Int) < 2 := by omega
  have hbi2 : (b : Int) < 256 := by omega
  have HED := Lib.hid (edges_are hB64 (b : Int))
  have HEL := Lib.hid (edges_len L (b : Int))
  have HEV : Hid (Unlike L → ∀ c, L.countP (fun f => decide (binL (edgesL L (b : Int)) f = c)) ≤ (L.length + b - 1) / b) := fun u c => even_num hB64 u hb0 (by omega) c
  have HO : Hid (∀ (g c : Nat) (w : World), HoldsE KF w (some ⟨g, 0, none⟩) L → Calls Try.prog 10 #[.slice (some ⟨g, 0, none⟩) n c, .int .i64 (b : Int)] w fun e w' => GotF e w' (edgesL L (b : Int)) ∧ Go.RowKit.Below w.heap.size w w') :=
    fun g c w h => of_any' _ c n L hbl (by omega) hB64 (b : Int) w h
  generalize edgesL L (b : Int) = E at *
  obtain ⟨d, HD⟩ : ∃ d, Hid (E.length = d) := ⟨_, rfl⟩
  have hd255 : (d : Int) ≤ 255 := by have := HEL.out.1; have := HD.out; omega
  obtain ⟨m, hm⟩ : ∃ m : Nat, (d : Int) + 2 = (m : Int) := ⟨d + 2, by omega⟩
  have HM : Hid (m = d + 2) := by show _ = _; omega
  have HM2 : Hid (m ≤ 1048576) := by show _ ≤ _; omega
  clear hn hb h64 hbl hB64 hr hb0 hb1
  go_enter Try.func6, Try.ntmps6
  go_wp2_with fail
  refine C1.mono ?_
  rintro e w1 ⟨⟨g1, c1, rfl, hg1, hL1⟩, hB1⟩
  have HB1 := Lib.hid hB1
  have h1 := hL1.holds
  clear C1 hB1 hL1 hg1
  go_wp2_with fail
  go_loopw [30] (fun q wq => ∃ i : Nat, i ≤ n ∧ q = .int .i64 (i : Int) ∧ Hid (∀ t, t < i → ∀ u, u < n → okE L t u) ∧ wq = w1) (fun q _ => n - (intOf q).toNat)
  case atStart => exact ⟨0, Nat.zero_le _, rfl, fun t ht => by omega, rfl⟩
  case round =>
    obtain ⟨i, hin, rfl, HOK, rfl⟩ := hrel
    by_cases hli : i < n
    · have hiL : i < L.length := by have := HLL.out; omega
      have cx := val_at h1 hiL
      have hx := at64 (fun e he => H64.out e he) hiL
      obtain ⟨x, HX⟩ : ∃ x, Hid (L.getD i 0 = x) := ⟨_, rfl⟩
      rw [HX.out] at cx hx
      have hi1 : (i : Int) < (n : Int) := by omega
      have hi0 : (0 : Int) ≤ (i : Int) := by omega
      have hib : (i : Int) ≤ 200 := by omega
      have HI := Lib.hid hli
      clear hin hli hiL
      go_wp2_with fail
      go_loopw [37] (fun q wq => ∃ k : Nat, k ≤ n ∧ q = .int .i64 (k : Int) ∧ Hid (∀ u, u < k → okE L i u) ∧ wq = wr) (fun q _ => n - (intOf q).toNat)
      case atStart => exact ⟨0, Nat.zero_le _, rfl, fun u hu => by omega, rfl⟩
      case round =>
        obtain ⟨k, hkn, rfl, HOI, rfl⟩ := hrel
        by_cases hlk : k < n
        · have hkL : k < L.length := by have := HLL.out; omega
          have cy := val_at h1 hkL
          have hy := at64 (fun e he => H64.out e he) hkL
          obtain ⟨y, HY⟩ : ∃ y, Hid (L.getD k 0 = y) := ⟨_, rfl⟩
          rw [HY.out] at cy hy
          have hk1 : (k : Int) < (n : Int) := by omega
          have hk0 : (0 : Int) ≤ (k : Int) := by omega
          have hkb : (k : Int) ≤ 200 := by omega
          have HK := Lib.hid hlk
          have h1s := Lib.hid h1
          clear hkn hkL h1 hlk
          by_cases hmx : mis x
          · go_wp2_with (first
              | (go_at_call 18; refine (missing_yes' x hx hmx _).mono ?_; rintro e w' ⟨rfl, rfl⟩)
              | (go_at_call 8; refine (efixed_any _).mono ?_; rintro e w9 ⟨rfl, hB9⟩; have HB9 := Lib.hid (HB1.out.trans (hB9.mono HB1.out.size)); clear hB9))
            go_ret
            exact ⟨rfl, HB9.out⟩
          · by_cases hik : i = k
            · have hikb : ((i : Int) != (k : Int)) = false := by subst hik; simp
              have HOI2 : Hid (∀ u, u < k + 1 → okE L i u) := fun u hu => by
                by_cases e : u = k
                · subst e; exact ⟨by rw [HX.out]; exact hmx, fun h => absurd hik h⟩
                · exact HOI.out u (by omega)
              clear hik
              go_wp2_with (go_at_call 18; refine (missing_no' x hx hmx _).mono ?_; rintro e w' ⟨rfl, rfl⟩)
              go_roundw
              case rel => have h := HK.out; exact ⟨k + 1, by omega, by go_num, HOI2, trivial⟩
              case measure => have h := HK.out; simp [intOf]; omega
            · have hikb : ((i : Int) != (k : Int)) = true := by simp; omega
              by_cases hxy : key x = key y
              · have HCM : Hid (cmpI (key x) (key y) = 0) := cmpI_eq (by omega)
                clear hik hxy
                go_wp2_with (first
                  | (go_at_call 18; refine (missing_no' x hx hmx _).mono ?_; rintro e w' ⟨rfl, rfl⟩)
                  | (go_at_call 19; refine (cmp_cc hx hy HCM.out _).mono ?_; rintro e w' ⟨rfl, rfl⟩)
                  | (go_at_call 8; refine (efixed_any _).mono ?_; rintro e w9 ⟨rfl, hB9⟩; have HB9 := Lib.hid (HB1.out.trans (hB9.mono HB1.out.size)); clear hB9))
                go_ret
                exact ⟨rfl, HB9.out⟩
              · obtain ⟨c, HCM, hcz⟩ : ∃ c : Int, Hid (cmpI (key x) (key y) = c) ∧ (c == 0) = false := by
                  refine ⟨_, rfl, beq_eq_false_iff_ne.2 ?_⟩
                  rcases Nat.lt_or_ge (key x) (key y) with h | h
                  · rw [cmpI_lt (by omega)]; decide
                  · rw [cmpI_gt (by omega)]; decide
                have HOI2 : Hid (∀ u, u < k + 1 → okE L i u) := fun u hu => by
                  by_cases e : u = k
                  · subst e; exact ⟨by rw [HX.out]; exact hmx, fun _ => by rw [HX.out, HY.out]; exact hxy⟩
                  · exact HOI.out u (by omega)
                clear hik hxy
                go_wp2_with (first
                  | (go_at_call 18; refine (missing_no' x hx hmx _).mono ?_; rintro e w' ⟨rfl, rfl⟩)
                  | (go_at_call 19; refine (cmp_cc hx hy HCM.out _).mono ?_; rintro e w' ⟨rfl, rfl⟩))
                go_roundw
                case rel => have h := HK.out; exact ⟨k + 1, by omega, by go_num, HOI2, trivial⟩
                case measure => have h := HK.out; simp [intOf]; omega
        · have hk1 : ¬ (k : Int) < (n : Int) := by omega
          have HOK2 : Hid (∀ t, t < i + 1 → ∀ u, u < n → okE L t u) := fun t ht u hu => by
            by_cases e : t = i
            · subst e; exact HOI.out u (by omega)
            · exact HOK.out t (by omega) u hu
          clear hkn hlk
          go_wp2_with fail
          go_roundw
          case rel => have h := HI.out; exact ⟨i + 1, by omega, by go_num, HOK2, trivial⟩
          case measure => have h := HI.out; simp [intOf]; omega
    · have hi1 : ¬ (i : Int) < (n : Int) := by omega
      have HU : Hid (Unlike L) := unlike_of (fun t ht u hu => HOK.out t (by have := HLL.out; omega) u (by have := HLL.out; omega))
      clear hin hli
      go_wp2_with fail
      refine (HO.out g1 c1 wr h1).mono ?_
      rintro e w2 ⟨⟨a2, c2, rfl, h2⟩, hB2⟩
      have h12 := h1.below hB2
      have HB2 := Lib.hid (HB1.out.trans (hB2.mono HB1.out.size))
      rw [HD.out]
      clear hB2 h1 hi1
      have hmk : (Instr.makeSlice 35 (.int .i64 (m : Int)) (.int .i64 (m : Int))).run Try.prog w2 = .ok (.slice (some ⟨w2.heap.size, 0, none⟩) m m) (w2.alloc (.cells ((List.replicate m (0 : Int)).map KI.enc).toArray KI.e)) := run_madeE okI w2 m HM2.out
      have hI := Lst.made (K := KI) w2 (List.replicate m 0)
      have hB := (Go.RowKit.Below.refl w2.heap.size w2).alloc (Nat.le_refl _) (.cells ((List.replicate m (0 : Int)).map KI.enc).toArray KI.e)
      generalize (w2.alloc (.cells ((List.replicate m (0 : Int)).map KI.enc).toArray KI.e)) = w3 at *
      rw [← cntL_zero L E m] at hI
      have HC0 : Hid (Cut L E g1 a2 w2.heap.size m w w2 w3 0) := ⟨hI, hB, HB2.out, h12, h2, Nat.le_refl _⟩
      clear hI hB h12 h2
      go_wp2_with fail
      go_loopw [68] (fun q wq => ∃ j : Nat, j ≤ n ∧ q = .int .i64 (j : Int) ∧ Cut L E g1 a2 w2.heap.size m w w2 wq j) (fun q _ => n - (intOf q).toNat)
      case atStart => exact ⟨0, Nat.zero_le _, rfl, HC0.out⟩
      case round =>
        obtain ⟨j, hjn, rfl, hC⟩ := hrel
        clear hmk
        by_cases hlj : j < n
        · have hjL : j < L.length := by have := HLL.out; omega
          have cf := hC.val hjL
          have hf := at64 (fun e he => H64.out e he) hjL
          have hj1 : (j : Int) < (n : Int) := by omega
          have hj0 : (0 : Int) ≤ (j : Int) := by omega
          have hjb : (j : Int) ≤ 200 := by omega
          have HJ := Lib.hid hlj
          have CB := bin_any a2 c2 d E HD.out (by have := HEL.out.1; have := HD.out; omega) (fun e he => HED.out.bits e he) (L.getD j 0) hf wr (hC.edges.below hC.below)
          have hm0 : ¬ mis (L.getD j 0) := HU.out.no _ (getD_in hjL)
          obtain ⟨z, hbz⟩ : ∃ z, binL E (L.getD j 0) = z := ⟨_, rfl⟩
          have hz1 : 1 ≤ z := by rw [← hbz, binL_is hm0]; omega
          have hz2 : z < m := by have := binL_le E (L.getD j 0); have := HD.out; have := HM.out; omega
          have hcc := hC.count hz2
          obtain ⟨cv, hcv⟩ : ∃ cv, (cntL L E m j).getD z 0 = cv := ⟨_, rfl⟩
          have hcb := cntL_le L E m j z
          rw [hcv] at hcc hcb
          have HS := Lib.hid (hC.step (c := cv) hjL hbz hz2 hcv)
          rw [hbz] at CB
          obtain ⟨f, HF⟩ : ∃ f, Hid (L.getD j 0 = f) := ⟨_, rfl⟩
          rw [HF.out] at cf hf CB
          have hc1 := hcc.1
          have hc2 := hcc.2
          have hcb1 : cv ≤ 200 := by omega
          have hcb0 := hcb.1
          have hzp : ¬ (z : Int) < 1 := by omega
          have hz0 : (0 : Int) ≤ (z : Int) := by omega
          have hzm : (z : Int) < (m : Int) := by omega
          have hst : ∀ (w : World) (p : Addr) (x : Int) (md : Mode), (store p (.int .i64 x) md).run Try.prog w = stored Try.prog w p (.int .i64 x) md := fun w p x md => run_store Try.prog w p _ md rfl
          clear hjn hlj hjL hC hbz hcv hcc hcb hz1 hz2 hm0
          go_wp2_with (go_at_call 14; refine CB.mono ?_; rintro e w' ⟨rfl, rfl⟩)
          go_roundw
          case rel => have h := HJ.out; exact ⟨j + 1, by omega, by go_num, HS.out⟩
          case measure => have h := HJ.out; simp [intOf]; omega
        · obtain rfl : n = j := by omega
          have hlj2 : ¬ (n : Int) < (n : Int) := by omega
          have HCC := Lib.hid hC
          obtain ⟨S, M, hS, hquo, hwM0, hMe, hSb⟩ := most_num HNB.out HBB.out.1 (by have := HBB.out.2; omega)
          have HLE : Hid (∀ c, c < m → ¬ (M : Int) < (cntL L E m n).getD c 0) := fun c hc => by
            have h := HEV.out HU.out c
            rw [cntL_at hc, List.take_of_length_le (by have := HLL.out; omega)]
            rw [HLL.out, ← hMe] at h
            omega
          have HWM := Lib.hid hwM0
          have hbz : ¬ (b : Int) = 0 := by have := HBB.out.1; omega
          clear hjn hlj hC hwM0 hMe
          have hwM := HWM.out
          go_upto_region 25 with fail
          clear hwM hquo hS
          go_wp2_with fail
          go_loopw [101] (fun q wq => ∃ k : Nat, k ≤ m ∧ q = .int .i64 (k : Int) ∧ wq = wr) (fun q _ => m - (intOf q).toNat)
          case atStart => exact ⟨0, Nat.zero_le _, rfl, rfl⟩
          case round =>
            obtain ⟨k, hk2, rfl, rfl⟩ := hrel
            by_cases hkm : k < m
            · have hcl := HCC.out.count hkm
              have hle := HLE.out k hkm
              obtain ⟨cv, HCV⟩ : ∃ cv, Hid ((cntL L E m n).getD k 0 = cv) := ⟨_, rfl⟩
              have hc1 := hcl.1
              rw [HCV.out] at hc1 hle
              have hle : ¬ wrap64 (M : Int) < cv := by rw [HWM.out]; omega
              have hkm2 : (k : Int) < (m : Int) := by omega
              have hk0 : (0 : Int) ≤ (k : Int) := by omega
              have hkb : (k : Int) ≤ 1048576 := by have := HM2.out; omega
              have HK := Lib.hid hkm
              clear hcl hk2 hkm
              go_wp2_with fail
              go_roundw
              case rel => have h := HK.out; exact ⟨k + 1, by omega, by go_num, trivial⟩
              case measure => have h := HK.out; simp [intOf]; omega
            · have hkm2 : ¬ (k : Int) < (m : Int) := by omega
              clear hk2 hkm
              go_wp2_with fail
              refine (efixed_any wr).mono ?_
              rintro e w9 ⟨rfl, hB9⟩
              go_wp2_with fail
              go_ret
              exact ⟨rfl, HCC.out.all.trans (hB9.mono HCC.out.all.size)⟩

end Go.Proofs.Ytmhdhifdkcadaaa

