/-
  DatasetCuts: the law's walk. Conditions: numbers of 64 bits.
-/
import Derived.Test.YtbmbgfmhejahjaaDBack2
import Derived.Test.YtbmbgfmhejahjaaPFull
namespace Go.Proofs.Ytbmbgfmhejahjaa
open Go.RowKit

theorem wrap_u16 (a : Int) (h0 : 0 ≤ a) (h1 : a ≤ 65535) : wrap64 a = a := by unfold wrap64; omega
theorem great_any (k c b t d l p r q : Int) (aV aT : Option Addr) (nV cV nT cT : Nat) (w : World) :
    Calls Try.prog 7 #[ds k c b t d l p r q (.slice aV nV cV) (.slice aT nT cT)] w fun e w' => e = .returned (.bool (decide (500 < nV ∨ 200 < nT))) ∧ Below w.heap.size w w' := by
  have hb := fun o => (Below.refl w.heap.size w).alloc (Nat.le_refl _) o
  unfold ds
  by_cases h1 : 500 < nV
  · have HE : Hid (decide (500 < nV ∨ 200 < nT) = true) := decide_eq_true (.inl h1)
    have g1 : decide ((nV : Int) > 500) = true := decide_eq_true (by omega)
    clear h1
    go_enter Try.func7, Try.ntmps7
    go_wp2
    go_ret
    exact ⟨by rw [HE.out]; rfl, hb _⟩
  · have g1 : decide ((nV : Int) > 500) = false := decide_eq_false (by omega)
    by_cases h2 : 200 < nT
    · have HE : Hid (decide (500 < nV ∨ 200 < nT) = true) := decide_eq_true (.inr h2)
      have g2 : decide ((nT : Int) > 200) = true := decide_eq_true (by omega)
      clear h1 h2
      go_enter Try.func7, Try.ntmps7
      go_wp2
      go_ret
      exact ⟨by rw [HE.out]; rfl, hb _⟩
    · have HE : Hid (decide (500 < nV ∨ 200 < nT) = false) := decide_eq_false (by omega)
      have g2 : decide ((nT : Int) > 200) = false := decide_eq_false (by omega)
      clear h1 h2
      go_enter Try.func7, Try.ntmps7
      go_wp2
      go_ret
      exact ⟨by rw [HE.out]; rfl, hb _⟩

/-- What is told of a dataset's bytes, cut off, and with one more. -/
theorem fu_cut {k c b t d lf p r q : Int} {V : List Nat} {T : List Int} (h : eD k c b t d lf p r q V T = 0) (h64 : ∀ x ∈ V, x < 18446744073709551616) (ht : In64s T) :
    (∀ m, m < (dsb k c b t d lf p r q V T).length → fuE ((dsb k c b t d lf p r q V T).take m) = 2) ∧ (∀ x, fuE (dsb k c b t d lf p r q V T ++ [x]) = 3) := by
  obtain ⟨⟨_, _, hf, hT⟩, hc, e1, e2, e3, e4⟩ := eD_ok h
  obtain ⟨hr0, hq0, hV⟩ := of_decide_eq_true hf
  obtain ⟨r, rfl⟩ := Int.eq_ofNat_of_zero_le hr0
  obtain ⟨q, rfl⟩ := Int.eq_ofNat_of_zero_le hq0
  have l1 := eR_le e1
  have l2 := (eC_le e2).1
  have hVn : V.length = r * q := by rw [← Int.natCast_mul] at hV; omega
  have hTn : T.length = r := by omega
  have hr : r < 4294967296 := by omega
  have hq : q < 65536 := by omega
  refine ⟨fun m hm => ?_, fun x => ?_⟩
  · have := gt_cut hc hr hq hVn hTn h64 ht e1 e2 e3 e4 m hm
    unfold fuE
    rw [this]; rfl
  · have g := gt_all hc hr (.inr hq) hVn hTn h64 ht [x]
    rw [orE_0 e1, orE_0 e2, orE_0 e3, e4] at g
    obtain ⟨gs, _⟩ := g_all hc hr hq hVn hTn h64 ht [x]
    unfold fuE
    rw [g, orE_0 rfl, gs, if_neg (by rw [List.length_append, List.length_singleton]; omega)]

set_option maxRecDepth 20000 in
set_option maxHeartbeats 8000000 in
theorem cuts_any (k c b t d l p r q : Int) (aV aT : Option Addr) (nV cV nT cT : Nat) (V T : List Int) (hVl : V.length = nV) (hTl : T.length = nT) (hTc : aT = none → cT = 0) (a : Int) (ha : 0 ≤ a) (ha2 : a ≤ 65535) (x : UInt8) (hr : -9223372036854775808 ≤ r ∧ r ≤ 9223372036854775807) (hq : -9223372036854775808 ≤ q ∧ q ≤ 9223372036854775807)
    (h64 : ∀ z ∈ V, 0 ≤ z ∧ z < 18446744073709551616) (ht : In64s T) (w : World) (hV0 : HoldsE KU w aV V) (hT0 : HoldsE K64 w aT T) :
    Calls Try.prog 5 #[ds k c b t d l p r q (.slice aV nV cV) (.slice aT nT cT), .int .u16 a, bv x] w fun e w' => e = .returned (.bool true) ∧ Below w.heap.size w w' := by
  have hg := great_any k c b t d l p r q aV aT nV cV nT cT
  have D0 := lay_dat w 27 k c b t d l p r q (.slice aV nV cV) (.slice aT nT cT)
  have b0 := lay_below w 27 k c b t d l p r q (.slice aV nV cV) (.slice aT nT cT)
  have hVb := hV0.below b0
  have hTb := hT0.below b0
  have hfl := fun hn hn2 W h1 h2 => pfull_any k c b t d l p r q aV aT nV cV nT cT V T hVl hTl hn hn2 hTc W h1 h2
  unfold bv
  unfold ds at hg hfl ⊢
  go_enter Try.func5, Try.ntmps5
  go_wp2_with fail
  change Calls Try.prog _ _ (lay w 27 k c b t d l p r q (.slice aV nV cV) (.slice aT nT cT)) _
  generalize lay w 27 k c b t d l p r q (.slice aV nV cV) (.slice aT nT cT) = w0 at *
  obtain ⟨N, hN⟩ : ∃ N, w.heap.size = N := ⟨_, rfl⟩
  have HN := Lib.hid hN
  rw [hN] at D0 ⊢
  clear hN hV0 hT0
  refine (hg _).mono ?_
  rintro e w1 ⟨rfl, b1⟩
  have D1 := D0.below b1 D0.lt
  have bb := b0.trans (b1.mono b0.size)
  have hV1 := hVb.below b1
  have hT1 := hTb.below b1
  clear hg D0 b0 b1 hVb hTb
  by_cases hgr : 500 < nV ∨ 200 < nT
  · rw [decide_eq_true hgr]
    clear hgr hfl hV1 hT1
    go_wp2_with fail
    refine (fixed_any _).mono ?_
    rintro e w2 ⟨rfl, b2⟩
    have HB := Lib.hid (bb.trans (b2.mono bb.size))
    clear bb b2 D1
    go_wp2_with fail
    go_ret
    exact ⟨rfl, HB.out⟩
  rw [decide_eq_false hgr]
  obtain ⟨c0, c1, c2, c3, c4, c5, c6, c7, c8, c9, c10⟩ := D1.cells
  have hf1 := hfl (by omega) (by omega) _ hV1 hT1
  have HG := Lib.hid hgr
  clear hfl hV1 hT1 hgr
  go_wp2_with fail
  refine hf1.mono ?_
  rintro e w2 ⟨⟨v, xT, rfl, ov, ot⟩, b2⟩
  have bb2 := bb.trans (b2.mono bb.size)
  have HTL := Lib.hid hTl
  have HVL := Lib.hid hVl
  clear hTl hVl
  obtain ⟨av, cv, rfl, hav, _, _, hov⟩ := ov.holds
  obtain ⟨at2, ct, rfl, hat, _, _, hot⟩ := ot.holds
  have hp := dput_any k c b t d l p r q av at2 (bitsOf V).length cv T.length ct (bitsOf V) T rfl rfl hr hq (by rw [bitsOf_len]; have := HG.out; have := HVL.out; omega) (by have := HG.out; have := HTL.out; omega) (bits64_of h64) w2 hov hot
  unfold ds at hp
  clear hf1 bb b2 ov ot D1 c0 c1 c2 c3 c4 c5 c6 c7 c8 c9 c10 hov hot
  go_wp2_with fail
  refine hp.mono ?_
  rintro e w3 ⟨vb, rfl, hput, b3⟩
  have bb3 := bb2.trans (b3.mono bb2.size)
  clear hp bb2
  by_cases hz : eD k c b t d l p r q (bitsOf V) T = 0
  case neg =>
    obtain rfl := hput.2 hz
    have g : (eD k c b t d l p r q (bitsOf V) T != 0) = true := by simpa using hz
    clear hz hput
    generalize eD k c b t d l p r q (bitsOf V) T = E at *
    go_wp2_with fail
    refine (fixed_any _).mono ?_
    rintro e w4 ⟨rfl, b4⟩
    have HB := Lib.hid (bb3.trans (b4.mono bb3.size))
    clear bb3 b3 b4
    go_wp2_with fail
    go_ret
    exact ⟨rfl, HB.out⟩
  case pos =>
  have ob := hput.1 hz
  obtain ⟨hcut, hmore⟩ := fu_cut hz (bits64_of h64) ht
  have hlen := dsb_len k c b t d l p r q (bitsOf V) T
  rw [hz]
  rw [bitsOf_len] at hlen
  clear hz hput
  generalize dsb k c b t d l p r q (bitsOf V) T = B at *
  have hB1 : B.length ≤ 9000 := by have := HG.out; have := HVL.out; have := HTL.out; omega
  have hB0 : 0 < B.length := by omega
  obtain ⟨n, hn⟩ : ∃ n, B.length = n := ⟨_, rfl⟩
  obtain ⟨g, cap, rfl, hgB, hcap, hcm, hlst⟩ : ∃ g cap, vb = .slice (some ⟨g, 0, none⟩) B.length cap ∧ w2.heap.size ≤ g ∧ B.length ≤ cap ∧ cap ≤ maxLen ∧ Lst KB g 0 B w3 := by
    rcases ob.lst with ⟨_, h⟩ | h
    · rw [h] at hB0; exact absurd hB0 (by decide)
    · exact h
  have hh := hlst.holds
  obtain ⟨m, hm⟩ : ∃ m : Nat, a % (n : Int) = (m : Int) := Int.eq_ofNat_of_zero_le (Int.emod_nonneg _ (by omega))
  have hmn : m < n := by have := Int.emod_lt_of_pos a (show (0 : Int) < n by omega); omega
  have hgt := dget_any (some ⟨g, 0, none⟩) m cap (B.take m) (by rw [List.length_take]; omega) (by omega) (fun h => by cases h) w3 (hh.take m)
  have hc2 := hcut m (by omega)
  have hgt2 : Calls Try.prog 12 #[.slice (some ⟨g, 0, none⟩) m cap] w3 fun e w' => e = .returned (.tuple #[.agg #[.int .i64 0, .int .i64 0, .int .i64 0, .int .i64 0, .int .i64 0, .int .i64 0, .int .i64 0, .int .i64 0, .int .i64 0, .slice none 0 0, .slice none 0 0], .int .i64 2]) ∧ Below w3.heap.size w3 w' := by
    refine hgt.mono ?_
    rintro e w' ⟨h, hb⟩
    rcases h with ⟨h0, _⟩ | ⟨_, rfl⟩
    · rw [hc2] at h0; exact absurd h0 (by decide)
    · exact ⟨by rw [hc2]; rfl, hb⟩
  have hw16 := wrap_u16 a ha ha2
  have htm : a.tmod (n : Int) = (m : Int) := by rw [Int.tmod_eq_emod_of_nonneg ha]; exact hm
  have hmc : (m : Int) ≤ (cap : Int) := by omega
  have hnz : ((n : Int) == 0) = false := by simp; omega
  have hnz2 : ¬ (n : Int) = 0 := by omega
  have hnz3 : ¬ n = 0 := by omega
  have HNN := Lib.hid hn
  have HMM := Lib.hid (And.intro hB1 (And.intro hB0 (And.intro hmn (And.intro hcap hcm))))
  rw [hn]
  clear hgt hc2 hcut hm hmn hn hlen hB1 hB0 hcap hcm hgB ob hlst b3
  go_wp2_with fail
  refine hgt2.mono ?_
  rintro e w4 ⟨rfl, b4⟩
  have bb4 := bb3.trans (b4.mono bb3.size)
  have hh4 := hh.below b4
  clear hgt2 bb3 b4 hh hw16 htm hmc hnz hnz2 hnz3
  have D5 := lay_dat w4 36 0 0 0 0 0 0 0 0 0 (.slice none 0 0) (.slice none 0 0)
  have b5 := lay_below w4 36 0 0 0 0 0 0 0 0 0 (.slice none 0 0) (.slice none 0 0)
  have hh5 := hh4.below b5
  have bb5 := bb4.trans (b5.mono bb4.size)
  have b6 := (Below.refl (lay w4 36 0 0 0 0 0 0 0 0 0 (.slice none 0 0) (.slice none 0 0)).heap.size (lay w4 36 0 0 0 0 0 0 0 0 0 (.slice none 0 0) (.slice none 0 0))).alloc (Nat.le_refl _) (.cells #[] 5)
  have o6 := Own.start (K := KB) (lay w4 36 0 0 0 0 0 0 0 0 0 (.slice none 0 0) (.slice none 0 0)) (lay w4 36 0 0 0 0 0 0 0 0 0 (.slice none 0 0) (.slice none 0 0)).heap.size (Nat.le_refl _)
  have hh6 := hh5.below b6
  have cam : CameE KB ((lay w4 36 0 0 0 0 0 0 0 0 0 (.slice none 0 0) (.slice none 0 0)).alloc (.cells #[] 5)) (some ⟨g, 0, none⟩) n B := ⟨⟨_, rfl⟩, HNN.out, hh6⟩
  have D6 := D5.below b6 D5.lt
  have hs6 := b6.size
  have bb6 := bb5.trans (b6.mono bb5.size)
  have hlt5 := D5.lt
  have hl5 := And.intro bb5.size hlt5
  rw [lay_size] at o6 hs6 hl5
  have HL := Lib.hid hl5
  have HBM := HMM
  clear hh4 hh5 hh6 b5 b6 D5 bb5 bb4 hlt5 hl5
  go_wp2_with (at_builtin; refine app_own okB rfl _ _ rfl (w4.heap.size + 1) hs6 _ [] rfl o6 (some ⟨g, 0, none⟩) n cap B rfl cam (by have := HMM.out.1; simp; omega) ?_)
  intro v7 w7 own7 b7
  replace own7 : Own KB w7 (w4.heap.size + 1) v7 B := own7
  have D7 := D6.below b7 HL.out.2
  have bb7 := bb6.trans (b7.mono HL.out.1)
  have hs7 := Nat.le_trans hs6 b7.size
  have b8 := (Below.refl w7.heap.size w7).alloc (Nat.le_refl _) (.cells #[.int .u8 (x.toNat : Int)] 5)
  have own8 := own7.alloc (.cells #[.int .u8 (x.toNat : Int)] 5)
  have hs8 := Nat.le_trans hs7 b8.size
  have D8 := D7.below b8 D7.lt
  have bb8 := bb7.trans (b8.mono bb7.size)
  have cam8 : CameE KB (w7.alloc (.cells #[.int .u8 (x.toNat : Int)] 5)) (some ⟨w7.heap.size, 0, none⟩) 1 [x] := CameE.new (K := KB) x
  clear cam o6 D6 bb6 hs6 own7 b7 D7 bb7 hs7 b8
  go_wp2_with (at_builtin; refine app_own okB rfl _ _ rfl (w4.heap.size + 1) hs8 _ B rfl own8 _ 1 1 [x] rfl cam8 (by have := HMM.out.1; simp; omega) ?_)
  intro v9 w9 own9 b9
  have D9 := D8.below b9 HL.out.2
  have bb9 := bb8.trans (b9.mono HL.out.1)
  clear cam8 own8 D8 bb8 hs8 b9
  obtain ⟨a9, c9, rfl, ha9, _, _, hh9⟩ := own9.holds
  have hgt := dget_any a9 (B ++ [x]).length c9 (B ++ [x]) rfl (by rw [List.length_append, List.length_singleton]; have := HMM.out.1; omega) ha9 w9 hh9
  have hc3 := hmore x
  have hgt2 : Calls Try.prog 12 #[.slice a9 (B ++ [x]).length c9] w9 fun e w' => e = .returned (.tuple #[.agg #[.int .i64 0, .int .i64 0, .int .i64 0, .int .i64 0, .int .i64 0, .int .i64 0, .int .i64 0, .int .i64 0, .int .i64 0, .slice none 0 0, .slice none 0 0], .int .i64 3]) ∧ Below w9.heap.size w9 w' := by
    refine hgt.mono ?_
    rintro e w' ⟨h, hb⟩
    rcases h with ⟨h0, _⟩ | ⟨_, rfl⟩
    · rw [hc3] at h0; exact absurd h0 (by decide)
    · exact ⟨by rw [hc3]; rfl, hb⟩
  obtain ⟨n9, hn9⟩ : ∃ n9, (B ++ [x]).length = n9 := ⟨_, rfl⟩
  rw [hn9] at hgt2 ⊢
  clear hgt hc3 hmore hn9 own9 hh9 ha9
  go_wp2_with fail
  refine hgt2.mono ?_
  rintro e w10 ⟨rfl, b10⟩
  have D10 := D9.below b10 D9.lt
  have bb10 := bb9.trans (b10.mono bb9.size)
  clear hgt2 D9 bb9 b10
  have b11 := lay_below w10 36 0 0 0 0 0 0 0 0 0 (.slice none 0 0) (.slice none 0 0)
  have D11 := D10.below b11 D10.lt
  have bb11 := bb10.trans (b11.mono bb10.size)
  clear D10 bb10 b11
  go_wp2_with fail
  refine (fixed_any (lay w10 36 0 0 0 0 0 0 0 0 0 (.slice none 0 0) (.slice none 0 0))).mono ?_
  rintro e w12 ⟨rfl, b12⟩
  have D12 := D11.below b12 D11.lt
  have HB := Lib.hid (bb11.trans (b12.mono bb11.size))
  clear D11 bb11 b12
  have c7 : w12.cell? ⟨w4.heap.size, 7, none⟩ = some (.int .i64 0) := D12.c 7 (by decide)
  have c9' : w12.cell? ⟨w4.heap.size, 9, none⟩ = some (.slice none 0 0) := D12.c 9 (by decide)
  go_wp2_with fail
  go_ret
  exact ⟨rfl, HB.out⟩
end Go.Proofs.Ytbmbgfmhejahjaa
