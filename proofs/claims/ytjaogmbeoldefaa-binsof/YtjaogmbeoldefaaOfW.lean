/-
  BinsOf's walk: the edges of any dataset's columns, and its matrix by them, and by any edges, are the document's. Condition: the values, targets and numbers are of 64 bits.
-/
import Derived.Test.YtjaogmbeoldefaaBinG
import Derived.Test.YtjaogmbeoldefaaBinH
import Derived.Test.YtjaogmbeoldefaaArgsQ
namespace Go.Proofs.Ytjaogmbeoldefaa
open Go.RowKit

/-- The edges of all columns, or none. -/
def edgesI (F : List Nat) (r q b : Int) (n : Nat) : List (List Nat) := if fitB r q n = true then edgesA F r.toNat q.toNat b else []
theorem edgesI_64 {F : List Nat} (h : Bits64 F) (r q b : Int) (n : Nat) : ∀ E ∈ edgesI F r q b n, E.length ≤ 1048576 ∧ Bits64 E := by
  intro E hE
  unfold edgesI at hE
  split at hE
  · exact edgesA_64 h _ _ _ hE
  · cases hE
theorem edgesI_len (F : List Nat) (r q b : Int) (n : Nat) : ∀ E ∈ edgesI F r q b n, E.length ≤ 255 := by
  intro E hE
  unfold edgesI at hE
  split at hE
  · unfold edgesA at hE
    obtain ⟨j, _, rfl⟩ := List.mem_map.1 hE
    exact (edges_len _ _).1
  · cases hE
theorem edgesI_cols {F : List Nat} {r q b : Int} {n : Nat} (hq : q ≤ 1000) : (edgesI F r q b n).length ≤ 1000 := by
  unfold edgesI
  split
  · rw [edgesA_len]; omega
  · simp
theorem holds_got {w : World} {a : Option Addr} {B : Nat} {D : List Int} (h : D = [] ∨ ∃ g, a = some ⟨g, 0, none⟩ ∧ B ≤ g ∧ Lst KW g 0 D w) : HoldsE KW w a D := by
  rcases h with h | ⟨g, h1, _, h2⟩
  · exact .inl h
  · rw [h1]; exact h2.holds
/-- Own edges. -/
def ownL (l : Nat → List Int) (n : Nat) : List (List Nat) := (List.range n).map fun j => bitsOf (l j)
theorem ownL_len (l : Nat → List Int) (n : Nat) : (ownL l n).length = n := by simp [ownL]
theorem ownL_step (l : Nat → List Int) (n : Nat) {j : Nat} (hj : j < n) : (ownL l n).take (j + 1) = (ownL l n).take j ++ [bitsOf (l j)] := by
  have h1 : (ownL l n)[j]? = some (bitsOf (l j)) := by unfold ownL; rw [List.getElem?_map, List.getElem?_range hj]; rfl
  rw [List.take_add_one, h1]
  rfl

set_option maxHeartbeats 1000000 in
theorem bof_great (k c b t d l p r q : Int) (aV aT aC : Option Addr) (nV cV nT cT nC cC : Nat) (h : (500 < nV ∨ 200 < nT) ∨ 1000 < q ∨ 20 < nC) (w : World) :
    Calls Try.prog 3 #[ds k c b t d l p r q (.slice aV nV cV) (.slice aT nT cT), .slice aC nC cC] w fun e w' => e = .returned (.bool true) ∧ Below w.heap.size w w' := by
  have HB := lay_below w 27 k c b t d l p r q (.slice aV nV cV) (.slice aT nT cT)
  have D0 := lay_dat w 27 k c b t d l p r q (.slice aV nV cV) (.slice aT nT cT)
  have cg := great9_any k c b t d l p r q aV aT nV cV nT cT (lay w 27 k c b t d l p r q (.slice aV nV cV) (.slice aT nT cT))
  have HH := Lib.hid h
  unfold ds at *
  clear h
  go_enter Try.func3, Try.ntmps3
  go_wp2_with fail
  change Calls _ _ _ (lay w 27 k c b t d l p r q (.slice aV nV cV) (.slice aT nT cT)) _
  generalize lay w 27 k c b t d l p r q (.slice aV nV cV) (.slice aT nT cT) = w0 at *
  by_cases hg : 500 < nV ∨ 200 < nT
  · rw [decide_eq_true hg] at cg
    clear hg HH
    refine cg.mono ?_
    rintro e w1 ⟨rfl, b1⟩
    have HB1 := HB.trans (b1.mono HB.size)
    clear cg HB b1
    go_wp2_with fail
    refine (bfixed_any w1).mono ?_
    rintro e w2 ⟨rfl, b2⟩
    have HB2 := Lib.hid (HB1.trans (b2.mono HB1.size))
    clear b2 HB1
    go_wp2_with fail
    go_ret
    exact ⟨rfl, HB2.out⟩
  · rw [decide_eq_false hg] at cg
    have HH2 : Hid (1000 < q ∨ 20 < nC) := HH.out.resolve_left hg
    clear hg HH
    refine cg.mono ?_
    rintro e w1 ⟨rfl, b1⟩
    have HB1 := HB.trans (b1.mono HB.size)
    have D1 := D0.on' b1
    have e8 : w1.cell? ⟨w.heap.size, 8, none⟩ = some (.int .i64 q) := D1.c 8 (by decide)
    clear cg HB b1 D0 D1
    by_cases h1 : 1000 < q
    · have g1 : decide (q > 1000) = true := decide_eq_true h1
      clear HH2
      go_wp2_with fail
      refine (bfixed_any w1).mono ?_
      rintro e w2 ⟨rfl, b2⟩
      have HB2 := Lib.hid (HB1.trans (b2.mono HB1.size))
      clear b2 HB1 e8
      go_wp2_with fail
      go_ret
      exact ⟨rfl, HB2.out⟩
    · have g1 : decide (q > 1000) = false := decide_eq_false h1
      have h2 : (20 : Int) < (nC : Int) := by have := HH2.out; omega
      clear HH2
      go_wp2_with fail
      refine (bfixed_any w1).mono ?_
      rintro e w2 ⟨rfl, b2⟩
      have HB2 := Lib.hid (HB1.trans (b2.mono HB1.size))
      clear b2 HB1 e8
      go_wp2_with fail
      go_ret
      exact ⟨rfl, HB2.out⟩

set_option maxRecDepth 20000 in
set_option maxHeartbeats 8000000 in
theorem bof_any (k c b t d l p r q : Int) (aV aT aC : Option Addr) (nV cV nT cT nC cC : Nat) (V T : List Int) (C : Nat → List Int) (hVl : V.length = nV) (hTl : T.length = nT) (hTc : aT = none → cT = 0) (hV64 : ∀ z ∈ V, 0 ≤ z ∧ z < 18446744073709551616) (hC64 : ∀ j, j < nC → ∀ z ∈ C j, 0 ≤ z ∧ z < 18446744073709551616) (h1 : ¬ (500 < nV ∨ 200 < nT)) (h2 : ¬ 1000 < q) (h3 : nC ≤ 20) (w : World) (hV : HoldsE KU w aV V) (hT : HoldsE K64 w aT T) (hC : HoldsN w aC nC C) :
    Calls Try.prog 3 #[ds k c b t d l p r q (.slice aV nV cV) (.slice aT nT cT), .slice aC nC cC] w fun e w' => e = .returned (.bool true) ∧ Below w.heap.size w w' := by
  have hn : nV ≤ 500 := by omega
  have HB := lay_below w 27 k c b t d l p r q (.slice aV nV cV) (.slice aT nT cT)
  have D0 := lay_dat w 27 k c b t d l p r q (.slice aV nV cV) (.slice aT nT cT)
  have cg := great9_any k c b t d l p r q aV aT nV cV nT cT (lay w 27 k c b t d l p r q (.slice aV nV cV) (.slice aT nT cT))
  rw [decide_eq_false h1] at cg
  have g1 : decide (q > 1000) = false := decide_eq_false h2
  have g2 : ¬ (20 : Int) < (nC : Int) := by omega
  have hV0 := hV.below HB
  have hT0 := hT.below HB
  have HFU : Hid (∀ W, HoldsE KU W aV V → HoldsE K64 W aT T → Calls Try.prog 10 #[ds k c b t d l p r q (.slice aV nV cV) (.slice aT nT cT)] W fun e w' => (∃ v x, e = .returned (ds k c b t d l p r q v x) ∧ Own KF w' W.heap.size v (bitsOf V) ∧ Own K64 w' W.heap.size x T) ∧ Below W.heap.size W w') :=
    fun W h1 h2 => pfull_any k c b t d l p r q aV aT nV cV nT cT V T hVl hTl (by omega) (by omega) hTc W h1 h2
  have HFL : Hid ((bitsOf V).length = nV) := by show _ = _; rw [bitsOf_len]; exact hVl
  have HF64 : Hid (Bits64 (bitsOf V)) := bits64_of hV64
  have HNB := Lib.hid (And.intro hn (And.intro h2 h3))
  have HC := Lib.hid hC
  have HC64 := Lib.hid hC64
  obtain ⟨F, HF⟩ : ∃ F, Hid (bitsOf V = F) := ⟨_, rfl⟩
  rw [HF.out] at HFU HFL HF64
  unfold ds at *
  clear hVl hTl hTc hV64 h1 h2 h3 hn hV hT HF hC hC64
  go_enter Try.func3, Try.ntmps3
  go_wp2_with fail
  change Calls _ _ _ (lay w 27 k c b t d l p r q (.slice aV nV cV) (.slice aT nT cT)) _
  generalize lay w 27 k c b t d l p r q (.slice aV nV cV) (.slice aT nT cT) = w0 at *
  obtain ⟨N, hN⟩ : ∃ N, w.heap.size = N := ⟨_, rfl⟩
  have HNN := Lib.hid hN
  rw [hN] at D0 ⊢
  clear hN
  refine cg.mono ?_
  rintro e w1 ⟨rfl, b1⟩
  have HB1 := HB.trans (b1.mono HB.size)
  have D1 := D0.on' b1
  have d1 := HFU.out w1 (hV0.below b1) (hT0.below b1)
  obtain ⟨x0, x1, x2, x3, x4, x5, x6, x7, x8, x9, x10⟩ := D1.cells
  clear cg HB b1 D0 hV0 hT0 HFU
  go_wp2_with fail
  refine d1.mono ?_
  rintro e w2 ⟨⟨v, x, rfl, ov, ox⟩, b2⟩
  obtain ⟨av, cv, rfl, hvc, hvl, hvf, hvh⟩ := own_parts ov
  obtain ⟨ax, nx, cx, rfl⟩ := own_form ox
  rw [HFL.out] at hvl ⊢
  have HB2 := HB1.trans (b2.mono HB1.size)
  have bA := lay_below w2 33 k c b t d l p r q (.slice av nV cv) (.slice ax nx cx)
  have E0 := lay_dat w2 33 k c b t d l p r q (.slice av nV cv) (.slice ax nx cx)
  have hvh3 := hvh.below bA
  have HB3 := HB2.trans (bA.mono HB2.size)
  clear d1 HB1 D1 x0 x1 x2 x3 x4 x5 x6 x7 x8 x9 x10 ov ox b2 bA hvh HB2
  have HSL := Lib.hid (And.intro hvc (And.intro hvl hvf))
  clear hvc hvl hvf
  go_upto_region 4 with fail
  change Code.wp _ _ _ _ (lay w2 33 k c b t d l p r q (.slice av nV cv) (.slice ax nx cx))
  generalize lay w2 33 k c b t d l p r q (.slice av nV cv) (.slice ax nx cx) = w3 at *
  obtain ⟨M, hM⟩ : ∃ M, w2.heap.size = M := ⟨_, rfl⟩
  rw [hM] at E0 ⊢
  clear hM
  have s3 : DsS M k c b t d l p r q av nV cv (.slice ax nx cx) F w w3 := ⟨E0, hvh3, HB3⟩
  clear E0 hvh3 HB3
  obtain ⟨L, HL⟩ : ∃ L, Hid (edgesI F r q b nV = L) := ⟨_, rfl⟩
  obtain ⟨nL, HNL⟩ : ∃ nL, Hid (L.length = nL) := ⟨_, rfl⟩
  have HL64 : Hid (∀ E ∈ L, E.length ≤ 1048576 ∧ Bits64 E) := by show ∀ E ∈ L, _; rw [← HL.out]; exact edgesI_64 HF64.out r q b nV
  have HL255 : Hid (∀ E ∈ L, E.length ≤ 255) := by show ∀ E ∈ L, _; rw [← HL.out]; exact edgesI_len F r q b nV
  have HLC : Hid (nL ≤ 1000) := by
    have h := edgesI_cols (F := F) (r := r) (b := b) (n := nV) (show q ≤ 1000 by have := HNB.out.2.1; omega)
    show _ ≤ _
    rw [← HNL.out, ← HL.out]
    exact h
  have HED : Hid (∀ W, HoldsE KF W av F → Calls Try.prog 11 #[ds k c b t d l p r q (.slice av nV cv) (.slice ax nx cx)] W fun e w' => GotL e w' nL L ∧ Below W.heap.size W w') := fun W h => by
    rw [← HNL.out, ← HL.out]
    unfold edgesI
    cases hf : fitB r q nV with
    | true =>
      obtain ⟨r', q', rfl, rfl, hrq, hr', hq'⟩ := fit_nats hf
      have hnb := HNB.out
      rw [if_pos rfl, edgesA_len]
      simp only [Int.toNat_natCast]
      exact edgesM_ok k c b t d l p r' q' av nV cv (.slice ax nx cx) F HFL.out (by omega) hrq (by omega) hr' HSL.out.2.1 HSL.out.1 HSL.out.2.2 HF64.out W h
    | false =>
      rw [if_neg (by decide)]
      exact edgesM_no k c b t d l p r q av nV cv (.slice ax nx cx) hf W
  have HER : Hid (∀ W, HoldsE KF W av F → Calls Try.prog 12 #[ds k c b t d l p r q (.slice av nV cv) (.slice ax nx cx)] W fun e w' => GotL e w' nL L ∧ Below W.heap.size W w') := fun W h => by
    rw [← HNL.out, ← HL.out]
    unfold edgesI
    cases hf : fitB r q nV with
    | true =>
      obtain ⟨r', q', rfl, rfl, hrq, hr', hq'⟩ := fit_nats hf
      have hnb := HNB.out
      rw [if_pos rfl, edgesA_len]
      simp only [Int.toNat_natCast]
      exact refEdges_ok k c b t d l p r' q' av nV cv (.slice ax nx cx) F HFL.out (by omega) hrq (by omega) hr' HSL.out.2.1 HSL.out.1 HSL.out.2.2 HF64.out W h
    | false =>
      rw [if_neg (by decide)]
      exact refEdges_no k c b t d l p r q av nV cv (.slice ax nx cx) hf W
  have HOY : Hid (∀ (L' : List (List Nat)) (n' : Nat), L'.length = n' → (∀ E ∈ L', E.length ≤ 1048576 ∧ Bits64 E) → ((n' : Int) = q ∧ fitB r q nV = true) → ∀ a' c' W, HoldsE KF W av F → HoldsR W a' L' →
      (Calls Try.prog 15 #[ds k c b t d l p r q (.slice av nV cv) (.slice ax nx cx), .slice a' n' c'] W fun e w' => GotT e w' W.heap.size r q nV (cellsL F r.toNat L') ∧ Below W.heap.size W w') ∧
      (Calls Try.prog 16 #[ds k c b t d l p r q (.slice av nV cv) (.slice ax nx cx), .slice a' n' c'] W fun e w' => GotT e w' W.heap.size r q nV (cellsL F r.toNat L') ∧ Below W.heap.size W w')) := fun L' n' hl hb hc a' c' W h1 h2 => by
    obtain ⟨hc1, hf⟩ := hc
    obtain ⟨r', q', rfl, rfl, hrq, hr', hq'⟩ := fit_nats hf
    have hnb := HNB.out
    obtain rfl : n' = q' := by omega
    rw [Int.toNat_natCast]
    exact ⟨ofM_ok k c b t d l p r' n' av a' nV cv c' (.slice ax nx cx) F L' HFL.out (by omega) hrq (by omega) hr' HSL.out.2.1 HSL.out.1 HSL.out.2.2 HF64.out hl hb W h1 h2,
      refOf_ok k c b t d l p r' n' av a' nV cv c' (.slice ax nx cx) F L' HFL.out (by omega) hf (by omega) HF64.out hl hb W h1 h2⟩
  have HON : Hid (∀ n' : Nat, ¬ ((n' : Int) = q ∧ fitB r q nV = true) → ∀ a' c' W,
      (Calls Try.prog 15 #[ds k c b t d l p r q (.slice av nV cv) (.slice ax nx cx), .slice a' n' c'] W fun e w' => NoTurn e ∧ Below W.heap.size W w') ∧
      (Calls Try.prog 16 #[ds k c b t d l p r q (.slice av nV cv) (.slice ax nx cx), .slice a' n' c'] W fun e w' => NoTurn e ∧ Below W.heap.size W w')) := fun n' hc a' c' W => by
    have hh : (n' : Int) ≠ q ∨ fitB r q nV = false := by
      by_cases h1 : (n' : Int) = q
      · right
        cases hf : fitB r q nV with
        | false => rfl
        | true => exact absurd ⟨h1, hf⟩ hc
      · exact .inl h1
    exact ⟨ofM_no k c b t d l p r q av a' nV cv n' c' (.slice ax nx cx) hh W, refOf_no k c b t d l p r q av a' nV cv n' c' (.slice ax nx cx) hh W⟩
  unfold ds at HED HER HOY HON
  go_cut [6, 7] (fun s6 s7 wx => ∃ (ae : Option Addr) (ce : Nat) (ar : Option Addr) (cr : Nat), s6 = .slice ae nL ce ∧ s7 = .slice ar nL cr ∧ HoldsR wx ae L ∧ HoldsR wx ar L ∧ Below w3.heap.size w3 wx)
  case first =>
    have bl : Below w3.heap.size w3 w3.drew := (Below.refl _ w3).drew
    refine wp_region_held_drew (S := (fun W => W.cell? ⟨M, 0, none⟩ = some (.int .i64 k) ∧ W.cell? ⟨M, 1, none⟩ = some (.int .i64 c) ∧ W.cell? ⟨M, 2, none⟩ = some (.int .i64 b) ∧ W.cell? ⟨M, 3, none⟩ = some (.int .i64 t) ∧ W.cell? ⟨M, 4, none⟩ = some (.int .i64 d) ∧ W.cell? ⟨M, 5, none⟩ = some (.int .i64 l) ∧ W.cell? ⟨M, 6, none⟩ = some (.int .i64 p) ∧ W.cell? ⟨M, 7, none⟩ = some (.int .i64 r) ∧ W.cell? ⟨M, 8, none⟩ = some (.int .i64 q) ∧ W.cell? ⟨M, 9, none⟩ = some (.slice av nV cv) ∧ W.cell? ⟨M, 10, none⟩ = some (.slice ax nx cx))) (by kernel_rfl) (by exact (s3.below bl).on.cells) (fun hHeld => ?_)
    generalize w3.drew = wd at *
    refine takeQ (i := 0) (v := ?_) rfl (by kernel_rfl) (by kernel_rfl) (by kernel_rfl) (fun _ _ _ h => h) (by rfl) hHeld ?_ ?_
    rotate_left
    · (intro w' hSw; (try dsimp only at hSw); go_simp <;> (with_reducible rfl))
    try simp only [Act.put, List.setIfInBounds_toArray, List.set_cons_zero, List.set_cons_succ]
    refine takeQ (i := 2) (v := ?_) rfl (by kernel_rfl) (by kernel_rfl) (by kernel_rfl) (fun _ _ _ h => h) (by rfl) hHeld ?_ ?_
    rotate_left
    · (intro w' hSw; (try dsimp only at hSw); go_simp <;> (with_reducible rfl))
    try simp only [Act.put, List.setIfInBounds_toArray, List.set_cons_zero, List.set_cons_succ]
    refine callL (i := 1) (by kernel_rfl) rfl (by rfl) (fun K hK => ?_)
    go_simp
    refine (HED.out wd (s3.below bl).ho).mono ?_
    rintro _ w5 ⟨⟨ae, ce, rfl, hle, hE⟩, b5⟩
    replace bl := bl.trans (b5.mono bl.size)
    clear b5 hle
    try dsimp only
    refine hK.out _ _ (by exact (s3.below bl).on.cells) (fun hHeld => ?_)
    clear hK K
    try simp only [Act.put, List.setIfInBounds_toArray, List.set_cons_zero, List.set_cons_succ]
    refine callL (i := 3) (by kernel_rfl) rfl (by rfl) (fun K hK => ?_)
    go_simp
    refine (HER.out w5 (s3.below bl).ho).mono ?_
    rintro _ w6 ⟨⟨ar, cr, rfl, hlr, hR⟩, b5⟩
    replace bl := bl.trans (b5.mono bl.size)
    replace hE := hE.below b5
    clear b5 hlr
    try dsimp only
    refine hK.out _ _ (by exact (s3.below bl).on.cells) (fun hHeld => ?_)
    clear hK K
    try simp only [Act.put, List.setIfInBounds_toArray, List.set_cons_zero, List.set_cons_succ]
    refine callL (i := 4) (by kernel_rfl) rfl (by rfl) (fun K hK => ?_)
    go_simp
    try dsimp only
    refine hK.out _ _ (by exact (s3.below bl).on.cells) (fun hHeld => ?_)
    clear hK K
    try simp only [Act.put, List.setIfInBounds_toArray, List.set_cons_zero, List.set_cons_succ]
    refine callL (i := 5) (by kernel_rfl) rfl (by rfl) (fun K hK => ?_)
    go_simp
    try dsimp only
    refine hK.out _ _ (by exact (s3.below bl).on.cells) (fun hHeld => ?_)
    clear hK K
    try simp only [Act.put, List.setIfInBounds_toArray, List.set_cons_zero, List.set_cons_succ]
    refine wpAnyH_done (by kernel_rfl) ?_ _
    clear hHeld
    go_wp2_with fail
    go_meet
    exact ⟨ae, ce, ar, cr, rfl, rfl, hE, hR, bl⟩
  case rest =>
    obtain ⟨ae, ce, ar, cr, rfl, rfl, hE, hR, bl⟩ := hcut
    have s4 := s3.below bl
    clear s3 bl HED HER
    have gL : ((nL : Int) != (nL : Int)) = false := by simp
    go_wp2_with fail
    go_loopw [44] (fun v wr => ∃ j : Nat, v = .int .i64 (j : Int) ∧ j ≤ nL ∧ Below wc.heap.size wc wr) (fun v _ => nL - (intOf v).toNat)
    case atStart => exact ⟨0, rfl, by omega, Below.refl _ _⟩
    case round =>
      obtain ⟨j, rfl, hj, bel⟩ := hrel
      by_cases hlt : j < nL
      · have hjL : j < L.length := by rw [HNL.out]; exact hlt
        obtain ⟨g1, o1, a1, c1, rfl, hg1, hc1, hh1⟩ := hE.at hjL
        obtain ⟨g2, o2, a2, c2, rfl, hg2, hc2, hh2⟩ := hR.at hjL
        have hl255 := HL255.out (L.getD j []) (by rw [List.getD_eq_getElem?_getD, List.getElem?_eq_getElem hjL]; exact List.getElem_mem hjL)
        obtain ⟨m1, hm1⟩ : ∃ m1, (L.getD j []).length = m1 := ⟨_, rfl⟩
        rw [hm1] at hc1 hc2 hl255
        have dS0 := fun W (x1 : HoldsE KF W a1 (L.getD j [])) (x2 : HoldsE KF W a2 (L.getD j [])) => refSame_any a1 a2 c1 c2 m1 m1 (L.getD j []) (L.getD j []) hm1 hm1 (by omega) (by omega) W x1 x2
        have dS := dS0 wr.drew (hh1.below bel.drew) (hh2.below bel.drew)
        rw [show decide (L.getD j [] = L.getD j []) = true from decide_eq_true rfl] at dS
        have KEEP : Hid (∀ W, Below wc.heap.size wc W → W.cell? ⟨g1, o1 + j, none⟩ = some (.slice a1 m1 c1) ∧ W.cell? ⟨g2, o2 + j, none⟩ = some (.slice a2 m1 c2)) := fun W h => ⟨(h.cell (p := ⟨g1, o1 + j, none⟩) hg1).trans hc1, (h.cell (p := ⟨g2, o2 + j, none⟩) hg2).trans hc2⟩
        have bl := bel.drew
        have i1 : (j : Int) < (nL : Int) := by omega
        have i0 : (0 : Int) ≤ (j : Int) := by omega
        have HU := Lib.hid (up_is hlt (show nL ≤ 16777216 by have := HLC.out; omega))
        have HV := Lib.hid (up_less hlt (show nL ≤ 16777216 by have := HLC.out; omega))
        have HLT := Lib.hid hlt
        clear hjL hg1 hg2 hc1 hc2 hh1 hh2 hl255 hm1 dS0 bel hlt hj
        go_wp2_with fail
        refine wp_region_held_drew (S := (fun W => W.cell? ⟨g1, o1 + j, none⟩ = some (.slice a1 m1 c1) ∧ W.cell? ⟨g2, o2 + j, none⟩ = some (.slice a2 m1 c2))) (by kernel_rfl) (by exact KEEP.out _ bl) (fun hHeld => ?_)
        refine takeQ (i := 0) (v := ?_) rfl (by kernel_rfl) (by kernel_rfl) (by kernel_rfl) (fun _ _ _ h => h) (by rfl) hHeld ?_ ?_
        rotate_left
        · (intro w' hSw; (try dsimp only at hSw); go_simp <;> (with_reducible rfl))
        try simp only [Act.put, List.setIfInBounds_toArray, List.set_cons_zero, List.set_cons_succ]
        refine takeQ (i := 1) (v := ?_) rfl (by kernel_rfl) (by kernel_rfl) (by kernel_rfl) (fun _ _ _ h => h) (by rfl) hHeld ?_ ?_
        rotate_left
        · (intro w' hSw; (try dsimp only at hSw); go_simp <;> (with_reducible rfl))
        try simp only [Act.put, List.setIfInBounds_toArray, List.set_cons_zero, List.set_cons_succ]
        refine takeQ (i := 2) (v := ?_) rfl (by kernel_rfl) (by kernel_rfl) (by kernel_rfl) (fun _ _ _ h => h) (by rfl) hHeld ?_ ?_
        rotate_left
        · (intro w' hSw; (try dsimp only at hSw); go_simp <;> (with_reducible rfl))
        try simp only [Act.put, List.setIfInBounds_toArray, List.set_cons_zero, List.set_cons_succ]
        refine takeQ (i := 3) (v := ?_) rfl (by kernel_rfl) (by kernel_rfl) (by kernel_rfl) (fun _ _ _ h => h) (by rfl) hHeld ?_ ?_
        rotate_left
        · (intro w' hSw; (try dsimp only at hSw); go_simp <;> (with_reducible rfl))
        try simp only [Act.put, List.setIfInBounds_toArray, List.set_cons_zero, List.set_cons_succ]
        refine takeQ (i := 4) (v := ?_) rfl (by kernel_rfl) (by kernel_rfl) (by kernel_rfl) (fun _ _ _ h => h) (by rfl) hHeld ?_ ?_
        rotate_left
        · (intro w' hSw; (try dsimp only at hSw); go_simp <;> (with_reducible rfl))
        try simp only [Act.put, List.setIfInBounds_toArray, List.set_cons_zero, List.set_cons_succ]
        refine takeQ (i := 5) (v := ?_) rfl (by kernel_rfl) (by kernel_rfl) (by kernel_rfl) (fun _ _ _ h => h) (by rfl) hHeld ?_ ?_
        rotate_left
        · (intro w' hSw; (try dsimp only at hSw); go_simp <;> (with_reducible rfl))
        try simp only [Act.put, List.setIfInBounds_toArray, List.set_cons_zero, List.set_cons_succ]
        refine takeQ (i := 6) (v := ?_) rfl (by kernel_rfl) (by kernel_rfl) (by kernel_rfl) (fun _ _ _ h => h) (by rfl) hHeld ?_ ?_
        rotate_left
        · (intro w' hSw; (try dsimp only at hSw); go_simp <;> (with_reducible rfl))
        try simp only [Act.put, List.setIfInBounds_toArray, List.set_cons_zero, List.set_cons_succ]
        refine takeQ (i := 7) (v := ?_) rfl (by kernel_rfl) (by kernel_rfl) (by kernel_rfl) (fun _ _ _ h => h) (by rfl) hHeld ?_ ?_
        rotate_left
        · (intro w' hSw; (try dsimp only at hSw); go_simp <;> (with_reducible rfl))
        try simp only [Act.put, List.setIfInBounds_toArray, List.set_cons_zero, List.set_cons_succ]
        refine callL (i := 8) (by kernel_rfl) rfl (by rfl) (fun K hK => ?_)
        go_simp
        refine dS.mono ?_
        rintro _ w7 ⟨rfl, b7⟩
        replace bl := bl.trans (b7.mono bl.size)
        clear b7
        try dsimp only
        refine hK.out _ _ (by exact KEEP.out _ bl) (fun hHeld => ?_)
        clear hK K
        try simp only [Act.put, List.setIfInBounds_toArray, List.set_cons_zero, List.set_cons_succ]
        refine callL (i := 9) (by kernel_rfl) rfl (by rfl) (fun K hK => ?_)
        go_simp
        try dsimp only
        refine hK.out _ _ (by exact KEEP.out _ bl) (fun hHeld => ?_)
        clear hK K
        try simp only [Act.put, List.setIfInBounds_toArray, List.set_cons_zero, List.set_cons_succ]
        refine wpAnyH_done (by kernel_rfl) ?_ _
        clear hHeld
        clear i1 i0 dS KEEP
        go_wp2_with fail
        go_roundw
        case rel => exact ⟨j + 1, HU.out, HLT.out, bl⟩
        case measure => exact HV.out
      · obtain rfl : nL = j := by omega
        have s5 := s4.below bel
        have hE5 := hE.below bel
        have hwx := s5.bel.size
        obtain ⟨wB, hwB⟩ : ∃ wB, wr = wB := ⟨_, rfl⟩
        rw [hwB] at s5 hE5 hwx bel ⊢
        clear hlt hj s4 hE hR bel gL hwB
        have b6 := (Below.refl wB.heap.size wB).alloc (Nat.le_refl _) (.cells #[] 31)
        have own0 : Own KS (wB.alloc (.cells #[] 31)) wB.heap.size (.slice (some ⟨wB.heap.size, 0, none⟩) 0 0) [] := Own.start wB wB.heap.size (Nat.le_refl _)
        have hsX := b6.size
        go_wp2_with fail
        generalize wB.alloc (.cells #[] 31) = w6 at *
        go_loopw [9, 61] (fun s9 s61 W => ∃ (i G mm cc : Nat) (hs : List Hdr), s61 = .int .i64 (i : Int) ∧ i ≤ nC ∧ s9 = .slice (some ⟨G, 0, none⟩) mm cc ∧ HdsX G W hs ((ownL C nC).take i) ∧ Own KS W wB.heap.size (.slice (some ⟨G, 0, none⟩) mm cc) hs ∧ wB.heap.size ≤ W.heap.size ∧ Below wB.heap.size wB W ∧ Hid (∀ t, t < i → (C t).length ≤ 20)) (fun _ v _ => nC - (intOf v).toNat)
        case atStart => exact ⟨0, wB.heap.size, 0, 0, [], rfl, by omega, rfl, by rw [List.take_zero]; exact HdsX.nil _ _, own0, hsX, b6, fun t ht => by omega⟩
        case round =>
          obtain ⟨i, G, mm, cc, hs, rfl, hi, rfl, hds, own, hsW, bl, HLL⟩ := hrel
          clear own0 hsX b6
          have HHL : Hid (hs.length = i) := by
            have := hds.1
            rw [List.length_take, ownL_len] at this
            show _ = _
            omega
          by_cases hlt : i < nC
          · have HI := Lib.hid hlt
            have hnc := HNB.out.2.2
            have HIU := Lib.hid (up_is hlt (show nC ≤ 16777216 by omega))
            have HIV := Lib.hid (up_less hlt (show nC ≤ 16777216 by omega))
            have HIU2 : Hid (Value.int .i64 ((i : Int) + 1) = .int .i64 ((i + 1 : Nat) : Int)) := congrArg (Value.int .i64) (show (i : Int) + 1 = ((i + 1 : Nat) : Int) by omega)
            have HIV2 : Hid (nC - (intOf (Value.int .i64 ((i : Int) + 1))).toNat < nC - (intOf (Value.int .i64 (i : Int))).toNat) := by
              show _ < _
              simp only [intOf]
              omega
            have HTS := Lib.hid (ownL_step C nC hlt)
            have i1 : (i : Int) < (nC : Int) := by omega
            have belW := s5.bel.trans (bl.mono hwx)
            obtain ⟨gc, oc, rfl, hgc, hcc⟩ : ∃ g off, aC = some ⟨g, off, none⟩ ∧ g < w.heap.size ∧ ∀ j, j < nC → ∃ a' c', w.cell? ⟨g, off + j, none⟩ = some (.slice a' (C j).length c') ∧ HoldsE KU w a' (C j) := by
              rcases HC.out with h | h
              · omega
              · exact h
            obtain ⟨a', c', hc1, hc2⟩ := hcc i hlt
            have hc3 := (belW.cell (p := ⟨gc, oc + i, none⟩) hgc).trans hc1
            have hc4 := hc2.below belW
            obtain ⟨n', hn'⟩ : ∃ n', (C i).length = n' := ⟨_, rfl⟩
            rw [hn'] at hc3
            by_cases h20 : 20 < n'
            · have k1 : (20 : Int) < (n' : Int) := by omega
              have HBE := Lib.hid belW
              clear h20 hlt hi hcc hc1 hc2 hc4 hn' hnc belW own hds bl hsW
              go_wp2_with fail
              refine (bfixed_any wr).mono ?_
              rintro e w9 ⟨rfl, b9⟩
              have HB9 := Lib.hid (HBE.out.trans (b9.mono HBE.out.size))
              clear b9
              go_wp2_with fail
              go_ret
              exact ⟨rfl, HB9.out⟩
            · have k1 : ¬ (20 : Int) < (n' : Int) := by omega
              have HLL2 : Hid (∀ t, t < i + 1 → (C t).length ≤ 20) := fun t ht => by
                by_cases e : t = i
                · subst e; omega
                · exact HLL.out t (by omega)
              have d7 := refOfO_any a' c' n' (C i) hn' (by omega) wr hc4
              have hGq := (World.ownsRow.lt own G rfl).2
              have HRM : Hid (hs.length + 1 ≤ 1048576) := by have := HHL.out; show _ ≤ _; omega
              clear h20 hlt hi hcc hc1 hc2 hc4 hn' hnc belW
              go_wp2_with fail
              refine d7.mono ?_
              rintro e w7 ⟨⟨v7, rfl, ov7⟩, b7⟩
              obtain ⟨⟨a2, m2, c2⟩, rfl, hx⟩ := hdX_own ov7 hGq
              have hds7 := hds.below b7
              have own7 := own.below b7
              have hsW7 := Nat.le_trans hsW b7.size
              have bl7 := bl.trans (b7.mono hsW)
              have b8 := (Below.refl w7.heap.size w7).alloc (Nat.le_refl _) (.cells #[.slice a2 m2 c2] 31)
              have hds8 := hds7.below b8
              have hx8 := hx.below b8
              have own8 : Own KS (w7.alloc (.cells #[.slice a2 m2 c2] 31)) wB.heap.size (.slice (some ⟨G, 0, none⟩) mm cc) hs := own7.alloc _
              have hsW8 := Nat.le_trans hsW7 b8.size
              have bl8 := bl7.trans (b8.mono hsW7)
              have cam : CameE KS (w7.alloc (.cells #[.slice a2 m2 c2] 31)) (some ⟨w7.heap.size, 0, none⟩) 1 [(a2, m2, c2)] := CameE.new (K := KS) (a2, m2, c2)
              clear d7 hds own hsW bl b7 ov7 hx hds7 own7 b8 hc3 hGq
              go_wp2_with (at_builtin; refine app_lies okS rfl _ _ rfl wB.heap.size hsW8 _ hs rfl own8 _ 1 1 [(a2, m2, c2)] rfl cam HRM.out (by decide) ?_; intro g' cap' w' own' gr' lies' lt')
              have bG := But.grown gr'
              have hlies : g' = G ∨ g' = (w7.alloc (.cells #[.slice a2 m2 c2] 31)).heap.size := by
                rcases lies' with h | h
                · exact .inl (Option.some.inj h).symm
                · exact .inr h
              have bX : Below wB.heap.size _ w' := (Below.refl wB.heap.size _).grown gr' hsW8 (fun g hg => (World.ownsRow.lt own8 g hg).1)
              have hdsF := (hds8.push hx8).grow bG hlies
              rw [← HTS.out] at hdsF
              have HQ := Lib.hid (And.intro hdsF (And.intro own' (And.intro (Nat.le_trans hsW8 bX.size) (bl8.trans bX))))
              clear hdsF own' bX hlies bG gr' lies' lt' hds8 hx8 own8 hsW8 bl8 cam hsW7 bl7
              go_roundw
              case rel => exact ⟨i + 1, g', _, cap', _, (by first | exact HIU.out | exact HIU2.out), HI.out, rfl, HQ.out.1, HQ.out.2.1, HQ.out.2.2.1, HQ.out.2.2.2, HLL2⟩
              case measure => first | exact HIV.out | exact HIV2.out
          · obtain rfl : nC = i := by omega
            have hLO : HoldsR wr (some ⟨G, 0, none⟩) (ownL C nC) ∧ mm = nC := by
              rw [List.take_of_length_le (by rw [ownL_len]; exact Nat.le_refl _)] at hds
              rcases own.lst with ⟨h1, _⟩ | ⟨g', c', h1, _, _, _, hLs⟩
              · cases h1
              · cases h1
                exact ⟨⟨hs, hds.hds, hLs.holds⟩, HHL.out⟩
            obtain ⟨hO, hmm⟩ := hLO
            rw [hmm]
            have s6 := s5.below bl
            have hE6 := hE5.below bl
            have b9 := (Below.refl wr.heap.size wr).alloc (Nat.le_refl _) (.cells #[.slice ae nL ce, .slice (some ⟨G, 0, none⟩) nC cc] 35)
            have s7 := s6.below b9
            have hE7 := hE6.below b9
            have hO7 := hO.below b9
            have c0 : (wr.alloc (.cells #[.slice ae nL ce, .slice (some ⟨G, 0, none⟩) nC cc] 35)).cell? ⟨wr.heap.size, 0, none⟩ = some (.slice ae nL ce) := by simp [go_sem]
            have c1 : (wr.alloc (.cells #[.slice ae nL ce, .slice (some ⟨G, 0, none⟩) nC cc] 35)).cell? ⟨wr.heap.size, 1, none⟩ = some (.slice (some ⟨G, 0, none⟩) nC cc) := by simp [go_sem]
            have hHl : wr.heap.size < (wr.alloc (.cells #[.slice ae nL ce, .slice (some ⟨G, 0, none⟩) nC cc] 35)).heap.size := by simp
            have HO64 : Hid (∀ E ∈ ownL C nC, E.length ≤ 1048576 ∧ Bits64 E) := by
              intro E hE
              unfold ownL at hE
              obtain ⟨j, hj, rfl⟩ := List.mem_map.1 hE
              rw [List.mem_range] at hj
              exact ⟨by have := HLL.out j hj; rw [bitsOf_len]; omega, bits64_of (HC64.out j hj)⟩
            clear hlt hi hds own hsW bl s5 hE5 hwx hmm hO s6 hE6 b9
            go_wp2_with fail
            obtain ⟨H, hH⟩ : ∃ H, wr.heap.size = H := ⟨_, rfl⟩
            rw [hH] at c0 c1 hHl ⊢
            obtain ⟨wH, hwH⟩ : ∃ wH, wr.alloc (.cells #[.slice ae nL ce, .slice (some ⟨G, 0, none⟩) nC cc] 35) = wH := ⟨_, rfl⟩
            rw [hwH] at c0 c1 hHl s7 hE7 hO7 ⊢
            clear hH hwH
            go_loopw [79] (fun v W => ∃ kk : Nat, v = .int .i64 (kk : Int) ∧ kk ≤ 2 ∧ Below wH.heap.size wH W) (fun v _ => 2 - (intOf v).toNat)
            case atStart => exact ⟨0, rfl, by omega, Below.refl _ _⟩
            case round =>
              obtain ⟨kk, rfl, hk, bel⟩ := hrel
              by_cases hlt : kk < 2
              · have HKL := Lib.hid hlt
                have HKU := Lib.hid (up_is hlt (show 2 ≤ 16777216 by omega))
                have HKV := Lib.hid (up_less hlt (show 2 ≤ 16777216 by omega))
                have HKU2 : Hid (Value.int .i64 ((kk : Int) + 1) = .int .i64 ((kk + 1 : Nat) : Int)) := congrArg (Value.int .i64) (show (kk : Int) + 1 = ((kk + 1 : Nat) : Int) by omega)
                have HKV2 : Hid (2 - (intOf (Value.int .i64 ((kk : Int) + 1))).toNat < 2 - (intOf (Value.int .i64 (kk : Int))).toNat) := by
                  show _ < _
                  simp only [intOf]
                  omega
                obtain ⟨a', n', c', L', hcell, hR', hl', hb'⟩ : ∃ (a' : Option Addr) (n' c' : Nat) (L' : List (List Nat)), wH.cell? ⟨H, kk, none⟩ = some (.slice a' n' c') ∧ HoldsR wH a' L' ∧ L'.length = n' ∧ ∀ E ∈ L', E.length ≤ 1048576 ∧ Bits64 E := by
                  rcases (show kk = 0 ∨ kk = 1 by omega) with h | h
                  · subst h; exact ⟨ae, nL, ce, L, c0, hE7, HNL.out, HL64.out⟩
                  · subst h; exact ⟨some ⟨G, 0, none⟩, nC, cc, ownL C nC, c1, hO7, ownL_len C nC, HO64.out⟩
                have hcell2 := (bel.cell (p := ⟨H, kk, none⟩) hHl).trans hcell
                have s8 := s7.below bel
                have hR8 := hR'.below bel
                have i1 : (kk : Int) < 2 := by omega
                obtain ⟨x0, x1, x2, x3, x4, x5, x6, x7, x8, x9, x10⟩ := s8.on.cells
                clear hcell hlt hk
                by_cases hc : (n' : Int) = q ∧ fitB r q nV = true
                · have d1 := (HOY.out L' n' hl' hb' hc a' c' wr s8.ho hR8).1
                  go_wp2_with fail
                  clear x0 x1 x2 x3 x4 x5 x6 x7 x8 x9 x10 hcell2
                  refine d1.mono ?_
                  rintro e w9 ⟨⟨at1, ct1, rfl, hlt1, _, _, hT1⟩, b9⟩
                  have bl1 := bel.trans (b9.mono bel.size)
                  have bA := lay3_below w9 r q (.slice at1 nV ct1)
                  have MA := lay3_m w9 r q (.slice at1 nV ct1)
                  have bl2 := bl1.trans (bA.mono bl1.size)
                  have s9 := s7.below bl2
                  have hR9 := hR'.below bl2
                  have hT2 := (holds_got hT1).below bA
                  have d2 := (HOY.out L' n' hl' hb' hc a' c' (lay3 w9 r q (.slice at1 nV ct1)) s9.ho hR9).2
                  obtain ⟨y0, y1, y2, y3, y4, y5, y6, y7, y8, y9, y10⟩ := s9.on.cells
                  obtain ⟨X8, hX8⟩ : ∃ X8, w9.heap.size = X8 := ⟨_, rfl⟩
                  rw [hX8] at MA
                  have y0 : (w9.alloc (.cells #[.int .i64 r, .int .i64 q, .slice at1 nV ct1] 42)).cell? ⟨M, 0, none⟩ = some (.int .i64 k) := y0
                  have y1 : (w9.alloc (.cells #[.int .i64 r, .int .i64 q, .slice at1 nV ct1] 42)).cell? ⟨M, 1, none⟩ = some (.int .i64 c) := y1
                  have y2 : (w9.alloc (.cells #[.int .i64 r, .int .i64 q, .slice at1 nV ct1] 42)).cell? ⟨M, 2, none⟩ = some (.int .i64 b) := y2
                  have y3 : (w9.alloc (.cells #[.int .i64 r, .int .i64 q, .slice at1 nV ct1] 42)).cell? ⟨M, 3, none⟩ = some (.int .i64 t) := y3
                  have y4 : (w9.alloc (.cells #[.int .i64 r, .int .i64 q, .slice at1 nV ct1] 42)).cell? ⟨M, 4, none⟩ = some (.int .i64 d) := y4
                  have y5 : (w9.alloc (.cells #[.int .i64 r, .int .i64 q, .slice at1 nV ct1] 42)).cell? ⟨M, 5, none⟩ = some (.int .i64 l) := y5
                  have y6 : (w9.alloc (.cells #[.int .i64 r, .int .i64 q, .slice at1 nV ct1] 42)).cell? ⟨M, 6, none⟩ = some (.int .i64 p) := y6
                  have y7 : (w9.alloc (.cells #[.int .i64 r, .int .i64 q, .slice at1 nV ct1] 42)).cell? ⟨M, 7, none⟩ = some (.int .i64 r) := y7
                  have y8 : (w9.alloc (.cells #[.int .i64 r, .int .i64 q, .slice at1 nV ct1] 42)).cell? ⟨M, 8, none⟩ = some (.int .i64 q) := y8
                  have y9 : (w9.alloc (.cells #[.int .i64 r, .int .i64 q, .slice at1 nV ct1] 42)).cell? ⟨M, 9, none⟩ = some (.slice av nV cv) := y9
                  have y10 : (w9.alloc (.cells #[.int .i64 r, .int .i64 q, .slice at1 nV ct1] 42)).cell? ⟨M, 10, none⟩ = some (.slice ax nx cx) := y10
                  clear d1 b9 bl1 bA s8 hR8
                  unfold mx
                  go_wp2_with fail
                  change Calls _ _ _ (lay3 w9 r q (.slice at1 nV ct1)) _
                  generalize lay3 w9 r q (.slice at1 nV ct1) = wA at *
                  clear hX8 y0 y1 y2 y3 y4 y5 y6 y7 y8 y9 y10 s9 hR9
                  refine d2.mono ?_
                  rintro e wC ⟨⟨at2, ct2, rfl, hlt2, _, _, hU1⟩, bC⟩
                  have bl3 := bl2.trans (bC.mono bl2.size)
                  have MA3 := MA.on bC
                  have bD := lay3_below wC r q (.slice at2 nV ct2)
                  have MD := lay3_m wC r q (.slice at2 nV ct2)
                  have bl4 := bl3.trans (bD.mono bl3.size)
                  have MA4 := MA3.on bD
                  have hT4 := (hT2.below bC).below bD
                  have hU4 := (holds_got hU1).below bD
                  obtain ⟨X9, hX9⟩ : ∃ X9, wC.heap.size = X9 := ⟨_, rfl⟩
                  rw [hX9] at MD
                  obtain ⟨_, f0, f1, f2, _, _, _⟩ := MA4
                  have f0 : (wC.alloc (.cells #[.int .i64 r, .int .i64 q, .slice at2 nV ct2] 42)).cell? ⟨X8, 0, none⟩ = some (.int .i64 r) := f0
                  have f1 : (wC.alloc (.cells #[.int .i64 r, .int .i64 q, .slice at2 nV ct2] 42)).cell? ⟨X8, 1, none⟩ = some (.int .i64 q) := f1
                  have f2 : (wC.alloc (.cells #[.int .i64 r, .int .i64 q, .slice at2 nV ct2] 42)).cell? ⟨X8, 2, none⟩ = some (.slice at1 nV ct1) := f2
                  clear d2 bC bl2 bl3 MA MA3 bD
                  unfold mx
                  go_wp2_with fail
                  change Calls _ _ _ (lay3 wC r q (.slice at2 nV ct2)) _
                  generalize lay3 wC r q (.slice at2 nV ct2) = wE at *
                  clear f0 f1 f2 hX9 MD
                  refine (sameM_any r q r q at1 at2 nV nV ct1 ct2 (cellsL F r.toNat L') (cellsL F r.toNat L') hlt1 hlt1 (by have := HNB.out.1; omega) wE hT4 hU4).mono ?_
                  rintro e wF ⟨rfl, bF⟩
                  rw [show decide (SameM r q (cellsL F r.toNat L') r q (cellsL F r.toNat L')) = true from decide_eq_true ⟨rfl, rfl, rfl⟩]
                  have HBF := Lib.hid (bl4.trans (bF.mono bl4.size))
                  clear bF bl4 hT4 hU4 hc hl' hb' hT1 hU1 hlt1 hlt2 hT2
                  go_wp2_with fail
                  go_roundw
                  case rel => exact ⟨kk + 1, (by first | exact HKU.out | exact HKU2.out), HKL.out, HBF.out⟩
                  case measure => first | exact HKV.out | exact HKV2.out
                · have d1 := (HON.out n' hc a' c' wr).1
                  go_wp2_with fail
                  clear x0 x1 x2 x3 x4 x5 x6 x7 x8 x9 x10 hcell2
                  refine d1.mono ?_
                  rintro e w9 ⟨rfl, b9⟩
                  have bl1 := bel.trans (b9.mono bel.size)
                  have bA := lay3_below w9 0 0 (.slice none 0 0)
                  have MA := lay3_m w9 0 0 (.slice none 0 0)
                  have bl2 := bl1.trans (bA.mono bl1.size)
                  have s9 := s7.below bl2
                  have hR9 := hR'.below bl2
                  have d2 := (HON.out n' hc a' c' (lay3 w9 0 0 (.slice none 0 0))).2
                  obtain ⟨y0, y1, y2, y3, y4, y5, y6, y7, y8, y9, y10⟩ := s9.on.cells
                  obtain ⟨X8, hX8⟩ : ∃ X8, w9.heap.size = X8 := ⟨_, rfl⟩
                  rw [hX8] at MA
                  have y0 : (w9.alloc (.cells #[.int .i64 0, .int .i64 0, .slice none 0 0] 42)).cell? ⟨M, 0, none⟩ = some (.int .i64 k) := y0
                  have y1 : (w9.alloc (.cells #[.int .i64 0, .int .i64 0, .slice none 0 0] 42)).cell? ⟨M, 1, none⟩ = some (.int .i64 c) := y1
                  have y2 : (w9.alloc (.cells #[.int .i64 0, .int .i64 0, .slice none 0 0] 42)).cell? ⟨M, 2, none⟩ = some (.int .i64 b) := y2
                  have y3 : (w9.alloc (.cells #[.int .i64 0, .int .i64 0, .slice none 0 0] 42)).cell? ⟨M, 3, none⟩ = some (.int .i64 t) := y3
                  have y4 : (w9.alloc (.cells #[.int .i64 0, .int .i64 0, .slice none 0 0] 42)).cell? ⟨M, 4, none⟩ = some (.int .i64 d) := y4
                  have y5 : (w9.alloc (.cells #[.int .i64 0, .int .i64 0, .slice none 0 0] 42)).cell? ⟨M, 5, none⟩ = some (.int .i64 l) := y5
                  have y6 : (w9.alloc (.cells #[.int .i64 0, .int .i64 0, .slice none 0 0] 42)).cell? ⟨M, 6, none⟩ = some (.int .i64 p) := y6
                  have y7 : (w9.alloc (.cells #[.int .i64 0, .int .i64 0, .slice none 0 0] 42)).cell? ⟨M, 7, none⟩ = some (.int .i64 r) := y7
                  have y8 : (w9.alloc (.cells #[.int .i64 0, .int .i64 0, .slice none 0 0] 42)).cell? ⟨M, 8, none⟩ = some (.int .i64 q) := y8
                  have y9 : (w9.alloc (.cells #[.int .i64 0, .int .i64 0, .slice none 0 0] 42)).cell? ⟨M, 9, none⟩ = some (.slice av nV cv) := y9
                  have y10 : (w9.alloc (.cells #[.int .i64 0, .int .i64 0, .slice none 0 0] 42)).cell? ⟨M, 10, none⟩ = some (.slice ax nx cx) := y10
                  clear d1 b9 bl1 bA s8 hR8
                  unfold mx
                  go_wp2_with fail
                  change Calls _ _ _ (lay3 w9 0 0 (.slice none 0 0)) _
                  generalize lay3 w9 0 0 (.slice none 0 0) = wA at *
                  clear hX8 y0 y1 y2 y3 y4 y5 y6 y7 y8 y9 y10 s9 hR9
                  refine d2.mono ?_
                  rintro e wC ⟨rfl, bC⟩
                  have bl3 := bl2.trans (bC.mono bl2.size)
                  have MA3 := MA.on bC
                  have bD := lay3_below wC 0 0 (.slice none 0 0)
                  have MD := lay3_m wC 0 0 (.slice none 0 0)
                  have bl4 := bl3.trans (bD.mono bl3.size)
                  have MA4 := MA3.on bD
                  obtain ⟨X9, hX9⟩ : ∃ X9, wC.heap.size = X9 := ⟨_, rfl⟩
                  rw [hX9] at MD
                  obtain ⟨_, f0, f1, f2, _, _, _⟩ := MA4
                  have f0 : (wC.alloc (.cells #[.int .i64 0, .int .i64 0, .slice none 0 0] 42)).cell? ⟨X8, 0, none⟩ = some (.int .i64 0) := f0
                  have f1 : (wC.alloc (.cells #[.int .i64 0, .int .i64 0, .slice none 0 0] 42)).cell? ⟨X8, 1, none⟩ = some (.int .i64 0) := f1
                  have f2 : (wC.alloc (.cells #[.int .i64 0, .int .i64 0, .slice none 0 0] 42)).cell? ⟨X8, 2, none⟩ = some (.slice none 0 0) := f2
                  clear d2 bC bl2 bl3 MA MA3 bD
                  unfold mx
                  go_wp2_with fail
                  change Calls _ _ _ (lay3 wC 0 0 (.slice none 0 0)) _
                  generalize lay3 wC 0 0 (.slice none 0 0) = wE at *
                  clear f0 f1 f2 hX9 MD
                  refine (sameM_any 0 0 0 0 none none 0 0 0 0 [] [] rfl rfl (by decide) wE (.inl rfl) (.inl rfl)).mono ?_
                  rintro e wF ⟨rfl, bF⟩
                  rw [show decide (SameM 0 0 [] 0 0 []) = true from decide_eq_true ⟨rfl, rfl, rfl⟩]
                  have HBF := Lib.hid (bl4.trans (bF.mono bl4.size))
                  clear bF bl4 hc hl' hb'
                  go_wp2_with fail
                  go_roundw
                  case rel => exact ⟨kk + 1, (by first | exact HKU.out | exact HKU2.out), HKL.out, HBF.out⟩
                  case measure => first | exact HKV.out | exact HKV2.out
              · obtain rfl : kk = 2 := by omega
                have HBE := Lib.hid (s7.below bel).bel
                clear hlt hk bel s7 hE7 hO7
                go_wp2_with fail
                refine (bfixed_any wr).mono ?_
                rintro e w9 ⟨rfl, b9⟩
                have HB9 := Lib.hid (HBE.out.trans (b9.mono HBE.out.size))
                clear b9
                go_wp2_with fail
                go_ret
                exact ⟨rfl, HB9.out⟩
end Go.Proofs.Ytjaogmbeoldefaa
