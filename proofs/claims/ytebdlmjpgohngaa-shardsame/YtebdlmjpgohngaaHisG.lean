/-
  HISTOGRAMS: hist.Merge and hist.Less: two histograms made one, number by number. Conditions: each number is of 64 bits with a sign; no more than 2^20 of them.
-/
import Derived.Test.YtebdlmjpgohngaaHisF
namespace Go.Proofs.Ytebdlmjpgohngaa
open Go.RowKit

theorem VarH.five {g : Nat} {k b c : Int} {C M : Value} {w : World} (h : VarH g k b c C M w) : w.cell? ⟨g, 0, none⟩ = some (.int .i64 k) ∧ w.cell? ⟨g, 1, none⟩ = some (.int .i64 b) ∧ w.cell? ⟨g, 2, none⟩ = some (.int .i64 c) ∧ w.cell? ⟨g, 3, none⟩ = some C ∧ w.cell? ⟨g, 4, none⟩ = some M :=
  ⟨h.c0, h.c1, h.c2, h.c3, h.c4⟩
theorem VarH.soft {g : Nat} {k b c : Int} {C M : Value} {w : World} (h : VarH g k b c C M w) : w.frozen? ⟨g, 0, none⟩ = false ∧ w.frozen? ⟨g, 1, none⟩ = false ∧ w.frozen? ⟨g, 2, none⟩ = false ∧ w.frozen? ⟨g, 3, none⟩ = false ∧ w.frozen? ⟨g, 4, none⟩ = false :=
  ⟨h.f0, h.f1, h.f2, h.f3, h.f4⟩

theorem HoldsE.cells {w : World} {a : Option Addr} {l : List Int} (h : HoldsE KL w a l) (h0 : l.length ≠ 0) : ∃ g off, a = some ⟨g, off, none⟩ ∧ g < w.heap.size ∧ ∀ j, j < l.length → w.cell? ⟨g, off + j, none⟩ = some (.int .i64 (l.getD j 0)) := by
  rcases h with rfl | h
  · exact absurd rfl h0
  · exact h

/-- Combine of two rows that are only read, into one that is made. -/
theorem combL_holds (F : Nat) (V E : Int → Int → Int) (hF : Way F V E) (gi n ci na ca nb cb : Nat) (a b : Option Addr) (l A B : List Int) (hl : l.length = n) (hn : n ≤ 1048576) (hna : na = n) (hnb : nb = n) (hA : A.length = n) (hB : B.length = n) (w0 w : World)
    (hI : Lst KL gi 0 l w) (h1 : HoldsE KL w0 a A) (h2 : HoldsE KL w0 b B) (hw : Below w0.heap.size w0 w) (hg : w0.heap.size ≤ gi) (wA : Wholes A) (wB : Wholes B) :
    Calls Try.prog 53 #[.slice (some ⟨gi, 0, none⟩) n ci, .slice a na ca, .slice b nb cb, .func (.func F) #[] #[]] w fun e w' =>
      CombP (fun j => E (A.getD j 0) (B.getD j 0)) (fun j => V (A.getD j 0) (B.getD j 0)) gi 0 n l w e w' := by
  by_cases h0 : n = 0
  · subst h0
    refine (combL_nil _ _ _ _ _ w).mono ?_
    rintro e w' ⟨rfl, rfl⟩
    exact ⟨0, 0, rfl, Ran.none _, hI, But.refl _ _, Outs.refl _ _ _ _⟩
  · obtain ⟨ga, oa, rfl, ha, cA⟩ := h1.cells (by omega)
    obtain ⟨gb, ob, rfl, hb, cB⟩ := h2.cells (by omega)
    exact combL_any F V E hF gi 0 ga oa gb ob n ci na ca nb cb l _ _ hl hn (by omega) (by omega) w hI (fun j hj => (hw.cell (by exact ha)).trans (cA j (by omega))) (Nat.lt_of_lt_of_le hb hw.size) (fun j hj => (hw.cell (by exact hb)).trans (cB j (by omega)))
      (.inl (by omega)) (by omega) (fun j hj => wA j (by omega)) (fun j hj => wB j (by omega))
theorem combM_holds (F : Nat) (V0 V1 V2 E0 E1 E2 : Int → Int → Int) (hF : WayM F V0 V1 V2 E0 E1 E2) (gi n ci na ca nb cb : Nat) (a b : Option Addr) (l A B : List Int) (hl : l.length = n * 3) (hn : n ≤ 1048576) (hna : na = n) (hnb : nb = n) (hA : A.length = n * 3) (hB : B.length = n * 3) (w0 w : World)
    (hI : Lst KL gi 0 l w) (h1 : HoldsE KL w0 a A) (h2 : HoldsE KL w0 b B) (hw : Below w0.heap.size w0 w) (hg : w0.heap.size ≤ gi) (wA : Wholes A) (wB : Wholes B) :
    Calls Try.prog 63 #[.slice (some ⟨gi, 0, none⟩) n ci, .slice a na ca, .slice b nb cb, .func (.func F) #[] #[]] w fun e w' =>
      CombM (mmE E0 E1 E2 (fun j => A.getD j 0) (fun j => B.getD j 0)) (mmV V0 V1 V2 (fun j => A.getD j 0) (fun j => B.getD j 0)) gi 0 n l w e w' := by
  by_cases h0 : n = 0
  · subst h0
    refine (combM_nil _ _ _ _ _ w).mono ?_
    rintro e w' ⟨rfl, rfl⟩
    exact ⟨0, 0, rfl, Ran.none _, hI, But.refl _ _, Outs.refl _ _ _ _⟩
  · obtain ⟨ga, oa, rfl, ha, cA⟩ := h1.cells (by omega)
    obtain ⟨gb, ob, rfl, hb, cB⟩ := h2.cells (by omega)
    exact combM_any F V0 V1 V2 E0 E1 E2 hF gi 0 ga oa gb ob n ci na ca nb cb l _ _ hl hn (by omega) (by omega) w hI (Nat.lt_of_lt_of_le ha hw.size) (fun j hj => (hw.cell (by exact ha)).trans (cA j (by omega))) (Nat.lt_of_lt_of_le hb hw.size) (fun j hj => (hw.cell (by exact hb)).trans (cB j (by omega)))
      (.inl (by omega)) (by omega) (fun j hj => wA j (by omega)) (fun j hj => wB j (by omega))

/-- Ways: what they make of counts, and of moments. -/
structure Ways where
  V : Int → Int → Int
  E : Int → Int → Int
  V0 : Int → Int → Int
  V1 : Int → Int → Int
  E0 : Int → Int → Int
  E1 : Int → Int → Int
def plusW : Ways := ⟨plV, plE, plV, plV, plE, plE⟩
def lessW : Ways := ⟨lfV, lfE, lfV, miV, lfE, miE⟩
def at_ (l : List Int) (j : Nat) : Int := l.getD j 0
/-- The errors of the counts, of the moments; what comes of them. -/
def Ways.ec (W : Ways) (a b : HD) : Int := firstE (fun j => W.E (a.lc.getD j 0) (b.lc.getD j 0)) a.lc.length
def Ways.em (W : Ways) (a b : HD) : Int := firstE (mmE W.E0 W.E1 W.E0 (fun j => a.lm.getD j 0) (fun j => b.lm.getD j 0)) (a.lm.length / 3)
def Ways.lc (W : Ways) (a b : HD) : List Int := mapN (fun j => W.V (a.lc.getD j 0) (b.lc.getD j 0)) a.lc.length
def Ways.lm (W : Ways) (a b : HD) : List Int := mapN (mmV W.V0 W.V1 W.V0 (fun j => a.lm.getD j 0) (fun j => b.lm.getD j 0)) a.lm.length
def bothE (W : Ways) (a b : HD) : Int := if likeD a b = false then 8 else if W.ec a b = 0 then W.em a b else W.ec a b
def bothD (W : Ways) (a b : HD) : HD := if bothE W a b = 0 then ⟨a.k, a.b, a.c, W.lc a b, W.lm a b⟩ else zD

/-- What is made of both is handed back. -/
def Made (d : HD) (err : Int) (w : World) (e : Ending) (w' : World) : Prop := ∃ v, e = .returned (.tuple #[v, .int .i64 err]) ∧ Is w.heap.size d w' v ∧ Below w.heap.size w w'

/-- A whole number if there is no error. -/
structure Ways.Fine (W : Ways) : Prop where
  v : ∀ x y, W.E x y = 0 → Whole (W.V x y)
  v0 : ∀ x y, W.E0 x y = 0 → Whole (W.V0 x y)
  v1 : ∀ x y, W.E1 x y = 0 → Whole (W.V1 x y)
theorem fitV_whole (s : Int) : Whole (fitV s) := by unfold fitV Whole; split <;> omega
theorem leV_whole (s : Int) : Whole (leV s) := by unfold leV; split; exact fitV_whole s; exact ⟨by omega, by omega⟩
theorem plusW_fine : plusW.Fine := ⟨fun _ _ _ => fitV_whole _, fun _ _ _ => fitV_whole _, fun _ _ _ => fitV_whole _⟩
theorem lessW_fine : lessW.Fine := ⟨fun _ _ _ => leV_whole _, fun _ _ _ => leV_whole _, fun _ _ _ => fitV_whole _⟩

theorem likeD_true {a b : HD} (h : likeD a b = true) : rightD a = true ∧ rightD b = true ∧ a.k = b.k ∧ a.b = b.b ∧ a.c = b.c := by
  unfold likeD at h
  simp at h
  exact h
theorem rightD_true {a : HD} (h : rightD a = true) : 0 < lenC a.k a.b a.c + lenM a.k a.b a.c ∧ (a.lc.length : Int) = lenC a.k a.b a.c ∧ (a.lm.length : Int) = lenM a.k a.b a.c * 3 := by
  unfold rightD at h
  simpa using h

theorem or3_zero {x y z : Int} : or3 x y z = 0 ↔ x = 0 ∧ y = 0 ∧ z = 0 := by
  unfold or3
  constructor
  · intro h
    split at h
    · exact absurd h ‹_›
    · split at h
      · exact absurd h ‹_›
      · exact ⟨by omega, by omega, h⟩
  · rintro ⟨rfl, rfl, rfl⟩; rfl
theorem Ways.lc_whole {W : Ways} (f : W.Fine) {a b : HD} (h : W.ec a b = 0) : Wholes (W.lc a b) := by
  intro j hj
  unfold Ways.lc at hj ⊢
  rw [mapN_len] at hj
  rw [mapN_get _ hj]
  exact f.v _ _ (firstE_zero.1 h j hj)
theorem Ways.lm_whole {W : Ways} (f : W.Fine) {a b : HD} {n : Nat} (hn : a.lm.length = n * 3) (h : W.em a b = 0) : Wholes (W.lm a b) := by
  intro j hj
  unfold Ways.lm at hj ⊢
  rw [mapN_len] at hj
  rw [mapN_get _ hj]
  have := firstE_zero.1 h (j / 3) (by omega)
  unfold mmE at this
  obtain ⟨e0, e1, e2⟩ := or3_zero.1 this
  unfold mmV
  split
  · have hj3 : j / 3 * 3 = j := by omega
    rw [hj3] at e0
    exact f.v0 _ _ e0
  · split
    · have hj3 : j / 3 * 3 + 1 = j := by omega
      rw [hj3] at e1
      exact f.v1 _ _ e1
    · have hj3 : j / 3 * 3 + 2 = j := by omega
      rw [hj3] at e2
      exact f.v0 _ _ e2

set_option maxHeartbeats 1000000 in
theorem both_any (F G : Nat) (W : Ways) (hF : Way F W.V W.E) (hG : WayM G W.V0 W.V1 W.V0 W.E0 W.E1 W.E0) (hf : W.Fine) (a a' : HD) (ac am ac' am' : Option Addr) (nc cc nm cm nc' cc' nm' cm' : Nat) (w : World) (h : Reads a ac nc am nm w) (h' : Reads a' ac' nc' am' nm' w) :
    Calls Try.prog 60 #[.agg #[.int .i64 a.k, .int .i64 a.b, .int .i64 a.c, .slice ac nc cc, .slice am nm cm], .agg #[.int .i64 a'.k, .int .i64 a'.b, .int .i64 a'.c, .slice ac' nc' cc', .slice am' nm' cm'], .func (.func F) #[] #[], .func (.func G) #[] #[]] w fun e w' =>
      Made (bothD W a a') (bothE W a a') w e w' := by
  have eF := hF.enter
  have eG := hG.enter
  have rL := fun w1 => alike_any a a' ac am ac' am' nc cc nm cm nc' cc' nm' cm' w w1 h h'
  have bA := VarH.new w a.k a.b a.c (.slice ac nc cc) (.slice am nm cm) 45
  obtain ⟨W1, hW1⟩ : ∃ W1, w.alloc (.cells #[.int .i64 a.k, .int .i64 a.b, .int .i64 a.c, .slice ac nc cc, .slice am nm cm] 45) = W1 := ⟨_, rfl⟩
  rw [hW1] at bA
  have s1 : W1.heap.size = w.heap.size + 1 := by rw [← hW1]; simp
  have bB := VarH.new W1 a'.k a'.b a'.c (.slice ac' nc' cc') (.slice am' nm' cm') 45
  obtain ⟨W2, hW2⟩ : ∃ W2, W1.alloc (.cells #[.int .i64 a'.k, .int .i64 a'.b, .int .i64 a'.c, .slice ac' nc' cc', .slice am' nm' cm'] 45) = W2 := ⟨_, rfl⟩
  rw [hW2, s1] at bB
  have s2 : W2.heap.size = w.heap.size + 1 + 1 := by rw [← hW2]; simp [s1]
  have bR := VarH.new W2 0 0 0 (.slice none 0 0) (.slice none 0 0) 45
  obtain ⟨W3, hW3⟩ : ∃ W3, W2.alloc (.cells #[.int .i64 0, .int .i64 0, .int .i64 0, .slice none 0 0, .slice none 0 0] 45) = W3 := ⟨_, rfl⟩
  rw [hW3, s2] at bR
  have s3 : W3.heap.size = w.heap.size + 1 + 1 + 1 := by rw [← hW3]; simp [s2]
  replace bB := bB.below (hW3 ▸ alloc_below W2 _) (by omega)
  replace bA := (bA.below (hW2 ▸ alloc_below W1 _) (by omega)).below (hW3 ▸ alloc_below W2 _) (by omega)
  have hB0 : Below w.heap.size w W3 := by
    have := alloc3_below w (.cells #[.int .i64 a.k, .int .i64 a.b, .int .i64 a.c, .slice ac nc cc, .slice am nm cm] 45) (.cells #[.int .i64 a'.k, .int .i64 a'.b, .int .i64 a'.c, .slice ac' nc' cc', .slice am' nm' cm'] 45) (.cells #[.int .i64 0, .int .i64 0, .int .i64 0, .slice none 0 0, .slice none 0 0] 45)
    rw [hW1, hW2, hW3] at this
    exact this
  go_enter Try.func60, Try.ntmps60
  go_upto_region 1 with fail
  clear hW1 hW2 hW3 s1 s2
  obtain ⟨a0, a1, a2, a3, a4⟩ := bA.five
  obtain ⟨b0, b1, b2, b3, b4⟩ := bB.five
  have HS3 := Lib.hid s3
  clear s3
  go_wp2_with fail
  refine (rL _).mono ?_
  rintro e W4 ⟨rfl, c4⟩
  replace bA := bA.below c4 bA.lt
  replace bB := bB.below c4 bB.lt
  replace bR := bR.below c4 bR.lt
  replace hB0 := hB0.trans (c4.mono hB0.size)
  have s4 : w.heap.size + 1 + 1 + 1 ≤ W4.heap.size := by have := c4.size; have := HS3.out; omega
  clear a0 a1 a2 a3 a4 b0 b1 b2 b3 b4 c4 HS3 rL W1 W2 W3
  cases hl : likeD a a'
  · have HE : Hid (bothE W a a' = 8) := if_pos hl
    have HD : Hid (bothD W a a' = zD) := if_neg (by rw [HE.out]; decide)
    obtain ⟨r0, r1, r2, r3, r4⟩ := bR.five
    obtain ⟨k0, k1, k2, k3, k4⟩ := bR.soft
    clear hl bA bB
    go_wp2_with fail
    obtain ⟨d0, d1, d2, d3, d4⟩ := (bR.set 0 0 0 (.slice none 0 0) (.slice none 0 0)).five
    have HBW := set5_below (g := w.heap.size + 1 + 1) (x0 := .int .i64 0) (x1 := .int .i64 0) (x2 := .int .i64 0) (x3 := (.slice none 0 0)) (x4 := (.slice none 0 0)) hB0 (by omega)
    have HBT := set5_but W4 (w.heap.size + 1 + 1) (.int .i64 0) (.int .i64 0) (.int .i64 0) (.slice none 0 0) (.slice none 0 0)
    change bodyPost _ _ _ _ _ (set5 W4 (w.heap.size + 1 + 1) (.int .i64 0) (.int .i64 0) (.int .i64 0) (.slice none 0 0) (.slice none 0 0))
    generalize set5 W4 (w.heap.size + 1 + 1) (.int .i64 0) (.int .i64 0) (.int .i64 0) (.slice none 0 0) (.slice none 0 0) = WX at *
    simp [bodyPost, results, Try.results60, go_sem, d0, d1, d2, d3, d4]
    rw [HE.out, HD.out]
    exact ⟨_, rfl, Is.zero _ _, HBW⟩
  · obtain ⟨hr, hr', hk, hb, hc⟩ := likeD_true hl
    obtain ⟨p0, p1, p2⟩ := rightD_true hr
    obtain ⟨p0', p1', p2'⟩ := rightD_true hr'
    rw [← hk, ← hb, ← hc] at p0' p1' p2'
    have in1 := lenC_in a.k a.b a.c
    have in2 := lenM_in a.k a.b a.c
    have n1 := h.nc
    have n2 := h.nm
    have n3 := h'.nc
    have n4 := h'.nm
    have hp : lenC a.k a.b a.c = nc := by omega
    have hq : lenM a.k a.b a.c = nm := by omega
    obtain rfl : nc' = nc := by omega
    obtain rfl : nm' = nm := by omega
    have hN := fun w => new_yes a.k a.b a.c nc' nm' hp hq (by omega) w
    have HN1 : Hid (nc' ≤ 1048576) := by show _ ≤ _; omega
    have HN2 : Hid (nm' ≤ 1048576) := by show _ ≤ _; omega
    have HE1 : Hid (W.ec a a' ≠ 0 → bothE W a a' = W.ec a a') := by
      intro h0
      unfold bothE; rw [if_neg (by rw [hl]; decide), if_neg h0]
    have HE2 : Hid (W.ec a a' = 0 → bothE W a a' = W.em a a') := by
      intro h0
      unfold bothE; rw [if_neg (by rw [hl]; decide), if_pos h0]
    clear p0 p1 p2 p0' p1' p2' in1 in2 n1 n2 n3 n4 hp hq hl hr hr' hk hb hc
    have HS4 := Lib.hid s4
    obtain ⟨a0, a1, a2, a3, a4⟩ := bA.five
    go_wp2_with fail
    refine (hN _).mono ?_
    rintro e W5 ⟨g, m, rfl, hG1, hM1, hg, hm, hgm, c5⟩
    replace bA := bA.below c5 bA.lt
    replace bB := bB.below c5 bB.lt
    replace bR := bR.below c5 bR.lt
    have hB5 := Lib.hid (hB0.trans (c5.mono hB0.size))
    have bH := VarH.new W5 a.k a.b a.c (.slice (some ⟨g, 0, none⟩) nc' nc') (.slice (some ⟨m, 0, none⟩) nm' nm') 45
    clear a0 a1 a2 a3 a4 hN c5 hB0
    go_upto_region 4 with fail
    have c6 := alloc_below W5 (.cells #[.int .i64 a.k, .int .i64 a.b, .int .i64 a.c, .slice (some ⟨g, 0, none⟩) nc' nc', .slice (some ⟨m, 0, none⟩) nm' nm'] 45)
    generalize W5.alloc (.cells #[.int .i64 a.k, .int .i64 a.b, .int .i64 a.c, .slice (some ⟨g, 0, none⟩) nc' nc', .slice (some ⟨m, 0, none⟩) nm' nm'] 45) = W6 at *
    have l1 := hG1.lt
    have l2 := hM1.lt
    replace bA := bA.below c6 bA.lt
    replace bB := bB.below c6 bB.lt
    replace bR := bR.below c6 bR.lt
    replace hG1 := hG1.below c6 l1
    replace hM1 := hM1.below c6 l2
    replace hB5 := Lib.hid (hB5.out.trans (c6.mono hB5.out.size))
    obtain ⟨H, hH⟩ : ∃ H, W5.heap.size = H := ⟨_, rfl⟩
    rw [hH] at bH l1 l2
    rw [hH]
    have hgw : w.heap.size + 1 + 1 < g := by have := HS4.out; omega
    have hmw : w.heap.size + 1 + 1 < m := by have := HS4.out; omega
    have q1 := combL_holds F W.V W.E hF g nc' nc' nc' cc nc' cc' ac ac' (List.replicate nc' 0) a.lc a'.lc (by simp) HN1.out rfl rfl h.nc h'.nc w W6 hG1 h.hc h'.hc hB5.out (by omega) h.wc h'.wc
    have HGW := Lib.hid (And.intro hgw hmw)
    have HGM := Lib.hid hgm
    have HLL := Lib.hid (And.intro l1 l2)
    clear hgw hmw hgm l1 l2 hg hm c6 hH s4 hG1 W5
    obtain ⟨a0, a1, a2, a3, a4⟩ := bA.five
    obtain ⟨b0, b1, b2, b3, b4⟩ := bB.five
    obtain ⟨x0, x1, x2, x3, x4⟩ := bH.five
    go_wp2_with fail
    refine q1.mono ?_
    rintro e W7 ⟨k1, e1, rfl, hran1, hL1, hb1, _⟩
    replace bA := bA.but hb1 (by have := HGW.out; omega)
    replace bB := bB.but hb1 (by have := HGW.out; omega)
    replace bR := bR.but hb1 (by have := HGW.out; omega)
    replace bH := bH.but hb1 (by have := HLL.out; omega)
    replace hM1 := hM1.but hb1 (Ne.symm HGM.out)
    replace hB5 := Lib.hid (hB5.out.trans (hb1.below (by have := HGW.out; omega) hB5.out.size))
    clear a0 a1 a2 a3 a4 b0 b1 b2 b3 b4 x0 x1 x2 x3 x4 q1 hb1
    have he1 : Hid (W.ec a a' = e1) := by
      show _ = _
      unfold Ways.ec; rw [h.nc]; exact hran1.first.symm
    by_cases z1 : e1 = 0
    · subst z1
      have q2 := combM_holds G W.V0 W.V1 W.V0 W.E0 W.E1 W.E0 hG m nm' nm' nm' cm nm' cm' am am' (List.replicate (nm' * 3) 0) a.lm a'.lm (by simp) HN2.out rfl rfl h.nm h'.nm w W7 hM1 h.hm h'.hm hB5.out (by have := HGW.out; omega) h.wm h'.wm
      obtain ⟨a0, a1, a2, a3, a4⟩ := bA.five
      obtain ⟨b0, b1, b2, b3, b4⟩ := bB.five
      obtain ⟨x0, x1, x2, x3, x4⟩ := bH.five
      obtain rfl : k1 = nc' := hran1.whole
      have HL1 := Lib.hid hL1
      have HE2' := Lib.hid (HE2.out he1.out)
      clear hM1 hL1
      go_wp2_with fail
      refine q2.mono ?_
      rintro e W8 ⟨k2, e2, rfl, hran2, hL2, hb2, _⟩
      replace bR := bR.but hb2 (by have := HGW.out; omega)
      replace bH := bH.but hb2 (by have := HLL.out; omega)
      replace HL1 := Lib.hid (HL1.out.but hb2 HGM.out)
      replace hB5 := Lib.hid (hB5.out.trans (hb2.below (by have := HGW.out; omega) hB5.out.size))
      clear a0 a1 a2 a3 a4 b0 b1 b2 b3 b4 x0 x1 x2 x3 x4 q2 hb2 bA bB
      have he2 : Hid (W.em a a' = e2) := by
        show _ = _
        unfold Ways.em; rw [h.nm, Nat.mul_div_cancel _ (by decide)]; exact hran2.first.symm
      have HE : Hid (bothE W a a' = e2) := HE2'.out.trans he2.out
      obtain ⟨r0, r1, r2, r3, r4⟩ := bR.five
      obtain ⟨y0, y1, y2, y3, y4⟩ := bR.soft
      have hB0 := hB5.out
      by_cases z2 : e2 = 0
      · subst z2
        have HD : Hid (bothD W a a' = ⟨a.k, a.b, a.c, W.lc a a', W.lm a a'⟩) := if_pos HE.out
        obtain rfl : k2 = nm' := hran2.whole
        obtain ⟨x0, x1, x2, x3, x4⟩ := bH.five
        have HX : Hid (∀ W', Below W8.heap.size W8 W' ∨ But (w.heap.size + 1 + 1) W8 W' → Reads ⟨a.k, a.b, a.c, W.lc a a', W.lm a a'⟩ (some ⟨g, 0, none⟩) k1 (some ⟨m, 0, none⟩) k2 W') := by
          intro W' hW'
          have L1 := HL1.out
          have L2 := hL2
          rw [mixL_all _ _ (by simp)] at L1 L2
          have k1' : Lst KL g 0 (W.lc a a') W8 := by unfold Ways.lc; rw [h.nc]; exact L1
          have k2' : Lst KL m 0 (W.lm a a') W8 := by unfold Ways.lm; rw [h.nm]; exact L2
          have := HGW.out
          have k3 : Lst KL g 0 (W.lc a a') W' := by rcases hW' with h | h; exact k1'.below h k1'.lt; exact k1'.but h (by omega)
          have k4 : Lst KL m 0 (W.lm a a') W' := by rcases hW' with h | h; exact k2'.below h k2'.lt; exact k2'.but h (by omega)
          exact ⟨by show (W.lc a a').length = _; unfold Ways.lc; rw [mapN_len]; exact h.nc, by show (W.lm a a').length = _; unfold Ways.lm; rw [mapN_len]; exact h.nm, k3.holds, k4.holds, W.lc_whole hf he1.out, W.lm_whole hf h.nm he2.out⟩
        clear bH hran1 hran2 hL2
        go_wp2_with fail
        obtain ⟨d0, d1, d2, d3, d4⟩ := (bR.set a.k a.b a.c (.slice (some ⟨g, 0, none⟩) k1 k1) (.slice (some ⟨m, 0, none⟩) k2 k2)).five
        have HBW := set5_below (g := w.heap.size + 1 + 1) (x0 := .int .i64 a.k) (x1 := .int .i64 a.b) (x2 := .int .i64 a.c) (x3 := (.slice (some ⟨g, 0, none⟩) k1 k1)) (x4 := (.slice (some ⟨m, 0, none⟩) k2 k2)) hB0 (by omega)
        have HBT := set5_but W8 (w.heap.size + 1 + 1) (.int .i64 a.k) (.int .i64 a.b) (.int .i64 a.c) (.slice (some ⟨g, 0, none⟩) k1 k1) (.slice (some ⟨m, 0, none⟩) k2 k2)
        change bodyPost _ _ _ _ _ (set5 W8 (w.heap.size + 1 + 1) (.int .i64 a.k) (.int .i64 a.b) (.int .i64 a.c) (.slice (some ⟨g, 0, none⟩) k1 k1) (.slice (some ⟨m, 0, none⟩) k2 k2))
        generalize set5 W8 (w.heap.size + 1 + 1) (.int .i64 a.k) (.int .i64 a.b) (.int .i64 a.c) (.slice (some ⟨g, 0, none⟩) k1 k1) (.slice (some ⟨m, 0, none⟩) k2 k2) = WX at *
        simp [bodyPost, results, Try.results60, go_sem, d0, d1, d2, d3, d4]
        rw [HE.out, HD.out]
        exact ⟨_, rfl, ⟨_, _, _, _, _, _, rfl, HX.out _ (.inr HBT), ⟨fun ad h => (by cases h; show w.heap.size ≤ g; have := HGW.out; omega), fun ad h => (by cases h; show w.heap.size ≤ m; have := HGW.out; omega)⟩⟩, HBW⟩
      · have HD : Hid (bothD W a a' = zD) := if_neg (by rw [HE.out]; exact z2)
        have g1 : (e2 != 0) = true := by simpa using z2
        clear z2 bH hL2 hran1 hran2
        go_wp2_with fail
        obtain ⟨d0, d1, d2, d3, d4⟩ := (bR.set 0 0 0 (.slice none 0 0) (.slice none 0 0)).five
        have HBW := set5_below (g := w.heap.size + 1 + 1) (x0 := .int .i64 0) (x1 := .int .i64 0) (x2 := .int .i64 0) (x3 := (.slice none 0 0)) (x4 := (.slice none 0 0)) hB0 (by omega)
        have HBT := set5_but W8 (w.heap.size + 1 + 1) (.int .i64 0) (.int .i64 0) (.int .i64 0) (.slice none 0 0) (.slice none 0 0)
        change bodyPost _ _ _ _ _ (set5 W8 (w.heap.size + 1 + 1) (.int .i64 0) (.int .i64 0) (.int .i64 0) (.slice none 0 0) (.slice none 0 0))
        generalize set5 W8 (w.heap.size + 1 + 1) (.int .i64 0) (.int .i64 0) (.int .i64 0) (.slice none 0 0) (.slice none 0 0) = WX at *
        simp [bodyPost, results, Try.results60, go_sem, d0, d1, d2, d3, d4]
        rw [HE.out, HD.out]
        exact ⟨_, rfl, Is.zero _ _, HBW⟩
    · have HE : Hid (bothE W a a' = e1) := (HE1.out (by rw [he1.out]; exact z1)).trans he1.out
      have HD : Hid (bothD W a a' = zD) := if_neg (by rw [HE.out]; exact z1)
      have g1 : (e1 != 0) = true := by simpa using z1
      obtain ⟨r0, r1, r2, r3, r4⟩ := bR.five
      obtain ⟨k0, k1, k2, k3, k4⟩ := bR.soft
      have hB0 := hB5.out
      clear z1 bA bB bH hM1 hL1 hran1
      go_wp2_with fail
      obtain ⟨d0, d1, d2, d3, d4⟩ := (bR.set 0 0 0 (.slice none 0 0) (.slice none 0 0)).five
      have HBW := set5_below (g := w.heap.size + 1 + 1) (x0 := .int .i64 0) (x1 := .int .i64 0) (x2 := .int .i64 0) (x3 := (.slice none 0 0)) (x4 := (.slice none 0 0)) hB0 (by omega)
      have HBT := set5_but W7 (w.heap.size + 1 + 1) (.int .i64 0) (.int .i64 0) (.int .i64 0) (.slice none 0 0) (.slice none 0 0)
      change bodyPost _ _ _ _ _ (set5 W7 (w.heap.size + 1 + 1) (.int .i64 0) (.int .i64 0) (.int .i64 0) (.slice none 0 0) (.slice none 0 0))
      generalize set5 W7 (w.heap.size + 1 + 1) (.int .i64 0) (.int .i64 0) (.int .i64 0) (.slice none 0 0) (.slice none 0 0) = WX at *
      simp [bodyPost, results, Try.results60, go_sem, d0, d1, d2, d3, d4]
      rw [HE.out, HD.out]
      exact ⟨_, rfl, Is.zero _ _, HBW⟩
end Go.Proofs.Ytebdlmjpgohngaa
