/-
  A SAMPLE's HISTOGRAM, merged of parts, by the document. Conditions: at most 2^20 cells; targets, weights, rows of 64 bits with a sign; at most 2^20 rows that are asked for.
-/
import Derived.Test.YtebdlmjpgohngaaShN
import Derived.Test.YtebdlmjpgohngaaShD
namespace Go.Proofs.Ytebdlmjpgohngaa
open Go.RowKit

/-- What the document's first loop keeps. -/
structure LoopR (hd : Nat → HD) (he : Nat → Int) (T : Nat) (i : Nat) (v : Value) (L : List HR) (W : World) : Prop where
  map : L.map HR.d = (List.range i).map hd
  zero : ∀ k, k < i → he k = 0
  own : W.ownsRow T 45 5 v L.length (rowH L)
  away : ∀ g, v.ownBlock = some g → ∀ k, k < L.length → NotIn g (L.getD k hz).d (L.getD k hz).ac (L.getD k hz).am
  rd : ∀ k, k < L.length → Reads (L.getD k hz).d (L.getD k hz).ac (L.getD k hz).nc (L.getD k hz).am (L.getD k hz).nm W ∧ Past T (L.getD k hz).ac (L.getD k hz).am ∧ ((L.getD k hz).ac = none → (L.getD k hz).cc = 0) ∧ ((L.getD k hz).am = none → (L.getD k hz).cm = 0)
theorem LoopR.len {hd : Nat → HD} {he : Nat → Int} {T i : Nat} {v : Value} {L : List HR} {W : World} (h : LoopR hd he T i v L W) : L.length = i := by have := congrArg List.length h.map; simpa using this
theorem LoopR.below {hd : Nat → HD} {he : Nat → Int} {T i : Nat} {v : Value} {L : List HR} {W W' : World} (h : LoopR hd he T i v L W) (b : Go.RowKit.Below W.heap.size W W') : LoopR hd he T i v L W' :=
  ⟨h.map, h.zero, own_below h.own b, h.away, fun k hk => ⟨(h.rd k hk).1.below b, (h.rd k hk).2⟩⟩
theorem loopR_step {hd : Nat → HD} {he : Nat → Int} {T i : Nat} {v v' : Value} {L : List HR} {WX w1 w3 : World} {y : HR} {tmp : Obj} (h : LoopR hd he T i v L WX) (hx : hd i = y.d) (hx0 : he i = 0)
    (hR : Reads y.d y.ac y.nc y.am y.nm WX) (hPa : Past T y.ac y.am) (hZ : (y.ac = none → y.cc = 0) ∧ (y.am = none → y.cm = 0)) (hOld : ∀ g, v.ownBlock = some g → NotIn g y.d y.ac y.am) (hbl : Go.RowKit.Below T w3 WX) (hT : T ≤ WX.heap.size)
    (hown' : w1.ownsRow T 45 5 v' (L.length + 1) (rowH L ++ y.cs)) (hgrow : (WX.alloc tmp).grownBy w1 v.ownBlock) (hat : v'.ownBlock = v.ownBlock ∨ v'.ownBlock = some (WX.alloc tmp).heap.size) :
    LoopR hd he T (i + 1) v' (L ++ [y]) w1 ∧ Go.RowKit.Below T w3 w1 := by
  have hgo : ∀ z : HR, Reads z.d z.ac z.nc z.am z.nm WX → (∀ g, v.ownBlock = some g → NotIn g z.d z.ac z.am) → Reads z.d z.ac z.nc z.am z.nm w1 := fun z h1 h3 =>
    ((h1.below (alloc_below WX tmp)).grown hgrow h3)
  refine ⟨⟨?_, ?_, ?_, ?_, ?_⟩, (hbl.trans ((alloc_below WX tmp).mono hT)).grown hgrow (by simp; omega) (fun k e => (h.own.lt k e).1)⟩
  · rw [List.map_append, List.range_succ, List.map_append, h.map]; simp [hx]
  · intro k hk
    by_cases e : k = i
    · rw [e]; exact hx0
    · exact h.zero k (by omega)
  · rw [rowH_snoc, List.length_append]; exact hown'
  · intro g e k hk
    rw [List.length_append] at hk
    rw [getD_snoc]
    have hfr : v'.ownBlock = some (WX.alloc tmp).heap.size → WX.heap.size ≤ g := fun h => by rw [h] at e; cases e; simp
    by_cases h0 : k < L.length
    · rw [if_pos h0]
      rcases hat with h1 | h1
      · exact h.away g (h1 ▸ e) k h0
      · exact NotIn.fresh (h.rd k h0).1 (hfr h1)
    · obtain rfl : k = L.length := by simp at hk; omega
      rw [if_neg h0, if_pos rfl]
      rcases hat with h1 | h1
      · exact hOld g (h1 ▸ e)
      · exact NotIn.fresh hR (hfr h1)
  · intro k hk
    rw [List.length_append] at hk
    rw [getD_snoc]
    by_cases h0 : k < L.length
    · rw [if_pos h0]
      obtain ⟨a1, a2⟩ := h.rd k h0
      exact ⟨hgo _ a1 (fun g e => h.away g e k h0), a2⟩
    · obtain rfl : k = L.length := by simp at hk; omega
      rw [if_neg h0, if_pos rfl]
      exact ⟨hgo _ hR hOld, hPa, hZ⟩

/-- What a part's region reads. -/
structure PR (N gS kS : Nat) (A : Array Value) (x y : Value) (W : World) : Prop where
  X : BoxS W N A
  l : gS < W.heap.size
  a : W.cell? ⟨gS, kS, none⟩ = some x
  b : W.cell? ⟨gS, kS + 1, none⟩ = some y
theorem PR.below {N gS kS : Nat} {A : Array Value} {x y : Value} {W W' : World} (h : PR N gS kS A x y W) (b : Go.RowKit.Below W.heap.size W W') : PR N gS kS A x y W' :=
  ⟨h.X.on b, Nat.lt_of_lt_of_le h.l b.size, (b.cell (by exact h.l)).trans h.a, (b.cell (by exact h.l)).trans h.b⟩
theorem PR.cells {N gS kS : Nat} {k c b t d l p r q : Int} {vC vT vX : Value} {x y : Value} {W : World} (h : PR N gS kS (smpA k c b t d l p r q vC vT vX) x y W) :
    ((W.cell? ⟨N, 0, none⟩ = some (.int .i64 k) ∧ W.cell? ⟨N, 1, none⟩ = some (.int .i64 c) ∧ W.cell? ⟨N, 2, none⟩ = some (.int .i64 b) ∧ W.cell? ⟨N, 3, none⟩ = some (.int .i64 t) ∧ W.cell? ⟨N, 4, none⟩ = some (.int .i64 d) ∧ W.cell? ⟨N, 5, none⟩ = some (.int .i64 l) ∧ W.cell? ⟨N, 6, none⟩ = some (.int .i64 p)) ∧
    (W.cell? ⟨N, 7, none⟩ = some (.int .i64 r) ∧ W.cell? ⟨N, 8, none⟩ = some (.int .i64 q) ∧ W.cell? ⟨N, 9, none⟩ = some vC) ∧ W.cell? ⟨N, 10, none⟩ = some vT ∧ W.cell? ⟨N, 11, none⟩ = some vX) ∧
    W.cell? ⟨gS, kS, none⟩ = some x ∧ W.cell? ⟨gS, kS + 1, none⟩ = some y :=
  ⟨h.X.cells, h.a, h.b⟩
/-- What a merge's region reads. -/
structure MR (vO g o : Nat) (D : HD) (ac : Option Addr) (nc cc : Nat) (am : Option Addr) (nm cm : Nat) (x : HR) (W : World) : Prop where
  V : VarH vO D.k D.b D.c (.slice ac nc cc) (.slice am nm cm) W
  l : g < W.heap.size
  A : At5 g o x W
theorem MR.below {vO g o : Nat} {D : HD} {ac : Option Addr} {nc cc : Nat} {am : Option Addr} {nm cm : Nat} {x : HR} {W W' : World} (h : MR vO g o D ac nc cc am nm cm x W) (b : Go.RowKit.Below W.heap.size W W') : MR vO g o D ac nc cc am nm cm x W' :=
  ⟨h.V.below b h.V.lt, Nat.lt_of_lt_of_le h.l b.size, (b.cell (by exact h.l)).trans h.A.c0, (b.cell (by exact h.l)).trans h.A.c1, (b.cell (by exact h.l)).trans h.A.c2, (b.cell (by exact h.l)).trans h.A.c3, (b.cell (by exact h.l)).trans h.A.c4⟩
theorem MR.cells {vO g o : Nat} {D : HD} {ac : Option Addr} {nc cc : Nat} {am : Option Addr} {nm cm : Nat} {x : HR} {W : World} (h : MR vO g o D ac nc cc am nm cm x W) :
    (W.cell? ⟨vO, 0, none⟩ = some (.int .i64 D.k) ∧ W.cell? ⟨vO, 1, none⟩ = some (.int .i64 D.b) ∧ W.cell? ⟨vO, 2, none⟩ = some (.int .i64 D.c) ∧ W.cell? ⟨vO, 3, none⟩ = some (.slice ac nc cc) ∧ W.cell? ⟨vO, 4, none⟩ = some (.slice am nm cm)) ∧
    (W.cell? ⟨g, o, none⟩ = some (.int .i64 x.d.k) ∧ W.cell? ⟨g, o + 1, none⟩ = some (.int .i64 x.d.b) ∧ W.cell? ⟨g, o + 2, none⟩ = some (.int .i64 x.d.c) ∧ W.cell? ⟨g, o + 3, none⟩ = some (.slice x.ac x.nc x.cc) ∧ W.cell? ⟨g, o + 4, none⟩ = some (.slice x.am x.nm x.cm)) :=
  ⟨h.V.five, h.A.c0, h.A.c1, h.A.c2, h.A.c3, h.A.c4⟩

set_option maxRecDepth 20000 in
set_option maxHeartbeats 1000000 in
theorem rparts_no (s : SD) (aC aT aW aR : Option Addr) (cC cT cW nR cR : Nat) (col p : Int) (hn2 : nR ≤ 1048576) (w : World) (hp : p < 1 ∨ 64 < p) :
    Calls Try.prog 15 #[.agg (smpA s.k s.c s.b s.t s.d s.l s.p s.r s.q (.slice aC s.C.length cC) (.slice aT s.T.length cT) (.slice aW s.W.length cW)), .int .i64 col, .slice aR nR cR, .int .i64 p] w fun e w' => Made zD 1 w e w' := by
  have hc := fun w1 => refCut_any (nR : Int) p (by omega) w1
  rw [show partsK (nR : Int) p = 0 from if_pos (.inr hp)] at hc
  clear hp hn2
  obtain ⟨k, c, b, t, d', l, q0, r, q, C, T, W⟩ := s
  simp only at *
  generalize T.length = nT at *
  generalize W.length = nW at *
  generalize C.length = nC at *
  obtain ⟨w1, hw1⟩ : ∃ w1, w.alloc (.cells (smpA k c b t d' l q0 r q (.slice aC nC cC) (.slice aT nT cT) (.slice aW nW cW)) 38) = w1 := ⟨_, rfl⟩
  have HX : BoxS w1 w.heap.size (smpA k c b t d' l q0 r q (.slice aC nC cC) (.slice aT nT cT) (.slice aW nW cW)) ∧ Below w.heap.size w w1 ∧ w1.heap.size = w.heap.size + 1 := by subst hw1; exact ⟨BoxS.new _ _, alloc_below _ _, by simp⟩
  obtain ⟨w2, hw2⟩ : ∃ w2, w1.alloc (.cells #[.int .i64 0, .int .i64 0, .int .i64 0, .slice none 0 0, .slice none 0 0] 45) = w2 := ⟨_, rfl⟩
  have HV : VarH w1.heap.size 0 0 0 (.slice none 0 0) (.slice none 0 0) w2 ∧ Below w1.heap.size w1 w2 := by subst hw2; exact ⟨VarH.new _ _ _ _ _ _ _, alloc_below _ _⟩
  obtain ⟨hX, hb1, s1⟩ := HX
  obtain ⟨hV, hb2⟩ := HV
  replace hX := hX.on hb2
  rw [s1] at hV
  have HB := Lib.hid (hb1.trans (hb2.mono (by omega)))
  have HX := Lib.hid hX
  have HV := Lib.hid hV
  clear hX hV hb1 hb2
  unfold smpA at hw1
  unfold smpA
  go_enter Try.func15, Try.ntmps15
  go_upto_region 1 with fail
  clear hw1 hw2 s1
  go_wp2_with fail
  refine (hc _).mono ?_
  rintro e w3 ⟨v, ⟨rfl, hv⟩, b3⟩
  obtain ⟨a', c', rfl, -, -⟩ := hv.read
  replace HB := Lib.hid (HB.out.trans (b3.mono HB.out.size))
  replace HV := Lib.hid (HV.out.below b3 HV.out.lt)
  clear b3 hv hc
  obtain ⟨r0, r1, r2, r3, r4⟩ := HV.out.five
  obtain ⟨y0, y1, y2, y3, y4⟩ := HV.out.soft
  go_wp2_with fail
  obtain ⟨z0, z1, z2, z3, z4⟩ := (HV.out.set 0 0 0 (.slice none 0 0) (.slice none 0 0)).five
  have HBW := set5_below (g := w.heap.size + 1) (x0 := .int .i64 0) (x1 := .int .i64 0) (x2 := .int .i64 0) (x3 := .slice none 0 0) (x4 := .slice none 0 0) HB.out (by omega)
  change bodyPost _ _ _ _ _ (set5 w3 (w.heap.size + 1) (.int .i64 0) (.int .i64 0) (.int .i64 0) (.slice none 0 0) (.slice none 0 0))
  generalize set5 w3 (w.heap.size + 1) (.int .i64 0) (.int .i64 0) (.int .i64 0) (.slice none 0 0) (.slice none 0 0) = WX at *
  simp [bodyPost, results, Try.results15, go_sem, z0, z1, z2, z3, z4]
  exact ⟨_, rfl, Is.zero _ _, HBW⟩

set_option maxRecDepth 20000 in
set_option maxHeartbeats 8000000 in
theorem rparts_yes (s : SD) (aC aT aW aR : Option Addr) (cC cT cW nR cR : Nat) (col : Int) (rows : List Int) (p : Nat) (hp1 : 1 ≤ p) (hp2 : p ≤ 64) (hnR : rows.length = nR) (hn2 : nR ≤ 1048576) (w : World) (hS : HoldsS s aC aT aW w) (hrow : HoldsE KN w aR rows)
    (hcap : nR ≤ cR) (hnone : aR = none → cR = 0) (hd : Nat → HD) (he : Nat → Int) (hhd : ∀ i, (histF s col (partF (cutF nR p) rows i)).1 = hd i) (hhe : ∀ i, (histF s col (partF (cutF nR p) rows i)).2 = he i) (DD : HD) (EE : Int) (hDE : partsG hd he p = (DD, EE)) :
    Calls Try.prog 15 #[.agg (smpA s.k s.c s.b s.t s.d s.l s.p s.r s.q (.slice aC s.C.length cC) (.slice aT s.T.length cT) (.slice aW s.W.length cW)), .int .i64 col, .slice aR nR cR, .int .i64 (p : Int)] w fun e w' => Made DD EE w e w' := by
  have hc := fun w1 => refCut_any (nR : Int) (p : Int) (by omega) w1
  rw [show partsK (nR : Int) (p : Int) = p by unfold partsK; rw [if_neg (by omega)]; rfl, Int.toNat_natCast, Int.toNat_natCast] at hc
  obtain ⟨f, hf⟩ : ∃ f, cutF nR p = f := ⟨_, rfl⟩
  rw [hf] at hc
  have hF1 : ∀ x, f x ≤ f (x + 1) := fun x => by rw [← hf]; exact cutF_mono nR p x
  have hF2 : ∀ x, f x ≤ nR := fun x => by rw [← hf]; exact cutF_le nR p (by omega) x
  have HH : Hid (∀ (x : Nat) (a2 : Option Addr) (c2 : Nat) (w1 : World), Go.RowKit.Below w.heap.size w w1 → HoldsE KN w1 a2 (partF f rows x) →
      Calls Try.prog 13 #[.agg (smpA s.k s.c s.b s.t s.d s.l s.p s.r s.q (.slice aC s.C.length cC) (.slice aT s.T.length cT) (.slice aW s.W.length cW)), .int .i64 col, .slice a2 (f (x + 1) - f x) c2] w1 fun e w' => MadeZ (hd x) (he x) w1 e w') := by
    intro x a2 c2 w1 hb hr
    have hl : (partF f rows x).length = f (x + 1) - f x := by
      have := hF1 x; have := hF2 (x + 1)
      unfold partF
      rw [List.length_take, List.length_drop]
      omega
    have := rhist_any s aC aT aW a2 cC cT cW (f (x + 1) - f x) c2 col (partF f rows x) hl (by have := hF2 (x + 1); omega) w1 (hS.below hb) hr
    rw [← hf, hhd x, hhe x] at this
    rw [← hf]
    exact this
  have HPR : Hid (∀ x : Nat, ∃ a2 c2, (∀ w, (Instr.slice 36 (.slice aR nR cR) (some (.int .i64 (f x : Int))) (some (.int .i64 (f (x + 1) : Int))) none).run Try.prog w = .ok (.slice a2 (f (x + 1) - f x) c2) w) ∧ (∀ w, HoldsE KN w aR rows → HoldsE KN w a2 (partF f rows x))) :=
    fun x => part_runN aR nR cR (f x) (f (x + 1)) rows hnR (hF2 (x + 1)) (hF1 x) hcap hnone
  have HROW := Lib.hid hrow
  have HDE := Lib.hid hDE
  have HPP : Hid (1 ≤ p ∧ p ≤ 64) := ⟨hp1, hp2⟩
  have q0' : ((p : Int) == 0) = false := by simp; omega
  clear hS hhd hhe hDE hF1 hF2 hf hcap hnone hrow hp1 hp2 hn2
  obtain ⟨k, c, b, t, d', l, q0, r, q, C, T, W⟩ := s
  simp only at *
  generalize T.length = nT at *
  generalize W.length = nW at *
  generalize C.length = nC at *
  obtain ⟨w1, hw1⟩ : ∃ w1, w.alloc (.cells (smpA k c b t d' l q0 r q (.slice aC nC cC) (.slice aT nT cT) (.slice aW nW cW)) 38) = w1 := ⟨_, rfl⟩
  have HX : BoxS w1 w.heap.size (smpA k c b t d' l q0 r q (.slice aC nC cC) (.slice aT nT cT) (.slice aW nW cW)) ∧ Below w.heap.size w w1 ∧ w1.heap.size = w.heap.size + 1 := by subst hw1; exact ⟨BoxS.new _ _, alloc_below _ _, by simp⟩
  obtain ⟨w2, hw2⟩ : ∃ w2, w1.alloc (.cells #[.int .i64 0, .int .i64 0, .int .i64 0, .slice none 0 0, .slice none 0 0] 45) = w2 := ⟨_, rfl⟩
  have HV : VarH w1.heap.size 0 0 0 (.slice none 0 0) (.slice none 0 0) w2 ∧ Below w1.heap.size w1 w2 := by subst hw2; exact ⟨VarH.new _ _ _ _ _ _ _, alloc_below _ _⟩
  obtain ⟨hX, hb1, s1⟩ := HX
  obtain ⟨hV, hb2⟩ := HV
  replace hX := hX.on hb2
  rw [s1] at hV
  have HB := Lib.hid (hb1.trans (hb2.mono (by omega)))
  have HX := Lib.hid hX
  have HV := Lib.hid hV
  clear hX hV hb1 hb2
  unfold smpA at hw1
  unfold smpA at HH ⊢
  obtain ⟨i0, hi, hz0, hz1, hz2⟩ := info_parts infoH
  go_enter Try.func15, Try.ntmps15
  go_upto_region 1 with fail
  clear hw1 hw2 s1
  go_wp2_with fail
  refine (hc _).mono ?_
  rintro e w3 ⟨v, ⟨rfl, hv⟩, b3⟩
  obtain ⟨a', c', rfl, hsl, hsp⟩ := hv.read
  have HVlt := Lib.hid HV.out.lt
  replace HB := Lib.hid (HB.out.trans (b3.mono HB.out.size))
  replace HV := Lib.hid (HV.out.below b3 HV.out.lt)
  replace HX := Lib.hid (HX.out.on b3)
  have HSP := Lib.hid hsp
  have HG3 := Lib.hid b3.size
  clear b3 hv hc hsp hsl
  go_upto_region 5 with fail
  obtain ⟨w4, hw4⟩ : ∃ w4, w3.alloc (.cells #[] 45) = w4 := ⟨_, rfl⟩
  have hO := World.ownsRow_made (size := 5) (e := 45) w3 #[] 0 (Nat.le_refl w3.heap.size) (Nat.zero_le _) rfl
  have hb4 : Below w3.heap.size w3 w4 := by rw [← hw4]; exact alloc_below _ _
  rw [hw4] at hO ⊢
  have HL0 : Hid (LoopR hd he w3.heap.size 0 (.slice (some ⟨w3.heap.size, 0, none⟩) 0 0) [] w4) := ⟨rfl, fun k h => absurd h (Nat.not_lt_zero _), hO, fun g _ k h => absurd h (Nat.not_lt_zero _), fun k h => absurd h (Nat.not_lt_zero _)⟩
  have HB4 := Lib.hid hb4
  clear hw4 hO hb4
  go_wp2_with fail
  clear q0'
  go_loopw [11, 12] (fun sv si wr => ∃ (i : Nat) (v : Value) (L : List HR), i ≤ p ∧ v = sv ∧ si = .int .i64 (i : Int) ∧ Hid (LoopR hd he w3.heap.size i v L wr) ∧ Hid (Below w3.heap.size w3 wr)) (fun _ si _ => p - (intOf si).toNat)
  case atStart => exact ⟨0, _, _, Nat.zero_le _, rfl, rfl, HL0, HB4⟩
  case round =>
    clear HL0 HB4
    obtain ⟨i, v, L, ht, rfl, rfl, HL, HBL⟩ := hrel
    by_cases hlt : i < p
    · have hlt2 : (i : Int) < (p : Int) := by omega
      have HT := Lib.hid hlt
      have HNX := Lib.hid (next_num hlt (by have := HPP.out; omega))
      have hbW : Below w.heap.size w wr := HB.out.trans (HBL.out.mono HB.out.size)
      have HBW := Lib.hid hbW
      obtain ⟨a2, c2, hrun, hpart⟩ := HPR.out i
      have hRowsW := hpart wr (HROW.out.below hbW)
      have hCall := fun w1 hb1 hr1 => HH.out i a2 c2 w1 hb1 hr1
      obtain ⟨ee, hee⟩ : ∃ ee, he i = ee := ⟨_, rfl⟩
      obtain ⟨dd, hdd⟩ : ∃ dd, hd i = dd := ⟨_, rfl⟩
      rw [hee, hdd] at hCall
      have HEE := Lib.hid hee
      have HDD := Lib.hid hdd
      have hspW := HSP.out.below HBL.out
      have hslen := spanL_len f p
      obtain ⟨gS, oS, rfl, hlS, hfS⟩ := hspW.at (n := i * 2) (by omega)
      have sa := hfS (i * 2) (by omega)
      have sb := hfS (i * 2 + 1) (by omega)
      change wr.cell? ⟨gS, oS + i * 2, none⟩ = some (.int .i64 ((spanL f p).getD (i * 2) 0)) at sa
      change wr.cell? ⟨gS, oS + (i * 2 + 1), none⟩ = some (.int .i64 ((spanL f p).getD (i * 2 + 1) 0)) at sb
      rw [(spanL_at f p i hlt).1] at sa
      rw [(spanL_at f p i hlt).2, ← Nat.add_assoc] at sb
      have hq0 : PR w.heap.size gS (oS + i * 2) (smpA k c b t d' l q0 r q (.slice aC nC cC) (.slice aT nT cT) (.slice aW nW cW)) (.int .i64 (f i : Int)) (.int .i64 (f (i + 1) : Int)) wr := ⟨HX.out.below HBL.out (by have := HX.out.lt; omega), hlS, sa, sb⟩
      have hbw : Hid (Below wr.heap.size wr wr.drew) := ⟨rfl, rfl, rfl, Nat.le_refl _, fun _ _ => rfl⟩
      have HTW : Hid (w3.heap.size ≤ wr.heap.size) := HBL.out.size
      clear hpart hspW hslen hlS hfS sa sb hee hdd ht hlt hbW
      go_upto_region 8 with fail
      refine wp_region_noPanic ?_
      refine wp_region_held_drew (S := (fun w' => ((w'.cell? ⟨w.heap.size, 0, none⟩ = some (.int .i64 k) ∧ w'.cell? ⟨w.heap.size, 1, none⟩ = some (.int .i64 c) ∧ w'.cell? ⟨w.heap.size, 2, none⟩ = some (.int .i64 b) ∧ w'.cell? ⟨w.heap.size, 3, none⟩ = some (.int .i64 t) ∧ w'.cell? ⟨w.heap.size, 4, none⟩ = some (.int .i64 d') ∧ w'.cell? ⟨w.heap.size, 5, none⟩ = some (.int .i64 l) ∧ w'.cell? ⟨w.heap.size, 6, none⟩ = some (.int .i64 q0)) ∧ (w'.cell? ⟨w.heap.size, 7, none⟩ = some (.int .i64 r) ∧ w'.cell? ⟨w.heap.size, 8, none⟩ = some (.int .i64 q) ∧ w'.cell? ⟨w.heap.size, 9, none⟩ = some (.slice aC nC cC)) ∧ w'.cell? ⟨w.heap.size, 10, none⟩ = some (.slice aT nT cT) ∧ w'.cell? ⟨w.heap.size, 11, none⟩ = some (.slice aW nW cW)) ∧ w'.cell? ⟨gS, oS + i * 2, none⟩ = some (.int .i64 (f i : Int)) ∧ w'.cell? ⟨gS, oS + i * 2 + 1, none⟩ = some (.int .i64 (f (i + 1) : Int)))) (by kernel_rfl) ((hq0.below hbw.out).cells) (fun hHeld => ?_)
      refine takeQ (i := 0) (v := ?_) rfl (by kernel_rfl) (by kernel_rfl) (by kernel_rfl) (fun _ _ _ h => h) (by rfl) hHeld ?_ ?_
      rotate_left
      · (intro w' hSw; (try dsimp only at hSw); go_simp <;> (with_reducible rfl))
      try simp only [Act.put, List.setIfInBounds_toArray, List.set_cons_zero, List.set_cons_succ]
      refine takeQ (i := 1) (v := ?_) rfl (by kernel_rfl) (by kernel_rfl) (by kernel_rfl) (fun _ _ _ h => h) (by rfl) hHeld ?_ ?_
      rotate_left
      · (intro w' hSw; (try dsimp only at hSw); go_simp <;> (with_reducible rfl))
      try simp only [Act.put, List.setIfInBounds_toArray, List.set_cons_zero, List.set_cons_succ]
      refine takeQ (i := 2) (v := ?_) rfl (by kernel_rfl) (by kernel_rfl) (by kernel_rfl) (fun _ _ _ h => h) (by rfl) hHeld ?_ ?_
      rotate_left
      · (intro w' hSw; (try dsimp only at hSw); go_simp <;> (with_reducible rfl))
      try simp only [Act.put, List.setIfInBounds_toArray, List.set_cons_zero, List.set_cons_succ]
      refine takeQ (i := 3) (v := ?_) rfl (by kernel_rfl) (by kernel_rfl) (by kernel_rfl) (fun _ _ _ h => h) (by rfl) hHeld ?_ ?_
      rotate_left
      · (intro w' hSw; (try dsimp only at hSw); go_simp <;> (with_reducible rfl))
      try simp only [Act.put, List.setIfInBounds_toArray, List.set_cons_zero, List.set_cons_succ]
      refine takeQ (i := 4) (v := ?_) rfl (by kernel_rfl) (by kernel_rfl) (by kernel_rfl) (fun _ _ _ h => h) (by rfl) hHeld ?_ ?_
      rotate_left
      · (intro w' hSw; (try dsimp only at hSw); go_simp <;> (with_reducible rfl))
      try simp only [Act.put, List.setIfInBounds_toArray, List.set_cons_zero, List.set_cons_succ]
      refine takeQ (i := 5) (v := ?_) rfl (by kernel_rfl) (by kernel_rfl) (by kernel_rfl) (fun _ _ _ h => h) (by rfl) hHeld ?_ ?_
      rotate_left
      · (intro w' hSw; (try dsimp only at hSw); go_simp <;> (with_reducible rfl))
      try simp only [Act.put, List.setIfInBounds_toArray, List.set_cons_zero, List.set_cons_succ]
      refine takeQ (i := 6) (v := ?_) rfl (by kernel_rfl) (by kernel_rfl) (by kernel_rfl) (fun _ _ _ h => h) (by rfl) hHeld ?_ ?_
      rotate_left
      · (intro w' hSw; (try dsimp only at hSw); go_simp <;> (with_reducible rfl))
      try simp only [Act.put, List.setIfInBounds_toArray, List.set_cons_zero, List.set_cons_succ]
      refine takeQ (i := 7) (v := ?_) rfl (by kernel_rfl) (by kernel_rfl) (by kernel_rfl) (fun _ _ _ h => h) (by rfl) hHeld ?_ ?_
      rotate_left
      · (intro w' hSw; (try dsimp only at hSw); go_simp <;> (with_reducible rfl))
      try simp only [Act.put, List.setIfInBounds_toArray, List.set_cons_zero, List.set_cons_succ]
      refine takeQ (i := 8) (v := ?_) rfl (by kernel_rfl) (by kernel_rfl) (by kernel_rfl) (fun _ _ _ h => h) (by rfl) hHeld ?_ ?_
      rotate_left
      · (intro w' hSw; (try dsimp only at hSw); go_simp <;> (with_reducible rfl))
      try simp only [Act.put, List.setIfInBounds_toArray, List.set_cons_zero, List.set_cons_succ]
      refine takeQ (i := 9) (v := ?_) rfl (by kernel_rfl) (by kernel_rfl) (by kernel_rfl) (fun _ _ _ h => h) (by rfl) hHeld ?_ ?_
      rotate_left
      · (intro w' hSw; (try dsimp only at hSw); go_simp <;> (with_reducible rfl))
      try simp only [Act.put, List.setIfInBounds_toArray, List.set_cons_zero, List.set_cons_succ]
      refine takeQ (i := 10) (v := ?_) rfl (by kernel_rfl) (by kernel_rfl) (by kernel_rfl) (fun _ _ _ h => h) (by rfl) hHeld ?_ ?_
      rotate_left
      · (intro w' hSw; (try dsimp only at hSw); go_simp <;> (with_reducible rfl))
      try simp only [Act.put, List.setIfInBounds_toArray, List.set_cons_zero, List.set_cons_succ]
      refine takeQ (i := 11) (v := ?_) rfl (by kernel_rfl) (by kernel_rfl) (by kernel_rfl) (fun _ _ _ h => h) (by rfl) hHeld ?_ ?_
      rotate_left
      · (intro w' hSw; (try dsimp only at hSw); go_simp <;> (with_reducible rfl))
      try simp only [Act.put, List.setIfInBounds_toArray, List.set_cons_zero, List.set_cons_succ]
      refine takeQ (i := 12) (v := ?_) rfl (by kernel_rfl) (by kernel_rfl) (by kernel_rfl) (fun _ _ _ h => h) (by rfl) hHeld ?_ ?_
      rotate_left
      · (intro w' hSw; (try dsimp only at hSw); go_simp <;> (with_reducible rfl))
      try simp only [Act.put, List.setIfInBounds_toArray, List.set_cons_zero, List.set_cons_succ]
      refine takeQ (i := 13) (v := ?_) rfl (by kernel_rfl) (by kernel_rfl) (by kernel_rfl) (fun _ _ _ h => h) (by rfl) hHeld ?_ ?_
      rotate_left
      · (intro w' hSw; (try dsimp only at hSw); go_simp <;> (with_reducible rfl))
      try simp only [Act.put, List.setIfInBounds_toArray, List.set_cons_zero, List.set_cons_succ]
      refine bothL (i := 14) (j := 18) (by kernel_rfl) rfl rfl (by rfl) (by rfl) (fun K hK => ?_) (fun K hK => ?_)
      · go_simp
        refine (hCall _ (HBW.out.trans (hbw.out.mono HBW.out.size)) (hRowsW.below hbw.out)).mono ?_
        rintro e w7 ⟨v7, rfl, ⟨ac2, nc2, cc2, am2, nm2, cm2, rfl, hR2, hP2, hZ2⟩, b7⟩
        replace hbw := Lib.hid (hbw.out.trans (b7.mono hbw.out.size))
        try dsimp only
        refine hK.out _ _ ((hq0.below hbw.out).cells) (fun hHeld => ?_)
        clear hK K
        try simp only [Act.put, List.setIfInBounds_toArray, List.set_cons_zero, List.set_cons_succ]
        refine takeQ (i := 15) (v := ?_) rfl (by kernel_rfl) (by kernel_rfl) (by kernel_rfl) (fun _ _ _ h => h) (by rfl) hHeld ?_ ?_
        rotate_left
        · (intro w' hSw; (try dsimp only at hSw); go_simp <;> (with_reducible rfl))
        try simp only [Act.put, List.setIfInBounds_toArray, List.set_cons_zero, List.set_cons_succ]
        refine takeQ (i := 16) (v := ?_) rfl (by kernel_rfl) (by kernel_rfl) (by kernel_rfl) (fun _ _ _ h => h) (by rfl) hHeld ?_ ?_
        rotate_left
        · (intro w' hSw; (try dsimp only at hSw); go_simp <;> (with_reducible rfl))
        try simp only [Act.put, List.setIfInBounds_toArray, List.set_cons_zero, List.set_cons_succ]
        refine takeQ (i := 17) (v := ?_) rfl (by kernel_rfl) (by kernel_rfl) (by kernel_rfl) (fun _ _ _ h => h) (by rfl) hHeld ?_ ?_
        rotate_left
        · (intro w' hSw; (try dsimp only at hSw); go_simp <;> (with_reducible rfl))
        try simp only [Act.put, List.setIfInBounds_toArray, List.set_cons_zero, List.set_cons_succ]
        have hV8 := VarH.new w7 0 0 0 (.slice none 0 0) (.slice none 0 0) 45
        have b8 := alloc_below w7 (.cells #[.int .i64 0, .int .i64 0, .int .i64 0, .slice none 0 0, .slice none 0 0] 45)
        obtain ⟨wy, hwy⟩ : ∃ wy, World.alloc w7 (.cells #[.int .i64 0, .int .i64 0, .int .i64 0, .slice none 0 0, .slice none 0 0] 45) = wy := ⟨_, rfl⟩
        rw [hwy] at hV8 b8
        replace hbw := Lib.hid (hbw.out.trans (b8.mono hbw.out.size))
        refine callL (i := 18) (by kernel_rfl) rfl (by rfl) (fun K hK => ?_)
        go_simp
        try dsimp only
        refine hK.out _ _ ((hq0.below hbw.out).cells) (fun hHeld => ?_)
        clear hK K
        try simp only [Act.put, List.setIfInBounds_toArray, List.set_cons_zero, List.set_cons_succ]
        have HN9 := Lib.hid hV8
        have HNI : Hid (NotIn w7.heap.size dd ac2 am2) := NotIn.fresh hR2 (Nat.le_refl _)
        have HR9 := Lib.hid (hR2.below b8)
        have HG9 : Hid (wr.heap.size ≤ w7.heap.size) := b7.size
        have HPW : Hid (Past wr.heap.size ac2 am2) := hP2
        have HZ2 := Lib.hid hZ2
        clear hwy hV8 b8 hR2 hP2 b7 hZ2
        generalize w7.heap.size = B12 at *
        obtain ⟨z0, z1, z2, z3, z4⟩ := HN9.out.five
        obtain ⟨y0, y1, y2, y3, y4⟩ := HN9.out.soft
        have HVX := Lib.hid (HN9.out.set dd.k dd.b dd.c (.slice ac2 nc2 cc2) (.slice am2 nm2 cm2))
        have hBT := set5_but wy B12 (.int .i64 dd.k) (.int .i64 dd.b) (.int .i64 dd.c) (.slice ac2 nc2 cc2) (.slice am2 nm2 cm2)
        have HRX := Lib.hid (HR9.out.butE HNI.out hBT)
        have hbX := Lib.hid (hbw.out.trans (hBT.below (B := wr.heap.size) (by exact HG9.out) hbw.out.size))
        clear hBT
        refine callL (i := 19) (by kernel_rfl) rfl (by rfl) (fun K hK => ?_)
        go_simp
        try dsimp only
        refine hK.out _ _ (by exact (hq0.below hbX.out).cells) (fun hHeld => ?_)
        clear hK K z0 z1 z2 z3 z4 y0 y1 y2 y3 y4
        try simp only [Act.put, List.setIfInBounds_toArray, List.set_cons_zero, List.set_cons_succ]
        change wpAnyH _ _ _ _ _ _ _ _ (set5 wy B12 (.int .i64 dd.k) (.int .i64 dd.b) (.int .i64 dd.c) (.slice ac2 nc2 cc2) (.slice am2 nm2 cm2))
        clear hHeld
        generalize set5 wy B12 (.int .i64 dd.k) (.int .i64 dd.b) (.int .i64 dd.c) (.slice ac2 nc2 cc2) (.slice am2 nm2 cm2) = WX at *
        have hHeld := (hq0.below hbX.out).cells
        clear hbw HN9 HR9 HNI
        refine takeQ (i := 20) (v := ?_) rfl (by kernel_rfl) (by kernel_rfl) (by kernel_rfl) (fun _ _ _ h => h) (by rfl) hHeld ?_ ?_
        rotate_left
        · (intro w' hSw; (try dsimp only at hSw); go_simp <;> (with_reducible rfl))
        try simp only [Act.put, List.setIfInBounds_toArray, List.set_cons_zero, List.set_cons_succ]
        refine wpAnyH_done (by kernel_rfl) (NoPanic.normal ?_) _
        clear hHeld hRowsW hCall hrun
        have HLX := Lib.hid (HL.out.below hbX.out)
        have HBX := Lib.hid (HBL.out.trans (hbX.out.mono (by exact HTW.out)))
        have HTX : Hid (w3.heap.size ≤ WX.heap.size) := Nat.le_trans HTW.out hbX.out.size
        have HOLD : Hid (∀ g, v.ownBlock = some g → NotIn g dd ac2 am2) := fun g e => NotIn.past HPW.out (own_lt HL.out.own e)
        have HPT : Hid (Past w3.heap.size ac2 am2) := ⟨fun ad e => Nat.le_trans HTW.out (HPW.out.1 ad e), fun ad e => Nat.le_trans HTW.out (HPW.out.2 ad e)⟩
        by_cases h0 : ee = 0
        · have e1 : (ee != 0) = false := by simpa using h0
          have HE0 : Hid (he i = 0) := HEE.out.trans h0
          have hL64 : Hid (L.length < 64) := by show _ < _; rw [HL.out.len]; have := HT.out; have := HPP.out; omega
          clear h0
          obtain ⟨x0, x1, x2, x3, x4⟩ := HVX.out.five
          go_wp2_with (at_builtin; refine wpList_append_own_at _ rfl _ _ 67 rfl w3.heap.size 45 i0 (.agg #[.int .i64 0, .int .i64 0, .int .i64 0, .slice none 0 0, .slice none 0 0]) 5 72 Try.underlying67 hi hz0 hz1 hz2 rfl (by decide) _ _ _ rfl (HLX.out.own.alloc _) ⟨WX.heap.size, 0, none⟩ 1 1 [.int .i64 dd.k, .int .i64 dd.b, .int .i64 dd.c, .slice ac2 nc2 cc2, .slice am2 nm2 cm2] rfl rfl (cell_five_new _ _ _ _ _ _ _) (by simp [Value.oneCell']) (by have := hL64.out; unfold maxLen; omega) (by have := hL64.out; omega) (by have := HTX.out; simp; omega) ?_; intro v' w9 hown' hgrow _ hat; obtain ⟨g', cap', rfl⟩ := ownsRow_succ hown'; obtain ⟨hS1, hS2⟩ := loopR_step (y := ⟨dd, ac2, nc2, cc2, am2, nm2, cm2⟩) HLX.out HDD.out HE0.out HRX.out HPT.out HZ2.out HOLD.out HBX.out HTX.out hown' hgrow hat; clear hown' hgrow hat)
          go_roundw
          case rel => exact ⟨i + 1, _, _, HT.out, rfl, congrArg (Value.int .i64) HNX.out.1, hS1, hS2⟩
          case measure => exact HNX.out.2
        · have e1 : (ee != 0) = true := by simpa using h0
          have hg : (DD, EE) = (zD, ee) := by
            have h1 := HDE.out
            have hPPp := HPP.out
            have hTT := HT.out
            have h2 := errF_first (he := he) (x := i) (pre := List.range i) (l := List.range p) (by rw [HEE.out]; exact h0) (by rw [← List.range_succ]; exact range_pre (by omega)) (fun k hk => HL.out.zero k (List.mem_range.1 hk))
            unfold partsG at h1
            rw [if_neg (by omega), h2, HEE.out, if_neg h0] at h1
            exact h1.symm
          obtain ⟨rfl, rfl⟩ : DD = zD ∧ EE = ee := by cases hg; exact ⟨rfl, rfl⟩
          clear hg h0
          replace HB := Lib.hid (HB.out.trans (HBX.out.mono HB.out.size))
          replace HV := Lib.hid (HV.out.below HBX.out (by have := HVlt.out; have := HG3.out; omega))
          obtain ⟨r0, r1, r2, r3, r4⟩ := HV.out.five
          obtain ⟨y0, y1, y2, y3, y4⟩ := HV.out.soft
          go_wp2_with fail
          obtain ⟨z0, z1, z2, z3, z4⟩ := (HV.out.set 0 0 0 (.slice none 0 0) (.slice none 0 0)).five
          have HBW := set5_below (g := w.heap.size + 1) (x0 := .int .i64 0) (x1 := .int .i64 0) (x2 := .int .i64 0) (x3 := .slice none 0 0) (x4 := .slice none 0 0) HB.out (by omega)
          change bodyPost _ _ _ _ _ (set5 WX (w.heap.size + 1) (.int .i64 0) (.int .i64 0) (.int .i64 0) (.slice none 0 0) (.slice none 0 0))
          generalize set5 WX (w.heap.size + 1) (.int .i64 0) (.int .i64 0) (.int .i64 0) (.slice none 0 0) (.slice none 0 0) = WX at *
          simp [bodyPost, results, Try.results15, go_sem, z0, z1, z2, z3, z4]
          exact ⟨_, rfl, Is.zero _ _, HBW⟩
      · have hV8 := VarH.new (wr.drew) 0 0 0 (.slice none 0 0) (.slice none 0 0) 45
        have b8 := alloc_below (wr.drew) (.cells #[.int .i64 0, .int .i64 0, .int .i64 0, .slice none 0 0, .slice none 0 0] 45)
        obtain ⟨wy, hwy⟩ : ∃ wy, World.alloc (wr.drew) (.cells #[.int .i64 0, .int .i64 0, .int .i64 0, .slice none 0 0, .slice none 0 0] 45) = wy := ⟨_, rfl⟩
        rw [hwy] at hV8 b8
        go_simp
        replace hbw := Lib.hid (hbw.out.trans b8)
        try dsimp only
        refine hK.out _ _ ((hq0.below hbw.out).cells) (fun hHeld => ?_)
        clear hK K
        try simp only [Act.put, List.setIfInBounds_toArray, List.set_cons_zero, List.set_cons_succ]
        refine callL (i := 14) (by kernel_rfl) rfl (by rfl) (fun K hK => ?_)
        go_simp
        refine (hCall _ (HBW.out.trans (hbw.out.mono HBW.out.size)) (hRowsW.below hbw.out)).mono ?_
        rintro e w7 ⟨v7, rfl, ⟨ac2, nc2, cc2, am2, nm2, cm2, rfl, hR2, hP2, hZ2⟩, b7⟩
        have HN9 : Hid (VarH wr.heap.size 0 0 0 (.slice none 0 0) (.slice none 0 0) w7) := hV8.below b7 hV8.lt
        have hsz : wy.heap.size = wr.heap.size + 1 := by rw [← hwy]; exact World.size_alloc wr.drew _
        replace hbw := Lib.hid (hbw.out.trans (b7.mono hbw.out.size))
        have HNI : Hid (NotIn wr.heap.size dd ac2 am2) := NotIn.past hP2 (by omega)
        have HPW : Hid (Past wr.heap.size ac2 am2) := ⟨fun ad e => by have := hP2.1 ad e; omega, fun ad e => by have := hP2.2 ad e; omega⟩
        have HR9 := Lib.hid hR2
        have HZ2 := Lib.hid hZ2
        try dsimp only
        refine hK.out _ _ ((hq0.below hbw.out).cells) (fun hHeld => ?_)
        clear hK K
        try simp only [Act.put, List.setIfInBounds_toArray, List.set_cons_zero, List.set_cons_succ]
        refine takeQ (i := 15) (v := ?_) rfl (by kernel_rfl) (by kernel_rfl) (by kernel_rfl) (fun _ _ _ h => h) (by rfl) hHeld ?_ ?_
        rotate_left
        · (intro w' hSw; (try dsimp only at hSw); go_simp <;> (with_reducible rfl))
        try simp only [Act.put, List.setIfInBounds_toArray, List.set_cons_zero, List.set_cons_succ]
        refine takeQ (i := 16) (v := ?_) rfl (by kernel_rfl) (by kernel_rfl) (by kernel_rfl) (fun _ _ _ h => h) (by rfl) hHeld ?_ ?_
        rotate_left
        · (intro w' hSw; (try dsimp only at hSw); go_simp <;> (with_reducible rfl))
        try simp only [Act.put, List.setIfInBounds_toArray, List.set_cons_zero, List.set_cons_succ]
        refine takeQ (i := 17) (v := ?_) rfl (by kernel_rfl) (by kernel_rfl) (by kernel_rfl) (fun _ _ _ h => h) (by rfl) hHeld ?_ ?_
        rotate_left
        · (intro w' hSw; (try dsimp only at hSw); go_simp <;> (with_reducible rfl))
        try simp only [Act.put, List.setIfInBounds_toArray, List.set_cons_zero, List.set_cons_succ]
        have HG9 : Hid (wr.heap.size ≤ wr.heap.size) := Nat.le_refl _
        clear hwy hV8 b8 hR2 hP2 b7 hsz hZ2
        obtain ⟨z0, z1, z2, z3, z4⟩ := HN9.out.five
        obtain ⟨y0, y1, y2, y3, y4⟩ := HN9.out.soft
        have HVX := Lib.hid (HN9.out.set dd.k dd.b dd.c (.slice ac2 nc2 cc2) (.slice am2 nm2 cm2))
        have hBT := set5_but w7 wr.heap.size (.int .i64 dd.k) (.int .i64 dd.b) (.int .i64 dd.c) (.slice ac2 nc2 cc2) (.slice am2 nm2 cm2)
        have HRX := Lib.hid (HR9.out.butE HNI.out hBT)
        have hbX := Lib.hid (hbw.out.trans (hBT.below (B := wr.heap.size) (by exact HG9.out) hbw.out.size))
        clear hBT
        refine callL (i := 19) (by kernel_rfl) rfl (by rfl) (fun K hK => ?_)
        go_simp
        try dsimp only
        refine hK.out _ _ (by exact (hq0.below hbX.out).cells) (fun hHeld => ?_)
        clear hK K z0 z1 z2 z3 z4 y0 y1 y2 y3 y4
        try simp only [Act.put, List.setIfInBounds_toArray, List.set_cons_zero, List.set_cons_succ]
        change wpAnyH _ _ _ _ _ _ _ _ (set5 w7 wr.heap.size (.int .i64 dd.k) (.int .i64 dd.b) (.int .i64 dd.c) (.slice ac2 nc2 cc2) (.slice am2 nm2 cm2))
        clear hHeld
        generalize set5 w7 wr.heap.size (.int .i64 dd.k) (.int .i64 dd.b) (.int .i64 dd.c) (.slice ac2 nc2 cc2) (.slice am2 nm2 cm2) = WX at *
        have hHeld := (hq0.below hbX.out).cells
        clear hbw HN9 HR9 HNI
        refine takeQ (i := 20) (v := ?_) rfl (by kernel_rfl) (by kernel_rfl) (by kernel_rfl) (fun _ _ _ h => h) (by rfl) hHeld ?_ ?_
        rotate_left
        · (intro w' hSw; (try dsimp only at hSw); go_simp <;> (with_reducible rfl))
        try simp only [Act.put, List.setIfInBounds_toArray, List.set_cons_zero, List.set_cons_succ]
        refine wpAnyH_done (by kernel_rfl) (NoPanic.normal ?_) _
        clear hHeld hRowsW hCall hrun
        have HLX := Lib.hid (HL.out.below hbX.out)
        have HBX := Lib.hid (HBL.out.trans (hbX.out.mono (by exact HTW.out)))
        have HTX : Hid (w3.heap.size ≤ WX.heap.size) := Nat.le_trans HTW.out hbX.out.size
        have HOLD : Hid (∀ g, v.ownBlock = some g → NotIn g dd ac2 am2) := fun g e => NotIn.past HPW.out (own_lt HL.out.own e)
        have HPT : Hid (Past w3.heap.size ac2 am2) := ⟨fun ad e => Nat.le_trans HTW.out (HPW.out.1 ad e), fun ad e => Nat.le_trans HTW.out (HPW.out.2 ad e)⟩
        by_cases h0 : ee = 0
        · have e1 : (ee != 0) = false := by simpa using h0
          have HE0 : Hid (he i = 0) := HEE.out.trans h0
          have hL64 : Hid (L.length < 64) := by show _ < _; rw [HL.out.len]; have := HT.out; have := HPP.out; omega
          clear h0
          obtain ⟨x0, x1, x2, x3, x4⟩ := HVX.out.five
          go_wp2_with (at_builtin; refine wpList_append_own_at _ rfl _ _ 67 rfl w3.heap.size 45 i0 (.agg #[.int .i64 0, .int .i64 0, .int .i64 0, .slice none 0 0, .slice none 0 0]) 5 72 Try.underlying67 hi hz0 hz1 hz2 rfl (by decide) _ _ _ rfl (HLX.out.own.alloc _) ⟨WX.heap.size, 0, none⟩ 1 1 [.int .i64 dd.k, .int .i64 dd.b, .int .i64 dd.c, .slice ac2 nc2 cc2, .slice am2 nm2 cm2] rfl rfl (cell_five_new _ _ _ _ _ _ _) (by simp [Value.oneCell']) (by have := hL64.out; unfold maxLen; omega) (by have := hL64.out; omega) (by have := HTX.out; simp; omega) ?_; intro v' w9 hown' hgrow _ hat; obtain ⟨g', cap', rfl⟩ := ownsRow_succ hown'; obtain ⟨hS1, hS2⟩ := loopR_step (y := ⟨dd, ac2, nc2, cc2, am2, nm2, cm2⟩) HLX.out HDD.out HE0.out HRX.out HPT.out HZ2.out HOLD.out HBX.out HTX.out hown' hgrow hat; clear hown' hgrow hat)
          go_roundw
          case rel => exact ⟨i + 1, _, _, HT.out, rfl, congrArg (Value.int .i64) HNX.out.1, hS1, hS2⟩
          case measure => exact HNX.out.2
        · have e1 : (ee != 0) = true := by simpa using h0
          have hg : (DD, EE) = (zD, ee) := by
            have h1 := HDE.out
            have hPPp := HPP.out
            have hTT := HT.out
            have h2 := errF_first (he := he) (x := i) (pre := List.range i) (l := List.range p) (by rw [HEE.out]; exact h0) (by rw [← List.range_succ]; exact range_pre (by omega)) (fun k hk => HL.out.zero k (List.mem_range.1 hk))
            unfold partsG at h1
            rw [if_neg (by omega), h2, HEE.out, if_neg h0] at h1
            exact h1.symm
          obtain ⟨rfl, rfl⟩ : DD = zD ∧ EE = ee := by cases hg; exact ⟨rfl, rfl⟩
          clear hg h0
          replace HB := Lib.hid (HB.out.trans (HBX.out.mono HB.out.size))
          replace HV := Lib.hid (HV.out.below HBX.out (by have := HVlt.out; have := HG3.out; omega))
          obtain ⟨r0, r1, r2, r3, r4⟩ := HV.out.five
          obtain ⟨y0, y1, y2, y3, y4⟩ := HV.out.soft
          go_wp2_with fail
          obtain ⟨z0, z1, z2, z3, z4⟩ := (HV.out.set 0 0 0 (.slice none 0 0) (.slice none 0 0)).five
          have HBW := set5_below (g := w.heap.size + 1) (x0 := .int .i64 0) (x1 := .int .i64 0) (x2 := .int .i64 0) (x3 := .slice none 0 0) (x4 := .slice none 0 0) HB.out (by omega)
          change bodyPost _ _ _ _ _ (set5 WX (w.heap.size + 1) (.int .i64 0) (.int .i64 0) (.int .i64 0) (.slice none 0 0) (.slice none 0 0))
          generalize set5 WX (w.heap.size + 1) (.int .i64 0) (.int .i64 0) (.int .i64 0) (.slice none 0 0) (.slice none 0 0) = WX at *
          simp [bodyPost, results, Try.results15, go_sem, z0, z1, z2, z3, z4]
          exact ⟨_, rfl, Is.zero _ _, HBW⟩
    · have hlt2 : ¬ (i : Int) < (p : Int) := by omega
      obtain rfl : i = p := by omega
      obtain ⟨wq, rfl⟩ : ∃ wq, wq = wr := ⟨_, rfl⟩
      have hLi := HL.out.len
      have hPPp := HPP.out
      obtain ⟨g, cap, rfl, -, hcc, -, hglt, hcell⟩ := own_row HL.out.own (by omega)
      have hrd := HL.out.rd
      have hmf : mergeF (L.getD 0 hz).d ((L.map HR.d).drop 1) = (DD, EE) := by
        have h1 := HDE.out
        unfold partsG at h1
        rw [if_neg (by omega), if_pos (errF_none (fun k hk => HL.out.zero k (List.mem_range.1 hk))), ← HL.out.map] at h1
        have h2 : (L.getD 0 hz).d = hd 0 := by
          have e1 : (L.map HR.d)[0]? = ((List.range i).map hd)[0]? := by rw [HL.out.map]
          rw [List.getElem?_map, List.getElem?_map, List.getElem?_eq_getElem (by omega), List.getElem?_range (by omega)] at e1
          simp only [Option.map_some, Option.some.injEq] at e1
          rw [List.getD_eq_getElem?_getD, List.getElem?_eq_getElem (by omega)]
          exact e1
        rw [h2]; exact h1
      rw [hLi]
      have hrowH : RowH g L w3.heap.size wq := ⟨hglt, hcell, fun i hi => (hrd i hi).1, fun i hi => (hrd i hi).2.1⟩
      have HROWH := Lib.hid hrowH
      have HZZ : Hid (∀ k, k < L.length → ((L.getD k hz).ac = none → (L.getD k hz).cc = 0) ∧ ((L.getD k hz).am = none → (L.getD k hz).cm = 0)) := fun k hk => (hrd k hk).2.2
      have HLI := Lib.hid hLi
      have hAt := fun t ht D => mergeF_at (L.map HR.d) t ht D
      have hLen : (L.map HR.d).length = i := by simp [hLi]
      have hGet : ∀ t, t < i → (L.map HR.d).getD t zD = (L.getD t hz).d := fun t ht => by
        rw [List.getD_eq_getElem?_getD, List.getD_eq_getElem?_getD, List.getElem?_map, List.getElem?_eq_getElem (by omega)]
        rfl
      generalize L.map HR.d = M at *
      have HNil : Hid (∀ D, mergeF D [] = (D, 0)) := fun D => rfl
      obtain ⟨mF, hmF⟩ : ∃ f, mergeF = f := ⟨_, rfl⟩
      rw [hmF] at hmf HNil
      have HAt : Hid (∀ t (ht : t < M.length) D, mF D (M.drop t) = if bothE plusW D (M.getD t zD) = 0 then mF (bothD plusW D (M.getD t zD)) (M.drop (t + 1)) else (zD, bothE plusW D (M.getD t zD))) := by rw [← hmF]; exact hAt
      have HGT := Lib.hid hGet
      have HLEN := Lib.hid hLen
      have HMF := Lib.hid hmf
      obtain ⟨f0, f1, f2, f3, f4⟩ := hcell 0 (by omega)
      obtain ⟨hr0, hp0, hz0'⟩ := hrd 0 (by omega)
      simp only [Nat.zero_mul, Nat.zero_add] at f0 f1 f2 f3 f4
      generalize L.getD 0 hz = x at *
      obtain ⟨d, ac, nc, cc, am, nm, cm⟩ := x
      simp only at *
      have j0 : (0 : Int) < (i : Int) := by omega
      have HBW : Hid (Below w.heap.size w wq) := HB.out.trans (HBL.out.mono HB.out.size)
      replace HV := Lib.hid (HV.out.below HBL.out (by have := HV.out.lt; omega))
      have HG := Lib.hid HBL.out.size
      have HVl : Hid (w.heap.size + 1 < w3.heap.size) := by have := HVlt.out; have := HG3.out; show _ < _; omega
      clear hmF hAt hGet hLen hmf hrd hcell hrowH hLi HL HBL HSP HX HPR HH HDE hglt hcc HB hlt ht hPPp
      go_upto_region 13 with fail
      obtain ⟨w5, hw5⟩ : ∃ w5, wq.alloc (.cells #[.int .i64 d.k, .int .i64 d.b, .int .i64 d.c, .slice ac nc cc, .slice am nm cm] 45) = w5 := ⟨_, rfl⟩
      have hV5 : VarH wq.heap.size d.k d.b d.c (.slice ac nc cc) (.slice am nm cm) w5 := by rw [← hw5]; exact VarH.new _ _ _ _ _ _ _
      have hb5 : Below wq.heap.size wq w5 := by rw [← hw5]; exact alloc_below _ _
      rw [hw5]
      have HB := Lib.hid (HBW.out.trans (hb5.mono HBW.out.size))
      replace HV := Lib.hid (HV.out.below hb5 HV.out.lt)
      have HB5 := Lib.hid hb5
      have HW := Lib.hid hV5
      have HR := Lib.hid (hr0.below hb5)
      have HN : Hid (NotIn wq.heap.size d ac am ∧ NotIn (w.heap.size + 1) d ac am) := ⟨NotIn.fresh hr0 (Nat.le_refl _), NotIn.past hp0 (by have := HVl.out; omega)⟩
      have HP := Lib.hid hp0
      have HZ := Lib.hid hz0'
      clear hw5 hV5 hb5 hr0 hp0 hz0' f0 f1 f2 f3 f4
      obtain ⟨vO, hvO⟩ : ∃ v, wq.heap.size = v := ⟨_, rfl⟩
      have HVO := Lib.hid hvO
      rw [hvO] at HW HN ⊢
      clear hvO
      have HMF1 : Hid (mF d (M.drop 1) = (DD, EE)) := HMF.out
      go_wp2_with fail
      go_loopw [16] (fun iv wz => ∃ (j : Nat) (D : HD) (ac : Option Addr) (nc cc : Nat) (am : Option Addr) (nm cm : Nat), 1 ≤ j ∧ j ≤ i ∧ iv = .int .i64 (j : Int) ∧ Hid (VarH vO D.k D.b D.c (.slice ac nc cc) (.slice am nm cm) wz) ∧ Hid (Reads D ac nc am nm wz) ∧
        Hid (NotIn vO D ac am ∧ NotIn (w.heap.size + 1) D ac am) ∧ Hid (Past w3.heap.size ac am) ∧ Hid ((ac = none → cc = 0) ∧ (am = none → cm = 0)) ∧ Hid (Below w.heap.size w wz) ∧ Hid (Below vO wq wz) ∧ Hid (VarH (w.heap.size + 1) 0 0 0 (.slice none 0 0) (.slice none 0 0) wz) ∧ Hid (mF D (M.drop j) = (DD, EE))) (fun iv _ => i - (intOf iv).toNat)
      case atStart => exact ⟨1, d, _, _, _, _, _, _, Nat.le_refl _, by have := HPP.out; omega, rfl, HW, HR, HN, HP, HZ, HB, (by rw [← HVO.out]; exact HB5.out), HV, HMF1⟩
      case round =>
        clear HW HR HN HP HZ HB HV HMF1 HMF HB5 HBW
        obtain ⟨j, D, ac, nc, cc, am, nm, cm, hj1, ht, rfl, HW, HR, HN, HP, HZ, HB, HB5, HV, HMF⟩ := hrel
        by_cases hlt : j < i
        · have hlt2 : (j : Int) < (i : Int) := by omega
          have HT : Hid (1 ≤ j + 1 ∧ j + 1 ≤ i) := by show _ ∧ _; omega
          have HNX := Lib.hid (next_num hlt (by have := HPP.out; omega))
          have hst := HAt.out j (by have := HLEN.out; omega) D
          rw [HMF.out, HGT.out j hlt] at hst
          have hrow := HROWH.out.below (by rw [HVO.out]; exact HB5.out)
          have hcl := hrow.cell j (by have := HLI.out; omega)
          have hr2 := hrow.reads j (by have := HLI.out; omega)
          have hgl := hrow.lt
          generalize L.getD j hz = x at *
          obtain ⟨d', ac', nc', cc', am', nm', cm'⟩ := x
          simp only at *
          obtain ⟨E2, hE2⟩ : ∃ E2, bothE plusW D d' = E2 := ⟨_, rfl⟩
          obtain ⟨D2, hD2⟩ : ∃ D2, bothD plusW D d' = D2 := ⟨_, rfl⟩
          rw [hE2, hD2] at hst
          have HST := Lib.hid hst
          have hM := fun w6 (hb6 : Below wr.heap.size wr w6) => rmergeZ_any D d' ac am ac' am' nc cc nm cm nc' cc' nm' cm' w6 (HR.out.below hb6) (hr2.below hb6) HZ.out.1 HZ.out.2
          rw [hE2, hD2] at hM
          have hq1 : MR vO g (j * 5) D ac nc cc am nm cm ⟨d', ac', nc', cc', am', nm', cm'⟩ wr := ⟨HW.out, hgl, hcl⟩
          have hbw : Hid (Below wr.heap.size wr wr.drew) := ⟨rfl, rfl, rfl, Nat.le_refl _, fun _ _ => rfl⟩
          have HVlt2 : Hid (w.heap.size + 1 < wr.heap.size ∧ w3.heap.size ≤ wr.heap.size ∧ vO < wr.heap.size) := by
            have := HVl.out; have := HB5.out.size; have := HG.out; have := HVO.out; have := HW.out.lt
            show _ ∧ _; omega
          clear hst hlt ht hj1 hrow hgl hcl hE2 hD2 HN HP HZ
          go_upto_region 16 with fail
          refine wp_region_noPanic ?_
          refine wp_region_held_drew (S := (fun w' => (w'.cell? ⟨vO, 0, none⟩ = some (.int .i64 D.k) ∧ w'.cell? ⟨vO, 1, none⟩ = some (.int .i64 D.b) ∧ w'.cell? ⟨vO, 2, none⟩ = some (.int .i64 D.c) ∧ w'.cell? ⟨vO, 3, none⟩ = some (.slice ac nc cc) ∧ w'.cell? ⟨vO, 4, none⟩ = some (.slice am nm cm)) ∧ (w'.cell? ⟨g, j * 5, none⟩ = some (.int .i64 d'.k) ∧ w'.cell? ⟨g, j * 5 + 1, none⟩ = some (.int .i64 d'.b) ∧ w'.cell? ⟨g, j * 5 + 2, none⟩ = some (.int .i64 d'.c) ∧ w'.cell? ⟨g, j * 5 + 3, none⟩ = some (.slice ac' nc' cc') ∧ w'.cell? ⟨g, j * 5 + 4, none⟩ = some (.slice am' nm' cm')))) (by kernel_rfl) ((hq1.below hbw.out).cells) (fun hHeld => ?_)
          refine takeQ (i := 0) (v := ?_) rfl (by kernel_rfl) (by kernel_rfl) (by kernel_rfl) (fun _ _ _ h => h) (by rfl) hHeld ?_ ?_
          rotate_left
          · (intro w' hSw; (try dsimp only at hSw); go_simp <;> (with_reducible rfl))
          try simp only [Act.put, List.setIfInBounds_toArray, List.set_cons_zero, List.set_cons_succ]
          refine takeQ (i := 1) (v := ?_) rfl (by kernel_rfl) (by kernel_rfl) (by kernel_rfl) (fun _ _ _ h => h) (by rfl) hHeld ?_ ?_
          rotate_left
          · (intro w' hSw; (try dsimp only at hSw); go_simp <;> (with_reducible rfl))
          try simp only [Act.put, List.setIfInBounds_toArray, List.set_cons_zero, List.set_cons_succ]
          refine takeQ (i := 2) (v := ?_) rfl (by kernel_rfl) (by kernel_rfl) (by kernel_rfl) (fun _ _ _ h => h) (by rfl) hHeld ?_ ?_
          rotate_left
          · (intro w' hSw; (try dsimp only at hSw); go_simp <;> (with_reducible rfl))
          try simp only [Act.put, List.setIfInBounds_toArray, List.set_cons_zero, List.set_cons_succ]
          refine takeQ (i := 3) (v := ?_) rfl (by kernel_rfl) (by kernel_rfl) (by kernel_rfl) (fun _ _ _ h => h) (by rfl) hHeld ?_ ?_
          rotate_left
          · (intro w' hSw; (try dsimp only at hSw); go_simp <;> (with_reducible rfl))
          try simp only [Act.put, List.setIfInBounds_toArray, List.set_cons_zero, List.set_cons_succ]
          refine takeQ (i := 4) (v := ?_) rfl (by kernel_rfl) (by kernel_rfl) (by kernel_rfl) (fun _ _ _ h => h) (by rfl) hHeld ?_ ?_
          rotate_left
          · (intro w' hSw; (try dsimp only at hSw); go_simp <;> (with_reducible rfl))
          try simp only [Act.put, List.setIfInBounds_toArray, List.set_cons_zero, List.set_cons_succ]
          refine bothL (i := 5) (j := 9) (by kernel_rfl) rfl rfl (by rfl) (by rfl) (fun K hK => ?_) (fun K hK => ?_)
          · go_simp
            refine (hM _ hbw.out).mono ?_
            rintro e w7 ⟨v7, rfl, ⟨ac2, nc2, cc2, am2, nm2, cm2, rfl, hR2, hP2, hZ2⟩, b7⟩
            replace hbw := Lib.hid (hbw.out.trans (b7.mono hbw.out.size))
            try dsimp only
            refine hK.out _ _ ((hq1.below hbw.out).cells) (fun hHeld => ?_)
            clear hK K
            try simp only [Act.put, List.setIfInBounds_toArray, List.set_cons_zero, List.set_cons_succ]
            refine takeQ (i := 6) (v := ?_) rfl (by kernel_rfl) (by kernel_rfl) (by kernel_rfl) (fun _ _ _ h => h) (by rfl) hHeld ?_ ?_
            rotate_left
            · (intro w' hSw; (try dsimp only at hSw); go_simp <;> (with_reducible rfl))
            try simp only [Act.put, List.setIfInBounds_toArray, List.set_cons_zero, List.set_cons_succ]
            refine takeQ (i := 7) (v := ?_) rfl (by kernel_rfl) (by kernel_rfl) (by kernel_rfl) (fun _ _ _ h => h) (by rfl) hHeld ?_ ?_
            rotate_left
            · (intro w' hSw; (try dsimp only at hSw); go_simp <;> (with_reducible rfl))
            try simp only [Act.put, List.setIfInBounds_toArray, List.set_cons_zero, List.set_cons_succ]
            refine takeQ (i := 8) (v := ?_) rfl (by kernel_rfl) (by kernel_rfl) (by kernel_rfl) (fun _ _ _ h => h) (by rfl) hHeld ?_ ?_
            rotate_left
            · (intro w' hSw; (try dsimp only at hSw); go_simp <;> (with_reducible rfl))
            try simp only [Act.put, List.setIfInBounds_toArray, List.set_cons_zero, List.set_cons_succ]
            have hV8 := VarH.new w7 0 0 0 (.slice none 0 0) (.slice none 0 0) 45
            have b8 := alloc_below w7 (.cells #[.int .i64 0, .int .i64 0, .int .i64 0, .slice none 0 0, .slice none 0 0] 45)
            obtain ⟨wy, hwy⟩ : ∃ wy, World.alloc w7 (.cells #[.int .i64 0, .int .i64 0, .int .i64 0, .slice none 0 0, .slice none 0 0] 45) = wy := ⟨_, rfl⟩
            rw [hwy] at hV8 b8
            replace hbw := Lib.hid (hbw.out.trans (b8.mono hbw.out.size))
            refine callL (i := 9) (by kernel_rfl) rfl (by rfl) (fun K hK => ?_)
            go_simp
            try dsimp only
            refine hK.out _ _ ((hq1.below hbw.out).cells) (fun hHeld => ?_)
            clear hK K
            try simp only [Act.put, List.setIfInBounds_toArray, List.set_cons_zero, List.set_cons_succ]
            have HN9 := Lib.hid hV8
            have HNI : Hid (NotIn w7.heap.size D2 ac2 am2) := NotIn.fresh hR2 (Nat.le_refl _)
            have HR9 := Lib.hid (hR2.below b8)
            have HG9 : Hid (wr.heap.size ≤ w7.heap.size) := b7.size
            have HPW : Hid (Past wr.heap.size ac2 am2) := hP2
            have HZ2 := Lib.hid hZ2
            clear hwy hV8 b8 hR2 hP2 b7 hZ2
            generalize w7.heap.size = B12 at *
            obtain ⟨z0, z1, z2, z3, z4⟩ := HN9.out.five
            obtain ⟨y0, y1, y2, y3, y4⟩ := HN9.out.soft
            have HVX := Lib.hid (HN9.out.set D2.k D2.b D2.c (.slice ac2 nc2 cc2) (.slice am2 nm2 cm2))
            have hBT := set5_but wy B12 (.int .i64 D2.k) (.int .i64 D2.b) (.int .i64 D2.c) (.slice ac2 nc2 cc2) (.slice am2 nm2 cm2)
            have HRX := Lib.hid (HR9.out.butE HNI.out hBT)
            have hbX := Lib.hid (hbw.out.trans (hBT.below (B := wr.heap.size) (by exact HG9.out) hbw.out.size))
            clear hBT
            refine callL (i := 10) (by kernel_rfl) rfl (by rfl) (fun K hK => ?_)
            go_simp
            try dsimp only
            refine hK.out _ _ (by exact (hq1.below hbX.out).cells) (fun hHeld => ?_)
            clear hK K z0 z1 z2 z3 z4 y0 y1 y2 y3 y4
            try simp only [Act.put, List.setIfInBounds_toArray, List.set_cons_zero, List.set_cons_succ]
            change wpAnyH _ _ _ _ _ _ _ _ (set5 wy B12 (.int .i64 D2.k) (.int .i64 D2.b) (.int .i64 D2.c) (.slice ac2 nc2 cc2) (.slice am2 nm2 cm2))
            clear hHeld
            generalize set5 wy B12 (.int .i64 D2.k) (.int .i64 D2.b) (.int .i64 D2.c) (.slice ac2 nc2 cc2) (.slice am2 nm2 cm2) = WX at *
            have hHeld := (hq1.below hbX.out).cells
            clear hbw HN9 HR9 HNI
            refine takeQ (i := 11) (v := ?_) rfl (by kernel_rfl) (by kernel_rfl) (by kernel_rfl) (fun _ _ _ h => h) (by rfl) hHeld ?_ ?_
            rotate_left
            · (intro w' hSw; (try dsimp only at hSw); go_simp <;> (with_reducible rfl))
            try simp only [Act.put, List.setIfInBounds_toArray, List.set_cons_zero, List.set_cons_succ]
            refine wpAnyH_done (by kernel_rfl) (NoPanic.normal ?_) _
            clear hHeld hM
            have HBX := Lib.hid (HB.out.trans (hbX.out.mono HB.out.size))
            have HB5X := Lib.hid (HB5.out.trans (hbX.out.mono (by have := HVlt2.out; omega)))
            have HVV := Lib.hid (HV.out.below hbX.out HV.out.lt)
            have HWX := Lib.hid (HW.out.below hbX.out HW.out.lt)
            have HN2 : Hid (NotIn vO D2 ac2 am2 ∧ NotIn (w.heap.size + 1) D2 ac2 am2) := ⟨NotIn.past HPW.out HVlt2.out.2.2, NotIn.past HPW.out HVlt2.out.1⟩
            have HP2 : Hid (Past w3.heap.size ac2 am2) := ⟨fun ad e => Nat.le_trans HVlt2.out.2.1 (HPW.out.1 ad e), fun ad e => Nat.le_trans HVlt2.out.2.1 (HPW.out.2 ad e)⟩
            clear HB HB5 HV HW HR hr2
            by_cases h0 : E2 = 0
            · have e1 : (E2 != 0) = false := by simpa using h0
              have hst := HST.out
              rw [if_pos h0] at hst
              have HD2 := Lib.hid hst.symm
              clear h0 HST hst
              obtain ⟨x0, x1, x2, x3, x4⟩ := HVX.out.five
              obtain ⟨v0, v1, v2, v3, v4⟩ := HWX.out.five
              obtain ⟨y0, y1, y2, y3, y4⟩ := HWX.out.soft
              have HBT := set5_but WX vO (.int .i64 D2.k) (.int .i64 D2.b) (.int .i64 D2.c) (.slice ac2 nc2 cc2) (.slice am2 nm2 cm2)
              have HWN := Lib.hid (HWX.out.set D2.k D2.b D2.c (.slice ac2 nc2 cc2) (.slice am2 nm2 cm2))
              have HRN := Lib.hid (HRX.out.butE HN2.out.1 HBT)
              have HvO : Hid (w.heap.size + 1 < vO) := by show _ < _; have := HVl.out; have := HG.out; have := HVO.out; omega
              have HBN := Lib.hid (HBX.out.trans (HBT.below (by have := HvO.out; omega) HBX.out.size))
              have HB5N := Lib.hid (HB5X.out.trans (HBT.below (Nat.le_refl _) (Nat.le_of_lt HWX.out.lt)))
              have HVN := Lib.hid (HVV.out.but HBT (by have := HvO.out; omega))
              clear HBT
              go_wp2_with fail
              go_roundw
              case rel => exact ⟨j + 1, D2, _, _, _, _, _, _, HT.out.1, HT.out.2, congrArg (Value.int .i64) HNX.out.1, HWN, HRN, HN2, HP2, HZ2, HBN, HB5N, HVN, HD2⟩
              case measure => exact HNX.out.2
            · have e1 : (E2 != 0) = true := by simpa using h0
              have hst := HST.out
              rw [if_neg h0] at hst
              obtain ⟨rfl, rfl⟩ : DD = zD ∧ EE = E2 := by cases hst; exact ⟨rfl, rfl⟩
              clear h0 HST hst
              have HB := HBX
              have HV := HVV
              obtain ⟨r0, r1, r2, r3, r4⟩ := HV.out.five
              obtain ⟨y0, y1, y2, y3, y4⟩ := HV.out.soft
              go_wp2_with fail
              obtain ⟨z0, z1, z2, z3, z4⟩ := (HV.out.set 0 0 0 (.slice none 0 0) (.slice none 0 0)).five
              have HBW := set5_below (g := w.heap.size + 1) (x0 := .int .i64 0) (x1 := .int .i64 0) (x2 := .int .i64 0) (x3 := .slice none 0 0) (x4 := .slice none 0 0) HB.out (by omega)
              change bodyPost _ _ _ _ _ (set5 WX (w.heap.size + 1) (.int .i64 0) (.int .i64 0) (.int .i64 0) (.slice none 0 0) (.slice none 0 0))
              generalize set5 WX (w.heap.size + 1) (.int .i64 0) (.int .i64 0) (.int .i64 0) (.slice none 0 0) (.slice none 0 0) = WX at *
              simp [bodyPost, results, Try.results15, go_sem, z0, z1, z2, z3, z4]
              exact ⟨_, rfl, Is.zero _ _, HBW⟩
          · have hV8 := VarH.new (wr.drew) 0 0 0 (.slice none 0 0) (.slice none 0 0) 45
            have b8 := alloc_below (wr.drew) (.cells #[.int .i64 0, .int .i64 0, .int .i64 0, .slice none 0 0, .slice none 0 0] 45)
            obtain ⟨wy, hwy⟩ : ∃ wy, World.alloc (wr.drew) (.cells #[.int .i64 0, .int .i64 0, .int .i64 0, .slice none 0 0, .slice none 0 0] 45) = wy := ⟨_, rfl⟩
            rw [hwy] at hV8 b8
            go_simp
            replace hbw := Lib.hid (hbw.out.trans b8)
            try dsimp only
            refine hK.out _ _ ((hq1.below hbw.out).cells) (fun hHeld => ?_)
            clear hK K
            try simp only [Act.put, List.setIfInBounds_toArray, List.set_cons_zero, List.set_cons_succ]
            refine callL (i := 5) (by kernel_rfl) rfl (by rfl) (fun K hK => ?_)
            go_simp
            refine (hM _ hbw.out).mono ?_
            rintro e w7 ⟨v7, rfl, ⟨ac2, nc2, cc2, am2, nm2, cm2, rfl, hR2, hP2, hZ2⟩, b7⟩
            have HN9 : Hid (VarH wr.heap.size 0 0 0 (.slice none 0 0) (.slice none 0 0) w7) := hV8.below b7 hV8.lt
            have hsz : wy.heap.size = wr.heap.size + 1 := by rw [← hwy]; exact World.size_alloc wr.drew _
            replace hbw := Lib.hid (hbw.out.trans (b7.mono hbw.out.size))
            have HNI : Hid (NotIn wr.heap.size D2 ac2 am2) := NotIn.past hP2 (by omega)
            have HPW : Hid (Past wr.heap.size ac2 am2) := ⟨fun ad e => by have := hP2.1 ad e; omega, fun ad e => by have := hP2.2 ad e; omega⟩
            have HR9 := Lib.hid hR2
            have HZ2 := Lib.hid hZ2
            try dsimp only
            refine hK.out _ _ ((hq1.below hbw.out).cells) (fun hHeld => ?_)
            clear hK K
            try simp only [Act.put, List.setIfInBounds_toArray, List.set_cons_zero, List.set_cons_succ]
            refine takeQ (i := 6) (v := ?_) rfl (by kernel_rfl) (by kernel_rfl) (by kernel_rfl) (fun _ _ _ h => h) (by rfl) hHeld ?_ ?_
            rotate_left
            · (intro w' hSw; (try dsimp only at hSw); go_simp <;> (with_reducible rfl))
            try simp only [Act.put, List.setIfInBounds_toArray, List.set_cons_zero, List.set_cons_succ]
            refine takeQ (i := 7) (v := ?_) rfl (by kernel_rfl) (by kernel_rfl) (by kernel_rfl) (fun _ _ _ h => h) (by rfl) hHeld ?_ ?_
            rotate_left
            · (intro w' hSw; (try dsimp only at hSw); go_simp <;> (with_reducible rfl))
            try simp only [Act.put, List.setIfInBounds_toArray, List.set_cons_zero, List.set_cons_succ]
            refine takeQ (i := 8) (v := ?_) rfl (by kernel_rfl) (by kernel_rfl) (by kernel_rfl) (fun _ _ _ h => h) (by rfl) hHeld ?_ ?_
            rotate_left
            · (intro w' hSw; (try dsimp only at hSw); go_simp <;> (with_reducible rfl))
            try simp only [Act.put, List.setIfInBounds_toArray, List.set_cons_zero, List.set_cons_succ]
            have HG9 : Hid (wr.heap.size ≤ wr.heap.size) := Nat.le_refl _
            clear hwy hV8 b8 hR2 hP2 b7 hsz hZ2
            obtain ⟨z0, z1, z2, z3, z4⟩ := HN9.out.five
            obtain ⟨y0, y1, y2, y3, y4⟩ := HN9.out.soft
            have HVX := Lib.hid (HN9.out.set D2.k D2.b D2.c (.slice ac2 nc2 cc2) (.slice am2 nm2 cm2))
            have hBT := set5_but w7 wr.heap.size (.int .i64 D2.k) (.int .i64 D2.b) (.int .i64 D2.c) (.slice ac2 nc2 cc2) (.slice am2 nm2 cm2)
            have HRX := Lib.hid (HR9.out.butE HNI.out hBT)
            have hbX := Lib.hid (hbw.out.trans (hBT.below (B := wr.heap.size) (by exact HG9.out) hbw.out.size))
            clear hBT
            refine callL (i := 10) (by kernel_rfl) rfl (by rfl) (fun K hK => ?_)
            go_simp
            try dsimp only
            refine hK.out _ _ (by exact (hq1.below hbX.out).cells) (fun hHeld => ?_)
            clear hK K z0 z1 z2 z3 z4 y0 y1 y2 y3 y4
            try simp only [Act.put, List.setIfInBounds_toArray, List.set_cons_zero, List.set_cons_succ]
            change wpAnyH _ _ _ _ _ _ _ _ (set5 w7 wr.heap.size (.int .i64 D2.k) (.int .i64 D2.b) (.int .i64 D2.c) (.slice ac2 nc2 cc2) (.slice am2 nm2 cm2))
            clear hHeld
            generalize set5 w7 wr.heap.size (.int .i64 D2.k) (.int .i64 D2.b) (.int .i64 D2.c) (.slice ac2 nc2 cc2) (.slice am2 nm2 cm2) = WX at *
            have hHeld := (hq1.below hbX.out).cells
            clear hbw HN9 HR9 HNI
            refine takeQ (i := 11) (v := ?_) rfl (by kernel_rfl) (by kernel_rfl) (by kernel_rfl) (fun _ _ _ h => h) (by rfl) hHeld ?_ ?_
            rotate_left
            · (intro w' hSw; (try dsimp only at hSw); go_simp <;> (with_reducible rfl))
            try simp only [Act.put, List.setIfInBounds_toArray, List.set_cons_zero, List.set_cons_succ]
            refine wpAnyH_done (by kernel_rfl) (NoPanic.normal ?_) _
            clear hHeld hM
            have HBX := Lib.hid (HB.out.trans (hbX.out.mono HB.out.size))
            have HB5X := Lib.hid (HB5.out.trans (hbX.out.mono (by have := HVlt2.out; omega)))
            have HVV := Lib.hid (HV.out.below hbX.out HV.out.lt)
            have HWX := Lib.hid (HW.out.below hbX.out HW.out.lt)
            have HN2 : Hid (NotIn vO D2 ac2 am2 ∧ NotIn (w.heap.size + 1) D2 ac2 am2) := ⟨NotIn.past HPW.out HVlt2.out.2.2, NotIn.past HPW.out HVlt2.out.1⟩
            have HP2 : Hid (Past w3.heap.size ac2 am2) := ⟨fun ad e => Nat.le_trans HVlt2.out.2.1 (HPW.out.1 ad e), fun ad e => Nat.le_trans HVlt2.out.2.1 (HPW.out.2 ad e)⟩
            clear HB HB5 HV HW HR hr2
            by_cases h0 : E2 = 0
            · have e1 : (E2 != 0) = false := by simpa using h0
              have hst := HST.out
              rw [if_pos h0] at hst
              have HD2 := Lib.hid hst.symm
              clear h0 HST hst
              obtain ⟨x0, x1, x2, x3, x4⟩ := HVX.out.five
              obtain ⟨v0, v1, v2, v3, v4⟩ := HWX.out.five
              obtain ⟨y0, y1, y2, y3, y4⟩ := HWX.out.soft
              have HBT := set5_but WX vO (.int .i64 D2.k) (.int .i64 D2.b) (.int .i64 D2.c) (.slice ac2 nc2 cc2) (.slice am2 nm2 cm2)
              have HWN := Lib.hid (HWX.out.set D2.k D2.b D2.c (.slice ac2 nc2 cc2) (.slice am2 nm2 cm2))
              have HRN := Lib.hid (HRX.out.butE HN2.out.1 HBT)
              have HvO : Hid (w.heap.size + 1 < vO) := by show _ < _; have := HVl.out; have := HG.out; have := HVO.out; omega
              have HBN := Lib.hid (HBX.out.trans (HBT.below (by have := HvO.out; omega) HBX.out.size))
              have HB5N := Lib.hid (HB5X.out.trans (HBT.below (Nat.le_refl _) (Nat.le_of_lt HWX.out.lt)))
              have HVN := Lib.hid (HVV.out.but HBT (by have := HvO.out; omega))
              clear HBT
              go_wp2_with fail
              go_roundw
              case rel => exact ⟨j + 1, D2, _, _, _, _, _, _, HT.out.1, HT.out.2, congrArg (Value.int .i64) HNX.out.1, HWN, HRN, HN2, HP2, HZ2, HBN, HB5N, HVN, HD2⟩
              case measure => exact HNX.out.2
            · have e1 : (E2 != 0) = true := by simpa using h0
              have hst := HST.out
              rw [if_neg h0] at hst
              obtain ⟨rfl, rfl⟩ : DD = zD ∧ EE = E2 := by cases hst; exact ⟨rfl, rfl⟩
              clear h0 HST hst
              have HB := HBX
              have HV := HVV
              obtain ⟨r0, r1, r2, r3, r4⟩ := HV.out.five
              obtain ⟨y0, y1, y2, y3, y4⟩ := HV.out.soft
              go_wp2_with fail
              obtain ⟨z0, z1, z2, z3, z4⟩ := (HV.out.set 0 0 0 (.slice none 0 0) (.slice none 0 0)).five
              have HBW := set5_below (g := w.heap.size + 1) (x0 := .int .i64 0) (x1 := .int .i64 0) (x2 := .int .i64 0) (x3 := .slice none 0 0) (x4 := .slice none 0 0) HB.out (by omega)
              change bodyPost _ _ _ _ _ (set5 WX (w.heap.size + 1) (.int .i64 0) (.int .i64 0) (.int .i64 0) (.slice none 0 0) (.slice none 0 0))
              generalize set5 WX (w.heap.size + 1) (.int .i64 0) (.int .i64 0) (.int .i64 0) (.slice none 0 0) (.slice none 0 0) = WX at *
              simp [bodyPost, results, Try.results15, go_sem, z0, z1, z2, z3, z4]
              exact ⟨_, rfl, Is.zero _ _, HBW⟩
        · have hlt2 : ¬ (j : Int) < (i : Int) := by omega
          obtain rfl : j = i := by omega
          have hst := HMF.out
          rw [List.drop_of_length_le (by have := HLEN.out; omega), HNil.out] at hst
          obtain ⟨rfl, rfl⟩ : DD = D ∧ EE = 0 := by cases hst; exact ⟨rfl, rfl⟩
          have HR6 := Lib.hid (fun W' (b : But (w.heap.size + 1) wr W') => HR.out.butE HN.out.2 b)
          have HP6 : Hid (Past w.heap.size ac am) := ⟨fun ad e => by have := HP.out.1 ad e; have := HVl.out; omega, fun ad e => by have := HP.out.2 ad e; have := HVl.out; omega⟩
          obtain ⟨v0, v1, v2, v3, v4⟩ := HW.out.five
          obtain ⟨r0, r1, r2, r3, r4⟩ := HV.out.five
          obtain ⟨y0, y1, y2, y3, y4⟩ := HV.out.soft
          clear hlt ht hst HMF HAt HNil hj1
          go_wp2_with fail
          obtain ⟨z0, z1, z2, z3, z4⟩ := (HV.out.set DD.k DD.b DD.c (.slice ac nc cc) (.slice am nm cm)).five
          have HBW := set5_below (g := w.heap.size + 1) (x0 := .int .i64 DD.k) (x1 := .int .i64 DD.b) (x2 := .int .i64 DD.c) (x3 := (.slice ac nc cc)) (x4 := (.slice am nm cm)) HB.out (by omega)
          have HBT := set5_but wr (w.heap.size + 1) (.int .i64 DD.k) (.int .i64 DD.b) (.int .i64 DD.c) (.slice ac nc cc) (.slice am nm cm)
          change bodyPost _ _ _ _ _ (set5 wr (w.heap.size + 1) (.int .i64 DD.k) (.int .i64 DD.b) (.int .i64 DD.c) (.slice ac nc cc) (.slice am nm cm))
          generalize set5 wr (w.heap.size + 1) (.int .i64 DD.k) (.int .i64 DD.b) (.int .i64 DD.c) (.slice ac nc cc) (.slice am nm cm) = WX at *
          simp [bodyPost, results, Try.results15, go_sem, z0, z1, z2, z3, z4]
          exact ⟨_, rfl, ⟨_, _, _, _, _, _, rfl, HR6.out _ HBT, HP6.out⟩, HBW⟩

/-- A SAMPLE's HISTOGRAM, merged of parts, by the document. -/
theorem rparts_any (s : SD) (aC aT aW aR : Option Addr) (cC cT cW nR cR : Nat) (col : Int) (rows : List Int) (p : Int) (hnR : rows.length = nR) (hn2 : nR ≤ 1048576) (w : World) (hS : HoldsS s aC aT aW w) (hrow : HoldsE KN w aR rows)
    (hcap : nR ≤ cR) (hnone : aR = none → cR = 0) :
    Calls Try.prog 15 #[.agg (smpA s.k s.c s.b s.t s.d s.l s.p s.r s.q (.slice aC s.C.length cC) (.slice aT s.T.length cT) (.slice aW s.W.length cW)), .int .i64 col, .slice aR nR cR, .int .i64 p] w fun e w' => Made (partsF s col rows p).1 (partsF s col rows p).2 w e w' := by
  by_cases hp : 1 ≤ p ∧ p ≤ 64
  · obtain ⟨k, rfl⟩ : ∃ k : Nat, p = (k : Int) := ⟨p.toNat, by omega⟩
    have hk : partsK (rows.length : Int) (k : Int) = k := by unfold partsK; rw [if_neg (by omega)]; rfl
    unfold partsF
    rw [hk, Int.toNat_natCast, hnR]
    exact rparts_yes s aC aT aW aR cC cT cW nR cR col rows k (by omega) (by omega) hnR hn2 w hS hrow hcap hnone _ _ (fun _ => rfl) (fun _ => rfl) _ _ rfl
  · have hk : partsF s col rows p = (zD, 1) := by
      unfold partsF partsK partsG
      rw [if_pos (show (rows.length : Int) < 0 ∨ p < 1 ∨ 64 < p by omega)]
      rfl
    rw [hk]
    exact rparts_no s aC aT aW aR cC cT cW nR cR col p hn2 w (by omega)
end Go.Proofs.Ytebdlmjpgohngaa
