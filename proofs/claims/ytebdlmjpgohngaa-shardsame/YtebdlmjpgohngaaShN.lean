/-
  A SAMPLE's HISTOGRAM, merged of parts, by the program. Conditions: at most 2^20 cells; targets, weights, rows of 64 bits with a sign; at most 2^20 rows that are asked for.
-/
import Derived.Test.YtebdlmjpgohngaaMgC
import Derived.Maps.OwnIn
namespace Go.Proofs.Ytebdlmjpgohngaa
open Go.RowKit Go.Shelf

attribute [local go_sem] Oper.semAt_some

/-- The boxes of what a call was handed, and of what it hands back. -/
structure PBox (N : Nat) (A : Array Value) (col : Int) (vR : Value) (W : World) : Prop where
  X : BoxS W N A
  C : Boxed W (N + 1) 3 (.int .i64 col)
  R : Boxed W (N + 1 + 1) 36 vR
  H : W.heap[N + 1 + 1 + 1]? = some (.cells #[.int .i64 0, .int .i64 0, .int .i64 0, .slice none 0 0, .slice none 0 0] 45 (0, 0))
  E : Boxed W (N + 1 + 1 + 1 + 1) 46 (.int .i64 0)
theorem PBox.below {N D : Nat} {A : Array Value} {col : Int} {vR : Value} {W W' : World} (h : PBox N A col vR W) (b : Go.RowKit.Below D W W') (hD : N + 5 ≤ D) : PBox N A col vR W' :=
  ⟨h.X.below b (by omega), (b.block _ (by omega)).trans h.C, (b.block _ (by omega)).trans h.R, (b.block _ (by omega)).trans h.H, (b.block _ (by omega)).trans h.E⟩
theorem PBox.lt {N : Nat} {A : Array Value} {col : Int} {vR : Value} {W : World} (h : PBox N A col vR W) : N + 5 ≤ W.heap.size := (Array.getElem?_eq_some_iff.1 (show W.heap[N + 1 + 1 + 1 + 1]? = _ from h.E)).1
theorem PBox.var {N : Nat} {A : Array Value} {col : Int} {vR : Value} {W : World} (h : PBox N A col vR W) : VarH (N + 1 + 1 + 1) 0 0 0 (.slice none 0 0) (.slice none 0 0) W := by
  have hh : W.heap[N + 1 + 1 + 1]? = _ := h.H
  have hl := h.lt
  refine ⟨by omega, ?_, ?_, ?_, ?_, ?_, ?_, ?_, ?_, ?_, ?_⟩ <;> simp [World.cell?, World.frozen?, hh]

/-- The two results are written. -/
def set6 (w : World) (g e : Nat) (x0 x1 x2 x3 x4 y : Value) : World := (set5 w g x0 x1 x2 x3 x4).setCell ⟨e, 0, none⟩ y

theorem PBox.set {N : Nat} {A : Array Value} {col : Int} {vR : Value} {W : World} (h : PBox N A col vR W) (k b c y : Int) (C M : Value) :
    VarH (N + 1 + 1 + 1) k b c C M (set6 W (N + 1 + 1 + 1) (N + 1 + 1 + 1 + 1) (.int .i64 k) (.int .i64 b) (.int .i64 c) C M (.int .i64 y)) ∧ (set6 W (N + 1 + 1 + 1) (N + 1 + 1 + 1 + 1) (.int .i64 k) (.int .i64 b) (.int .i64 c) C M (.int .i64 y)).cell? ⟨N + 1 + 1 + 1 + 1, 0, none⟩ = some (.int .i64 y) ∧
      ButI (N + 1 + 1 + 1) (N + 5) W (set6 W (N + 1 + 1 + 1) (N + 1 + 1 + 1 + 1) (.int .i64 k) (.int .i64 b) (.int .i64 c) C M (.int .i64 y)) := by
  have v := h.var.set k b c C M
  have hb := set5_but W (N + 1 + 1 + 1) (.int .i64 k) (.int .i64 b) (.int .i64 c) C M
  have e1 := (hb.block (N + 1 + 1 + 1 + 1) h.lt (by omega)).trans h.E
  unfold set6
  generalize set5 W (N + 1 + 1 + 1) (.int .i64 k) (.int .i64 b) (.int .i64 c) C M = W1 at *
  have hb2 := But.setCell (N + 1 + 1 + 1 + 1) 0 W1 (.int .i64 y)
  refine ⟨v.but hb2 (by omega), ?_, hb2.os.trans hb.os, hb2.tape.trans hb.tape, hb2.output.trans hb.output, Nat.le_trans hb.size hb2.size, fun i hi hn => (hb2.block i (Nat.lt_of_lt_of_le hi hb.size) (by omega)).trans (hb.block i hi (by omega))⟩
  have hB : Boxed W1 (N + 1 + 1 + 1 + 1) 46 (.int .i64 0) := e1
  exact (hB.set (.int .i64 y)).cell

theorem pbox_new (w : World) (A : Array Value) (col : Int) (vR : Value) :
    PBox w.heap.size A col vR (((((w.alloc (.cells A 38)).alloc (.cells #[.int .i64 col] 3)).alloc (.cells #[vR] 36)).alloc (.cells #[.int .i64 0, .int .i64 0, .int .i64 0, .slice none 0 0, .slice none 0 0] 45)).alloc (.cells #[.int .i64 0] 46)) ∧
      Below w.heap.size w (((((w.alloc (.cells A 38)).alloc (.cells #[.int .i64 col] 3)).alloc (.cells #[vR] 36)).alloc (.cells #[.int .i64 0, .int .i64 0, .int .i64 0, .slice none 0 0, .slice none 0 0] 45)).alloc (.cells #[.int .i64 0] 46)) := by
  have h1 := BoxS.new w A
  have s1 : (w.alloc (.cells A 38)).heap.size = w.heap.size + 1 := by simp
  have b1 := alloc_below w (.cells A 38)
  generalize w.alloc (.cells A 38) = w1 at *
  have h2 : (w1.alloc (.cells #[.int .i64 col] 3)).heap[w1.heap.size]? = _ := World.alloc_heap_new w1 _
  have s2 : (w1.alloc (.cells #[.int .i64 col] 3)).heap.size = w1.heap.size + 1 := by simp
  have b2 := alloc_below w1 (.cells #[.int .i64 col] 3)
  generalize w1.alloc (.cells #[.int .i64 col] 3) = w2 at *
  have h3 : (w2.alloc (.cells #[vR] 36)).heap[w2.heap.size]? = _ := World.alloc_heap_new w2 _
  have s3 : (w2.alloc (.cells #[vR] 36)).heap.size = w2.heap.size + 1 := by simp
  have b3 := alloc_below w2 (.cells #[vR] 36)
  generalize w2.alloc (.cells #[vR] 36) = w3 at *
  have h4 : (w3.alloc (.cells #[.int .i64 0, .int .i64 0, .int .i64 0, .slice none 0 0, .slice none 0 0] 45)).heap[w3.heap.size]? = _ := World.alloc_heap_new w3 _
  have s4 : (w3.alloc (.cells #[.int .i64 0, .int .i64 0, .int .i64 0, .slice none 0 0, .slice none 0 0] 45)).heap.size = w3.heap.size + 1 := by simp
  have b4 := alloc_below w3 (.cells #[.int .i64 0, .int .i64 0, .int .i64 0, .slice none 0 0, .slice none 0 0] 45)
  generalize w3.alloc (.cells #[.int .i64 0, .int .i64 0, .int .i64 0, .slice none 0 0, .slice none 0 0] 45) = w4 at *
  have h5 : (w4.alloc (.cells #[.int .i64 0] 46)).heap[w4.heap.size]? = _ := World.alloc_heap_new w4 _
  have b5 := alloc_below w4 (.cells #[.int .i64 0] 46)
  generalize w4.alloc (.cells #[.int .i64 0] 46) = w5 at *
  rw [s1] at h2
  rw [s2, s1] at h3
  rw [s3, s2, s1] at h4
  rw [s4, s3, s2, s1] at h5
  have c4 := b4.trans (b5.mono b4.size)
  have c3 := b3.trans (c4.mono b3.size)
  have c2 := b2.trans (c3.mono b2.size)
  exact ⟨⟨h1.on c2, (c3.block _ (by omega)).trans h2, (c4.block _ (by omega)).trans h3, (b5.block _ (by omega)).trans h4, h5⟩, b1.trans (c2.mono b1.size)⟩

theorem parts_res {f : Func} (hf : f.results = #[.cell 8 45, .cell 9 46]) (tmps : Array Value) (W : World) (g e : Nat) (k b c y : Int) (ac am : Option Addr) (nc cc nm cm : Nat) (h8 : tmps.getD 8 undef = .pointer (some ⟨g, 0, none⟩)) (h9 : tmps.getD 9 undef = .pointer (some ⟨e, 0, none⟩))
    (hV : VarH g k b c (.slice ac nc cc) (.slice am nm cm) W) (hE : W.cell? ⟨e, 0, none⟩ = some (.int .i64 y)) :
    (results f tmps).run Try.prog W = .ok (.tuple #[.agg #[.int .i64 k, .int .i64 b, .int .i64 c, .slice ac nc cc, .slice am nm cm], .int .i64 y]) W := by
  obtain ⟨z0, z1, z2, z3, z4⟩ := hV.five
  simp only [results, hf]
  have h8' : tmps[8]?.getD undef = .pointer (some ⟨g, 0, none⟩) := by simpa using h8
  have h9' : tmps[9]?.getD undef = .pointer (some ⟨e, 0, none⟩) := by simpa using h9
  simp [h8', h9', go_sem, z0, z1, z2, z3, z4, hE]

set_option maxRecDepth 100000 in
set_option maxHeartbeats 4000000 in
theorem parts_no (s : SD) (aC aT aW aR : Option Addr) (cC cT cW nR cR : Nat) (col p : Int) (w : World) (hp : ¬ (1 ≤ p ∧ p ≤ 64)) :
    CallsIn Fence.wide 5 Try.prog 14 #[.agg (smpA s.k s.c s.b s.t s.d s.l s.p s.r s.q (.slice aC s.C.length cC) (.slice aT s.T.length cT) (.slice aW s.W.length cW)), .int .i64 col, .slice aR nR cR, .int .i64 p] w fun e w' => Made zD 1 w e w' := by
  have hm := may_p p
  rw [decide_eq_false hp] at hm
  obtain ⟨k, c, b, t, d', l, q0, r, q, C, T, W⟩ := s
  simp only at *
  generalize T.length = nT at *
  generalize W.length = nW at *
  generalize C.length = nC at *
  have hP := pbox_new w (smpA k c b t d' l q0 r q (.slice aC nC cC) (.slice aT nT cT) (.slice aW nW cW)) col (.slice aR nR cR)
  obtain ⟨w5, hw5⟩ : ∃ w5, ((((w.alloc (.cells (smpA k c b t d' l q0 r q (.slice aC nC cC) (.slice aT nT cT) (.slice aW nW cW)) 38)).alloc (.cells #[.int .i64 col] 3)).alloc (.cells #[.slice aR nR cR] 36)).alloc (.cells #[.int .i64 0, .int .i64 0, .int .i64 0, .slice none 0 0, .slice none 0 0] 45)).alloc (.cells #[.int .i64 0] 46) = w5 := ⟨_, rfl⟩
  rw [hw5] at hP
  unfold smpA at hw5 ⊢
  refine callsIn_of_wp_marks Try.func14 rfl trivial ?_ rfl
  simp only [Try.ntmps14, List.size_toArray, List.length_cons, List.length_nil, Nat.reduceAdd, Nat.reduceSub, Array.replicate_succ, Array.replicate_zero, List.push_toArray, List.append_toArray, List.nil_append, List.cons_append]
  gi_wp2
  refine ⟨trivial, ?_⟩
  refine (callsIn_wide.2 (hm _)).mono ?_
  rintro e w' ⟨rfl, rfl⟩
  have HP := Lib.hid hP.1
  have HB := Lib.hid hP.2
  clear hP hw5 hm hp
  obtain ⟨r0, r1, r2, r3, r4⟩ := HP.out.var.five
  obtain ⟨y0, y1, y2, y3, y4⟩ := HP.out.var.soft
  have r5 := HP.out.E.cell
  have y5 := HP.out.E.frozen
  gi_wp2
  obtain ⟨hV, hE, hB2⟩ := HP.out.set 0 0 0 1 (.slice none 0 0) (.slice none 0 0)
  have HBW := HB.out.trans (hB2.below (B0 := w.heap.size) (by omega) (by have := HP.out.lt; omega))
  change bodyPostM _ _ _ _ _ _ _ (set6 w5 (w.heap.size + 1 + 1 + 1) (w.heap.size + 1 + 1 + 1 + 1) (.int .i64 0) (.int .i64 0) (.int .i64 0) (.slice none 0 0) (.slice none 0 0) (.int .i64 1))
  generalize set6 w5 (w.heap.size + 1 + 1 + 1) (w.heap.size + 1 + 1 + 1 + 1) (.int .i64 0) (.int .i64 0) (.int .i64 0) (.slice none 0 0) (.slice none 0 0) (.int .i64 1) = WX at *
  clear hB2 r0 r1 r2 r3 r4 r5 y0 y1 y2 y3 y4 y5
  simp only [bodyPostM, LeavesInM, LeavesIn]
  refine ⟨_, parts_res Try.results14 _ _ _ _ _ _ _ _ _ _ _ _ _ _ rfl rfl hV hE, ?_⟩
  exact ⟨_, rfl, Is.zero _ _, HBW⟩

/-- What a loop over parts keeps. -/
def LoopI (hd : Nat → HD) (he : Nat → Int) (T N : Nat) (w5 : World) (pre : List Nat) (W : World) : Prop :=
  ∃ l : List HR, (l.map HR.d = pre.map hd ∧ ∀ i ∈ pre, he i = 0) ∧ (∃ v, Boxed W T 67 v ∧ W.ownsRow T 45 5 v l.length (rowH l) ∧ ∀ g, v.ownBlock = some g → ∀ i, i < l.length → NotIn g (l.getD i hz).d (l.getD i hz).ac (l.getD i hz).am) ∧
    (∀ i, i < l.length → Reads (l.getD i hz).d (l.getD i hz).ac (l.getD i hz).nc (l.getD i hz).am (l.getD i hz).nm W ∧ NotIn T (l.getD i hz).d (l.getD i hz).ac (l.getD i hz).am ∧ Past N (l.getD i hz).ac (l.getD i hz).am) ∧ Go.RowKit.Below T w5 W
theorem loopI_own (hd : Nat → HD) (he : Nat → Int) (T N : Nat) (w5 : World) (B : Nat) (h1 : T ≤ w5.heap.size) (h2 : T ≤ B) : OwnFrom B (LoopI hd he T N w5) := by
  rintro pre W W' row ⟨l, ha, hb, hc, hd'⟩ hg hr
  refine ⟨l, ha, ?_, fun i hi => ⟨(hc i hi).1.owned hg (fun r e => (hr r e).2), (hc i hi).2⟩, ?_⟩
  · exact holdsRow_own T T 67 45 5 (fun l : List HR => l.length) rowH (fun l v => ∀ g, v.ownBlock = some g → ∀ i, i < l.length → NotIn g (l.getD i hz).d (l.getD i hz).ac (l.getD i hz).am) l W W' row hb hg (fun r e => (hr r e).2)
  · exact ownFrom_below (β := List Nat) h1 h2 pre W W' row hd' hg hr
/-- What a loop over parts leaves where a part errs. -/
def LoopX (he : Nat → Int) (N : Nat) (w : World) (c : Code) (pre : List Nat) (W : World) : Prop :=
  c = .ret ∧ ∃ y : Int, (∃ pr x, pre = pr ++ [x] ∧ (∀ i ∈ pr, he i = 0) ∧ he x = y ∧ y ≠ 0) ∧ VarH (N + 1 + 1 + 1) 0 0 0 (.slice none 0 0) (.slice none 0 0) W ∧ W.cell? ⟨N + 1 + 1 + 1 + 1, 0, none⟩ = some (.int .i64 y) ∧ Go.RowKit.Below N w W
theorem VarH.owned {g : Nat} {k b c : Int} {C M : Value} {W W' : World} {row : Option Nat} (h : VarH g k b c C M W) (hg : W.grownBy W' row) (hr : ∀ r, row = some r → ∃ o : Obj, W.heap[r]? = some o ∧ o.isCells = false) : VarH g k b c C M W' :=
  ⟨Nat.lt_of_lt_of_le h.lt hg.size, cell_kept h.c0 hg hr, cell_kept h.c1 hg hr, cell_kept h.c2 hg hr, cell_kept h.c3 hg hr, cell_kept h.c4 hg hr,
    (frozen_kept h.c0 hg hr).trans h.f0, (frozen_kept h.c1 hg hr).trans h.f1, (frozen_kept h.c2 hg hr).trans h.f2, (frozen_kept h.c3 hg hr).trans h.f3, (frozen_kept h.c4 hg hr).trans h.f4⟩
theorem loopX_own (he : Nat → Int) (N : Nat) (w : World) (c : Code) (B : Nat) (h1 : N ≤ w.heap.size) (h2 : N ≤ B) : OwnFrom B (LoopX he N w c) := by
  rintro pre W W' row ⟨hc, y, ha, hv, hy, hb⟩ hg hr
  exact ⟨hc, y, ha, hv.owned hg (fun r e => (hr r e).2), cell_kept hy hg (fun r e => (hr r e).2), ownFrom_below (β := List Nat) h1 h2 pre W W' row hb hg hr⟩
theorem own_below {w w' : World} {B n : Nat} {v : Value} {t : TypeId} {k : Nat} {xs : List Value} (h : w.ownsRow B t k v n xs) (b : Go.RowKit.Below w.heap.size w w') : w'.ownsRow B t k v n xs := by
  obtain ⟨h1, ⟨rfl, h0⟩ | ⟨g, cap, cur, rfl, hB, hg, hc, hm, hs, ht⟩⟩ := h
  · exact ⟨h1, .inl ⟨rfl, h0⟩⟩
  · exact ⟨h1, .inr ⟨g, cap, cur, rfl, hB, (b.block g (Array.getElem?_eq_some_iff.1 hg).1).trans hg, hc, hm, hs, ht⟩⟩
theorem own_lt {w : World} {B n : Nat} {v : Value} {t : TypeId} {k : Nat} {xs : List Value} (h : w.ownsRow B t k v n xs) {g : Nat} (e : v.ownBlock = some g) : g < w.heap.size := by
  obtain ⟨h1, ⟨rfl, h0⟩ | ⟨g', cap, cur, rfl, hB, hg, hc, hm, hs, ht⟩⟩ := h
  · cases e
  · obtain rfl : g' = g := by simpa [Value.ownBlock] using e
    exact (Array.getElem?_eq_some_iff.1 hg).1
theorem getD_snoc (L : List HR) (y : HR) (i : Nat) : (L ++ [y]).getD i hz = if i < L.length then L.getD i hz else if i = L.length then y else hz := by
  by_cases h : i < L.length
  · rw [if_pos h]; simp [List.getD_eq_getElem?_getD, List.getElem?_append_left h]
  · rw [if_neg h]
    by_cases e : i = L.length
    · subst e; rw [if_pos rfl]; simp [List.getD_eq_getElem?_getD]
    · rw [if_neg e]; simp [List.getD_eq_getElem?_getD]; rw [List.getElem?_eq_none (by simp; omega)]; rfl
theorem KeepsOthers.of_below {W W' : World} (h : Go.RowKit.Below W.heap.size W W') : KeepsOthers W W' := ⟨h.size, fun k _ hk _ => (h.block k (Array.getElem?_eq_some_iff.1 hk).1).trans hk⟩
theorem KeepsOthers.of_but {m : Nat} {o : Obj} {W W' : World} (h : But m W W') (hm : W.heap[m]? = some o) (hc : o.isCells = true) : KeepsOthers W W' := ⟨h.size, fun k o' hk ho => by
  by_cases e : k = m
  · subst e; rw [hm] at hk; cases hk; rw [hc] at ho; cases ho
  · exact (h.block k (Array.getElem?_eq_some_iff.1 hk).1 e).trans hk⟩
theorem cell_five_new (W : World) (x0 x1 x2 x3 x4 : Value) (t : TypeId) : ∀ j u, ([x0, x1, x2, x3, x4] : List Value)[j]? = some u → (W.alloc (.cells #[x0, x1, x2, x3, x4] t)).cell? ((⟨W.heap.size, 0, none⟩ : Addr).add j) = some u := by
  have hh : (W.alloc (.cells #[x0, x1, x2, x3, x4] t)).heap[W.heap.size]? = some (.cells #[x0, x1, x2, x3, x4] t) := World.alloc_heap_new W _
  intro j u hu
  match j with
  | 0 => simp at hu; subst hu; show (W.alloc _).cell? ⟨W.heap.size, 0, none⟩ = _; unfold World.cell?; simp only [hh]; rfl
  | 1 => simp at hu; subst hu; show (W.alloc _).cell? ⟨W.heap.size, 1, none⟩ = _; unfold World.cell?; simp only [hh]; rfl
  | 2 => simp at hu; subst hu; show (W.alloc _).cell? ⟨W.heap.size, 2, none⟩ = _; unfold World.cell?; simp only [hh]; rfl
  | 3 => simp at hu; subst hu; show (W.alloc _).cell? ⟨W.heap.size, 3, none⟩ = _; unfold World.cell?; simp only [hh]; rfl
  | 4 => simp at hu; subst hu; show (W.alloc _).cell? ⟨W.heap.size, 4, none⟩ = _; unfold World.cell?; simp only [hh]; rfl
  | j + 5 => simp at hu
theorem loopI_step {hd : Nat → HD} {he : Nat → Int} {T : Nat} {w5 WX w1 : World} {pre : List Nat} {x : Nat} {L : List HR} {v v' : Value} {y : HR} {tmp : Obj}
    (hl1 : L.map HR.d = pre.map hd) (hl2 : ∀ i ∈ pre, he i = 0) (hx : hd x = y.d) (hx0 : he x = 0)
    (hvX : Boxed WX T 67 v) (hownX : WX.ownsRow T 45 5 v L.length (rowH L)) (hno : ∀ g, v.ownBlock = some g → ∀ i, i < L.length → NotIn g (L.getD i hz).d (L.getD i hz).ac (L.getD i hz).am)
    (hrdX : ∀ i, i < L.length → Reads (L.getD i hz).d (L.getD i hz).ac (L.getD i hz).nc (L.getD i hz).am (L.getD i hz).nm WX ∧ NotIn T (L.getD i hz).d (L.getD i hz).ac (L.getD i hz).am ∧ Past T (L.getD i hz).ac (L.getD i hz).am)
    (hR : Reads y.d y.ac y.nc y.am y.nm WX) (hT : NotIn T y.d y.ac y.am) (hPa : Past T y.ac y.am) (hOld : ∀ g, v.ownBlock = some g → NotIn g y.d y.ac y.am) (hbl : Go.RowKit.Below T w5 WX)
    (hown' : w1.ownsRow T 45 5 v' (L.length + 1) (rowH L ++ y.cs)) (hgrow : (WX.alloc tmp).grownBy w1 v.ownBlock) (hat : v'.ownBlock = v.ownBlock ∨ v'.ownBlock = some (WX.alloc tmp).heap.size) :
    LoopI hd he T T w5 (pre ++ [x]) (w1.setCell ⟨T, 0, none⟩ v') ∧ KeepsOthers WX (w1.setCell ⟨T, 0, none⟩ v') := by
  have hTW : T ≤ WX.heap.size := Nat.le_of_lt (Array.getElem?_eq_some_iff.1 (show WX.heap[T]? = _ from hvX)).1
  obtain ⟨hv1, hv2, hr2, hk2, hb2⟩ := hvX.appended (by decide) hownX hTW (Nat.le_refl _) hown' hgrow
  have hBut := But.setCell T 0 w1 v'
  have hgo : ∀ z : HR, Reads z.d z.ac z.nc z.am z.nm WX → NotIn T z.d z.ac z.am → (∀ g, v.ownBlock = some g → NotIn g z.d z.ac z.am) → Reads z.d z.ac z.nc z.am z.nm (w1.setCell ⟨T, 0, none⟩ v') := fun z h1 h2 h3 =>
    (((h1.below (alloc_below WX tmp)).grown hgrow h3)).butE h2 hBut
  refine ⟨⟨L ++ [y], ⟨?_, ?_⟩, ⟨v', hv2, ?_, ?_⟩, ?_, hbl.trans hb2⟩, hk2⟩
  · rw [List.map_append, List.map_append, hl1]; simp [hx]
  · intro i hi
    rcases List.mem_append.1 hi with h | h
    · exact hl2 i h
    · rw [List.mem_singleton.1 h]; exact hx0
  · rw [rowH_snoc, List.length_append]; exact hr2
  · intro g e i hi
    rw [List.length_append] at hi
    rw [getD_snoc]
    have hfr : v'.ownBlock = some (WX.alloc tmp).heap.size → WX.heap.size ≤ g := fun h => by rw [h] at e; cases e; simp
    by_cases h : i < L.length
    · rw [if_pos h]
      rcases hat with h1 | h1
      · exact hno g (h1 ▸ e) i h
      · exact NotIn.fresh (hrdX i h).1 (hfr h1)
    · obtain rfl : i = L.length := by simp at hi; omega
      rw [if_neg h, if_pos rfl]
      rcases hat with h1 | h1
      · exact hOld g (h1 ▸ e)
      · exact NotIn.fresh hR (hfr h1)
  · intro i hi
    rw [List.length_append] at hi
    rw [getD_snoc]
    by_cases h : i < L.length
    · rw [if_pos h]
      obtain ⟨a1, a2, a3⟩ := hrdX i h
      exact ⟨hgo _ a1 a2 (fun g e => hno g e i h), a2, a3⟩
    · obtain rfl : i = L.length := by simp at hi; omega
      rw [if_neg h, if_pos rfl]
      exact ⟨hgo _ hR hT hOld, hT, hPa⟩

/-- What a part's region reads. -/
structure PQ (N Bx : Nat) (A : Array Value) (col : Int) (vR x y : Value) (W : World) : Prop where
  P : PBox N A col vR W
  S : BoxP W Bx x y
theorem PQ.below {N Bx : Nat} {A : Array Value} {col : Int} {vR x y : Value} {W W' : World} (h : PQ N Bx A col vR x y W) (b : Go.RowKit.Below W.heap.size W W') : PQ N Bx A col vR x y W' := ⟨h.P.below b h.P.lt, (b.block _ h.S.lt).trans h.S⟩
theorem PQ.cells {N Bx : Nat} {k c b t d l p r q : Int} {vC vT vX : Value} {col : Int} {vR x y : Value} {W : World} (h : PQ N Bx (smpA k c b t d l p r q vC vT vX) col vR x y W) :
    ((W.cell? ⟨N, 0, none⟩ = some (.int .i64 k) ∧ W.cell? ⟨N, 1, none⟩ = some (.int .i64 c) ∧ W.cell? ⟨N, 2, none⟩ = some (.int .i64 b) ∧ W.cell? ⟨N, 3, none⟩ = some (.int .i64 t) ∧ W.cell? ⟨N, 4, none⟩ = some (.int .i64 d) ∧ W.cell? ⟨N, 5, none⟩ = some (.int .i64 l) ∧ W.cell? ⟨N, 6, none⟩ = some (.int .i64 p)) ∧
    (W.cell? ⟨N, 7, none⟩ = some (.int .i64 r) ∧ W.cell? ⟨N, 8, none⟩ = some (.int .i64 q) ∧ W.cell? ⟨N, 9, none⟩ = some vC) ∧ W.cell? ⟨N, 10, none⟩ = some vT ∧ W.cell? ⟨N, 11, none⟩ = some vX) ∧
    (W.cell? ⟨N + 1, 0, none⟩ = some (.int .i64 col) ∧ W.cell? ⟨N + 1 + 1, 0, none⟩ = some vR) ∧ W.cell? ⟨Bx, 0, none⟩ = some x ∧ W.cell? ⟨Bx, 1, none⟩ = some y :=
  ⟨h.P.X.cells, ⟨h.P.C.cell, h.P.R.cell⟩, h.S.c0, h.S.c1⟩

set_option maxRecDepth 100000 in
set_option maxHeartbeats 4000000 in
theorem parts_in (s : SD) (aC aT aW aR : Option Addr) (cC cT cW nR cR : Nat) (col : Int) (rows : List Int) (p : Nat) (hp1 : 1 ≤ p) (hp2 : p ≤ 64) (hnR : rows.length = nR) (hn2 : nR ≤ 1048576) (w : World) (hS : HoldsS s aC aT aW w) (hrow : HoldsE KN w aR rows)
    (hcap : nR ≤ cR) (hnone : aR = none → cR = 0) (hd : Nat → HD) (he : Nat → Int) (hhd : ∀ i, (histF s col (partF (cutF nR p) rows i)).1 = hd i) (hhe : ∀ i, (histF s col (partF (cutF nR p) rows i)).2 = he i) (D : HD) (E : Int) (hDE : partsG hd he p = (D, E)) :
    CallsIn Fence.wide 5 Try.prog 14 #[.agg (smpA s.k s.c s.b s.t s.d s.l s.p s.r s.q (.slice aC s.C.length cC) (.slice aT s.T.length cT) (.slice aW s.W.length cW)), .int .i64 col, .slice aR nR cR, .int .i64 (p : Int)] w fun e w' => Made D E w e w' := by
  have hm := may_p (p : Int)
  rw [decide_eq_true (show 1 ≤ (p : Int) ∧ (p : Int) ≤ 64 by omega)] at hm
  obtain ⟨f, hf⟩ : ∃ f, cutF nR p = f := ⟨_, rfl⟩
  have hF1 : ∀ x, f x ≤ f (x + 1) := fun x => by rw [← hf]; exact cutF_mono nR p x
  have hF2 : ∀ x, f x ≤ nR := fun x => by rw [← hf]; exact cutF_le nR p (by omega) x
  have HH : Hid (∀ (x : Nat) (a2 : Option Addr) (c2 : Nat) (w1 : World), Go.RowKit.Below w.heap.size w w1 → HoldsE KN w1 a2 (partF f rows x) →
      Calls Try.prog 12 #[.agg (smpA s.k s.c s.b s.t s.d s.l s.p s.r s.q (.slice aC s.C.length cC) (.slice aT s.T.length cT) (.slice aW s.W.length cW)), .int .i64 col, .slice a2 (f (x + 1) - f x) c2] w1 fun e w' => Made (hd x) (he x) w1 e w') := by
    intro x a2 c2 w1 hb hr
    have hl : (partF f rows x).length = f (x + 1) - f x := by
      have := hF1 x; have := hF2 (x + 1)
      unfold partF
      rw [List.length_take, List.length_drop]
      omega
    have := hist_any s aC aT aW a2 cC cT cW (f (x + 1) - f x) c2 col (partF f rows x) hl (by have := hF2 (x + 1); omega) w1 (hS.below hb) hr
    rw [← hf, hhd x, hhe x] at this
    rw [← hf]
    exact this
  have HPR : Hid (∀ x : Nat, ∃ a2 c2, (∀ w, (Instr.slice 36 (.slice aR nR cR) (some (.int .i64 (f x : Int))) (some (.int .i64 (f (x + 1) : Int))) none).run Try.prog w = .ok (.slice a2 (f (x + 1) - f x) c2) w) ∧ (∀ w, HoldsE KN w aR rows → HoldsE KN w a2 (partF f rows x))) :=
    fun x => part_runN aR nR cR (f x) (f (x + 1)) rows hnR (hF2 (x + 1)) (hF1 x) hcap hnone
  have HROW := Lib.hid hrow
  have HDE := Lib.hid hDE
  have HPP : Hid (1 ≤ p ∧ p ≤ 64) := ⟨hp1, hp2⟩
  have HNR := Lib.hid hn2
  have hst0 := fun (w : World) Bn Bp h1 h2 h3 h4 => spans_stops 4 (by omega) Bn Bp (nR : Int) (p : Int) (by omega) w h1 h2 h3 h4
  rw [show partsK (nR : Int) (p : Int) = p by unfold partsK; rw [if_neg (by omega)]; rfl] at hst0
  simp only [Int.toNat_natCast] at hst0
  unfold spanV at hst0
  simp only [hf] at hst0
  clear hS hhd hhe hDE hF1 hF2 hf hcap hnone hrow hp1 hp2 hn2
  obtain ⟨k, c, b, t, d', l, q0, r, q, C, T, W⟩ := s
  simp only at *
  generalize T.length = nT at *
  generalize W.length = nW at *
  generalize C.length = nC at *
  have hP := pbox_new w (smpA k c b t d' l q0 r q (.slice aC nC cC) (.slice aT nT cT) (.slice aW nW cW)) col (.slice aR nR cR)
  obtain ⟨w5, hw5⟩ : ∃ w5, ((((w.alloc (.cells (smpA k c b t d' l q0 r q (.slice aC nC cC) (.slice aT nT cT) (.slice aW nW cW)) 38)).alloc (.cells #[.int .i64 col] 3)).alloc (.cells #[.slice aR nR cR] 36)).alloc (.cells #[.int .i64 0, .int .i64 0, .int .i64 0, .slice none 0 0, .slice none 0 0] 45)).alloc (.cells #[.int .i64 0] 46) = w5 := ⟨_, rfl⟩
  rw [hw5] at hP
  have HP := Lib.hid hP.1
  have HB := Lib.hid hP.2
  have bT := Boxed.new w5 67 (.slice none 0 0)
  have b6 := alloc_below w5 (.cells #[.slice none 0 0] 67)
  have s6 : (w5.alloc (.cells #[.slice none 0 0] 67)).heap.size = w5.heap.size + 1 := by simp
  obtain ⟨w6, hw6⟩ : ∃ w6, w5.alloc (.cells #[.slice none 0 0] 67) = w6 := ⟨_, rfl⟩
  rw [hw6] at bT b6 s6
  have HP6 := Lib.hid (HP.out.below b6 HP.out.lt)
  have HS6 : Hid (w6.heap.size = w5.heap.size + 1) := s6
  have HBT := Lib.hid bT
  have HB6 := Lib.hid b6
  unfold smpA at hw5 HH ⊢
  clear hP bT b6 s6
  obtain ⟨i0, hi, hz0, hz1, hz2⟩ := info_parts infoH
  refine callsIn_of_wp_marks Try.func14 rfl trivial ?_ rfl
  simp only [Try.ntmps14, List.size_toArray, List.length_cons, List.length_nil, Nat.reduceAdd, Nat.reduceSub, Array.replicate_succ, Array.replicate_zero, List.push_toArray, List.append_toArray, List.nil_append, List.cons_append]
  gi_wp2
  refine ⟨trivial, ?_⟩
  refine (callsIn_wide.2 (hm _)).mono ?_
  rintro e w' ⟨rfl, rfl⟩
  clear hw5 hm
  have cR6 : w6.cell? ⟨w.heap.size + 1 + 1, 0, none⟩ = some (.slice aR nR cR) := HP6.out.R.cell
  gi_wp2
  refine ⟨trivial, ?_⟩
  gi_at_call 20
  refine (spans_in 4 (nR : Int) (p : Int) _).mono ?_
  rintro e w' ⟨rfl, rfl⟩
  clear hw6 cR6
  obtain ⟨w8, hw8⟩ : ∃ w8, (w6.alloc (.cells #[.int .i64 (nR : Int)] 3)).alloc (.cells #[.int .i64 (p : Int)] 3) = w8 := ⟨_, rfl⟩
  have hn8 : w8.cell? ⟨w6.heap.size, 0, none⟩ = some (.int .i64 (nR : Int)) := by rw [← hw8]; simp [go_sem]
  have hp8 : w8.cell? ⟨w6.heap.size + 1, 0, none⟩ = some (.int .i64 (p : Int)) := by rw [← hw8]; simp [go_sem]
  have s8 : w8.heap.size = w6.heap.size + 1 + 1 := by rw [← hw8]; simp
  have b8 : Go.RowKit.Below w6.heap.size w6 w8 := by
    rw [← hw8]; exact ((Go.RowKit.Below.refl _ w6).alloc (Nat.le_refl _) _).alloc (by simp) _
  rw [hw8]
  clear hw8
  have hst := hst0 w8 w6.heap.size (w6.heap.size + 1) hn8 hp8 (by omega) (by omega)
  have HS8 := Lib.hid s8
  have HB8 := Lib.hid b8
  clear hst0 hn8 hp8 s8 b8
  gi_wp2
  refine wpIn_rangeFunc_ownH rfl (by omega) (gf := 34) (lb := #[.pointer (some ⟨w6.heap.size, 0, none⟩), .pointer (some ⟨w6.heap.size + 1, 0, none⟩)]) rfl trivial (enters_of Try.func34 (by kernel_rfl) rfl)
    hst (fun _ _ => trivial) (fun _ _ _ _ _ _ _ _ => trivial) (Go.RowKit.Below.refl _ _) (fun _ => rfl)
    (LoopI hd he w5.heap.size w5.heap.size w5) (LoopX he w.heap.size w)
    (loopI_own hd he w5.heap.size w5.heap.size w5 w8.heap.size (Nat.le_refl _) (by have := HS6.out; have := HS8.out; omega))
    (fun c => loopX_own he w.heap.size w c w8.heap.size (Nat.le_refl _) (by have := HB.out.size; have := HS6.out; have := HS8.out; omega))
    ?h0
    (fun x a' W => ∃ Bx, BoxP W Bx (.int .i64 (f x : Int)) (.int .i64 (f (x + 1) : Int)) ∧ a' = { tmps := #[.agg #[.int .i64 k, .int .i64 c, .int .i64 b, .int .i64 t, .int .i64 d', .int .i64 l, .int .i64 q0, .int .i64 r, .int .i64 q, .slice aC nC cC, .slice aT nT cT, .slice aW nW cW], .int .i64 col, .slice aR nR cR, .int .i64 (p : Int), .pointer (some ⟨w.heap.size, 0, none⟩), .pointer (some ⟨w.heap.size + 1, 0, none⟩), .pointer (some ⟨w.heap.size + 1 + 1, 0, none⟩), undef, .pointer (some ⟨w.heap.size + 1 + 1 + 1, 0, none⟩), .pointer (some ⟨w.heap.size + 1 + 1 + 1 + 1, 0, none⟩), .pointer (some ⟨w5.heap.size, 0, none⟩), .pointer (some ⟨Bx, 0, none⟩), undef, undef, .int .i64 (p : Int), .bool true, .bool false, undef, .slice aR nR cR, .int .i64 (nR : Int), .int .i64 (p : Int), .func (.func 34) #[] #[.pointer (some ⟨w6.heap.size, 0, none⟩), .pointer (some ⟨w6.heap.size + 1, 0, none⟩)], .agg #[.int .i64 (f x : Int), .int .i64 (f (x + 1) : Int)], undef, undef, undef, undef, undef, undef, undef, undef, undef, undef, undef, undef, undef, undef, undef, undef, undef, undef, undef, undef, undef, undef, undef, undef], defers := [] })
    ?hAx ?assign ?body ?done ?stop
  case h0 =>
    refine ⟨[], ⟨rfl, fun _ h => by cases h⟩, ⟨_, (HB8.out.block _ (by have := HS6.out; omega)).trans HBT.out, World.ownsRow_nil _ _ _ _, fun g h => by cases h⟩, fun i h => absurd h (Nat.not_lt_zero _), HB6.out.trans (HB8.out.mono (by have := HS6.out; omega))⟩
  case hAx =>
    rintro x a' u X Y row ⟨Bx, hb, e⟩ hg hrow
    exact ⟨Bx, boxP_own Bx _ _ u X Y row hb hg (fun r e => (hrow r e).2), e⟩
  case assign =>
    rintro l pre x W K hI hK
    clear hst
    gi_wp2
    refine hK _ _ ?_ trivial ?_ ?_
    · exact (KeepsOthers.alloc W _).from _
    · exact (loopI_own hd he w5.heap.size w5.heap.size w5 w8.heap.size (Nat.le_refl _) (by have := HS6.out; have := HS8.out; omega)).alloc _ hI
    · exact ⟨W.heap.size, BoxP.new W _ _, rfl⟩
  case body =>
    rintro lo pre x a' W hlo1 hlo2 ⟨L, ⟨hl1, hl2⟩, ⟨v, hv, hown, hno⟩, hrd, hbl⟩ ⟨Bx, hb, rfl⟩ hlt
    clear hst
    have hP5 := HP.out.below hbl HP.out.lt
    have hbW : Go.RowKit.Below w.heap.size w W := HB.out.trans (hbl.mono HB.out.size)
    have HTW : Hid (w5.heap.size ≤ W.heap.size) := hbl.size
    obtain ⟨a2, c2, hrun, hpart⟩ := HPR.out x
    have hRowsW := hpart W (HROW.out.below hbW)
    have hCall := fun w1 hb1 hr1 => HH.out x a2 c2 w1 hb1 hr1
    obtain ⟨ee, hee⟩ : ∃ ee, he x = ee := ⟨_, rfl⟩
    obtain ⟨dd, hdd⟩ : ∃ dd, hd x = dd := ⟨_, rfl⟩
    rw [hee, hdd] at hCall
    have hq0 : PQ w.heap.size Bx (smpA k c b t d' l q0 r q (.slice aC nC cC) (.slice aT nT cT) (.slice aW nW cW)) col (.slice aR nR cR) (.int .i64 (f x : Int)) (.int .i64 (f (x + 1) : Int)) W := ⟨hP5, hb⟩
    have hbw : Hid (Go.RowKit.Below W.heap.size W W.drew) := ⟨rfl, rfl, rfl, Nat.le_refl _, fun _ _ => rfl⟩
    clear hpart
    gi_wp2
    refine region_round (S := (fun w' => ((w'.cell? ⟨w.heap.size, 0, none⟩ = some (.int .i64 k) ∧ w'.cell? ⟨w.heap.size, 1, none⟩ = some (.int .i64 c) ∧ w'.cell? ⟨w.heap.size, 2, none⟩ = some (.int .i64 b) ∧ w'.cell? ⟨w.heap.size, 3, none⟩ = some (.int .i64 t) ∧ w'.cell? ⟨w.heap.size, 4, none⟩ = some (.int .i64 d') ∧ w'.cell? ⟨w.heap.size, 5, none⟩ = some (.int .i64 l) ∧ w'.cell? ⟨w.heap.size, 6, none⟩ = some (.int .i64 q0)) ∧ (w'.cell? ⟨w.heap.size, 7, none⟩ = some (.int .i64 r) ∧ w'.cell? ⟨w.heap.size, 8, none⟩ = some (.int .i64 q) ∧ w'.cell? ⟨w.heap.size, 9, none⟩ = some (.slice aC nC cC)) ∧ w'.cell? ⟨w.heap.size, 10, none⟩ = some (.slice aT nT cT) ∧ w'.cell? ⟨w.heap.size, 11, none⟩ = some (.slice aW nW cW)) ∧ (w'.cell? ⟨w.heap.size + 1, 0, none⟩ = some (.int .i64 col) ∧ w'.cell? ⟨w.heap.size + 1 + 1, 0, none⟩ = some (.slice aR nR cR)) ∧ w'.cell? ⟨Bx, 0, none⟩ = some (.int .i64 (f x : Int)) ∧ w'.cell? ⟨Bx, 1, none⟩ = some (.int .i64 (f (x + 1) : Int)))) (by kernel_rfl) (by kernel_rfl) (fun _ _ h => h) ((hq0.below hbw.out).cells) (fun hHeld => ?_)
    refine takeQ (i := 0) (v := ?_) rfl (by kernel_rfl) (by kernel_rfl) (by kernel_rfl) (fun _ _ _ h => h) (by rfl) hHeld ?_ ?_
    rotate_left
    · (intro w' hSw; (try dsimp only at hSw); go_simp <;> (with_reducible rfl))
    try simp only [Act.put, List.setIfInBounds_toArray, List.set_cons_zero, List.set_cons_succ]
    refine takeQ (i := 1) (v := ?_) rfl (by kernel_rfl) (by kernel_rfl) (by kernel_rfl) (fun _ _ _ h => h) (by rfl) hHeld ?_ ?_
    rotate_left
    · (intro w' hSw; (try dsimp only at hSw); go_simp <;> (with_reducible rfl))
    try simp only [Act.put, List.setIfInBounds_toArray, List.set_cons_zero, List.set_cons_succ]
    refine takeQ (i := 2) (v := ?_) rfl (by kernel_rfl) (by kernel_rfl) (by kernel_rfl) (fun _ _ _ h => h) (by rfl) hHeld ?_ ?_
    rotate_left
    · (intro w' hSw; (try dsimp only at hSw); go_simp <;> (with_reducible rfl))
    try simp only [Act.put, List.setIfInBounds_toArray, List.set_cons_zero, List.set_cons_succ]
    refine takeQ (i := 3) (v := ?_) rfl (by kernel_rfl) (by kernel_rfl) (by kernel_rfl) (fun _ _ _ h => h) (by rfl) hHeld ?_ ?_
    rotate_left
    · (intro w' hSw; (try dsimp only at hSw); go_simp <;> (with_reducible rfl))
    try simp only [Act.put, List.setIfInBounds_toArray, List.set_cons_zero, List.set_cons_succ]
    refine takeQ (i := 4) (v := ?_) rfl (by kernel_rfl) (by kernel_rfl) (by kernel_rfl) (fun _ _ _ h => h) (by rfl) hHeld ?_ ?_
    rotate_left
    · (intro w' hSw; (try dsimp only at hSw); go_simp <;> (with_reducible rfl))
    try simp only [Act.put, List.setIfInBounds_toArray, List.set_cons_zero, List.set_cons_succ]
    refine takeQ (i := 5) (v := ?_) rfl (by kernel_rfl) (by kernel_rfl) (by kernel_rfl) (fun _ _ _ h => h) (by rfl) hHeld ?_ ?_
    rotate_left
    · (intro w' hSw; (try dsimp only at hSw); go_simp <;> (with_reducible rfl))
    try simp only [Act.put, List.setIfInBounds_toArray, List.set_cons_zero, List.set_cons_succ]
    refine takeQ (i := 6) (v := ?_) rfl (by kernel_rfl) (by kernel_rfl) (by kernel_rfl) (fun _ _ _ h => h) (by rfl) hHeld ?_ ?_
    rotate_left
    · (intro w' hSw; (try dsimp only at hSw); go_simp <;> (with_reducible rfl))
    try simp only [Act.put, List.setIfInBounds_toArray, List.set_cons_zero, List.set_cons_succ]
    refine takeQ (i := 7) (v := ?_) rfl (by kernel_rfl) (by kernel_rfl) (by kernel_rfl) (fun _ _ _ h => h) (by rfl) hHeld ?_ ?_
    rotate_left
    · (intro w' hSw; (try dsimp only at hSw); go_simp <;> (with_reducible rfl))
    try simp only [Act.put, List.setIfInBounds_toArray, List.set_cons_zero, List.set_cons_succ]
    refine bothL (i := 8) (j := 12) (by kernel_rfl) rfl rfl (by rfl) (by rfl) (fun K hK => ?_) (fun K hK => ?_)
    · go_simp
      refine (hCall _ (hbW.trans (hbw.out.mono hbW.size)) (hRowsW.below hbw.out)).mono ?_
      rintro e w7 ⟨v7, rfl, ⟨ac2, nc2, cc2, am2, nm2, cm2, rfl, hR2, hP2⟩, b7⟩
      replace hbw := Lib.hid (hbw.out.trans (b7.mono hbw.out.size))
      try dsimp only
      refine hK.out _ _ ((hq0.below hbw.out).cells) (fun hHeld => ?_)
      clear hK K
      try simp only [Act.put, List.setIfInBounds_toArray, List.set_cons_zero, List.set_cons_succ]
      refine takeQ (i := 9) (v := ?_) rfl (by kernel_rfl) (by kernel_rfl) (by kernel_rfl) (fun _ _ _ h => h) (by rfl) hHeld ?_ ?_
      rotate_left
      · (intro w' hSw; (try dsimp only at hSw); go_simp <;> (with_reducible rfl))
      try simp only [Act.put, List.setIfInBounds_toArray, List.set_cons_zero, List.set_cons_succ]
      refine takeQ (i := 10) (v := ?_) rfl (by kernel_rfl) (by kernel_rfl) (by kernel_rfl) (fun _ _ _ h => h) (by rfl) hHeld ?_ ?_
      rotate_left
      · (intro w' hSw; (try dsimp only at hSw); go_simp <;> (with_reducible rfl))
      try simp only [Act.put, List.setIfInBounds_toArray, List.set_cons_zero, List.set_cons_succ]
      refine takeQ (i := 11) (v := ?_) rfl (by kernel_rfl) (by kernel_rfl) (by kernel_rfl) (fun _ _ _ h => h) (by rfl) hHeld ?_ ?_
      rotate_left
      · (intro w' hSw; (try dsimp only at hSw); go_simp <;> (with_reducible rfl))
      try simp only [Act.put, List.setIfInBounds_toArray, List.set_cons_zero, List.set_cons_succ]
      have hV8 := VarH.new w7 0 0 0 (.slice none 0 0) (.slice none 0 0) 45
      have b8 := alloc_below w7 (.cells #[.int .i64 0, .int .i64 0, .int .i64 0, .slice none 0 0, .slice none 0 0] 45)
      obtain ⟨wz, hwz⟩ : ∃ wz, World.alloc w7 (.cells #[.int .i64 0, .int .i64 0, .int .i64 0, .slice none 0 0, .slice none 0 0] 45) = wz := ⟨_, rfl⟩
      rw [hwz] at hV8 b8
      replace hbw := Lib.hid (hbw.out.trans (b8.mono hbw.out.size))
      refine callL (i := 12) (by kernel_rfl) rfl (by rfl) (fun K hK => ?_)
      go_simp
      try dsimp only
      refine hK.out _ _ ((hq0.below hbw.out).cells) (fun hHeld => ?_)
      clear hK K
      try simp only [Act.put, List.setIfInBounds_toArray, List.set_cons_zero, List.set_cons_succ]
      have HV := Lib.hid hV8
      have HNI : Hid (NotIn w7.heap.size dd ac2 am2) := NotIn.fresh hR2 (Nat.le_refl _)
      have HR := Lib.hid (hR2.below b8)
      have HG : Hid (W.heap.size ≤ w7.heap.size) := b7.size
      have HNT : Hid (NotIn w5.heap.size dd ac2 am2) := NotIn.past hP2 (by have := (Array.getElem?_eq_some_iff.1 (show W.heap[w5.heap.size]? = _ from hv)).1; exact this)
      have HPT : Hid (Past w5.heap.size ac2 am2) := ⟨fun ad e => Nat.le_trans HTW.out (hP2.1 ad e), fun ad e => Nat.le_trans HTW.out (hP2.2 ad e)⟩
      have HPW : Hid (Past W.heap.size ac2 am2) := hP2
      clear hwz hV8 b8 hR2 hP2 b7
      generalize w7.heap.size = B12 at *
      obtain ⟨z0, z1, z2, z3, z4⟩ := HV.out.five
      obtain ⟨y0, y1, y2, y3, y4⟩ := HV.out.soft
      have HVX := Lib.hid (HV.out.set dd.k dd.b dd.c (.slice ac2 nc2 cc2) (.slice am2 nm2 cm2))
      have hBT := set5_but wz B12 (.int .i64 dd.k) (.int .i64 dd.b) (.int .i64 dd.c) (.slice ac2 nc2 cc2) (.slice am2 nm2 cm2)
      have HRX := Lib.hid (HR.out.butE HNI.out hBT)
      have hbX := Lib.hid (hbw.out.trans (hBT.below (B := W.heap.size) (by exact HG.out) hbw.out.size))
      clear hBT
      refine callL (i := 13) (by kernel_rfl) rfl (by rfl) (fun K hK => ?_)
      go_simp
      try dsimp only
      refine hK.out _ _ (by exact (hq0.below hbX.out).cells) (fun hHeld => ?_)
      clear hK K z0 z1 z2 z3 z4 y0 y1 y2 y3 y4
      try simp only [Act.put, List.setIfInBounds_toArray, List.set_cons_zero, List.set_cons_succ]
      change wpAnyH _ _ _ _ _ _ _ _ (set5 wz B12 (.int .i64 dd.k) (.int .i64 dd.b) (.int .i64 dd.c) (.slice ac2 nc2 cc2) (.slice am2 nm2 cm2))
      clear hHeld
      generalize set5 wz B12 (.int .i64 dd.k) (.int .i64 dd.b) (.int .i64 dd.c) (.slice ac2 nc2 cc2) (.slice am2 nm2 cm2) = WX at *
      have hHeld := (hq0.below hbX.out).cells
      clear hbw HV HR HNI
      refine takeQ (i := 14) (v := ?_) rfl (by kernel_rfl) (by kernel_rfl) (by kernel_rfl) (fun _ _ _ h => h) (by rfl) hHeld ?_ ?_
      rotate_left
      · (intro w' hSw; (try dsimp only at hSw); go_simp <;> (with_reducible rfl))
      try simp only [Act.put, List.setIfInBounds_toArray, List.set_cons_zero, List.set_cons_succ]
      refine wpAnyH_done (by kernel_rfl) ?_ _
      clear hHeld hRowsW hCall hrun
      by_cases h0 : ee = 0
      · have e1 : (ee != 0) = false := by simpa using h0
        have hvX : Boxed WX w5.heap.size 67 v := (hbX.out.block _ (Array.getElem?_eq_some_iff.1 (show W.heap[w5.heap.size]? = _ from hv)).1).trans hv
        have hownX := own_below hown hbX.out
        have hTW : w5.heap.size ≤ WX.heap.size := Nat.le_trans (Nat.le_of_lt (Array.getElem?_eq_some_iff.1 (show W.heap[w5.heap.size]? = _ from hv)).1) hbX.out.size
        have hcv := hvX.cell
        obtain ⟨x0, x1, x2, x3, x4⟩ := HVX.out.five
        have hL64 : L.length < 64 := by have := congrArg List.length hl1; simp at this; omega
        gi_wp2_with (gi_at_builtin; refine wpListIn_append_own_at _ rfl _ _ 67 rfl w5.heap.size 45 i0 (.agg #[.int .i64 0, .int .i64 0, .int .i64 0, .slice none 0 0, .slice none 0 0]) 5 72 Try.underlying67 hi hz0 hz1 hz2 rfl (by decide) _ _ _ rfl (hownX.alloc _) ⟨WX.heap.size, 0, none⟩ 1 1 [.int .i64 dd.k, .int .i64 dd.b, .int .i64 dd.c, .slice ac2 nc2 cc2, .slice am2 nm2 cm2] rfl rfl (cell_five_new _ _ _ _ _ _ _) (by simp [Value.oneCell']) (by unfold maxLen; omega) (by omega) (by simp; omega) ?_; intro v' w1 hown' hgrow _ hat; obtain ⟨g', cap', rfl⟩ := ownsRow_succ hown'; obtain ⟨hS1, hS2⟩ := loopI_step (y := ⟨dd, ac2, nc2, cc2, am2, nm2, cm2⟩) hl1 hl2 hdd (hee.trans h0) hvX hownX hno (fun i hi => ⟨(hrd i hi).1.below hbX.out, (hrd i hi).2⟩) HRX.out HNT.out HPT.out (fun g e => NotIn.past HPW.out (own_lt hown e)) (hbl.trans (hbX.out.mono (by exact HTW.out))) hown' hgrow hat; obtain ⟨hv1, -, -, -, -⟩ := hvX.appended (by decide) hownX hTW (Nat.le_refl _) hown' hgrow; have hc1 := hv1.cell; have hf1 := hv1.frozen)
        exact ⟨((KeepsOthers.of_below hbX.out).trans hS2).from _, trivial, hS1⟩
      · have e1 : (ee != 0) = true := by simpa using h0
        have hPX := hP5.below hbX.out hP5.lt
        obtain ⟨r0, r1, r2, r3, r4⟩ := hPX.var.five
        obtain ⟨y0, y1, y2, y3, y4⟩ := hPX.var.soft
        have r5 := hPX.E.cell
        have y5 := hPX.E.frozen
        obtain ⟨hV6, hE6, hB6⟩ := hPX.set 0 0 0 ee (.slice none 0 0) (.slice none 0 0)
        have hb6 : Go.RowKit.Below w.heap.size w _ := (hbW.trans (hbX.out.mono hbW.size)).trans (hB6.below (B0 := w.heap.size) (by omega) (by have := hPX.lt; omega))
        have hk6 : KeepsOthers WX (set6 WX (w.heap.size + 1 + 1 + 1) (w.heap.size + 1 + 1 + 1 + 1) (.int .i64 0) (.int .i64 0) (.int .i64 0) (.slice none 0 0) (.slice none 0 0) (.int .i64 ee)) := by unfold set6 set5; exact (((((KeepsOthers.setCell _ _ _).trans (KeepsOthers.setCell _ _ _)).trans (KeepsOthers.setCell _ _ _)).trans (KeepsOthers.setCell _ _ _)).trans (KeepsOthers.setCell _ _ _)).trans (KeepsOthers.setCell _ _ _)
        gi_wp2
        exact ⟨((KeepsOthers.of_below hbX.out).trans hk6).from _, rfl, ee, ⟨pre, x, rfl, hl2, hee, h0⟩, hV6, hE6, hb6⟩
    · have hV8 := VarH.new (W.drew) 0 0 0 (.slice none 0 0) (.slice none 0 0) 45
      have b8 := alloc_below (W.drew) (.cells #[.int .i64 0, .int .i64 0, .int .i64 0, .slice none 0 0, .slice none 0 0] 45)
      obtain ⟨wz, hwz⟩ : ∃ wz, World.alloc (W.drew) (.cells #[.int .i64 0, .int .i64 0, .int .i64 0, .slice none 0 0, .slice none 0 0] 45) = wz := ⟨_, rfl⟩
      rw [hwz] at hV8 b8
      go_simp
      replace hbw := Lib.hid (hbw.out.trans b8)
      try dsimp only
      refine hK.out _ _ ((hq0.below hbw.out).cells) (fun hHeld => ?_)
      clear hK K
      try simp only [Act.put, List.setIfInBounds_toArray, List.set_cons_zero, List.set_cons_succ]
      refine callL (i := 8) (by kernel_rfl) rfl (by rfl) (fun K hK => ?_)
      go_simp
      refine (hCall _ (hbW.trans (hbw.out.mono hbW.size)) (hRowsW.below hbw.out)).mono ?_
      rintro e w7 ⟨v7, rfl, ⟨ac2, nc2, cc2, am2, nm2, cm2, rfl, hR2, hP2⟩, b7⟩
      have HV : Hid (VarH W.heap.size 0 0 0 (.slice none 0 0) (.slice none 0 0) w7) := hV8.below b7 hV8.lt
      have hsz : wz.heap.size = W.heap.size + 1 := by rw [← hwz]; exact World.size_alloc W.drew _
      replace hbw := Lib.hid (hbw.out.trans (b7.mono hbw.out.size))
      have HNI : Hid (NotIn W.heap.size dd ac2 am2) := NotIn.past hP2 (by omega)
      have HPW : Hid (Past W.heap.size ac2 am2) := ⟨fun ad e => by have := hP2.1 ad e; omega, fun ad e => by have := hP2.2 ad e; omega⟩
      have HR := Lib.hid hR2
      try dsimp only
      refine hK.out _ _ ((hq0.below hbw.out).cells) (fun hHeld => ?_)
      clear hK K
      try simp only [Act.put, List.setIfInBounds_toArray, List.set_cons_zero, List.set_cons_succ]
      refine takeQ (i := 9) (v := ?_) rfl (by kernel_rfl) (by kernel_rfl) (by kernel_rfl) (fun _ _ _ h => h) (by rfl) hHeld ?_ ?_
      rotate_left
      · (intro w' hSw; (try dsimp only at hSw); go_simp <;> (with_reducible rfl))
      try simp only [Act.put, List.setIfInBounds_toArray, List.set_cons_zero, List.set_cons_succ]
      refine takeQ (i := 10) (v := ?_) rfl (by kernel_rfl) (by kernel_rfl) (by kernel_rfl) (fun _ _ _ h => h) (by rfl) hHeld ?_ ?_
      rotate_left
      · (intro w' hSw; (try dsimp only at hSw); go_simp <;> (with_reducible rfl))
      try simp only [Act.put, List.setIfInBounds_toArray, List.set_cons_zero, List.set_cons_succ]
      refine takeQ (i := 11) (v := ?_) rfl (by kernel_rfl) (by kernel_rfl) (by kernel_rfl) (fun _ _ _ h => h) (by rfl) hHeld ?_ ?_
      rotate_left
      · (intro w' hSw; (try dsimp only at hSw); go_simp <;> (with_reducible rfl))
      try simp only [Act.put, List.setIfInBounds_toArray, List.set_cons_zero, List.set_cons_succ]
      have HG : Hid (W.heap.size ≤ W.heap.size) := Nat.le_refl _
      have HNT : Hid (NotIn w5.heap.size dd ac2 am2) := NotIn.past HPW.out (by have := (Array.getElem?_eq_some_iff.1 (show W.heap[w5.heap.size]? = _ from hv)).1; exact this)
      have HPT : Hid (Past w5.heap.size ac2 am2) := ⟨fun ad e => Nat.le_trans HTW.out (HPW.out.1 ad e), fun ad e => Nat.le_trans HTW.out (HPW.out.2 ad e)⟩
      clear hwz hV8 b8 hR2 hP2 b7 hsz
      obtain ⟨z0, z1, z2, z3, z4⟩ := HV.out.five
      obtain ⟨y0, y1, y2, y3, y4⟩ := HV.out.soft
      have HVX := Lib.hid (HV.out.set dd.k dd.b dd.c (.slice ac2 nc2 cc2) (.slice am2 nm2 cm2))
      have hBT := set5_but w7 W.heap.size (.int .i64 dd.k) (.int .i64 dd.b) (.int .i64 dd.c) (.slice ac2 nc2 cc2) (.slice am2 nm2 cm2)
      have HRX := Lib.hid (HR.out.butE HNI.out hBT)
      have hbX := Lib.hid (hbw.out.trans (hBT.below (B := W.heap.size) (by exact HG.out) hbw.out.size))
      clear hBT
      refine callL (i := 13) (by kernel_rfl) rfl (by rfl) (fun K hK => ?_)
      go_simp
      try dsimp only
      refine hK.out _ _ (by exact (hq0.below hbX.out).cells) (fun hHeld => ?_)
      clear hK K z0 z1 z2 z3 z4 y0 y1 y2 y3 y4
      try simp only [Act.put, List.setIfInBounds_toArray, List.set_cons_zero, List.set_cons_succ]
      change wpAnyH _ _ _ _ _ _ _ _ (set5 w7 W.heap.size (.int .i64 dd.k) (.int .i64 dd.b) (.int .i64 dd.c) (.slice ac2 nc2 cc2) (.slice am2 nm2 cm2))
      clear hHeld
      generalize set5 w7 W.heap.size (.int .i64 dd.k) (.int .i64 dd.b) (.int .i64 dd.c) (.slice ac2 nc2 cc2) (.slice am2 nm2 cm2) = WX at *
      have hHeld := (hq0.below hbX.out).cells
      clear hbw HV HR HNI
      refine takeQ (i := 14) (v := ?_) rfl (by kernel_rfl) (by kernel_rfl) (by kernel_rfl) (fun _ _ _ h => h) (by rfl) hHeld ?_ ?_
      rotate_left
      · (intro w' hSw; (try dsimp only at hSw); go_simp <;> (with_reducible rfl))
      try simp only [Act.put, List.setIfInBounds_toArray, List.set_cons_zero, List.set_cons_succ]
      refine wpAnyH_done (by kernel_rfl) ?_ _
      clear hHeld hRowsW hCall hrun
      by_cases h0 : ee = 0
      · have e1 : (ee != 0) = false := by simpa using h0
        have hvX : Boxed WX w5.heap.size 67 v := (hbX.out.block _ (Array.getElem?_eq_some_iff.1 (show W.heap[w5.heap.size]? = _ from hv)).1).trans hv
        have hownX := own_below hown hbX.out
        have hTW : w5.heap.size ≤ WX.heap.size := Nat.le_trans (Nat.le_of_lt (Array.getElem?_eq_some_iff.1 (show W.heap[w5.heap.size]? = _ from hv)).1) hbX.out.size
        have hcv := hvX.cell
        obtain ⟨x0, x1, x2, x3, x4⟩ := HVX.out.five
        have hL64 : L.length < 64 := by have := congrArg List.length hl1; simp at this; omega
        gi_wp2_with (gi_at_builtin; refine wpListIn_append_own_at _ rfl _ _ 67 rfl w5.heap.size 45 i0 (.agg #[.int .i64 0, .int .i64 0, .int .i64 0, .slice none 0 0, .slice none 0 0]) 5 72 Try.underlying67 hi hz0 hz1 hz2 rfl (by decide) _ _ _ rfl (hownX.alloc _) ⟨WX.heap.size, 0, none⟩ 1 1 [.int .i64 dd.k, .int .i64 dd.b, .int .i64 dd.c, .slice ac2 nc2 cc2, .slice am2 nm2 cm2] rfl rfl (cell_five_new _ _ _ _ _ _ _) (by simp [Value.oneCell']) (by unfold maxLen; omega) (by omega) (by simp; omega) ?_; intro v' w1 hown' hgrow _ hat; obtain ⟨g', cap', rfl⟩ := ownsRow_succ hown'; obtain ⟨hS1, hS2⟩ := loopI_step (y := ⟨dd, ac2, nc2, cc2, am2, nm2, cm2⟩) hl1 hl2 hdd (hee.trans h0) hvX hownX hno (fun i hi => ⟨(hrd i hi).1.below hbX.out, (hrd i hi).2⟩) HRX.out HNT.out HPT.out (fun g e => NotIn.past HPW.out (own_lt hown e)) (hbl.trans (hbX.out.mono (by exact HTW.out))) hown' hgrow hat; obtain ⟨hv1, -, -, -, -⟩ := hvX.appended (by decide) hownX hTW (Nat.le_refl _) hown' hgrow; have hc1 := hv1.cell; have hf1 := hv1.frozen)
        exact ⟨((KeepsOthers.of_below hbX.out).trans hS2).from _, trivial, hS1⟩
      · have e1 : (ee != 0) = true := by simpa using h0
        have hPX := hP5.below hbX.out hP5.lt
        obtain ⟨r0, r1, r2, r3, r4⟩ := hPX.var.five
        obtain ⟨y0, y1, y2, y3, y4⟩ := hPX.var.soft
        have r5 := hPX.E.cell
        have y5 := hPX.E.frozen
        obtain ⟨hV6, hE6, hB6⟩ := hPX.set 0 0 0 ee (.slice none 0 0) (.slice none 0 0)
        have hb6 : Go.RowKit.Below w.heap.size w _ := (hbW.trans (hbX.out.mono hbW.size)).trans (hB6.below (B0 := w.heap.size) (by omega) (by have := hPX.lt; omega))
        have hk6 : KeepsOthers WX (set6 WX (w.heap.size + 1 + 1 + 1) (w.heap.size + 1 + 1 + 1 + 1) (.int .i64 0) (.int .i64 0) (.int .i64 0) (.slice none 0 0) (.slice none 0 0) (.int .i64 ee)) := by unfold set6 set5; exact (((((KeepsOthers.setCell _ _ _).trans (KeepsOthers.setCell _ _ _)).trans (KeepsOthers.setCell _ _ _)).trans (KeepsOthers.setCell _ _ _)).trans (KeepsOthers.setCell _ _ _)).trans (KeepsOthers.setCell _ _ _)
        gi_wp2
        exact ⟨((KeepsOthers.of_below hbX.out).trans hk6).from _, rfl, ee, ⟨pre, x, rfl, hl2, hee, h0⟩, hV6, hE6, hb6⟩
  case done =>
    rintro D' ys W hD rfl ⟨L, ⟨hl1, hl2⟩, ⟨v, hv, hown, hno⟩, hrd, hbl⟩ hK
    have hLp : L.length = p := by have := congrArg List.length hl1; simpa using this
    have hPPp := HPP.out
    obtain ⟨g, cap, rfl, -, hcc, -, hglt, hcell⟩ := own_row hown (by omega)
    have hTlt := (Array.getElem?_eq_some_iff.1 (show W.heap[w5.heap.size]? = _ from hv)).1
    have hrowH : RowH g L w5.heap.size W := ⟨hglt, hcell, fun i hi => (hrd i hi).1, fun i hi => (hrd i hi).2.2⟩
    have hmf : mergeF (L.getD 0 hz).d ((L.map HR.d).drop 1) = (D, E) := by
      have h1 := HDE.out
      unfold partsG at h1
      rw [if_neg (by omega), if_pos (errF_none hl2), ← hl1] at h1
      have h2 : (L.getD 0 hz).d = hd 0 := by
        have e1 : (L.map HR.d)[0]? = ((List.range p).map hd)[0]? := by rw [hl1]
        rw [List.getElem?_map, List.getElem?_map, List.getElem?_eq_getElem (by omega), List.getElem?_range (by omega)] at e1
        simp only [Option.map_some, Option.some.injEq] at e1
        rw [List.getD_eq_getElem?_getD, List.getElem?_eq_getElem (by omega)]
        exact e1
      rw [h2]; exact h1
    rw [hLp] at hown hv
    have hM := merged_any w5.heap.size g p cap (p - 1) (by omega) (by omega) (by omega) L hLp W hrowH (Nat.le_of_lt hTlt) D E hmf
    have hbW : Go.RowKit.Below w.heap.size w W := HB.out.trans (hbl.mono HB.out.size)
    have hPW := HP.out.below hbl HP.out.lt
    have hcv := hv.cell
    have HD8 : Hid (w6.heap.size + 1 + 1 ≤ D') := by rw [← HS8.out]; exact hD
    clear hst hown hno hrd hcell hrowH hmf hl1 hl2
    gi_wp2
    refine ⟨trivial, (callsIn_wide.2 hM).mono ?_⟩
    rintro e w9 ⟨v9, rfl, ⟨ac2, nc2, cc2, am2, nm2, cm2, rfl, hR2, hP2⟩, b9⟩
    have hPX := hPW.below b9 hPW.lt
    have hbX := hbW.trans (b9.mono hbW.size)
    have hK9 : w9.heap[D']? = some (.deferred (some [])) := (b9.block _ (Array.getElem?_eq_some_iff.1 hK).1).trans hK
    clear hcv hM
    obtain ⟨r0, r1, r2, r3, r4⟩ := hPX.var.five
    obtain ⟨y0, y1, y2, y3, y4⟩ := hPX.var.soft
    have r5 := hPX.E.cell
    have y5 := hPX.E.frozen
    obtain ⟨hV6, hE6, hB6⟩ := hPX.set D.k D.b D.c E (.slice ac2 nc2 cc2) (.slice am2 nm2 cm2)
    have hb6 : Go.RowKit.Below w.heap.size w _ := hbX.trans (hB6.below (B0 := w.heap.size) (by omega) (by have := hPX.lt; omega))
    have hlt5 := HP.out.lt
    have hk6 : (set6 w9 (w.heap.size + 1 + 1 + 1) (w.heap.size + 1 + 1 + 1 + 1) (.int .i64 D.k) (.int .i64 D.b) (.int .i64 D.c) (.slice ac2 nc2 cc2) (.slice am2 nm2 cm2) (.int .i64 E)).heap[D']? = some (.deferred (some [])) :=
      (hB6.block D' (Array.getElem?_eq_some_iff.1 hK9).1 (by have := HD8.out; have := HS6.out; omega)).trans hK9
    have hr6 : Reads D ac2 nc2 am2 nm2 (set6 w9 (w.heap.size + 1 + 1 + 1) (w.heap.size + 1 + 1 + 1 + 1) (.int .i64 D.k) (.int .i64 D.b) (.int .i64 D.c) (.slice ac2 nc2 cc2) (.slice am2 nm2 cm2) (.int .i64 E)) :=
      (hR2.butE (NotIn.past hP2 (by omega)) (set5_but _ _ _ _ _ _ _)).butE (NotIn.past hP2 (by omega)) (But.setCell _ 0 _ _)
    gi_wp2
    change bodyPostM _ _ _ _ _ _ _ (set6 w9 (w.heap.size + 1 + 1 + 1) (w.heap.size + 1 + 1 + 1 + 1) (.int .i64 D.k) (.int .i64 D.b) (.int .i64 D.c) (.slice ac2 nc2 cc2) (.slice am2 nm2 cm2) (.int .i64 E))
    generalize set6 w9 (w.heap.size + 1 + 1 + 1) (w.heap.size + 1 + 1 + 1 + 1) (.int .i64 D.k) (.int .i64 D.b) (.int .i64 D.c) (.slice ac2 nc2 cc2) (.slice am2 nm2 cm2) (.int .i64 E) = WX at *
    have hgr := grownBy_putObj' WX D' (.deferred none)
    have hgo : ∀ r, some D' = some r → ∃ o : Obj, WX.heap[r]? = some o ∧ o.isCells = false := fun r e => by cases e; exact ⟨_, hk6, rfl⟩
    refine ⟨by simp, .inl ⟨_, _, rfl, run_takeDeferred hk6, ?_⟩⟩
    simp only [LeavesInM, LeavesIn]
    refine ⟨_, parts_res Try.results14 _ _ _ _ _ _ _ _ _ _ _ _ _ _ rfl rfl (hV6.owned hgr hgo) (cell_kept hE6 hgr hgo), ?_⟩
    refine ⟨_, rfl, ⟨_, _, _, _, _, _, rfl, hr6.owned hgr hgo, ⟨fun ad e => by have := hP2.1 ad e; omega, fun ad e => by have := hP2.2 ad e; omega⟩⟩, hb6.trans (belowK_b (w := w8) (n₀ := w.heap.size) (by have := HS8.out; have := HS6.out; omega) WX D' _ _ hD hk6 rfl rfl)⟩
  case stop =>
    rintro D' cc pre W hD hpre ⟨rfl, y, ⟨pr, x, rfl, hpr, hx, hy⟩, hV, hE, hb⟩ hK
    have hg : (D, E) = (zD, y) := by
      have h1 := HDE.out
      have hPPp := HPP.out
      have h2 := errF_first (he := he) (by rw [hx]; exact hy) hpre hpr
      unfold partsG at h1
      rw [if_neg (by omega), h2, hx, if_neg hy] at h1
      exact h1.symm
    obtain ⟨rfl, rfl⟩ : D = zD ∧ E = y := by cases hg; exact ⟨rfl, rfl⟩
    clear hst hg
    gi_wp2
    have hgr := grownBy_putObj' W D' (.deferred none)
    have hgo : ∀ r, some D' = some r → ∃ o : Obj, W.heap[r]? = some o ∧ o.isCells = false := fun r e => by cases e; exact ⟨_, hK, rfl⟩
    have hlt5 := HP.out.lt
    refine ⟨by simp, .inl ⟨_, _, rfl, run_takeDeferred hK, ?_⟩⟩
    simp only [LeavesInM, LeavesIn]
    refine ⟨_, parts_res Try.results14 _ _ _ _ _ _ _ _ _ _ _ _ _ _ rfl rfl (hV.owned hgr hgo) (cell_kept hE hgr hgo), ?_⟩
    exact ⟨_, rfl, Is.zero _ _, hb.trans (belowK_b (w := w8) (n₀ := w.heap.size) (by have := HS8.out; have := HS6.out; omega) W D' _ _ hD hK rfl rfl)⟩

/-- A SAMPLE's HISTOGRAM, merged of parts. -/
theorem parts_any (s : SD) (aC aT aW aR : Option Addr) (cC cT cW nR cR : Nat) (col : Int) (rows : List Int) (p : Int) (hnR : rows.length = nR) (hn2 : nR ≤ 1048576) (w : World) (hS : HoldsS s aC aT aW w) (hrow : HoldsE KN w aR rows)
    (hcap : nR ≤ cR) (hnone : aR = none → cR = 0) :
    Calls Try.prog 14 #[.agg (smpA s.k s.c s.b s.t s.d s.l s.p s.r s.q (.slice aC s.C.length cC) (.slice aT s.T.length cT) (.slice aW s.W.length cW)), .int .i64 col, .slice aR nR cR, .int .i64 p] w fun e w' => Made (partsF s col rows p).1 (partsF s col rows p).2 w e w' := by
  by_cases hp : 1 ≤ p ∧ p ≤ 64
  · obtain ⟨k, rfl⟩ : ∃ k : Nat, p = (k : Int) := ⟨p.toNat, by omega⟩
    have hk : partsK (rows.length : Int) (k : Int) = k := by unfold partsK; rw [if_neg (by omega)]; rfl
    unfold partsF
    rw [hk, Int.toNat_natCast, hnR]
    exact callsIn_wide.1 (parts_in s aC aT aW aR cC cT cW nR cR col rows k (by omega) (by omega) hnR hn2 w hS hrow hcap hnone _ _ (fun _ => rfl) (fun _ => rfl) _ _ rfl)
  · have hk : partsF s col rows p = (zD, 1) := by
      unfold partsF partsK partsG
      rw [if_pos (show (rows.length : Int) < 0 ∨ p < 1 ∨ 64 < p by omega)]
      rfl
    rw [hk]
    exact callsIn_wide.1 (parts_no s aC aT aW aR cC cT cW nR cR col p w hp)
end Go.Proofs.Ytebdlmjpgohngaa
