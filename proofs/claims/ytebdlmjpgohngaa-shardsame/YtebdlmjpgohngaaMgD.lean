/-
  Several texts in one: each says what it shows at its head.
-/
import Derived.Test.YtebdlmjpgohngaaShO
import Derived.Test.YtebdlmjpgohngaaHisL
import Derived.Test.YtebdlmjpgohngaaMgB
import Derived.BigQuiet
/- What is too great to be gone through; how long the numbers of what a sample comes to are. No condition. -/
namespace Go.Proofs.Ytebdlmjpgohngaa
open Go.RowKit

/-- No more numbers than a histogram can have. -/
def Few (d : HD) : Prop := d.lc.length ≤ 65792 ∧ d.lm.length ≤ 771
theorem few_zD : Few zD := ⟨Nat.zero_le _, Nat.zero_le _⟩
theorem few_rows (s : SD) (col : Nat) : ∀ (rows : List Int) (d : HD), Few d → Few (rowsF s col rows d).1
  | [], d, h => h
  | row :: rest, d, h => by
    show Few (if stepE s col row d = 0 then rowsF s col rest (stepD s col row d) else (zD, stepE s col row d)).1
    split
    · refine few_rows s col rest _ ?_
      unfold stepD
      split
      · exact h
      · have := addD_len d (s.C.getD (col * s.r.toNat + row.toNat) 0) (s.T.getD row.toNat 0) (s.W.getD row.toNat 0)
        exact ⟨by rw [this.1]; exact h.1, by rw [this.2]; exact h.2⟩
    · exact few_zD
theorem few_hist (s : SD) (col : Int) (rows : List Int) : Few (histF s col rows).1 := by
  unfold histF
  by_cases h : (col < 0 ∨ s.q ≤ col) ∨ rightS s = false
  · rw [if_pos h]; exact few_zD
  · rw [if_neg h]
    have h1 : rightS s = true := by
      cases hh : rightS s
      · exact absurd (.inr hh) h
      · rfl
    obtain ⟨-, hz2, hz3, -, -⟩ := new_ok s.k (s.b + 1) s.c (chk_right (rightS_are h1).1)
    exact few_rows s _ rows _ ⟨hz2, hz3⟩
theorem few_merge : ∀ (L : List HD) (D : HD), Few D → Few (mergeF D L).1
  | [], D, h => h
  | d :: r, D, h => by
    show Few (if bothE plusW D d = 0 then mergeF (bothD plusW D d) r else (zD, bothE plusW D d)).1
    split
    · have := both_len plusW D d
      exact few_merge r _ ⟨Nat.le_trans this.1 h.1, Nat.le_trans this.2 h.2⟩
    · exact few_zD
theorem few_parts (s : SD) (col : Int) (rows : List Int) (p : Int) : Few (partsF s col rows p).1 := by
  unfold partsF partsG
  split
  · exact few_zD
  · split
    · exact few_merge _ _ (few_hist _ _ _)
    · exact few_zD
theorem Few.room {d : HD} {ac am : Option Addr} {nc nm : Nat} {w : World} (h : Few d) (r : Reads d ac nc am nm w) : nc ≤ 1048576 ∧ nm ≤ 1048576 := by
  have := h.1; have := h.2; have := r.nc; have := r.nm
  omega

set_option maxRecDepth 20000 in
set_option maxHeartbeats 1000000 in
theorem greatS_any (k c b t d l p r q : Int) (aC aT aW : Option Addr) (nC cC nT cT nW cW : Nat) (w : World) :
    Calls Try.prog 10 #[.agg (smpA k c b t d l p r q (.slice aC nC cC) (.slice aT nT cT) (.slice aW nW cW))] w fun e w' => e = .returned (.bool (decide (600 < nC ∨ 200 < nT ∨ 200 < nW))) ∧ Below w.heap.size w w' := by
  have HB := Lib.hid (alloc_below w (.cells (smpA k c b t d l p r q (.slice aC nC cC) (.slice aT nT cT) (.slice aW nW cW)) 38))
  obtain ⟨g, hg⟩ : ∃ g, decide (600 < nC ∨ 200 < nT ∨ 200 < nW) = g := ⟨_, rfl⟩
  rw [hg]
  have HG := Lib.hid hg
  clear hg
  unfold smpA at HB ⊢
  by_cases h1 : 600 < nC
  · have i1 : (600 : Int) < (nC : Int) := by omega
    have HD : Hid (g = true) := by show _ = _; rw [← HG.out]; exact decide_eq_true (.inl h1)
    clear h1
    go_enter Try.func10, Try.ntmps10
    go_wp2_with fail
    go_ret
    exact ⟨(congrArg (fun x : Bool => Ending.returned (.bool x)) HD.out).symm, HB.out⟩
  · have i1 : ¬ (600 : Int) < (nC : Int) := by omega
    by_cases h2 : 200 < nT
    · have i2 : (200 : Int) < (nT : Int) := by omega
      have HD : Hid (g = true) := by show _ = _; rw [← HG.out]; exact decide_eq_true (.inr (.inl h2))
      clear h1 h2
      go_enter Try.func10, Try.ntmps10
      go_wp2_with fail
      go_ret
      exact ⟨(congrArg (fun x : Bool => Ending.returned (.bool x)) HD.out).symm, HB.out⟩
    · have i2 : ¬ (200 : Int) < (nT : Int) := by omega
      by_cases h3 : 200 < nW
      · have i3 : (200 : Int) < (nW : Int) := by omega
        have HD : Hid (g = true) := by show _ = _; rw [← HG.out]; exact decide_eq_true (.inr (.inr h3))
        clear h1 h2 h3
        go_enter Try.func10, Try.ntmps10
        go_wp2_with fail
        go_ret
        exact ⟨(congrArg (fun x : Bool => Ending.returned (.bool x)) HD.out).symm, HB.out⟩
      · have i3 : ¬ (200 : Int) < (nW : Int) := by omega
        have HD : Hid (g = false) := by show _ = _; rw [← HG.out]; exact decide_eq_false (by omega)
        clear h1 h2 h3
        go_enter Try.func10, Try.ntmps10
        go_wp2_with fail
        go_ret
        exact ⟨(congrArg (fun x : Bool => Ending.returned (.bool x)) HD.out).symm, HB.out⟩
end Go.Proofs.Ytebdlmjpgohngaa

/- ShardHists: the histogram of any sample, of any column and rows, and merged of any parts, by the program and by the document. Conditions: targets, weights, rows of 64 bits with a sign; cells of 16 bits. -/
namespace Go.Proofs.Ytebdlmjpgohngaa
open Go.RowKit

/-- A block holds what is asked. -/
def BoxA (W : World) (B : Nat) (A : Array Value) : Prop := W.heap[B]? = some (.cells A 40 (0, 0))
theorem BoxA.lt {W : World} {B : Nat} {A : Array Value} (h : BoxA W B A) : B < W.heap.size := (Array.getElem?_eq_some_iff.1 h).1
theorem BoxA.on {W W' : World} {B : Nat} {A : Array Value} (h : BoxA W B A) (b : Go.RowKit.Below W.heap.size W W') : BoxA W' B A := (b.block B h.lt).trans h
theorem BoxA.cells {W : World} {B : Nat} {x y z : Value} (h : BoxA W B #[x, y, z]) : W.cell? ⟨B, 0, none⟩ = some x ∧ W.cell? ⟨B, 1, none⟩ = some y ∧ W.cell? ⟨B, 2, none⟩ = some z := by
  have hh : W.heap[B]? = _ := h
  simp [World.cell?, hh]
/-- What is laid ahead. -/
theorem lay_two (w : World) (A X : Array Value) :
    BoxS ((w.alloc (.cells A 38)).alloc (.cells X 40)) w.heap.size A ∧ BoxA ((w.alloc (.cells A 38)).alloc (.cells X 40)) (w.heap.size + 1) X ∧
      Below w.heap.size w ((w.alloc (.cells A 38)).alloc (.cells X 40)) := by
  have h1 := BoxS.new w A
  have b1 := alloc_below w (.cells A 38)
  have s1 : (w.alloc (.cells A 38)).heap.size = w.heap.size + 1 := by simp
  generalize w.alloc (.cells A 38) = w1 at *
  have b2 := alloc_below w1 (.cells X 40)
  have h2 : BoxA (w1.alloc (.cells X 40)) w1.heap.size X := World.alloc_heap_new w1 _
  rw [s1] at h2
  exact ⟨h1.on b2, h2, b1.trans (b2.mono b1.size)⟩

/-- A histogram in a variable, as it is read. -/
def VH (o : Nat) (x : HR) (W : World) : Prop := VarH o x.d.k x.d.b x.d.c (.slice x.ac x.nc x.cc) (.slice x.am x.nm x.cm) W ∧ Reads x.d x.ac x.nc x.am x.nm W
/-- What the law's last region reads. -/
structure QH (N : Nat) (A : Array Value) (o1 o2 o3 o4 : Nat) (x1 x2 x3 x4 : HR) (W : World) : Prop where
  X : BoxS W N A
  H1 : VH o1 x1 W
  H2 : VH o2 x2 W
  H3 : VH o3 x3 W
  H4 : VH o4 x4 W
theorem VH.below {o : Nat} {x : HR} {W W' : World} (h : VH o x W) (b : Go.RowKit.Below W.heap.size W W') : VH o x W' := ⟨h.1.below b h.1.lt, h.2.below b⟩
theorem QH.below {N : Nat} {A : Array Value} {o1 o2 o3 o4 : Nat} {x1 x2 x3 x4 : HR} {W W' : World} (h : QH N A o1 o2 o3 o4 x1 x2 x3 x4 W) (b : Go.RowKit.Below W.heap.size W W') : QH N A o1 o2 o3 o4 x1 x2 x3 x4 W' :=
  ⟨h.X.on b, h.H1.below b, h.H2.below b, h.H3.below b, h.H4.below b⟩
theorem QH.drew {N : Nat} {A : Array Value} {o1 o2 o3 o4 : Nat} {x1 x2 x3 x4 : HR} {W : World} (h : QH N A o1 o2 o3 o4 x1 x2 x3 x4 W) : QH N A o1 o2 o3 o4 x1 x2 x3 x4 W.drew :=
  h.below ⟨rfl, rfl, rfl, Nat.le_refl _, fun _ _ => rfl⟩
theorem QH.cells {N : Nat} {k c b t d l p r q : Int} {vC vT vX : Value} {o1 o2 o3 o4 : Nat} {x1 x2 x3 x4 : HR} {W : World} (h : QH N (smpA k c b t d l p r q vC vT vX) o1 o2 o3 o4 x1 x2 x3 x4 W) :
    ((W.cell? ⟨N, 0, none⟩ = some (.int .i64 k) ∧ W.cell? ⟨N, 1, none⟩ = some (.int .i64 c) ∧ W.cell? ⟨N, 2, none⟩ = some (.int .i64 b) ∧ W.cell? ⟨N, 3, none⟩ = some (.int .i64 t) ∧ W.cell? ⟨N, 4, none⟩ = some (.int .i64 d) ∧ W.cell? ⟨N, 5, none⟩ = some (.int .i64 l) ∧ W.cell? ⟨N, 6, none⟩ = some (.int .i64 p)) ∧
    (W.cell? ⟨N, 7, none⟩ = some (.int .i64 r) ∧ W.cell? ⟨N, 8, none⟩ = some (.int .i64 q) ∧ W.cell? ⟨N, 9, none⟩ = some vC) ∧ W.cell? ⟨N, 10, none⟩ = some vT ∧ W.cell? ⟨N, 11, none⟩ = some vX) ∧
    (W.cell? ⟨o1, 0, none⟩ = some (.int .i64 x1.d.k) ∧ W.cell? ⟨o1, 1, none⟩ = some (.int .i64 x1.d.b) ∧ W.cell? ⟨o1, 2, none⟩ = some (.int .i64 x1.d.c) ∧ W.cell? ⟨o1, 3, none⟩ = some (.slice x1.ac x1.nc x1.cc) ∧ W.cell? ⟨o1, 4, none⟩ = some (.slice x1.am x1.nm x1.cm)) ∧
    (W.cell? ⟨o2, 0, none⟩ = some (.int .i64 x2.d.k) ∧ W.cell? ⟨o2, 1, none⟩ = some (.int .i64 x2.d.b) ∧ W.cell? ⟨o2, 2, none⟩ = some (.int .i64 x2.d.c) ∧ W.cell? ⟨o2, 3, none⟩ = some (.slice x2.ac x2.nc x2.cc) ∧ W.cell? ⟨o2, 4, none⟩ = some (.slice x2.am x2.nm x2.cm)) ∧
    (W.cell? ⟨o3, 0, none⟩ = some (.int .i64 x3.d.k) ∧ W.cell? ⟨o3, 1, none⟩ = some (.int .i64 x3.d.b) ∧ W.cell? ⟨o3, 2, none⟩ = some (.int .i64 x3.d.c) ∧ W.cell? ⟨o3, 3, none⟩ = some (.slice x3.ac x3.nc x3.cc) ∧ W.cell? ⟨o3, 4, none⟩ = some (.slice x3.am x3.nm x3.cm)) ∧
    (W.cell? ⟨o4, 0, none⟩ = some (.int .i64 x4.d.k) ∧ W.cell? ⟨o4, 1, none⟩ = some (.int .i64 x4.d.b) ∧ W.cell? ⟨o4, 2, none⟩ = some (.int .i64 x4.d.c) ∧ W.cell? ⟨o4, 3, none⟩ = some (.slice x4.ac x4.nc x4.cc) ∧ W.cell? ⟨o4, 4, none⟩ = some (.slice x4.am x4.nm x4.cm)) :=
  ⟨h.X.cells, h.H1.1.five, h.H2.1.five, h.H3.1.five, h.H4.1.five⟩
theorem same_self13 (d : HD) (ac am ac' am' : Option Addr) (nc cc nm cm nc' cc' nm' cm' : Nat) (w : World) (h : Reads d ac nc am nm w) (h' : Reads d ac' nc' am' nm' w) (hf : Few d) :
    Calls Try.prog 18 #[.agg #[.int .i64 d.k, .int .i64 d.b, .int .i64 d.c, .slice ac nc cc, .slice am nm cm], .agg #[.int .i64 d.k, .int .i64 d.b, .int .i64 d.c, .slice ac' nc' cc', .slice am' nm' cm']] w fun e w' =>
      e = .returned (.bool true) ∧ Below w.heap.size w w' := by
  have := same_any d d ac am ac' am' nc cc nm cm nc' cc' nm' cm' w h h' (hf.room h).1 (hf.room h).2
  rw [sameD_refl] at this
  exact this

set_option maxRecDepth 20000 in
set_option maxHeartbeats 1000000 in
theorem hists_great (s : SD) (aC aT aW aR : Option Addr) (cC cT cW nR cR : Nat) (col p : Int) (w : World) (h : 600 < s.C.length ∨ 200 < s.T.length ∨ 200 < s.W.length) :
    Calls Try.prog 5 #[.agg (smpA s.k s.c s.b s.t s.d s.l s.p s.r s.q (.slice aC s.C.length cC) (.slice aT s.T.length cT) (.slice aW s.W.length cW)), .agg #[.int .i64 col, .slice aR nR cR, .int .i64 p]] w fun e w' => e = .returned (.bool true) ∧ Below w.heap.size w w' := by
  have hg := fun w1 => greatS_any s.k s.c s.b s.t s.d s.l s.p s.r s.q aC aT aW s.C.length cC s.T.length cT s.W.length cW w1
  rw [decide_eq_true h] at hg
  clear h
  obtain ⟨k, c, b, t, d', l, q0, r, q, C, T, W⟩ := s
  simp only at *
  generalize T.length = nT at *
  generalize W.length = nW at *
  generalize C.length = nC at *
  have hL := lay_two w (smpA k c b t d' l q0 r q (.slice aC nC cC) (.slice aT nT cT) (.slice aW nW cW)) #[.int .i64 col, .slice aR nR cR, .int .i64 p]
  obtain ⟨w2, hw2⟩ : ∃ w2, (w.alloc (.cells (smpA k c b t d' l q0 r q (.slice aC nC cC) (.slice aT nT cT) (.slice aW nW cW)) 38)).alloc (.cells #[.int .i64 col, .slice aR nR cR, .int .i64 p] 40) = w2 := ⟨_, rfl⟩
  rw [hw2] at hL
  have HX := Lib.hid hL.1
  have HA := Lib.hid hL.2.1
  have HB := Lib.hid hL.2.2
  clear hL
  unfold smpA at hw2
  unfold smpA at hg ⊢
  go_enter Try.func5, Try.ntmps5
  go_upto_region 1 with fail
  clear hw2
  obtain ⟨⟨c0, c1, c2, c3, c4, c5, c6⟩, ⟨c7, c8, c9⟩, cT', cW'⟩ := HX.out.cells
  go_wp2_with fail
  refine (hg _).mono ?_
  rintro e w3 ⟨rfl, b3⟩
  go_wp2_with fail
  refine (fixed_any _).mono ?_
  rintro e w4 ⟨rfl, b4⟩
  go_wp2_with fail
  go_ret
  exact ⟨rfl, (HB.out.trans (b3.mono HB.out.size)).trans (b4.mono (Nat.le_trans HB.out.size b3.size))⟩

set_option maxRecDepth 20000 in
set_option maxHeartbeats 1000000 in
theorem hists_many (s : SD) (aC aT aW aR : Option Addr) (cC cT cW nR cR : Nat) (col p : Int) (w : World) (h : ¬ (600 < s.C.length ∨ 200 < s.T.length ∨ 200 < s.W.length)) (hm : 100 < nR) :
    Calls Try.prog 5 #[.agg (smpA s.k s.c s.b s.t s.d s.l s.p s.r s.q (.slice aC s.C.length cC) (.slice aT s.T.length cT) (.slice aW s.W.length cW)), .agg #[.int .i64 col, .slice aR nR cR, .int .i64 p]] w fun e w' => e = .returned (.bool true) ∧ Below w.heap.size w w' := by
  have hg := fun w1 => greatS_any s.k s.c s.b s.t s.d s.l s.p s.r s.q aC aT aW s.C.length cC s.T.length cT s.W.length cW w1
  rw [decide_eq_false h] at hg
  have i1 : (100 : Int) < (nR : Int) := by omega
  clear h hm
  obtain ⟨k, c, b, t, d', l, q0, r, q, C, T, W⟩ := s
  simp only at *
  generalize T.length = nT at *
  generalize W.length = nW at *
  generalize C.length = nC at *
  have hL := lay_two w (smpA k c b t d' l q0 r q (.slice aC nC cC) (.slice aT nT cT) (.slice aW nW cW)) #[.int .i64 col, .slice aR nR cR, .int .i64 p]
  obtain ⟨w2, hw2⟩ : ∃ w2, (w.alloc (.cells (smpA k c b t d' l q0 r q (.slice aC nC cC) (.slice aT nT cT) (.slice aW nW cW)) 38)).alloc (.cells #[.int .i64 col, .slice aR nR cR, .int .i64 p] 40) = w2 := ⟨_, rfl⟩
  rw [hw2] at hL
  have HX := Lib.hid hL.1
  have HA := Lib.hid hL.2.1
  have HB := Lib.hid hL.2.2
  clear hL
  unfold smpA at hw2
  unfold smpA at hg ⊢
  go_enter Try.func5, Try.ntmps5
  go_upto_region 1 with fail
  clear hw2
  obtain ⟨⟨c0, c1, c2, c3, c4, c5, c6⟩, ⟨c7, c8, c9⟩, cT', cW'⟩ := HX.out.cells
  go_wp2_with fail
  refine (hg _).mono ?_
  rintro e w3 ⟨rfl, b3⟩
  obtain ⟨-, a1, -⟩ := (HA.out.on b3).cells
  go_wp2_with fail
  refine (fixed_any _).mono ?_
  rintro e w4 ⟨rfl, b4⟩
  go_wp2_with fail
  go_ret
  exact ⟨rfl, (HB.out.trans (b3.mono HB.out.size)).trans (b4.mono (Nat.le_trans HB.out.size b3.size))⟩


set_option maxRecDepth 20000 in
set_option maxHeartbeats 4000000 in
theorem hists_rest (s : SD) (aC aT aW aR : Option Addr) (cC cT cW nR cR : Nat) (col p : Int) (rows : List Int) (hnR : rows.length = nR) (w : World) (hS : HoldsS s aC aT aW w) (hrow : HoldsE KN w aR rows) (hcap : nR ≤ cR) (hnone : aR = none → cR = 0) (wb : Whole s.b) (wc : Whole s.c) (h : ¬ (600 < s.C.length ∨ 200 < s.T.length ∨ 200 < s.W.length)) (hm : ¬ 100 < nR) :
    Calls Try.prog 5 #[.agg (smpA s.k s.c s.b s.t s.d s.l s.p s.r s.q (.slice aC s.C.length cC) (.slice aT s.T.length cT) (.slice aW s.W.length cW)), .agg #[.int .i64 col, .slice aR nR cR, .int .i64 p]] w fun e w' => e = .returned (.bool true) ∧ Below w.heap.size w w' := by
  have hg := fun w1 => greatS_any s.k s.c s.b s.t s.d s.l s.p s.r s.q aC aT aW s.C.length cC s.T.length cT s.W.length cW w1
  rw [decide_eq_false h] at hg
  have i1 : ¬ (100 : Int) < (nR : Int) := by omega
  have hh1 := fun w1 (hb : Below w.heap.size w w1) => hist_any s aC aT aW aR cC cT cW nR cR col rows hnR (by omega) w1 (hS.below hb) (hrow.below hb)
  have hh2 := fun w1 (hb : Below w.heap.size w w1) => rhist_any s aC aT aW aR cC cT cW nR cR col rows hnR (by omega) w1 (hS.below hb) (hrow.below hb)
  have hh3 := fun w1 (hb : Below w.heap.size w w1) => parts_any s aC aT aW aR cC cT cW nR cR col rows p hnR (by omega) w1 (hS.below hb) (hrow.below hb) hcap hnone
  have hh4 := fun w1 (hb : Below w.heap.size w w1) => rparts_any s aC aT aW aR cC cT cW nR cR col rows p hnR (by omega) w1 (hS.below hb) (hrow.below hb) hcap hnone
  have hr1 := fun w1 => rightS_any s.k s.c s.b s.t s.d s.l s.p s.r s.q aC aT aW s.C.length cC s.T.length cT s.W.length cW w1
  have hr2 := fun w1 => refRightS_any s.k s.c s.b s.t s.d s.l s.p s.r s.q aC aT aW s.C.length cC s.T.length cT s.W.length cW w1
  change ∀ w1, Calls _ _ _ _ (fun e w' => e = .returned (.bool (rightS s)) ∧ _) at hr1 hr2
  have f1 := few_hist s col rows
  have f2 := few_parts s col rows p
  generalize (histF s col rows).1 = D at *
  generalize (histF s col rows).2 = E at *
  generalize (partsF s col rows p).1 = F at *
  generalize (partsF s col rows p).2 = G at *
  generalize rightS s = RB at *
  have HF1 := Lib.hid f1
  have HF2 := Lib.hid f2
  have HH1 : Hid (∀ w1 (hb : Below w.heap.size w w1), Calls _ _ _ w1 fun e w' => Made D E w1 e w') := hh1
  have HH2 : Hid (∀ w1 (hb : Below w.heap.size w w1), Calls _ _ _ w1 fun e w' => MadeZ D E w1 e w') := hh2
  have HH3 : Hid (∀ w1 (hb : Below w.heap.size w w1), Calls _ _ _ w1 fun e w' => Made F G w1 e w') := hh3
  have HH4 : Hid (∀ w1 (hb : Below w.heap.size w w1), Calls _ _ _ w1 fun e w' => Made F G w1 e w') := hh4
  have HR1 : Hid (∀ w1, Calls _ _ _ w1 fun e w' => e = .returned (.bool RB) ∧ Below w1.heap.size w1 w') := hr1
  have HR2 : Hid (∀ w1, Calls _ _ _ w1 fun e w' => e = .returned (.bool RB) ∧ Below w1.heap.size w1 w') := hr2
  clear hh1 hh2 hh3 hh4 hr1 hr2 f1 f2 h hm hS hrow hcap hnone hnR
  obtain ⟨k, c, b, t, d', l, q0, r, q, C, T, W⟩ := s
  simp only at *
  generalize T.length = nT at *
  generalize W.length = nW at *
  generalize C.length = nC at *
  have hL := lay_two w (smpA k c b t d' l q0 r q (.slice aC nC cC) (.slice aT nT cT) (.slice aW nW cW)) #[.int .i64 col, .slice aR nR cR, .int .i64 p]
  obtain ⟨w2, hw2⟩ : ∃ w2, (w.alloc (.cells (smpA k c b t d' l q0 r q (.slice aC nC cC) (.slice aT nT cT) (.slice aW nW cW)) 38)).alloc (.cells #[.int .i64 col, .slice aR nR cR, .int .i64 p] 40) = w2 := ⟨_, rfl⟩
  rw [hw2] at hL
  have HX := Lib.hid hL.1
  have HA := Lib.hid hL.2.1
  have HB := Lib.hid hL.2.2
  clear hL
  unfold smpA at hw2
  unfold smpA at hg HH1 HH2 HH3 HH4 HR1 HR2 ⊢
  have HWB := Lib.hid (And.intro wb wc)
  clear wb wc
  go_enter Try.func5, Try.ntmps5
  go_upto_region 1 with fail
  clear hw2
  go_cut [34] (fun s34 wx => ∃ g : Bool, s34 = .bool g ∧ Below w2.heap.size w2 wx)
  case first =>
    clear HH1 HH2 HH3 HH4 HR1 HR2
    obtain ⟨⟨c0, c1, c2, c3, c4, c5, c6⟩, ⟨c7, c8, c9⟩, cT', cW'⟩ := HX.out.cells
    obtain ⟨z, hz⟩ : ∃ z, wrap64 (b * c) = z := ⟨_, rfl⟩
    by_cases h1 : z < 0
    · have h2 : ¬ 0 ≤ z := by omega
      have h3 : ¬ 0 < z := by omega
      have m1 : ∀ w, (Instr.makeSlice 35 (.int .i64 0) (.int .i64 0)).run Try.prog w = .ok (.slice (some ⟨w.heap.size, 0, none⟩) 0 0) (w.alloc (.cells ((List.replicate 0 (0 : Int)).map KL.enc).toArray 2)) := fun w => run_madeE okL w 0 (by omega)
      obtain ⟨A1, hA1⟩ : ∃ A, A = ((List.replicate 0 (0 : Int)).map KL.enc).toArray := ⟨_, rfl⟩
      rw [← hA1] at m1
      clear hA1
      go_wp2_with fail
      refine (hg _).mono ?_
      rintro e w3 ⟨rfl, b3⟩
      obtain ⟨-, a1, -⟩ := (HA.out.on b3).cells
      clear c0 c1 c2 c3 c4 c5 c6 c7 c8 c9 cT' cW'
      obtain ⟨⟨c0, c1, c2, c3, c4, c5, c6⟩, -⟩ := (HX.out.on b3).cells
      have b4 := alloc_below w3 (.cells A1 2)
      go_wp2_with fail
      refine (great_any _ _ _ _ _ _ _ _ _ _).mono ?_
      rintro e w5 ⟨rfl, b5⟩
      have b6 := b3.trans ((b4.trans (b5.mono b4.size)).mono b3.size)
      clear m1 b3 b4 b5 c0 c1 c2 c3 c4 c5 c6 a1
      go_wp2_with fail
      go_meet
      exact ⟨_, rfl, b6⟩
    · by_cases h2 : 2000 < z
      · have h3 : ¬ z ≤ 2000 := by omega
        have h4 : ¬ z < 2000 := by omega
        have h5 : (0 : Int) < z := by omega
        have m1 : ∀ w, (Instr.makeSlice 35 (.int .i64 2000) (.int .i64 2000)).run Try.prog w = .ok (.slice (some ⟨w.heap.size, 0, none⟩) 2000 2000) (w.alloc (.cells ((List.replicate 2000 (0 : Int)).map KL.enc).toArray 2)) := fun w => run_madeE okL w 2000 (by omega)
        obtain ⟨A1, hA1⟩ : ∃ A, A = ((List.replicate 2000 (0 : Int)).map KL.enc).toArray := ⟨_, rfl⟩
        rw [← hA1] at m1
        clear hA1
        go_wp2_with fail
        refine (hg _).mono ?_
        rintro e w3 ⟨rfl, b3⟩
        obtain ⟨-, a1, -⟩ := (HA.out.on b3).cells
        clear c0 c1 c2 c3 c4 c5 c6 c7 c8 c9 cT' cW'
        obtain ⟨⟨c0, c1, c2, c3, c4, c5, c6⟩, -⟩ := (HX.out.on b3).cells
        have b4 := alloc_below w3 (.cells A1 2)
        go_wp2_with fail
        refine (great_any _ _ _ _ _ _ _ _ _ _).mono ?_
        rintro e w5 ⟨rfl, b5⟩
        have b6 := b3.trans ((b4.trans (b5.mono b4.size)).mono b3.size)
        clear m1 b3 b4 b5 c0 c1 c2 c3 c4 c5 c6 a1
        go_wp2_with fail
        go_meet
        exact ⟨_, rfl, b6⟩
      · obtain ⟨n, rfl⟩ : ∃ n : Nat, z = (n : Int) := ⟨z.toNat, by omega⟩
        have hn : n ≤ 2000 := by omega
        have h3 : (n : Int) ≤ 2000 := by omega
        have h4 : n ≤ 2000 := by omega
        have m1 : ∀ w, (Instr.makeSlice 35 (.int .i64 (n : Int)) (.int .i64 (n : Int))).run Try.prog w = .ok (.slice (some ⟨w.heap.size, 0, none⟩) n n) (w.alloc (.cells ((List.replicate n (0 : Int)).map KL.enc).toArray 2)) := fun w => run_madeE okL w n (by omega)
        obtain ⟨A1, hA1⟩ : ∃ A, A = ((List.replicate n (0 : Int)).map KL.enc).toArray := ⟨_, rfl⟩
        rw [← hA1] at m1
        clear hA1
        go_wp2_with fail
        refine (hg _).mono ?_
        rintro e w3 ⟨rfl, b3⟩
        obtain ⟨-, a1, -⟩ := (HA.out.on b3).cells
        clear c0 c1 c2 c3 c4 c5 c6 c7 c8 c9 cT' cW'
        obtain ⟨⟨c0, c1, c2, c3, c4, c5, c6⟩, -⟩ := (HX.out.on b3).cells
        have b4 := alloc_below w3 (.cells A1 2)
        go_wp2_with fail
        refine (great_any _ _ _ _ _ _ _ _ _ _).mono ?_
        rintro e w5 ⟨rfl, b5⟩
        have b6 := b3.trans ((b4.trans (b5.mono b4.size)).mono b3.size)
        clear m1 b3 b4 b5 c0 c1 c2 c3 c4 c5 c6 a1
        go_wp2_with fail
        go_meet
        exact ⟨_, rfl, b6⟩
  case rest =>
    obtain ⟨g, rfl, hB⟩ := hcut
    replace HX := Lib.hid (HX.out.on hB)
    replace HA := Lib.hid (HA.out.on hB)
    replace HB := Lib.hid (HB.out.trans (hB.mono HB.out.size))
    clear hB hg
    cases g
    · obtain ⟨⟨c0, c1, c2, c3, c4, c5, c6⟩, ⟨c7, c8, c9⟩, cT', cW'⟩ := HX.out.cells
      obtain ⟨a0, a1, a2⟩ := HA.out.cells
      go_wp2_with fail
      refine (HH1.out _ HB.out).mono ?_
      rintro e v1 ⟨u1, rfl, ⟨x1, n1, k1, y1, m1, l1, rfl, hR1, -⟩, b1⟩
      clear c0 c1 c2 c3 c4 c5 c6 c7 c8 c9 cT' cW' a0 a1 a2
      go_upto_region 4 with fail
      obtain ⟨W1, hW1⟩ : ∃ W, v1.alloc (.cells #[.int .i64 D.k, .int .i64 D.b, .int .i64 D.c, .slice x1 n1 k1, .slice y1 m1 l1] 45) = W := ⟨_, rfl⟩
      have hV1 : VarH v1.heap.size D.k D.b D.c (.slice x1 n1 k1) (.slice y1 m1 l1) W1 := by rw [← hW1]; exact VarH.new _ _ _ _ _ _ _
      have bb1 : Below v1.heap.size v1 W1 := by rw [← hW1]; exact alloc_below _ _
      rw [hW1]
      have R1 := Lib.hid (hR1.below bb1)
      have bt1 := b1.trans (bb1.mono b1.size)
      obtain ⟨o1, ho1⟩ : ∃ o, v1.heap.size = o := ⟨_, rfl⟩
      rw [ho1] at hV1 ⊢
      have HV1 := Lib.hid hV1
      replace HX := Lib.hid (HX.out.on bt1)
      replace HA := Lib.hid (HA.out.on bt1)
      replace HB := Lib.hid (HB.out.trans (bt1.mono HB.out.size))
      clear hV1 hR1 bb1 b1 bt1 ho1 hW1
      obtain ⟨⟨c0, c1, c2, c3, c4, c5, c6⟩, ⟨c7, c8, c9⟩, cT', cW'⟩ := HX.out.cells
      obtain ⟨a0, a1, a2⟩ := HA.out.cells
      go_wp2_with fail
      refine (HH2.out _ HB.out).mono ?_
      rintro e v2 ⟨u2, rfl, ⟨x2, n2, k2, y2, m2, l2, rfl, hR2, -, -, -⟩, b2⟩
      clear c0 c1 c2 c3 c4 c5 c6 c7 c8 c9 cT' cW' a0 a1 a2
      go_upto_region 5 with fail
      obtain ⟨W2, hW2⟩ : ∃ W, v2.alloc (.cells #[.int .i64 D.k, .int .i64 D.b, .int .i64 D.c, .slice x2 n2 k2, .slice y2 m2 l2] 45) = W := ⟨_, rfl⟩
      have hV2 : VarH v2.heap.size D.k D.b D.c (.slice x2 n2 k2) (.slice y2 m2 l2) W2 := by rw [← hW2]; exact VarH.new _ _ _ _ _ _ _
      have bb2 : Below v2.heap.size v2 W2 := by rw [← hW2]; exact alloc_below _ _
      rw [hW2]
      have R2 := Lib.hid (hR2.below bb2)
      have bt2 := b2.trans (bb2.mono b2.size)
      obtain ⟨o2, ho2⟩ : ∃ o, v2.heap.size = o := ⟨_, rfl⟩
      rw [ho2] at hV2 ⊢
      have HV2 := Lib.hid hV2
      replace HX := Lib.hid (HX.out.on bt2)
      replace HA := Lib.hid (HA.out.on bt2)
      replace HB := Lib.hid (HB.out.trans (bt2.mono HB.out.size))
      replace HV1 := Lib.hid (HV1.out.below bt2 HV1.out.lt)
      replace R1 := Lib.hid (R1.out.below bt2)
      clear hV2 hR2 bb2 b2 bt2 ho2 hW2
      obtain ⟨⟨c0, c1, c2, c3, c4, c5, c6⟩, ⟨c7, c8, c9⟩, cT', cW'⟩ := HX.out.cells
      obtain ⟨a0, a1, a2⟩ := HA.out.cells
      go_wp2_with fail
      refine (HH3.out _ HB.out).mono ?_
      rintro e v3 ⟨u3, rfl, ⟨x3, n3, k3, y3, m3, l3, rfl, hR3, -⟩, b3⟩
      clear c0 c1 c2 c3 c4 c5 c6 c7 c8 c9 cT' cW' a0 a1 a2
      go_upto_region 6 with fail
      obtain ⟨W3, hW3⟩ : ∃ W, v3.alloc (.cells #[.int .i64 F.k, .int .i64 F.b, .int .i64 F.c, .slice x3 n3 k3, .slice y3 m3 l3] 45) = W := ⟨_, rfl⟩
      have hV3 : VarH v3.heap.size F.k F.b F.c (.slice x3 n3 k3) (.slice y3 m3 l3) W3 := by rw [← hW3]; exact VarH.new _ _ _ _ _ _ _
      have bb3 : Below v3.heap.size v3 W3 := by rw [← hW3]; exact alloc_below _ _
      rw [hW3]
      have R3 := Lib.hid (hR3.below bb3)
      have bt3 := b3.trans (bb3.mono b3.size)
      obtain ⟨o3, ho3⟩ : ∃ o, v3.heap.size = o := ⟨_, rfl⟩
      rw [ho3] at hV3 ⊢
      have HV3 := Lib.hid hV3
      replace HX := Lib.hid (HX.out.on bt3)
      replace HA := Lib.hid (HA.out.on bt3)
      replace HB := Lib.hid (HB.out.trans (bt3.mono HB.out.size))
      replace HV1 := Lib.hid (HV1.out.below bt3 HV1.out.lt)
      replace R1 := Lib.hid (R1.out.below bt3)
      replace HV2 := Lib.hid (HV2.out.below bt3 HV2.out.lt)
      replace R2 := Lib.hid (R2.out.below bt3)
      clear hV3 hR3 bb3 b3 bt3 ho3 hW3
      obtain ⟨⟨c0, c1, c2, c3, c4, c5, c6⟩, ⟨c7, c8, c9⟩, cT', cW'⟩ := HX.out.cells
      obtain ⟨a0, a1, a2⟩ := HA.out.cells
      go_wp2_with fail
      refine (HH4.out _ HB.out).mono ?_
      rintro e v4 ⟨u4, rfl, ⟨x4, n4, k4, y4, m4, l4, rfl, hR4, -⟩, b4⟩
      clear c0 c1 c2 c3 c4 c5 c6 c7 c8 c9 cT' cW' a0 a1 a2
      go_upto_region 7 with fail
      obtain ⟨W4, hW4⟩ : ∃ W, v4.alloc (.cells #[.int .i64 F.k, .int .i64 F.b, .int .i64 F.c, .slice x4 n4 k4, .slice y4 m4 l4] 45) = W := ⟨_, rfl⟩
      have hV4 : VarH v4.heap.size F.k F.b F.c (.slice x4 n4 k4) (.slice y4 m4 l4) W4 := by rw [← hW4]; exact VarH.new _ _ _ _ _ _ _
      have bb4 : Below v4.heap.size v4 W4 := by rw [← hW4]; exact alloc_below _ _
      rw [hW4]
      have R4 := Lib.hid (hR4.below bb4)
      have bt4 := b4.trans (bb4.mono b4.size)
      obtain ⟨o4, ho4⟩ : ∃ o, v4.heap.size = o := ⟨_, rfl⟩
      rw [ho4] at hV4 ⊢
      have HV4 := Lib.hid hV4
      replace HX := Lib.hid (HX.out.on bt4)
      replace HA := Lib.hid (HA.out.on bt4)
      replace HB := Lib.hid (HB.out.trans (bt4.mono HB.out.size))
      replace HV1 := Lib.hid (HV1.out.below bt4 HV1.out.lt)
      replace R1 := Lib.hid (R1.out.below bt4)
      replace HV2 := Lib.hid (HV2.out.below bt4 HV2.out.lt)
      replace R2 := Lib.hid (R2.out.below bt4)
      replace HV3 := Lib.hid (HV3.out.below bt4 HV3.out.lt)
      replace R3 := Lib.hid (R3.out.below bt4)
      clear hV4 hR4 bb4 b4 bt4 ho4 hW4
      have hq0 : QH w.heap.size (smpA k c b t d' l q0 r q (.slice aC nC cC) (.slice aT nT cT) (.slice aW nW cW)) o1 o2 o3 o4 ⟨D, x1, n1, k1, y1, m1, l1⟩ ⟨D, x2, n2, k2, y2, m2, l2⟩ ⟨F, x3, n3, k3, y3, m3, l3⟩ ⟨F, x4, n4, k4, y4, m4, l4⟩ W4 := ⟨HX.out, ⟨HV1.out, R1.out⟩, ⟨HV2.out, R2.out⟩, ⟨HV3.out, R3.out⟩, ⟨HV4.out, R4.out⟩⟩
      have hq := hq0.drew
      replace HB := Lib.hid HB.out.drew
      have e1 : (RB == RB) = true := by simp
      have e2 : (E == E) = true := by simp
      have e3 : (G == G) = true := by simp
      clear HX HA HV1 HV2 HV3 HV4 R1 R2 R3 R4 HH1 HH2 HH3 HH4
      go_region_held3 (fun w' => ((w'.cell? ⟨w.heap.size, 0, none⟩ = some (.int .i64 k) ∧ w'.cell? ⟨w.heap.size, 1, none⟩ = some (.int .i64 c) ∧ w'.cell? ⟨w.heap.size, 2, none⟩ = some (.int .i64 b) ∧ w'.cell? ⟨w.heap.size, 3, none⟩ = some (.int .i64 t) ∧ w'.cell? ⟨w.heap.size, 4, none⟩ = some (.int .i64 d') ∧ w'.cell? ⟨w.heap.size, 5, none⟩ = some (.int .i64 l) ∧ w'.cell? ⟨w.heap.size, 6, none⟩ = some (.int .i64 q0)) ∧ (w'.cell? ⟨w.heap.size, 7, none⟩ = some (.int .i64 r) ∧ w'.cell? ⟨w.heap.size, 8, none⟩ = some (.int .i64 q) ∧ w'.cell? ⟨w.heap.size, 9, none⟩ = some (.slice aC nC cC)) ∧ w'.cell? ⟨w.heap.size, 10, none⟩ = some (.slice aT nT cT) ∧ w'.cell? ⟨w.heap.size, 11, none⟩ = some (.slice aW nW cW)) ∧ (w'.cell? ⟨o1, 0, none⟩ = some (.int .i64 D.k) ∧ w'.cell? ⟨o1, 1, none⟩ = some (.int .i64 D.b) ∧ w'.cell? ⟨o1, 2, none⟩ = some (.int .i64 D.c) ∧ w'.cell? ⟨o1, 3, none⟩ = some (.slice x1 n1 k1) ∧ w'.cell? ⟨o1, 4, none⟩ = some (.slice y1 m1 l1)) ∧ (w'.cell? ⟨o2, 0, none⟩ = some (.int .i64 D.k) ∧ w'.cell? ⟨o2, 1, none⟩ = some (.int .i64 D.b) ∧ w'.cell? ⟨o2, 2, none⟩ = some (.int .i64 D.c) ∧ w'.cell? ⟨o2, 3, none⟩ = some (.slice x2 n2 k2) ∧ w'.cell? ⟨o2, 4, none⟩ = some (.slice y2 m2 l2)) ∧ (w'.cell? ⟨o3, 0, none⟩ = some (.int .i64 F.k) ∧ w'.cell? ⟨o3, 1, none⟩ = some (.int .i64 F.b) ∧ w'.cell? ⟨o3, 2, none⟩ = some (.int .i64 F.c) ∧ w'.cell? ⟨o3, 3, none⟩ = some (.slice x3 n3 k3) ∧ w'.cell? ⟨o3, 4, none⟩ = some (.slice y3 m3 l3)) ∧ (w'.cell? ⟨o4, 0, none⟩ = some (.int .i64 F.k) ∧ w'.cell? ⟨o4, 1, none⟩ = some (.int .i64 F.b) ∧ w'.cell? ⟨o4, 2, none⟩ = some (.int .i64 F.c) ∧ w'.cell? ⟨o4, 3, none⟩ = some (.slice x4 n4 k4) ∧ w'.cell? ⟨o4, 4, none⟩ = some (.slice y4 m4 l4))) (first | exact hq.cells | exact hq0.cells)
        (first
          | (go_at_call 9; refine (fixed_any _).mono ?_; rintro e w9 ⟨rfl, c⟩; replace hq := hq.below c; replace HB := Lib.hid (HB.out.trans (c.mono HB.out.size)); clear c)
          | (go_at_call 16; refine (HR1.out _).mono ?_; rintro e w9 ⟨rfl, c⟩; replace hq := hq.below c; replace HB := Lib.hid (HB.out.trans (c.mono HB.out.size)); clear c)
          | (go_at_call 17; refine (HR2.out _).mono ?_; rintro e w9 ⟨rfl, c⟩; replace hq := hq.below c; replace HB := Lib.hid (HB.out.trans (c.mono HB.out.size)); clear c)
          | (go_at_call 18; refine (same_self13 _ _ _ _ _ _ _ _ _ _ _ _ _ _ (by first | exact hq.H1.2 | exact hq.H3.2) (by first | exact hq.H2.2 | exact hq.H4.2) (by first | exact HF1.out | exact HF2.out)).mono ?_; rintro e w9 ⟨rfl, c⟩; replace hq := hq.below c; replace HB := Lib.hid (HB.out.trans (c.mono HB.out.size)); clear c))
      go_wp2_with fail
      go_ret
      exact ⟨rfl, HB.out⟩
    · clear HH1 HH2 HH3 HH4 HR1 HR2
      go_wp2_with fail
      refine (fixed_any _).mono ?_
      rintro e w4 ⟨rfl, b4⟩
      go_wp2_with fail
      go_ret
      exact ⟨rfl, HB.out.trans (b4.mono HB.out.size)⟩
end Go.Proofs.Ytebdlmjpgohngaa
