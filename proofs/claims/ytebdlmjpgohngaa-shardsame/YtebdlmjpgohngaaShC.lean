/-
  CUT: the parts of any number of things, collected into a row of the call's own. Condition: a number of things of 64 bits with a sign.
-/
import Derived.Test.YtebdlmjpgohngaaShB
namespace Go.Proofs.Ytebdlmjpgohngaa
open Go.RowKit Go.Shelf

attribute [local go_sem] Oper.semAt_some

/-- A block holds a span. -/
def BoxP (W : World) (B : Nat) (x y : Value) : Prop := W.heap[B]? = some (.cells #[x, y] 25 (0, 0))
theorem BoxP.lt {W : World} {B : Nat} {x y : Value} (h : BoxP W B x y) : B < W.heap.size := (Array.getElem?_eq_some_iff.1 h).1
theorem BoxP.c0 {W : World} {B : Nat} {x y : Value} (h : BoxP W B x y) : W.cell? ⟨B, 0, none⟩ = some x := by simp [World.cell?, show W.heap[B]? = _ from h]
theorem BoxP.c1 {W : World} {B : Nat} {x y : Value} (h : BoxP W B x y) : W.cell? ⟨B, 1, none⟩ = some y := by simp [World.cell?, show W.heap[B]? = _ from h]
theorem BoxP.new (W : World) (x y : Value) : BoxP (W.alloc (.cells #[x, y] 25)) W.heap.size x y := World.alloc_heap_new W _
theorem boxP_own (B : Nat) (x y : Value) : Go.Own (fun (_ : Unit) W => BoxP W B x y) := fun s X Y row hs hg hrow => by
  refine (hg.block B hs.lt (fun e' => ?_)).trans hs
  obtain ⟨o, ho, hc⟩ := hrow B e'.symm
  rw [show X.heap[B]? = _ from hs] at ho; cases ho; cases hc

theorem cell_two_new (W : World) (x y : Value) (t : TypeId) : ∀ j u, ([x, y] : List Value)[j]? = some u → (W.alloc (.cells #[x, y] t)).cell? ((⟨W.heap.size, 0, none⟩ : Addr).add j) = some u := by
  have hh : (W.alloc (.cells #[x, y] t)).heap[W.heap.size]? = some (.cells #[x, y] t) := World.alloc_heap_new W _
  intro j u hu
  match j with
  | 0 => simp at hu; subst hu; show (W.alloc _).cell? ⟨W.heap.size, 0, none⟩ = _; unfold World.cell?; simp only [hh]; rfl
  | 1 => simp at hu; subst hu; show (W.alloc _).cell? ⟨W.heap.size, 1, none⟩ = _; unfold World.cell?; simp only [hh]; rfl
  | j + 2 => simp at hu

/-- The parts, number by number. -/
def flatV (f : Nat → Nat) (l : List Nat) : List Value := l.flatMap fun i => [.int .i64 (f i : Int), .int .i64 (f (i + 1) : Int)]
theorem flatV_snoc (f : Nat → Nat) (l : List Nat) (x : Nat) : flatV f (l ++ [x]) = flatV f l ++ [.int .i64 (f x : Int), .int .i64 (f (x + 1) : Int)] := by
  unfold flatV; rw [List.flatMap_append]; simp
theorem flatV_range (f : Nat → Nat) (k : Nat) : flatV f (List.range k) = (spanL f k).map (Value.int .i64) := by
  induction k with
  | zero => rfl
  | succ k ih => rw [List.range_succ, flatV_snoc, spanL_succ, ih]; simp

set_option maxRecDepth 100000 in
set_option maxHeartbeats 2000000 in
theorem aseq_in (k : Nat) (hk : 3 ≤ k) (Bn Bp : Nat) (m p : Int) (hm : m < 9223372036854775808)
    (w : World) (hBn : w.cell? ⟨Bn, 0, none⟩ = some (.int .i64 m)) (hBp : w.cell? ⟨Bp, 0, none⟩ = some (.int .i64 p)) (l1 : Bn < w.heap.size) (l2 : Bp < w.heap.size) :
    CallsIn Fence.wide k Try.prog 33 #[.slice none 0 0, .func (.func 34) #[] #[.pointer (some ⟨Bn, 0, none⟩), .pointer (some ⟨Bp, 0, none⟩)]] w fun e w' =>
      ∃ v, (e = .returned v ∧ OwnP w' w.heap.size v (partsK m p) (spanL (cutF m.toNat p.toNat) (partsK m p))) ∧ Go.RowKit.Below w.heap.size w w' := by
  have h1 : 1 ≤ k := by omega
  obtain ⟨i0, hi, hz0, hz1, hz2⟩ := info_parts infoP
  have bO := Boxed.new w 22 (.slice none 0 0)
  have hBa : Go.RowKit.Below w.heap.size w (w.alloc (Obj.cells #[Value.slice none 0 0] 22)) := (Go.RowKit.Below.refl _ w).alloc (Nat.le_refl _) _
  have a1 := (hBa.cell (p := ⟨Bn, 0, none⟩) l1).trans hBn
  have a2 := (hBa.cell (p := ⟨Bp, 0, none⟩) l2).trans hBp
  have sa : (w.alloc (Obj.cells #[Value.slice none 0 0] 22)).heap.size = w.heap.size + 1 := by simp
  have hst := spans_stops (k - 1) (by omega) Bn Bp m p hm (w.alloc (Obj.cells #[Value.slice none 0 0] 22)) a1 a2 (by omega) (by omega)
  obtain ⟨f, HF⟩ : ∃ f, Hid (cutF m.toNat p.toNat = f) := ⟨_, rfl⟩
  unfold spanV at hst
  simp only [HF.out] at hst ⊢
  clear hBn hBp a1 a2
  refine callsIn_of_wp_marks Try.func33 rfl trivial ?_ rfl
  simp only [Try.ntmps33, List.size_toArray, List.length_cons, List.length_nil, Nat.reduceAdd, Nat.reduceSub, Array.replicate_succ, Array.replicate_zero, List.push_toArray, List.append_toArray, List.nil_append, List.cons_append]
  gi_wp2
  obtain ⟨wa, ha⟩ : ∃ wa, w.alloc (Obj.cells #[Value.slice none 0 0] 22) = wa := ⟨_, rfl⟩
  rw [ha] at bO hBa sa hst ⊢
  clear ha
  refine wpIn_rangeFunc_ownH rfl h1 (gf := 34) (lb := #[.pointer (some ⟨Bn, 0, none⟩), .pointer (some ⟨Bp, 0, none⟩)]) rfl trivial (enters_of Try.func34 (by kernel_rfl) rfl)
    hst (fun _ _ => trivial) (fun _ _ _ _ _ _ _ _ => trivial) (Go.RowKit.Below.refl _ _) (fun _ => rfl)
    (fun pre W => (∃ v, Boxed W w.heap.size 22 v ∧ W.ownsRow w.heap.size 25 2 v pre.length (flatV f pre) ∧ True) ∧ Go.RowKit.Below w.heap.size w W)
    (fun _ _ _ => False)
    (OwnFrom.and (Own.from (holdsRow_own w.heap.size w.heap.size 22 25 2 (fun pre : List Nat => pre.length) (fun pre => flatV f pre) (fun _ _ => True)) _)
      (ownFrom_below (Nat.le_refl _) (by omega)))
    (fun _ _ _ _ _ hs _ _ => hs)
    ⟨⟨_, bO, World.ownsRow_nil _ _ _ _, trivial⟩, hBa⟩
    (fun x a' W => ∃ Bx, BoxP W Bx (.int .i64 (f x : Int)) (.int .i64 (f (x + 1) : Int)) ∧ a' = { tmps := #[.slice none 0 0, .func (.func 34) #[] #[.pointer (some ⟨Bn, 0, none⟩), .pointer (some ⟨Bp, 0, none⟩)], .pointer (some ⟨w.heap.size, 0, none⟩), undef, .slice none 0 0, .pointer (some ⟨Bx, 0, none⟩), .func (.func 34) #[] #[.pointer (some ⟨Bn, 0, none⟩), .pointer (some ⟨Bp, 0, none⟩)], .agg #[.int .i64 (f x : Int), .int .i64 (f (x + 1) : Int)], undef, undef, undef, undef, undef], defers := [] })
    ?hAx ?assign ?body ?done ?stop
  case hAx =>
    rintro x a' u X Y row ⟨Bx, hb, e⟩ hg hrow
    exact ⟨Bx, boxP_own Bx _ _ u X Y row hb hg (fun r e => (hrow r e).2), e⟩
  case assign =>
    rintro l pre x W K ⟨⟨v, hv, hrow, _⟩, hB⟩ hK
    clear hst
    gi_wp2
    refine hK _ _ ?_ trivial ?_ ?_
    · exact (KeepsOthers.alloc W _).from _
    · exact ⟨⟨v, hv.alloc _, hrow.alloc _, trivial⟩, hB.alloc hB.size _⟩
    · exact ⟨W.heap.size, BoxP.new W _ _, rfl⟩
  case body =>
    rintro l pre x a' W hl hlo ⟨⟨v, hv, hrow, _⟩, hB⟩ ⟨Bx, hb, rfl⟩ hlt
    have hcv := hv.cell
    have hW := hB.size
    have c0 := hb.c0
    have c1 := hb.c1
    clear hst
    gi_wp2_with (gi_at_builtin; refine wpListIn_append_own _ rfl _ _ 22 rfl w.heap.size 25 i0 (.agg #[.int .i64 0, .int .i64 0]) 2 16 Try.underlying22 hi hz0 hz1 hz2 rfl (by decide) _ _ _ rfl (hrow.alloc _) ⟨W.heap.size, 0, none⟩ 1 1 [.int .i64 (f x : Int), .int .i64 (f (x + 1) : Int)] rfl rfl (cell_two_new _ _ _ _) (by simp [Value.oneCell']) (by unfold maxLen; omega) (by omega) (by simp; omega) ?_; intro v' w1 hown' hgrow _; obtain ⟨g', cap', rfl⟩ := ownsRow_succ hown'; obtain ⟨hv1, hv2, hr2, hk2, hb2⟩ := hv.appended (by decide) hrow hW (Nat.le_refl _) hown' hgrow; have hc1 := hv1.cell; have hf1 := hv1.frozen)
    exact ⟨hk2.from _, trivial, ⟨⟨_, hv2, by rw [flatV_snoc]; simpa using hr2, trivial⟩, hB.trans hb2⟩⟩
  case done =>
    rintro D ys W hD rfl ⟨⟨v, hv, hrow, _⟩, hB⟩ hK
    rw [List.length_range, flatV_range] at hrow
    have hown2 : OwnP (W.putObj D (.deferred none)) w.heap.size v (partsK m p) (spanL f (partsK m p)) := ownsRow_putObj hrow _ hK rfl
    have hBf : Go.RowKit.Below w.heap.size w (W.putObj D (.deferred none)) := hB.trans (belowK_b (w := w) (Nat.le_refl _) W D _ _ (by omega) hK rfl rfl)
    obtain ⟨a', c, rfl, -, -⟩ := hown2.read
    have hcv := hv.cell
    clear hst
    gi_wp2
    refine ⟨by simp, .inl ⟨_, _, rfl, run_takeDeferred hK, ?_⟩⟩
    refine ⟨_, results_tmp rfl _ _ _, ?_⟩
    exact ⟨_, ⟨rfl, hown2⟩, hBf⟩
  case stop =>
    rintro D c pre W _ _ h _
    exact h.elim

/-- What Collect makes of the parts. -/
theorem coll_in (k : Nat) (hk : 4 ≤ k) (Bn Bp : Nat) (m p : Int) (hm : m < 9223372036854775808)
    (w : World) (hBn : w.cell? ⟨Bn, 0, none⟩ = some (.int .i64 m)) (hBp : w.cell? ⟨Bp, 0, none⟩ = some (.int .i64 p)) (l1 : Bn < w.heap.size) (l2 : Bp < w.heap.size) :
    CallsIn Fence.wide k Try.prog 19 #[.func (.func 34) #[] #[.pointer (some ⟨Bn, 0, none⟩), .pointer (some ⟨Bp, 0, none⟩)]] w fun e w' =>
      ∃ v, (e = .returned v ∧ OwnP w' w.heap.size v (partsK m p) (spanL (cutF m.toNat p.toNat) (partsK m p))) ∧ Go.RowKit.Below w.heap.size w w' := by
  have hA := aseq_in (k - 1) (by omega) Bn Bp m p hm w hBn hBp l1 l2
  generalize spanL (cutF m.toNat p.toNat) (partsK m p) = L at *
  generalize partsK m p = K at *
  clear hm hBn hBp l1 l2
  refine callsIn_of_wp Try.func19 rfl trivial ?_ rfl
  simp only [Try.ntmps19, List.size_toArray, List.length_cons, List.length_nil, Nat.reduceAdd, Nat.reduceSub, Array.replicate_succ, Array.replicate_zero, List.push_toArray, List.append_toArray, List.nil_append, List.cons_append]
  gi_wp2
  refine ⟨trivial, fun _ => by omega, hA.mono ?_⟩
  rintro e w' ⟨v, ⟨rfl, hv⟩, hb⟩
  obtain ⟨a', c, rfl, -, -⟩ := hv.read
  gi_wp2
  go_ret
  exact ⟨_, ⟨rfl, hv⟩, hb⟩

/-- THE PARTS. -/
theorem cut_in (m p : Int) (hm : m < 9223372036854775808) (w : World) :
    CallsIn Fence.wide 5 Try.prog 7 #[.int .i64 m, .int .i64 p] w fun e w' =>
      ∃ v, (e = .returned v ∧ OwnP w' w.heap.size v (partsK m p) (spanL (cutF m.toNat p.toNat) (partsK m p))) ∧ Go.RowKit.Below w.heap.size w w' := by
  have hb1 : Go.RowKit.Below w.heap.size w ((w.alloc (.cells #[.int .i64 m] 3)).alloc (.cells #[.int .i64 p] 3)) := ((Go.RowKit.Below.refl _ w).alloc (Nat.le_refl _) _).alloc (by simp) _
  have hA := coll_in 4 (by omega) w.heap.size (w.heap.size + 1) m p hm ((w.alloc (.cells #[.int .i64 m] 3)).alloc (.cells #[.int .i64 p] 3)) (by simp [go_sem]) (by simp [go_sem]) (by simp; omega) (by simp)
  generalize hw1 : (w.alloc (.cells #[.int .i64 m] 3)).alloc (.cells #[.int .i64 p] 3) = w1 at *
  generalize spanL (cutF m.toNat p.toNat) (partsK m p) = L at *
  generalize partsK m p = K at *
  have hS := spans_in 4 m p w
  rw [hw1] at hS
  clear hm hw1
  refine callsIn_of_wp Try.func7 rfl trivial ?_ rfl
  simp only [Try.ntmps7, List.size_toArray, List.length_cons, List.length_nil, Nat.reduceAdd, Nat.reduceSub, Array.replicate_succ, Array.replicate_zero, List.push_toArray, List.append_toArray, List.nil_append, List.cons_append]
  gi_wp2
  refine ⟨trivial, hS.mono ?_⟩
  rintro e w' ⟨rfl, rfl⟩
  gi_wp2
  refine ⟨trivial, hA.mono ?_⟩
  rintro e w' ⟨v, ⟨rfl, hv⟩, hb⟩
  obtain ⟨a', c, rfl, -, -⟩ := hv.read
  gi_wp2
  go_ret
  exact ⟨_, ⟨rfl, hv.base hb1.size⟩, hb1.trans (hb.mono hb1.size)⟩
theorem cut_any (m p : Int) (hm : m < 9223372036854775808) (w : World) :
    Calls Try.prog 7 #[.int .i64 m, .int .i64 p] w fun e w' =>
      ∃ v, (e = .returned v ∧ OwnP w' w.heap.size v (partsK m p) (spanL (cutF m.toNat p.toNat) (partsK m p))) ∧ Go.RowKit.Below w.heap.size w w' :=
  callsIn_wide.1 (cut_in m p hm w)
end Go.Proofs.Ytebdlmjpgohngaa
