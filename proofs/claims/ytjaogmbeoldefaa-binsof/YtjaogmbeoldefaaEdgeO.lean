/-
  edges.Of: the edges of any values for any number of bins; what was handed in stays. Condition: at most 2^20 values, of 64 bits each.
-/
import Derived.Test.YtjaogmbeoldefaaEdgeI
import Derived.Test.YtjaogmbeoldefaaEdgeD
import Derived.Test.YtjaogmbeoldefaaOwnE
namespace Go.Proofs.Ytjaogmbeoldefaa
open Go.RowKit Go.Shelf

attribute [local go_sem] Oper.semAt_some

/-- A row of values is handed back. -/
def GotF (e : Ending) (w : World) (E : List Nat) : Prop := ∃ a c, e = .returned (.slice a E.length c) ∧ HoldsE KF w a E

/-- A row of the call's own is handed back. -/
def GotO (e : Ending) (w : World) (B : Nat) (E : List Nat) : Prop := ∃ v, e = .returned v ∧ Own KF w B v E
theorem GotO.got {e : Ending} {w : World} {B : Nat} {E : List Nat} (h : GotO e w B E) : GotF e w E := by
  obtain ⟨v, rfl, h⟩ := h
  obtain ⟨a, c, rfl, _, _, _, hh⟩ := h.holds
  exact ⟨a, c, rfl, hh⟩

theorem infoF : (Try.prog.info? 62).map (fun i => (i.zero, i.size, i.bytes)) = some (some (.float .f64 0), 1, 8) := by kernel_rfl

set_option maxRecDepth 100000 in
set_option maxHeartbeats 2000000 in
theorem of_in (n : Nat) (hn : 3 ≤ n) (a : Option Addr) (cap k b : Nat) (l : List Nat) (hk : l.length = k) (hk2 : k ≤ 1048576) (h64 : Bits64 l) (hb : 2 ≤ b) (hb2 : b ≤ 256) (w : World) (hr : HoldsE KF w a l) :
    CallsIn Fence.wide n Try.prog 30 #[.slice a k cap, .int .i64 (b : Int)] w fun e w' =>
      GotO e w' w.heap.size (cutsTo (thereL l) b (b - 1)) ∧ Go.RowKit.Below w.heap.size w w' := by
  have h1 : 1 ≤ n := by omega
  obtain ⟨i0, hi, hz0, hz1, hz2⟩ := info_parts infoF
  have hb3 : ¬ (b : Int) < 2 := by omega
  have hb4 : ¬ (256 : Int) < (b : Int) := by omega
  have HB := Lib.hid (And.intro hb hb2)
  have HK := Lib.hid (And.intro hk hk2)
  clear hb hb2 hk hk2
  refine callsIn_of_wp_marks Try.func30 rfl trivial ?_ rfl
  simp only [Try.ntmps30, List.size_toArray, List.length_cons, List.length_nil, Nat.reduceAdd, Nat.reduceSub, Array.replicate_succ, Array.replicate_zero, List.push_toArray, List.append_toArray, List.nil_append, List.cons_append]
  gi_wp2
  refine ⟨trivial, ?_⟩
  gi_at_call 42
  refine (callsIn_wide.2 (rankSort_any a cap k l HK.out.1 HK.out.2 h64 w hr)).mono ?_
  rintro e w1 ⟨⟨g, rfl, hg, hL1⟩, hB1⟩
  gi_wp2
  refine ⟨trivial, ?_⟩
  gi_at_call 41
  refine (callsIn_wide.2 (del_any g k k (inOrder l) (by rw [inOrder_len]; exact HK.out.1) HK.out.2 (Nat.le_refl _) (inOrder_bits h64) w1 hL1)).mono ?_
  rintro e w2 ⟨rfl, hL2, hb2⟩
  have hB2 : Go.RowKit.Below w.heap.size w w2 := hB1.trans (hb2.below hg hB1.size)
  have HT : Hid ((inOrder l).filter (fun b => !decide (mis b)) = thereL l) := rfl
  have hR := there_rising h64
  have hln : (thereL l).length ≤ 1048576 := by have := there_len l; have := HK.out; omega
  rw [HT.out] at hL2 ⊢
  obtain ⟨s, HS⟩ : ∃ s, Hid (thereL l = s) := ⟨_, rfl⟩
  rw [HS.out] at hL2 hR hln ⊢
  obtain ⟨m, hm⟩ : ∃ m, s.length = m := ⟨_, rfl⟩
  rw [hm] at hln ⊢
  have HM := Lib.hid hm
  have HLN := Lib.hid hln
  have hsz := hB2.size
  have hgl := hL2.lt
  clear hL1 hB1 hb2 hm hln hg
  gi_wp2_with (refine ⟨trivial, ?_⟩; gi_at_call 44; refine (cuts_in (n - 1) _ _ _ _ _).mono ?_; rintro e w' ⟨rfl, rfl⟩)
  have bO := Boxed.new w2 31 (.slice none 0 0)
  obtain ⟨wa, ha⟩ : ∃ wa, w2.alloc (Obj.cells #[Value.slice none 0 0] 31) = wa := ⟨_, rfl⟩
  rw [ha] at bO ⊢
  have sa : wa.heap.size = w2.heap.size + 1 := by rw [← ha]; simp
  have bL := Boxed.new wa 31 (.slice (some ⟨g, 0, none⟩) m k)
  obtain ⟨wb, hb⟩ : ∃ wb, wa.alloc (Obj.cells #[Value.slice (some ⟨g, 0, none⟩) m k] 31) = wb := ⟨_, rfl⟩
  rw [hb] at bL ⊢
  have sb : wb.heap.size = w2.heap.size + 1 + 1 := by rw [← hb]; simp [sa]
  have bB := Boxed.new wb 3 (.int .i64 (b : Int))
  have bO2 : Boxed wb w2.heap.size 31 (.slice none 0 0) := by rw [← hb]; exact bO.alloc _
  obtain ⟨wc, hc⟩ : ∃ wc, wb.alloc (Obj.cells #[Value.int .i64 (b : Int)] 3) = wc := ⟨_, rfl⟩
  have bO3 : Boxed wc w2.heap.size 31 (.slice none 0 0) := by rw [← hc]; exact bO2.alloc _
  have bL3 : Boxed wc wa.heap.size 31 (.slice (some ⟨g, 0, none⟩) m k) := by rw [← hc]; exact bL.alloc _
  rw [hc] at bB ⊢
  have sc : wc.heap.size = w2.heap.size + 1 + 1 + 1 := by rw [← hc]; simp [sb]
  have hBc : Go.RowKit.Below w2.heap.size w2 wc := by
    rw [← hc, ← hb, ← ha]
    exact (((Go.RowKit.Below.refl _ w2).alloc (Nat.le_refl _) _).alloc (by simp) _).alloc (by simp; omega) _
  rw [sa] at bL3
  rw [sb] at bB
  have hLc : ∀ j, j < m → wc.cell? ⟨g, 0 + j, none⟩ = some (.float .f64 (s.getD j 0)) := fun j hj => (hBc.cell (by exact hgl)).trans (hL2.cell j (by have := HM.out; omega))
  clear ha hb hc bO bL bO2 hL2
  have S1 : w2.heap.size + 1 < wc.heap.size := by omega
  have S2 : w2.heap.size + 1 + 1 < wc.heap.size := by omega
  have S3 : g < wc.heap.size := by omega
  have hst := cuts_stops (n - 1) (by omega) (w2.heap.size + 1) (w2.heap.size + 1 + 1) g m k b s HM.out HLN.out (fun e he => hR.bits e he) HB.out.1 HB.out.2 wc bL3.cell bB.cell hLc S1 S2 S3
  refine wpIn_rangeFunc_ownG rfl h1 (gf := 53) (lb := #[.pointer (some ⟨w2.heap.size + 1, 0, none⟩), .pointer (some ⟨w2.heap.size + 1 + 1, 0, none⟩)]) rfl trivial (enters_of Try.func53 (by kernel_rfl) rfl)
    hst (fun h k => h.trans k) (fun W l o o' hl _ _ _ => Three.put S3 S1 S2 W l o' hl) (Go.RowKit.Below.refl _ _) (fun _ => rfl)
    (fun pre W => (∃ v, Boxed W w2.heap.size 31 v ∧ W.ownsRow w2.heap.size 62 1 v pre.length (pre.map (Value.float .f64)) ∧ True) ∧ (Boxed W (w2.heap.size + 1) 31 (.slice (some ⟨g, 0, none⟩) m k) ∧ (Boxed W (w2.heap.size + 1 + 1) 3 (.int .i64 (b : Int)) ∧ Go.RowKit.Below w2.heap.size w2 W)))
    (fun _ _ _ => False)
    (OwnFrom.and (Own.from (holdsRow_own w2.heap.size w2.heap.size 31 62 1 (fun pre : List Nat => pre.length) (fun pre => pre.map (Value.float .f64)) (fun _ _ => True)) _)
      (OwnFrom.and (Own.from (boxed_own _ _ (fun _ : List Nat => _)) _) (OwnFrom.and (Own.from (boxed_own _ _ (fun _ : List Nat => _)) _) (ownFrom_below (Nat.le_refl _) (by omega)))))
    (fun _ _ _ _ _ hs _ _ => hs)
    ⟨⟨_, bO3, World.ownsRow_nil _ _ _ _, trivial⟩, bL3, bB, hBc⟩
    (fun x => { tmps := #[.slice a k cap, .int .i64 (b : Int), undef, undef, .slice none 0 0, .slice (some ⟨g, 0, none⟩) m k, .pointer (some ⟨w2.heap.size, 0, none⟩), .float .f64 x, .int .i64 (b : Int), .bool false, .bool false, .int .i64 (b : Int), .bool false, .bool false, .slice a k cap, .slice (some ⟨g, 0, none⟩) k k, .slice (some ⟨g, 0, none⟩) m k, .slice (some ⟨g, 0, none⟩) m k, .int .i64 (b : Int), .func (.func 53) #[] #[.pointer (some ⟨w2.heap.size + 1, 0, none⟩), .pointer (some ⟨w2.heap.size + 1 + 1, 0, none⟩)], .float .f64 x, undef, undef, undef, undef, undef], defers := [] }) ?assign ?body ?done ?stop
  case assign =>
    intro l x W K hK
    gi_wp2
    exact hK
  case body =>
    rintro l pre x W ⟨⟨v, hv, hrow, _⟩, hbl, hbb, hB⟩ hlt
    have hcv := hv.cell
    have hW := hB.size
    clear hst hLc
    gi_wp2_with (gi_at_builtin; refine wpListIn_append_own _ rfl _ _ 31 rfl w2.heap.size 62 i0 (.float .f64 0) 1 8 Try.underlying31 hi hz0 hz1 hz2 rfl (by decide) _ _ _ rfl (hrow.alloc _) ⟨W.heap.size, 0, none⟩ 1 1 [.float .f64 x] rfl rfl (cell_one_new _ _ _) (by simp [Value.oneCell']) (by unfold maxLen; omega) (by omega) (by simp; omega) ?_; intro v' w1 hown' hgrow _; obtain ⟨g', cap', rfl⟩ := ownsRow_succ hown'; obtain ⟨hv1, hv2, hr2, hk2, hb2⟩ := hv.appended (by decide) hrow hW (Nat.le_refl _) hown' hgrow; have hl1 := ((hbl.alloc _).kept hgrow (hbl.not_row (by decide) hrow)).other (B' := w2.heap.size) (by omega) (.slice (some ⟨g', 0, none⟩) (pre.length + 1) cap'); have hb1 := ((hbb.alloc _).kept hgrow (hbb.not_row (by decide) hrow)).other (B' := w2.heap.size) (by omega) (.slice (some ⟨g', 0, none⟩) (pre.length + 1) cap'); have hc1 := hv1.cell; have hf1 := hv1.frozen)
    exact ⟨hk2.from _, ⟨hb2.block g hgl, hl1.trans hbl.symm, hb1.trans hbb.symm⟩, ⟨⟨_, hv2, by simpa using hr2, trivial⟩, hl1, hb1, hB.trans hb2⟩⟩
  case done =>
    rintro D ys W hD rfl ⟨⟨v, hv, hrow, _⟩, hbl, hbb, hB⟩ hK
    have hown2 : Own KF (W.putObj D (.deferred none)) w2.heap.size v (cutsTo s b (b - 1)) := ownsRow_putObj hrow _ hK rfl
    have hBf : Go.RowKit.Below w.heap.size w (W.putObj D (.deferred none)) := hB2.trans ((hB.trans (belowK_b (w := w2) (Nat.le_refl _) W D _ _ (by omega) hK rfl rfl)).mono hsz)
    obtain ⟨a', c, rfl, hh⟩ : ∃ a' c, v = .slice a' (cutsTo s b (b - 1)).length c ∧ HoldsE KF (W.putObj D (.deferred none)) a' (cutsTo s b (b - 1)) := by
      rcases hown2.lst with ⟨rfl, h0⟩ | ⟨g', cap', rfl, _, _, _, hl⟩
      · exact ⟨none, 0, by rw [h0]; rfl, .inl h0⟩
      · exact ⟨_, _, rfl, hl.holds⟩
    have hcv := hv.cell
    clear hst hLc
    gi_wp2
    refine ⟨by simp, .inl ⟨_, _, rfl, run_takeDeferred hK, ?_⟩⟩
    exact ⟨_, results_tmp rfl _ _ _, by rw [HS.out]; exact ⟨⟨_, rfl, hown2.base hB2.size⟩, hBf⟩⟩
  case stop =>
    rintro D c pre W _ _ h _
    exact h.elim

/-- THE EDGES. -/
theorem of_own (a : Option Addr) (cap k : Nat) (l : List Nat) (hk : l.length = k) (hk2 : k ≤ 1048576) (h64 : Bits64 l) (b : Int) (w : World) (hr : HoldsE KF w a l) :
    Calls Try.prog 30 #[.slice a k cap, .int .i64 b] w fun e w' =>
      GotO e w' w.heap.size (edgesL l b) ∧ Go.RowKit.Below w.heap.size w w' := by
  by_cases h1 : b < 2
  · rw [edges_none (.inl h1)]
    clear hr h64 hk
    go_enter Try.func30, Try.ntmps30
    go_wp2_with fail
    go_ret
    exact ⟨⟨_, rfl, Own.nil _ _⟩, Go.RowKit.Below.refl _ _⟩
  · by_cases h2 : 256 < b
    · rw [edges_none (.inr h2)]
      clear hr h64 hk
      go_enter Try.func30, Try.ntmps30
      go_wp2_with fail
      go_ret
      exact ⟨⟨_, rfl, Own.nil _ _⟩, Go.RowKit.Below.refl _ _⟩
    · rw [edges_some (by omega) (by omega)]
      obtain ⟨c, rfl⟩ : ∃ c : Nat, b = (c : Int) := ⟨b.toNat, by omega⟩
      rw [Int.toNat_natCast]
      exact callsIn_wide.1 (of_in 3 (by omega) a cap k c l hk hk2 h64 (by omega) (by omega) w hr)

theorem of_any' (a : Option Addr) (cap k : Nat) (l : List Nat) (hk : l.length = k) (hk2 : k ≤ 1048576) (h64 : Bits64 l) (b : Int) (w : World) (hr : HoldsE KF w a l) :
    Calls Try.prog 30 #[.slice a k cap, .int .i64 b] w fun e w' =>
      GotF e w' (edgesL l b) ∧ Go.RowKit.Below w.heap.size w w' :=
  (of_own a cap k l hk hk2 h64 b w hr).mono fun _ _ h => ⟨h.1.got, h.2⟩

end Go.Proofs.Ytjaogmbeoldefaa
