/-
  THE ITERATOR OF edges: cuts, and the function that it hands back: the edges come one by one, in order, whatever the loop's body, as long as that leaves what is read. Condition: at most 2^20 values, of 64 bits each; from 2 to 256 bins.
-/
import Derived.Test.YtjaogmbeoldefaaEdgeN
import Derived.Test.YtjaogmbeoldefaaEdgeB
import Derived.RangeFuncNested
import Derived.RangeFuncBox
import Derived.RangeFuncBound
import Derived.RangeFuncCalls
import Derived.RangeFuncLeaves
import Derived.Shelf.Abstract
import Derived.Shelf.RegionOpen
import Derived.OwnWalkIn
import Derived.TacticsInMore
import Derived.LoopNIn
import Derived.LoopIn
import Derived.Maps.AppendAt
import Derived.Sort.QuietIn
namespace Go.Proofs.Ytjaogmbeoldefaa
open Go.RowKit Go.Shelf

attribute [local go_sem] Oper.semAt_some

/-- These three blocks are as they were. -/
def Three (g b c : Nat) (W W' : World) : Prop := W'.heap[g]? = W.heap[g]? ∧ W'.heap[b]? = W.heap[b]? ∧ W'.heap[c]? = W.heap[c]?
theorem Three.refl (g b c : Nat) (W : World) : Three g b c W W := ⟨rfl, rfl, rfl⟩
theorem Three.trans {g b c : Nat} {X Y Z : World} (h : Three g b c X Y) (k : Three g b c Y Z) : Three g b c X Z := ⟨k.1.trans h.1, k.2.1.trans h.2.1, k.2.2.trans h.2.2⟩
theorem Three.drewN {g b c : Nat} {W W' : World} (h : Three g b c W W') (n : Nat) : Three g b c W (W'.drewN n) := h
theorem Three.put {g b c n : Nat} (hg : g < n) (hb : b < n) (hc : c < n) (W : World) (l : Nat) (o' : Obj) (hl : n ≤ l) : Three g b c W (W.putObj l o') :=
  ⟨World.putObj_heap_other (by omega), World.putObj_heap_other (by omega), World.putObj_heap_other (by omega)⟩

theorem cuts_in (n : Nat) (a : Option Addr) (m cap : Nat) (b : Int) (w : World) :
    CallsIn Fence.wide n Try.prog 44 #[.slice a m cap, .int .i64 b] w fun e w' => e = .returned (.func (.func 53) #[] #[.pointer (some ⟨w.heap.size, 0, none⟩), .pointer (some ⟨w.heap.size + 1, 0, none⟩)]) ∧
      w' = (w.alloc (.cells #[.slice a m cap] 31)).alloc (.cells #[.int .i64 b] 3) := by
  refine callsIn_of_wp Try.func44 rfl trivial ?_ rfl
  simp only [Try.ntmps44, List.size_toArray, List.length_cons, List.length_nil, Nat.reduceAdd, Nat.reduceSub, Array.replicate_succ, Array.replicate_zero, List.push_toArray, List.append_toArray, List.nil_append, List.cons_append]
  gi_wp2
  go_ret
  exact ⟨rfl, rfl⟩

/-- What the next edge must stand behind is one of them. -/
theorem last_src (s : List Nat) (b : Nat) : ∀ t, lastE s (cutsTo s b t) = s.getD 0 0 ∨ ∃ q, q ≤ t ∧ lastE s (cutsTo s b t) = posE s b q
  | 0 => .inl rfl
  | t + 1 => by
    show lastE s (stepE s b (cutsTo s b t) (t + 1)) = _ ∨ ∃ q, q ≤ t + 1 ∧ lastE s (stepE s b (cutsTo s b t) (t + 1)) = _
    unfold stepE
    split
    · exact .inr ⟨t + 1, Nat.le_refl _, lastE_snoc _ _ _⟩
    · rcases last_src s b t with e | ⟨q, hq, e⟩
      · exact .inl e
      · exact .inr ⟨q, by omega, e⟩
theorem last_lt {s : List Nat} {b m t : Nat} (hm : s.length = m) (hz : 0 < m) (h64 : ∀ e ∈ s, e < 18446744073709551616) (hlt : t + 1 < b) : lastE s (cutsTo s b t) < 18446744073709551616 := by
  rcases last_src s b t with e | ⟨q, hq, e⟩
  · rw [e]; exact at64 h64 (by omega)
  · rw [e]; exact at64 h64 (pos_lt (by omega) (by omega))

set_option maxRecDepth 100000 in
set_option maxHeartbeats 2000000 in
theorem cuts1_in (n : Nat) (hn : 1 ≤ n) (l Bl Bb g m cap b : Nat) (s : List Nat) (hm : s.length = m) (hm2 : m ≤ 1048576) (h64 : ∀ e ∈ s, e < 18446744073709551616) (hb : 2 ≤ b) (hb2 : b ≤ 256) (J Jx : List Nat → World → Prop)
    (hY : ∀ pre x W1, J pre W1 → pre.length < 256 → YieldAt Fence.wide (n - 1) Try.prog l #[.float .f64 x] W1 fun e W' =>
      (e = .returned (.bool true) ∧ J (pre ++ [x]) W' ∧ Three g Bl Bb W1 W') ∨ (e = .returned (.bool false) ∧ Jx (pre ++ [x]) W'))
    (W : World) (hJ : AbidesFrom W.heap.size J) (hBl : W.cell? ⟨Bl, 0, none⟩ = some (.slice (some ⟨g, 0, none⟩) m cap)) (hBb : W.cell? ⟨Bb, 0, none⟩ = some (.int .i64 (b : Int)))
    (hL : ∀ j, j < m → W.cell? ⟨g, 0 + j, none⟩ = some (.float .f64 (s.getD j 0))) (h0 : J [] W) :
    CallsIn Fence.wide n Try.prog 53 #[.func (.yield l) #[] #[], .pointer (some ⟨Bl, 0, none⟩), .pointer (some ⟨Bb, 0, none⟩)] W fun e W' => (∃ v, e = .returned v) ∧
      ((∃ ys, ys = cutsTo s b (b - 1) ∧ J ys W') ∨ (∃ pre, True ∧ Jx pre W')) := by
  refine callsIn_of_wp Try.func53 rfl trivial ?_ rfl
  simp only [Try.ntmps53, List.size_toArray, List.length_cons, List.length_nil, Nat.reduceAdd, Nat.reduceSub, Array.replicate_succ, Array.replicate_zero, List.push_toArray, List.append_toArray, List.nil_append, List.cons_append]
  rcases Nat.eq_zero_or_pos m with hz | hz
  · have HZ : Hid (cutsTo s b (b - 1) = []) := by
      have : s = [] := List.eq_nil_of_length_eq_zero (by omega)
      show _ = _
      rw [this]; exact cutsTo_none _ _
    subst hz
    clear hY hL hm hb hb2 h64 hm2
    gi_wp2
    refine bodyPost_ret (results_none rfl _ _ _) rfl ?_
    exact ⟨⟨_, rfl⟩, .inl ⟨[], HZ.out.symm, h0⟩⟩
  · have c0 : W.cell? ⟨g, 0, none⟩ = some (.float .f64 (s.getD 0 0)) := hL 0 hz
    have hmz : ((m : Int) == 0) = false := beq_eq_false_iff_ne.2 (by omega)
    have hmp : (0 : Int) < (m : Int) := by omega
    have HS := Lib.hid (And.intro hm (And.intro hm2 (And.intro hb hb2)))
    have HL := Lib.hid hL
    have HY := Lib.hid hY
    have HX : Hid (s.getD 0 0 = lastE s (cutsTo s b 0)) := rfl
    rw [HX.out] at c0
    have hz := hz
    have HZ := Lib.hid hz
    clear hm hm2 hb hb2 hL hz hY
    gi_wp2
    gi_loopw [4, 5, 6] (fun la q f wr => ∃ t : Nat, t + 1 ≤ b ∧ q = .int .i64 ((t : Int) + 1) ∧ la = .float .f64 (lastE s (cutsTo s b t)) ∧ J (cutsTo s b t) wr ∧ Three g Bl Bb W wr) (fun la q f _ => b - (intOf q).toNat)
    case atStart => exact ⟨0, by have := HS.out; omega, rfl, rfl, h0, Three.refl _ _ _ _⟩
    case round =>
      obtain ⟨t, ht, rfl, rfl, hJt, hT⟩ := hrel
      obtain ⟨hm, hm2, hb, hb2⟩ := HS.out
      have cl : wr.cell? ⟨Bl, 0, none⟩ = some (.slice (some ⟨g, 0, none⟩) m cap) := (World.cell?_of_block hT.2.1).trans hBl
      have cb : wr.cell? ⟨Bb, 0, none⟩ = some (.int .i64 (b : Int)) := (World.cell?_of_block hT.2.2).trans hBb
      by_cases hlt : t + 1 < b
      · have hp : (t + 1) * m / b < m := pos_lt (by omega) hlt
        have cx : wr.cell? ⟨g, 0 + (t + 1) * m / b, none⟩ = some (.float .f64 (posE s b (t + 1))) := by
          unfold posE; rw [hm]; exact (World.cell?_of_block hT.1).trans (HL.out _ hp)
        have hx : posE s b (t + 1) < 18446744073709551616 := by
          unfold posE; rw [hm]; exact at64 h64 (by omega)
        have hla : lastE s (cutsTo s b t) < 18446744073709551616 := last_lt hm HZ.out h64 hlt
        have hlt2 : (t : Int) + 1 < (b : Int) := by omega
        have HH := Lib.hid h64
        clear h64
        have hbz : ¬ (b : Int) = 0 := by omega
        obtain ⟨P, hP⟩ : ∃ P : Nat, (t + 1) * m = P := ⟨_, rfl⟩
        have hPm : P ≤ 256 * 1048576 := by rw [← hP]; exact Nat.mul_le_mul (by omega) hm2
        have hmul : ((t : Int) + 1) * (m : Int) = (P : Int) := by rw [← hP]; simp
        rw [hP] at hp cx
        obtain ⟨p, hpe⟩ : ∃ p : Nat, P / b = p := ⟨_, rfl⟩
        have hquo : Int.tdiv (P : Int) (b : Int) = (p : Int) := by rw [← hpe]; rfl
        rw [hpe] at hp cx
        rw [Nat.zero_add] at cx
        have hp1 : (p : Int) < (m : Int) := by omega
        have hp0 : (0 : Int) ≤ (p : Int) := by omega
        have hpb : (p : Int) ≤ 1048576 := by omega
        have hwp : wrap64 (p : Int) = (p : Int) := by unfold wrap64; omega
        have hwP : wrap64 (P : Int) = (P : Int) := by unfold wrap64; omega
        have HLT := Lib.hid hlt
        have HX64 := Lib.hid hx
        have HLA := Lib.hid hla
        have HT := Lib.hid hT
        have HSP := Lib.hid hP
        have HSp := Lib.hid hpe
        clear hm hm2 hb hb2 hlt hT hP hpe hp hPm hpb ht hx hla hmp
        gi_wp2
        clear hlt2
        gi_quiet (fail)
        have hJ2 : J (cutsTo s b t) (wr.drewN nq) := hJ _ _ _ none hJt ⟨rfl, rfl, rfl, Nat.le_refl _, fun _ _ _ => rfl⟩ (fun r e => by cases e)
        have HT2 := Lib.hid (HT.out.drewN nq)
        generalize wr.drewN nq = w2 at *
        obtain ⟨x, HXX⟩ : ∃ x, Hid (posE s b (t + 1) = x) := ⟨_, rfl⟩
        obtain ⟨la, HLL⟩ : ∃ x, Hid (lastE s (cutsTo s b t) = x) := ⟨_, rfl⟩
        have hx := HX64.out
        have hla := HLA.out
        rw [HXX.out] at hx cx
        rw [HLL.out] at hla
        rw [HXX.out, HLL.out]
        have hlen : (cutsTo s b t).length < 256 := by have := cutsTo_len s b t; have := HLT.out; have := HS.out; omega
        clear hJt cl cb cx hp1 hp0 hwp hwP hmul hquo HX64 HLA HT HSP HSp HL hbz
        by_cases hk : key la < key x
        · have HE : Hid (cutsTo s b (t + 1) = cutsTo s b t ++ [x]) := by
            show stepE s b (cutsTo s b t) (t + 1) = _
            rw [stepE_yes (by rw [HXX.out, HLL.out]; exact hk), HXX.out]
          have hkd : decide (key la < key x) = true := decide_eq_true hk
          obtain ⟨fn, tmps, assign, body, hy, hR⟩ := HY.out (cutsTo s b t) x w2 hJ2 hlen
          clear hk hlen
          gi_wp2_with (refine ⟨trivial, ?_⟩; gi_at_call 54; refine (callsIn_wide.2 (behind_any x la hx hla _)).mono ?_; rintro e w' ⟨rfl, rfl⟩)
          refine hR.mono ?_
          rintro e W3 (⟨rfl, hJ3, hT3⟩ | ⟨rfl, hJx3⟩)
          · have HT3 := Lib.hid (HT2.out.trans hT3)
            have HJ3 : Hid (J (cutsTo s b (t + 1)) W3) := by show J _ _; rw [HE.out]; exact hJ3
            have HL3 : Hid (lastE s (cutsTo s b (t + 1)) = x) := by show _ = _; rw [HE.out]; exact lastE_snoc _ _ _
            have ht2 : (t : Int) ≤ 256 := by have := HLT.out; have := HS.out; omega
            clear hT3 hJ3 hy hR
            gi_wp2
            go_roundw
            case rel => exact ⟨t + 1, by have := HLT.out; omega, by go_num, by rw [HL3.out], HJ3.out, HT3.out⟩
            case measure => have := HLT.out; simp [intOf]; omega
          · clear hy hR
            gi_wp2
            refine bodyPost_ret (results_none rfl _ _ _) rfl ?_
            exact ⟨⟨_, rfl⟩, .inr ⟨_, trivial, hJx3⟩⟩
        · have HE : Hid (cutsTo s b (t + 1) = cutsTo s b t) := by
            show stepE s b (cutsTo s b t) (t + 1) = _
            exact stepE_no (by rw [HXX.out, HLL.out]; exact hk)
          have hkd : decide (key la < key x) = false := decide_eq_false hk
          have ht2 : (t : Int) ≤ 256 := by have := HLT.out; have := HS.out; omega
          clear hk hlen
          gi_wp2_with (refine ⟨trivial, ?_⟩; gi_at_call 54; refine (callsIn_wide.2 (behind_any x la hx hla _)).mono ?_; rintro e w' ⟨rfl, rfl⟩)
          go_roundw
          case rel => exact ⟨t + 1, by have := HLT.out; omega, by go_num, by rw [HE.out, HLL.out], by rw [HE.out]; exact hJ2, HT2.out⟩
          case measure => have := HLT.out; simp [intOf]; omega
      · have HE : Hid (t = b - 1) := by show _ = _; omega
        have hlt2 : ¬ (t : Int) + 1 < (b : Int) := by omega
        clear hm hm2 hb hb2 hlt hT h64 ht
        gi_wp2
        go_end0
        exact ⟨⟨_, rfl⟩, .inl (by rw [← HE.out]; exact hJt)⟩

/-- WHAT cuts HANDS BACK HANDS THE EDGES ON, one by one, in order; or a part of them, where a round has said 'no more'. -/
theorem cuts_stops (n : Nat) (hn : 1 ≤ n) (Bl Bb g m cap b : Nat) (s : List Nat) (hm : s.length = m) (hm2 : m ≤ 1048576) (h64 : ∀ e ∈ s, e < 18446744073709551616) (hb : 2 ≤ b) (hb2 : b ≤ 256)
    (w : World) (hBl : w.cell? ⟨Bl, 0, none⟩ = some (.slice (some ⟨g, 0, none⟩) m cap)) (hBb : w.cell? ⟨Bb, 0, none⟩ = some (.int .i64 (b : Int)))
    (hL : ∀ j, j < m → w.cell? ⟨g, 0 + j, none⟩ = some (.float .f64 (s.getD j 0))) (l1 : Bl < w.heap.size) (l2 : Bb < w.heap.size) (l3 : g < w.heap.size) :
    SeqStopsK Fence.wide n Try.prog 53 #[.pointer (some ⟨Bl, 0, none⟩), .pointer (some ⟨Bb, 0, none⟩)] (fun x : Nat => #[Value.float .f64 x]) (Three g Bl Bb) (fun ys => ys = cutsTo s b (b - 1)) (fun _ => True) 256 w := fun l J Jx W hW hJ _ hY h0 =>
  cuts1_in n hn l Bl Bb g m cap b s hm hm2 h64 hb hb2 J Jx hY W hJ ((hW.cell (p := ⟨Bl, 0, none⟩) l1).trans hBl) ((hW.cell (p := ⟨Bb, 0, none⟩) l2).trans hBb) (fun j hj => (hW.cell (p := ⟨g, 0 + j, none⟩) l3).trans (hL j hj)) h0

end Go.Proofs.Ytjaogmbeoldefaa
