/-
  Try: of a function that is told by a contract, what the reader holds when it ends tells the answer: the error with which it failed; ErrForm, if it didn't, and bytes are left; else OK. Condition: no more than 2^20 bytes.
-/
import Derived.Test.YtbmbgfmhejahjaaReader
import Derived.Recover
import Derived.Defers
import Derived.LaidEqlPtr
namespace Go.Proofs.Ytbmbgfmhejahjaa
open Go.RowKit

/-- What Try answers. -/
def endE (l : List UInt8) (e : Int) : Int := if e = 0 then (if l.length = 0 then 0 else 3) else e

theorem end_any (B C R : Nat) (l : List UInt8) (e : Int) (w : World) (h : Rd B C R l e w) :
    Calls Try.prog 54 #[.pointer (some ⟨R, 0, none⟩)] w fun x w' => x = .returned (.int .i64 (endE l e)) ∧ w' = w := by
  have c1 := h.er
  obtain ⟨a, cap, hc⟩ : ∃ a cap, w.cell? ⟨R, 0, none⟩ = some (.slice a l.length cap) := by
    rcases h.sl with ⟨h1, rfl⟩ | ⟨g, off, cap, h1, _⟩
    · exact ⟨_, _, h1⟩
    · exact ⟨_, _, h1⟩
  clear h
  by_cases h0 : e = 0
  · by_cases h1 : l.length = 0
    · have HE : Hid (endE l e = 0) := by show _ = _; unfold endE; rw [if_pos h0, if_pos h1]
      have g : (e != 0) = false := by simpa using h0
      rw [h1] at hc
      clear h0 h1
      go_enter Try.func54, Try.ntmps54
      go_wp2
      go_ret
      exact ⟨by rw [HE.out]; rfl, rfl⟩
    · have HE : Hid (endE l e = 3) := by show _ = _; unfold endE; rw [if_pos h0, if_neg h1]
      have g : (e != 0) = false := by simpa using h0
      have g2 : 0 < l.length := by omega
      clear h0 h1
      go_enter Try.func54, Try.ntmps54
      go_wp2
      go_ret
      exact ⟨by rw [HE.out]; rfl, rfl⟩
  · have HE : Hid (endE l e = e) := if_neg h0
    have g : (e != 0) = true := by simpa using h0
    clear h0
    go_enter Try.func54, Try.ntmps54
    go_wp2
    go_ret
    exact ⟨by rw [HE.out]; rfl, rfl⟩

theorem threw_any (R : Nat) (w : World) :
    Calls Try.prog 53 #[.pointer (some ⟨R, 0, none⟩), .iface 114 (.agg #[.pointer (some ⟨R, 0, none⟩)])] w fun x w' => x = .returned (.bool true) ∧ Below w.heap.size w w' := by
  have ht : ∀ w, (Instr.typeAssert (.iface 114 (.agg #[.pointer (some ⟨R, 0, none⟩)])) 20 114 true).run Try.prog w = .ok (.tuple #[.agg #[.pointer (some ⟨R, 0, none⟩)], .bool true]) w := fun _ => by kernel_rfl
  have hq : ∀ w, (binOp .eql 64 (.pointer (some ⟨R, 0, none⟩)) (.pointer (some ⟨R, 0, none⟩))).run Try.prog w = .ok (.bool true) w := fun w => by
    obtain ⟨j, hj⟩ := Option.isSome_iff_exists.1 (show (Try.prog.info? 91).isSome = true by kernel_rfl)
    exact run_eql_ptr_same w _ Try.underlying64 hj
  have HB := Lib.hid ((Below.refl w.heap.size w).alloc (Nat.le_refl _) (.cells #[.pointer (some ⟨R, 0, none⟩)] 114))
  go_enter Try.func53, Try.ntmps53
  go_wp2
  go_ret
  exact ⟨rfl, HB.out⟩

/-- The deferred function where the function that was tried has come back. -/
theorem catch_idle (B C R V E : Nat) (l : List UInt8) (e e0 : Int) (w : World) (h : Rd B C R l e w) (hV : w.cell? ⟨V, 0, none⟩ = some (.pointer (some ⟨R, 0, none⟩))) (hE : w.cell? ⟨E, 0, none⟩ = some (.int .i64 e0)) (fE : w.frozen? ⟨E, 0, none⟩ = false) :
    CallsD Try.prog 52 #[.pointer (some ⟨V, 0, none⟩), .pointer (some ⟨E, 0, none⟩)] .returning w fun x u' w' => x = .returned (.tuple #[]) ∧ u' = .returning ∧ w' = w.setCell ⟨E, 0, none⟩ (.int .i64 (endE l e)) := by
  refine callsD_of_wpS Try.func52 rfl fun c₀ cs hu => ?_
  apply wpS_seq
  apply wpS_seq
  apply wpS_region
  simp [wpOpsS, go_sem, recoverD, hu, Try.ntmps52, Exit.thenS]
  generalize hT : (#[Value.pointer (some ⟨V, 0, none⟩), Value.pointer (some ⟨E, 0, none⟩)] ++ ((Array.replicate 13 undef).setIfInBounds 1 Value.nilIface).setIfInBounds 0 Value.nilIface) = T
  obtain rfl : T = #[.pointer (some ⟨V, 0, none⟩), .pointer (some ⟨E, 0, none⟩), .nilIface, .nilIface, undef, undef, undef, undef, undef, undef, undef, undef, undef, undef, undef] := hT.symm
  clear hT
  have he := end_any B C R l e w h
  clear h
  refine wpS_of_wp ?_
  go_wp2
  change Code.wpS _ _ _ _ _ _
  refine wpS_of_wp ?_
  go_wp2_with fail
  refine he.mono ?_
  rintro x w1 ⟨rfl, rfl⟩
  go_wp2_with fail
  cases c₀
  simp_all [bodyPostS, results, Try.results52]

/-- The deferred function where the function that was tried has failed. -/
theorem catch_thrown (B C R V E : Nat) (l : List UInt8) (e e0 : Int) (w : World) (h : Rd B C R l e w) (hV : w.cell? ⟨V, 0, none⟩ = some (.pointer (some ⟨R, 0, none⟩))) (hE : w.cell? ⟨E, 0, none⟩ = some (.int .i64 e0)) (fE : w.frozen? ⟨E, 0, none⟩ = false) :
    CallsD Try.prog 52 #[.pointer (some ⟨V, 0, none⟩), .pointer (some ⟨E, 0, none⟩)] (.panicking (thrown R)) w fun x u' w' => x = .returned (.tuple #[]) ∧ settle u' = .returning ∧ ∃ w1, Below w.heap.size w w1 ∧ w' = w1.setCell ⟨E, 0, none⟩ (.int .i64 (endE l e)) := by
  refine callsD_of_wpS Try.func52 rfl fun c₀ cs hu => ?_
  apply wpS_seq
  apply wpS_seq
  apply wpS_region
  simp [wpOpsS, go_sem, recoverD, hu, thrown, Try.ntmps52, Exit.thenS]
  generalize hT : (#[Value.pointer (some ⟨V, 0, none⟩), Value.pointer (some ⟨E, 0, none⟩)] ++ ((Array.replicate 13 undef).setIfInBounds 1 (Value.iface 114 (Value.agg #[Value.pointer (some ⟨R, 0, none⟩)]))).setIfInBounds 0 (Value.iface 114 (Value.agg #[Value.pointer (some ⟨R, 0, none⟩)]))) = T
  obtain rfl : T = #[.pointer (some ⟨V, 0, none⟩), .pointer (some ⟨E, 0, none⟩), .iface 114 (.agg #[.pointer (some ⟨R, 0, none⟩)]), .iface 114 (.agg #[.pointer (some ⟨R, 0, none⟩)]), undef, undef, undef, undef, undef, undef, undef, undef, undef, undef, undef] := hT.symm
  clear hT
  refine wpS_of_wp ?_
  go_wp2_with fail
  refine (threw_any R w).mono ?_
  rintro x w1 ⟨rfl, hb⟩
  have he := end_any B C R l e w1 (h.below hb (by have := h.top; omega))
  have hV1 : w1.cell? ⟨V, 0, none⟩ = _ := (hb.cell (World.block_lt_of_cell? w _ hV)).trans hV
  have hE1 : w1.cell? ⟨E, 0, none⟩ = _ := (hb.cell (World.block_lt_of_cell? w _ hE)).trans hE
  have fE1 : w1.frozen? ⟨E, 0, none⟩ = _ := (hb.frozen (World.block_lt_of_cell? w _ hE)).trans fE
  have HB := Lib.hid hb
  clear h hb hV hE fE
  go_wp2_with fail
  change Code.wpS _ _ _ _ _ _
  refine wpS_of_wp ?_
  go_wp2_with fail
  refine he.mono ?_
  rintro x w2 ⟨rfl, rfl⟩
  go_wp2_with fail
  refine ⟨rfl, .panicking [{ v := Value.iface 114 (Value.agg #[Value.pointer (some ⟨R, 0, none⟩)]), recovered := true }], rfl, .tuple #[], by simp [results, Try.results52], rfl, rfl, _, HB.out, rfl⟩

theorem clone_any (a : Option Addr) (n cap : Nat) (l : List UInt8) (hl : l.length = n) (hm : n ≤ 1048570) (ha : a = none → cap = 0) (w : World) (h : HoldsE KB w a l) :
    Calls Try.prog 51 #[.slice a n cap] w fun e w' => ∃ v, e = .returned v ∧ Own KB w' w.heap.size v l ∧ Below w.heap.size w w' := by
  have q : ∀ (w : World) (a : Option Addr) (n c n' c' : Nat), (binOp .eql 30 (.slice a n c) (.slice none n' c')).run Try.prog w = .ok (.bool a.isNone) w := fun w a n c n' c' => Lib.run_eql_slice_nil w _ _ a n c n' c' Try.underlying30
  cases a with
  | none =>
    obtain rfl := ha rfl
    obtain rfl : l = [] := by
      rcases h with h | ⟨_, _, h, _⟩
      · exact h
      · cases h
    obtain rfl : n = 0 := hl.symm
    go_enter Try.func51, Try.ntmps51
    go_wp2
    go_ret
    exact ⟨_, rfl, Own.nil _ _, Below.refl _ _⟩
  | some ad =>
    subst hl
    have o0 := Own.start (K := KB) w w.heap.size (Nat.le_refl _)
    have b0 := (Below.refl w.heap.size w).alloc (Nat.le_refl _) (.cells #[] 5)
    have h0 := h.below b0
    have sz := b0.size
    go_enter Try.func51, Try.ntmps51
    go_wp2_with (at_builtin; refine app_any okB rfl _ _ rfl w.heap.size sz (.slice (some ⟨w.heap.size, 0, none⟩) 0 0) [] rfl o0 (some ad) _ _ l rfl rfl (fun h => by cases h) h0 (by simp; omega) (by simp) (fun v' w' hv hb hn => ?_))
    go_ret
    exact ⟨_, rfl, by simpa using hv, b0.trans hb⟩

/-- What a function that is tried does, told by a contract: it comes back, or fails, and touches nothing of Try's own. -/
def Tried (w : World) (F : Nat) (cap : Array Value) (l : List UInt8) (Post : List UInt8 → Int → World → Prop) : Prop :=
  ∀ (R : Nat) (w1 : World), Rd (w.heap.size + 1) w1.heap.size R l 0 w1 → Below w.heap.size w w1 → Calls Try.prog F (#[.pointer (some ⟨R, 0, none⟩)] ++ cap) w1 fun x w2 =>
    ∃ l' e, ((x = .returned (.tuple #[]) ∧ e = 0) ∨ x = .panicked (thrown R)) ∧ Rd (w.heap.size + 1) w1.heap.size R l' e w2 ∧ (∀ k, w.heap.size ≤ k → k < w1.heap.size → k ≠ R → w2.heap[k]? = w1.heap[k]?) ∧ Post l' e w2

/-- The reader, and the variable that leads to it, as Try lays them. -/
def laidR (w : World) (v : Value) : World := (w.alloc (.cells #[v, .int .i64 0] 91)).alloc (.cells #[.pointer (some ⟨w.heap.size, 0, none⟩)] 64)
theorem laidR_size (w : World) (v : Value) : (laidR w v).heap.size = w.heap.size + 2 := by simp [laidR]
theorem laidR_below (w : World) (v : Value) : Below w.heap.size w (laidR w v) := ((Below.refl w.heap.size w).alloc (Nat.le_refl _) _).alloc (by simp) _
theorem laidR_c0 (w : World) (v : Value) : (laidR w v).cell? ⟨w.heap.size, 0, none⟩ = some v := by simp [laidR, go_sem]
theorem laidR_c1 (w : World) (v : Value) : (laidR w v).cell? ⟨w.heap.size, 1, none⟩ = some (.int .i64 0) := by simp [laidR, go_sem]
theorem laidR_v (w : World) (v : Value) : (laidR w v).cell? ⟨w.heap.size + 1, 0, none⟩ = some (.pointer (some ⟨w.heap.size, 0, none⟩)) := by
  unfold laidR
  exact World.cell?_alloc_at (w := w.alloc (.cells #[v, .int .i64 0] 91)) #[.pointer (some ⟨w.heap.size, 0, none⟩)] 64 (w.heap.size + 1) 0 (by simp)
theorem Rd.new (w : World) (B : Nat) (v : Value) (l : List UInt8) (h : Own KB w B v l) (hB : B ≤ w.heap.size) : Rd B (laidR w v).heap.size w.heap.size l 0 (laidR w v) := by
  refine ⟨hB, by rw [laidR_size]; omega, Nat.le_refl _, laidR_c1 w v, by simp [laidR, go_sem], by simp [laidR, go_sem], ?_⟩
  rcases h.lst with ⟨rfl, rfl⟩ | ⟨g, cap, rfl, hg, hc, _, hl⟩
  · exact .inl ⟨laidR_c0 _ _, rfl⟩
  · have := hl.lt
    exact .inr ⟨g, 0, cap, laidR_c0 _ _, hc, hg, by rw [laidR_size]; omega, by omega, hl.below (laidR_below w _) hl.lt⟩

set_option maxHeartbeats 1000000 in
theorem try_any (F : Nat) (cap : Array Value) (a : Option Addr) (n c : Nat) (l : List UInt8) (hl : l.length = n) (hm : n ≤ 1048570) (ha : a = none → c = 0) (w : World) (h : HoldsE KB w a l)
    (eF : ∀ x w, (callFunc F (#[x] ++ cap)).run Try.prog w = .ok (.enter F (#[x] ++ cap)) w) (Post : List UInt8 → Int → World → Prop) (hf : Tried w F cap l Post) :
    Calls Try.prog 28 #[.slice a n c, .func (.func F) #[] cap] w fun x w' => ∃ l' e w2, x = .returned (.int .i64 (endE l' e)) ∧ Post l' e w2 ∧ But w.heap.size w2 w' := by
  have hmf : ∀ (fn : Fn) (first cap : Array Value) (w : World), (Instr.makeFunc fn first cap).run Try.prog w = .ok (.func fn first cap) w := fun _ _ _ _ => rfl
  subst hl
  have b0 := (Below.refl w.heap.size w).alloc (Nat.le_refl _) (.cells #[.int .i64 0] 31)
  have s0 : (w.alloc (.cells #[.int .i64 0] 31)).heap.size = w.heap.size + 1 := by simp
  have e0 : (w.alloc (.cells #[.int .i64 0] 31)).cell? ⟨w.heap.size, 0, none⟩ = some (.int .i64 0) := by simp [go_sem]
  have z0 : (w.alloc (.cells #[.int .i64 0] 31)).frozen? ⟨w.heap.size, 0, none⟩ = false := by simp [go_sem]
  have hc := clone_any a _ c l rfl hm ha _ (h.below b0)
  rw [s0] at hc
  clear h
  go_enter_defers Try.func28, Try.ntmps28
  go_wp2_with fail
  refine hc.mono ?_
  rintro e w1 ⟨v, rfl, ho, b1⟩
  have rd := Rd.new w1 _ v l ho (by have := b1.size; omega)
  have bw : Below w.heap.size w (laidR w1 v) := (b0.trans (b1.mono (by omega))).trans ((laidR_below w1 v).mono (by have := b1.size; omega))
  have hE : (laidR w1 v).cell? ⟨w.heap.size, 0, none⟩ = some (.int .i64 0) := by
    have := b1.size
    rw [(laidR_below w1 v).cell (by show w.heap.size < _; omega), b1.cell (by show w.heap.size < _; omega)]; exact e0
  have fE : (laidR w1 v).frozen? ⟨w.heap.size, 0, none⟩ = false := by
    have := b1.size
    rw [(laidR_below w1 v).frozen (by show w.heap.size < _; omega), b1.frozen (by show w.heap.size < _; omega)]; exact z0
  have hV := laidR_v w1 v
  have hcall := hf _ _ rd bw
  obtain ⟨a1, c1, rfl⟩ : ∃ a1 c1, v = .slice a1 l.length c1 := by
    obtain ⟨a1, c1, h, _⟩ := ho.holds
    exact ⟨a1, c1, h⟩
  have hs1 : w.heap.size < w1.heap.size := by have := b1.size; omega
  have hsz := laidR_size w1 (.slice a1 l.length c1)
  clear hc hf ho b1 rd bw b0 e0 z0 s0
  go_wp2_with fail
  change Calls Try.prog F _ (laidR w1 (.slice a1 l.length c1)) _
  refine hcall.mono ?_
  generalize laidR w1 (.slice a1 l.length c1) = W at *
  rintro x w2 ⟨l', e, hx, rd, fr, hp⟩
  have hV2 : w2.cell? ⟨w1.heap.size + 1, 0, none⟩ = _ := (World.cell?_of_block (w := W) (fr (w1.heap.size + 1) (by omega) (by omega) (by omega))).trans hV
  have hE2 : w2.cell? ⟨w.heap.size, 0, none⟩ = _ := (World.cell?_of_block (w := W) (fr w.heap.size (by omega) (by omega) (by omega))).trans hE
  have fE2 : w2.frozen? ⟨w.heap.size, 0, none⟩ = _ := (World.frozen?_of_block (w := W) (fr w.heap.size (by omega) (by omega) (by omega))).trans fE
  have hE3 := World.block_lt_of_cell? w2 _ hE2
  clear hV hE fE fr hcall
  rcases hx with ⟨rfl, rfl⟩ | rfl
  · go_wp2_with fail
    refine leaves_cons (f := 52) (args := #[.pointer (some ⟨w1.heap.size + 1, 0, none⟩), .pointer (some ⟨w.heap.size, 0, none⟩)]) (by simp) (by simp [go_sem]) ?_
    refine (catch_idle _ _ _ _ _ _ _ _ _ rd hV2 hE2 fE2).mono ?_
    rintro x u' w3 ⟨rfl, rfl, rfl⟩
    refine ⟨.int .i64 (endE l' 0), ?_, l', 0, w2, rfl, hp, But.setCell _ _ _ _⟩
    have q := World.cell?_setCell_same w2 ⟨w.heap.size, 0, none⟩ (.int .i64 (endE l' 0)) hE2
    simp [results, Try.results28, go_sem, q]
  · refine leaves_cons (f := 52) (args := #[.pointer (some ⟨w1.heap.size + 1, 0, none⟩), .pointer (some ⟨w.heap.size, 0, none⟩)]) (by simp) (by simp [go_sem]) ?_
    refine (catch_thrown _ _ _ _ _ _ _ _ _ rd hV2 hE2 fE2).mono ?_
    rintro x u' w4 ⟨rfl, hu, w3, hb, rfl⟩
    have hE4 := (hb.cell hE3).trans hE2
    show Leaves _ _ _ _ _ (settle u') _
    rw [hu]
    refine ⟨.int .i64 (endE l' e), ?_, l', e, w2, rfl, hp, (But.of_below hb).trans (But.setCell _ _ _ _)⟩
    have q := World.cell?_setCell_same w3 ⟨w.heap.size, 0, none⟩ (.int .i64 (endE l' e)) hE4
    simp [results, Try.results28, go_sem, q]
end Go.Proofs.Ytbmbgfmhejahjaa
