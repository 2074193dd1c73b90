/-
  What TakePlays' function takes: part by part, as long as there are bytes. Conditions: no more than 300 bytes, 60 parts.
-/
import Derived.Test.YtmdbncalcbdigaaTakeFix
namespace Go.Proofs.Ytmdbncalcbdigaa
open Go.RowKit

section
variable {α : Type} {K : Kind α}
/-- An append, whatever it is appended to. -/
theorem app_wp0 {w : World} (ok : K.Ok) {o : Oper} {a : Act} {KK : Act → World → Prop} {Q : Exit → Act → World → Prop} (s x : Operand)
    (ho : o.op = .call { callee := .builtin .append, args := #[s, x], argTypes := #[K.s, K.s] }) (B : Nat) (hB : B ≤ w.heap.size) (v : Value) (l : List α) (hs : a.eval s = v) (hown : Own K w B v l)
    (A : Option Addr) (m c : Nat) (k : List α) (hx : a.eval x = .slice A m c) (hk : CameE K w A m k) (hm : l.length + k.length ≤ 1048576)
    (h : ∀ v' w', Own K w' B v' (l ++ k) → w.grownBy w' v.ownBlock → KK (a.put o.dst v') w') : Oper.wp Try.prog o a w KK Q := by
  obtain ⟨i0, hi, hz0, hz1, hz2⟩ := info_parts ok.info
  have hb := ok.bytes
  obtain ⟨⟨ad, rfl⟩, hl, hr⟩ := hk
  refine wp_append_own w s x K.s ho B K.e i0 _ 1 K.b ok.under hi hz0 hz1 hz2 (by rw [ok.cz]; rfl) (by decide) v _ _ hs hown ad m c (k.map K.enc) hx (by simp [hl]) ?_ ?_ (by unfold maxLen; omega) (by have := Nat.mul_le_mul (show l.length + m ≤ 1048576 by omega) hb; omega) hB ?_
  · intro j u hu
    have hj : j < k.length := by
      rcases Nat.lt_or_ge j k.length with h' | h'
      · exact h'
      · rw [List.getElem?_eq_none (by simpa using h')] at hu; cases hu
    rcases hr with rfl | ⟨b, off, e, hb, hr⟩
    · simp at hj
    · obtain rfl := Option.some.inj e
      rw [Go.WideShapes.add_plain, hr j hj]
      simp [hj] at hu ⊢
      exact hu
  · intro u hu
    obtain ⟨z, _, rfl⟩ := List.mem_map.1 hu
    exact ok.one z
  · intro v' w' h2 h3 _
    refine h v' w' ?_ h3
    unfold Own
    rw [List.length_append, List.map_append, hl]; exact h2
theorem step_e0 {w : World} (ok : K.Ok) {ops : Array Oper} {o : Oper} {a : Act} {KK : Act → World → Prop} {Q : Exit → Act → World → Prop} {E : Prop} (hw : Region.wanted o (yielded ops a.tmps) = true) (s x : Operand)
    (ho : o.op = .call { callee := .builtin .append, args := #[s, x], argTypes := #[K.s, K.s] }) (B : Nat) (hB : B ≤ w.heap.size) (v : Value) (l : List α) (hs : a.eval s = v) (hown : Own K w B v l)
    (A : Option Addr) (m c : Nat) (k : List α) (hx : a.eval x = .slice A m c) (hk : CameE K w A m k) (hm : l.length + k.length ≤ 1048576)
    (h : ∀ v' w', Own K w' B v' (l ++ k) → w.grownBy w' v.ownBlock → KK (a.put o.dst v') w') : if Region.wanted o (yielded ops a.tmps) = true then Oper.wp Try.prog o a w KK Q else E := by
  rw [if_pos hw]
  exact app_wp0 ok s x ho B hB v l hs hown A m c k hx hk hm h
theorem Own.keep {w w' : World} {B : Nat} {v : Value} {l : List α} (h : Own K w B v l) (hb : ∀ k, B ≤ k → k < w.heap.size → w'.heap[k]? = w.heap[k]?) : Own K w' B v l := by
  obtain ⟨h1, ⟨rfl, h0⟩ | ⟨g, cap, cur, rfl, hB, hg, hc, hm, hs, ht⟩⟩ := h
  · exact ⟨h1, .inl ⟨rfl, h0⟩⟩
  · exact ⟨h1, .inr ⟨g, cap, cur, rfl, hB, (hb g hB (Array.getElem?_eq_some_iff.1 hg).1).trans hg, hc, hm, hs, ht⟩⟩
end

/-- How many bytes the first so many parts take. -/
def sumc (ps : List Int) (j : Nat) : Nat := ((ps.take j).map cnt).sum
theorem sumc_zero (ps : List Int) : sumc ps 0 = 0 := rfl
theorem sumc_succ (ps : List Int) (j : Nat) (hj : j < ps.length) : sumc ps (j + 1) = sumc ps j + cnt (ps.getD j 0) := by
  unfold sumc
  rw [List.take_add_one, List.getElem?_eq_getElem hj, List.map_append, List.sum_append]
  simp [List.getD_eq_getElem?_getD, hj]
theorem sumc_mono (ps : List Int) (i j : Nat) (h : i ≤ j) (hj : j ≤ ps.length) : sumc ps i ≤ sumc ps j := by
  induction j with
  | zero => obtain rfl : i = 0 := by omega
            exact Nat.le_refl _
  | succ j ih =>
    by_cases e : i = j + 1
    · subst e; exact Nat.le_refl _
    · have := ih (by omega) (by omega)
      rw [sumc_succ ps j (by omega)]; omega
/-- The numbers that the first so many parts give. -/
def gotL (l : List UInt8) (ps : List Int) (j : Nat) : List Int := (List.range j).map fun i => ((num ((l.drop (sumc ps i)).take (cnt (ps.getD i 0))) : Nat) : Int)
theorem gotL_succ (l : List UInt8) (ps : List Int) (j : Nat) : gotL l ps (j + 1) = gotL l ps j ++ [((num ((l.drop (sumc ps j)).take (cnt (ps.getD j 0))) : Nat) : Int)] := by simp [gotL, List.range_succ]
theorem gotL_len (l : List UInt8) (ps : List Int) (j : Nat) : (gotL l ps j).length = j := by simp [gotL]
/-- How many bytes are left behind each. -/
def leftL (l : List UInt8) (ps : List Int) (j : Nat) : List Int := (List.range j).map fun i => ((l.length - sumc ps (i + 1) : Nat) : Int)
theorem leftL_succ (l : List UInt8) (ps : List Int) (j : Nat) : leftL l ps (j + 1) = leftL l ps j ++ [((l.length - sumc ps (j + 1) : Nat) : Int)] := by simp [leftL, List.range_succ]
theorem leftL_len (l : List UInt8) (ps : List Int) (j : Nat) : (leftL l ps j).length = j := by simp [leftL]

/-- Where it ends. -/
structure Stop (l : List UInt8) (ps : List Int) (j : Nat) : Prop where
  le : j ≤ ps.length
  fit : sumc ps j ≤ l.length
  no : j < ps.length → l.length < sumc ps (j + 1)

/-- What the function's variables hold. -/
structure Pl (G L B : Nat) (l : List UInt8) (ps : List Int) (i j : Nat) (vg vl : Value) (w : World) : Prop where
  cg : Var G vg w
  cl : Var L vl w
  og : Own KU w B vg (gotL l ps i)
  ol : Own KI w B vl (leftL l ps j)
section
variable {α : Type} {K : Kind α}
theorem Own.far {w w' : World} {B : Nat} {v : Value} {l : List α} {ob : Option Nat} (h : Own K w B v l) (gr : w.grownBy w' ob) (hn : ∀ g, v.ownBlock = some g → ob ≠ some g) : Own K w' B v l := by
  obtain ⟨h1, ⟨rfl, h0⟩ | ⟨g, cap, cur, rfl, hB, hg, hc, hm, hs, ht⟩⟩ := h
  · exact ⟨h1, .inl ⟨rfl, h0⟩⟩
  · exact ⟨h1, .inr ⟨g, cap, cur, rfl, hB, (gr.block g (Array.getElem?_eq_some_iff.1 hg).1 (fun e => hn g rfl e.symm)).trans hg, hc, hm, hs, ht⟩⟩
end
theorem own_apart {w : World} {B : Nat} {vg vl : Value} {a b : List Int} (og : Own KU w B vg a) (ol : Own KI w B vl b) (g : Nat) (h1 : vg.ownBlock = some g) (h2 : vl.ownBlock = some g) : False := by
  obtain ⟨_, ⟨rfl, _⟩ | ⟨g1, _, cur1, rfl, _, hg1, _⟩⟩ := og
  · cases h1
  obtain ⟨_, ⟨rfl, _⟩ | ⟨g2, _, cur2, rfl, _, hg2, _⟩⟩ := ol
  · cases h2
  obtain rfl : g1 = g := Option.some.inj h1
  obtain rfl : g2 = g1 := Option.some.inj h2
  rw [hg1] at hg2
  have e := Option.some.inj hg2
  injection e with _ e
  exact absurd e (by decide)
section
variable {G L B : Nat} {l : List UInt8} {ps : List Int} {i j : Nat} {vg vl : Value} {w w' : World}
theorem Pl.but {R : Nat} (h : Pl G L B l ps i j vg vl w) (hb : But R w w') (hR : R < B) (hG : G ≠ R) (hL : L ≠ R) : Pl G L B l ps i j vg vl w' :=
  ⟨h.cg.but hb hG, h.cl.but hb hL, h.og.keep fun k hk hk2 => hb.block k hk2 (by omega), h.ol.keep fun k hk hk2 => hb.block k hk2 (by omega)⟩
theorem Pl.drew (h : Pl G L B l ps i j vg vl w) : Pl G L B l ps i j vg vl w.drew := ⟨h.cg.drew, h.cl.drew, h.og, h.ol⟩
theorem Pl.grownG {w3 : World} (h : Pl G L B l ps i j vg vl w) (o : Obj) (hB : B ≤ w.heap.size) (gr : (w.alloc o).grownBy w3 vg.ownBlock) : Below B w w3 :=
  ((Below.refl B w).alloc hB o).grown gr (by simp; omega) (fun k hk => (World.ownsRow.lt h.og k hk).1)
theorem Pl.grownL {w3 : World} (h : Pl G L B l ps i j vg vl w) (o : Obj) (hB : B ≤ w.heap.size) (gr : (w.alloc o).grownBy w3 vl.ownBlock) : Below B w w3 :=
  ((Below.refl B w).alloc hB o).grown gr (by simp; omega) (fun k hk => (World.ownsRow.lt h.ol k hk).1)
theorem Pl.got {x : Int} {vg' : Value} {w3 : World} (h : Pl G L B l ps i j vg vl w) (o : Obj) (hB : B ≤ w.heap.size) (hG : G < B) (hL : L < B) (hGL : G ≠ L) (own : Own KU w3 B vg' (gotL l ps i ++ [x])) (hx : gotL l ps (i + 1) = gotL l ps i ++ [x])
    (gr : (w.alloc o).grownBy w3 vg.ownBlock) : Pl G L B l ps (i + 1) j vg' vl (w3.setCell ⟨G, 0, none⟩ vg') := by
  have bel := h.grownG o hB gr
  have bs := But.setCell G 0 w3 vg'
  refine ⟨(h.cg.below bel hG).set vg', (h.cl.below bel hL).but bs (Ne.symm hGL), ?_, ?_⟩
  · rw [hx]; exact own.keep fun k hk hk2 => bs.block k hk2 (by omega)
  · exact ((h.ol.alloc o).far gr (fun g h1 h2 => own_apart h.og h.ol g h2 h1)).keep fun k hk hk2 => bs.block k hk2 (by omega)
theorem Pl.lft {x : Int} {vl' : Value} {w3 : World} (h : Pl G L B l ps i j vg vl w) (o : Obj) (hB : B ≤ w.heap.size) (hG : G < B) (hL : L < B) (hGL : G ≠ L) (own : Own KI w3 B vl' (leftL l ps j ++ [x])) (hx : leftL l ps (j + 1) = leftL l ps j ++ [x])
    (gr : (w.alloc o).grownBy w3 vl.ownBlock) : Pl G L B l ps i (j + 1) vg vl' (w3.setCell ⟨L, 0, none⟩ vl') := by
  have bel := h.grownL o hB gr
  have bs := But.setCell L 0 w3 vl'
  refine ⟨(h.cg.below bel hG).but bs hGL, (h.cl.below bel hL).set vl', ?_, ?_⟩
  · exact ((h.og.alloc o).far gr (fun g h1 h2 => own_apart h.og h.ol g h1 h2)).keep fun k hk hk2 => bs.block k hk2 (by omega)
  · rw [hx]; exact own.keep fun k hk hk2 => bs.block k hk2 (by omega)
end

section
variable {P : Program} {md : Region.Mode} {Q : Exit → Act → World → Prop} {S : World → Prop} {l : List Oper} {i fuel : Nat} {oi : Oper} {v : Value} {listed : Array Bool} {a : Act} {w : World}
/-- An operation of a drawn region that yields its value wherever S holds comes first. -/
theorem takeQ (hi : l[i]? = some oi) (hs : Region.noSelect l.toArray = true) (hf : Region.free md l.toArray listed i = true) (hr : (Region.ready md l.toArray listed).contains i = true) (hQ : ∀ c a w, Q (.panic c) (a.put oi.dst v) w → Q (.panic c) a w)
    (hw : Region.wanted oi (yielded l.toArray a.tmps) = true) (hS : S w) (hy : ∀ w, S w → (execOp a.eval oi).run P w = .ok (.value v) w)
    (h : wpAnyH P md l.toArray Q S fuel (listed.setIfInBounds i true) (a.put oi.dst v) w) : wpAnyH P md l.toArray Q S (fuel + 1) listed a w :=
  wpAnyH_take (by simpa using hi) hs hf hr hQ (.inl ⟨hw, hy⟩) hS h
/-- One that alone may come next. -/
theorem callL (hr : Region.ready md l.toArray listed = [i]) (hi : l[i]? = some oi) (hw : Region.wanted oi (yielded l.toArray a.tmps) = true)
    (h : ∀ K' : Act → World → Prop, Shut (∀ a w, S w → (S w → wpAnyH P md l.toArray Q S fuel (listed.setIfInBounds i true) a w) → K' a w) → Oper.wp P oi a w K' Q) : wpAnyH P md l.toArray Q S (fuel + 1) listed a w :=
  wpAnyH_ready hr (by simp) (AllReadyH.cons (by simpa using hi) (fun K hK => by rw [if_pos hw]; exact h K hK) AllReadyH.nil)
end

section
variable {P : Program} {md : Region.Mode} {Q : Exit → Act → World → Prop} {S : World → Prop} {l : List Oper} {i j fuel : Nat} {oi oj : Oper} {listed : Array Bool} {a : Act} {w : World}
/-- Two that may come next. -/
theorem bothL (hr : Region.ready md l.toArray listed = [i, j]) (hi : l[i]? = some oi) (hj : l[j]? = some oj) (hw : Region.wanted oi (yielded l.toArray a.tmps) = true) (hv : Region.wanted oj (yielded l.toArray a.tmps) = true)
    (h : ∀ K' : Act → World → Prop, Shut (∀ a w, S w → (S w → wpAnyH P md l.toArray Q S fuel (listed.setIfInBounds i true) a w) → K' a w) → Oper.wp P oi a w K' Q)
    (k : ∀ K' : Act → World → Prop, Shut (∀ a w, S w → (S w → wpAnyH P md l.toArray Q S fuel (listed.setIfInBounds j true) a w) → K' a w) → Oper.wp P oj a w K' Q) : wpAnyH P md l.toArray Q S (fuel + 1) listed a w :=
  wpAnyH_ready hr (by simp) (AllReadyH.cons (by simpa using hi) (fun K hK => by rw [if_pos hw]; exact h K hK) (AllReadyH.cons (by simpa using hj) (fun K hK => by rw [if_pos hv]; exact k K hK) AllReadyH.nil))
end

set_option maxHeartbeats 20000000 in
theorem playsF_any (P G L : Nat) (aP : Option Addr) (cP : Nat) (ps : List Int) (hps : ps.length ≤ 60) (hpb : ∀ z ∈ ps, -128 ≤ z ∧ z < 128) (l : List UInt8) (hl : l.length ≤ 300) (w0 w : World) (b0 : Below w0.heap.size w0 w) (hP : Var P (.slice aP ps.length cP) w) (hG : Var G (.slice none 0 0) w) (hL : Var L (.slice none 0 0) w)
    (hr : HoldsE K8 w0 aP ps) (hPG : P ≠ G) (hPL : P ≠ L) (hGL : G ≠ L) (hG0 : w0.heap.size ≤ G) (hL0 : w0.heap.size ≤ L) :
    Tried w 9 #[.pointer (some ⟨P, 0, none⟩), .pointer (some ⟨G, 0, none⟩), .pointer (some ⟨L, 0, none⟩)] l fun l' e w2 => ∃ j vg vl B, w.heap.size < B ∧ Stop l ps j ∧ l' = l.drop (sumc ps j) ∧ e = (if j < ps.length then 2 else 0) ∧ Pl G L B l ps j j vg vl w2 ∧ Buts (fun k => k = G ∨ k = L) w w2 := by
  intro R w1 rd bel
  have lo := rd.lo
  have hi := rd.hi
  have lP := hP.lt
  have lG := hG.lt
  have lL := hL.lt
  have hP1 := hP.below bel lP
  have pl0 : Pl G L w1.heap.size l ps 0 0 (.slice none 0 0) (.slice none 0 0) w1 := ⟨hG.below bel lG, hL.below bel lL, Own.nil _ _, Own.nil _ _⟩
  have cP1 := hP1.c
  have HB := Lib.hid (b0.trans (bel.mono b0.size))
  have HW := Lib.hid bel
  have h0 := b0.size
  have hsz := bel.size
  clear hP hG hL b0 hP1 bel
  show Calls Try.prog _ #[.pointer (some ⟨R, 0, none⟩), .pointer (some ⟨P, 0, none⟩), .pointer (some ⟨G, 0, none⟩), .pointer (some ⟨L, 0, none⟩)] _ _
  go_enter Try.func9, Try.ntmps9
  go_wp2_with fail
  go_loopw [9] (fun iv wr => ∃ (j : Nat) (vg vl : Value), j ≤ ps.length ∧ iv = .int .i64 (j : Int) ∧ sumc ps j ≤ l.length ∧ Rd (w.heap.size + 1) w1.heap.size R (l.drop (sumc ps j)) 0 wr ∧ Pl G L w1.heap.size l ps j j vg vl wr ∧ Buts (fun k => k = R ∨ k = G ∨ k = L) w1 wr) (fun iv _ => ps.length - (intOf iv).toNat)
  case atStart => exact ⟨0, _, _, by omega, rfl, Nat.zero_le _, rd, pl0, Buts.refl _ _⟩
  case round =>
    obtain ⟨j, vg, vl, hj, rfl, hfit, rdj, pl, fr⟩ := hrel
    clear rd pl0
    by_cases hlt : j < ps.length
    · have i1 : (j : Int) < (ps.length : Int) := by omega
      have b0r := fr.onto HB.out (by omega) (by rintro k (rfl | rfl | rfl) <;> omega)
      obtain ⟨g, off, rfl, hc⟩ : ∃ g off, aP = some ⟨g, off, none⟩ ∧ ∀ j, j < ps.length → wr.cell? ⟨g, off + j, none⟩ = some (K8.enc (ps.getD j K8.z)) := by
        rcases hr with rfl | ⟨g, off, h1, h2, h3⟩
        · cases hlt
        · exact ⟨g, off, h1, fun j hj => (b0r.cell (by exact h2)).trans (h3 j hj)⟩
      obtain ⟨p, hp⟩ : ∃ p, ps.getD j 0 = p := ⟨_, rfl⟩
      have cj : wr.cell? ⟨g, off + j, none⟩ = some (.int .i8 p) := by rw [← hp]; exact hc j hlt
      have hpw : IntKind.i64.wrap p = p := by
        have := hpb p (by rw [← hp]; simp [List.getD_eq_getElem?_getD, hlt])
        rw [IntKind.wrap_i64]; omega
      have hsum := sumc_succ ps j hlt
      have hgot := gotL_succ l ps j
      have hleft := leftL_succ l ps j
      rw [hp] at hsum hgot
      have hdl : (l.drop (sumc ps j)).length = l.length - sumc ps j := List.length_drop
      have plD := pl.drew
      have c1 := pl.cg.c
      have c1' := plD.cg.c
      have hsr := fr.size
      have Hgl := gotL_len l ps j
      have Hll := leftL_len l ps j
      have HF := Lib.hid fr
      clear hc b0r fr hp hr cP1
      by_cases hen : cnt p ≤ (l.drop (sumc ps j)).length
      · have hn := number_some _ _ R (l.drop (sumc ps j)) p hen wr.drew rdj.drew (by omega)
        generalize hxx : ((num ((l.drop (sumc ps j)).take (cnt p)) : Nat) : Int) = x at hn hgot
        clear hxx
        have HG := Lib.hid hgot
        have HL := Lib.hid hleft
        have HS := Lib.hid hsum
        clear hgot hleft hsum rdj hdl
        have hlen : (l.drop (sumc ps j + cnt p)).length = l.length - sumc ps (j + 1) := by rw [HS.out, List.length_drop]
        have HFT : Hid (sumc ps (j + 1) ≤ l.length) := by show _ ≤ _; rw [HS.out]; rw [List.length_drop] at hen; omega
        generalize hyy : ((l.length - sumc ps (j + 1) : Nat) : Int) = y at HL
        replace hlen : (((l.drop (sumc ps j + cnt p)).length : Nat) : Int) = y := by rw [hlen]; exact hyy
        clear hyy hen
        go_wp2_with fail
        refine wp_region_held_drew (S := fun _ => True) (by kernel_rfl) trivial (fun hHeld => ?_)
        refine takeQ (i := 1) (v := ?_) rfl (by kernel_rfl) (by kernel_rfl) (by kernel_rfl) (fun _ _ _ h => h) (by rfl) hHeld ?_ ?_
        rotate_left
        · (intro w' _; go_simp <;> (with_reducible rfl))
        simp only [Act.put, List.setIfInBounds_toArray, List.set_cons_zero, List.set_cons_succ]
        refine takeQ (i := 2) (v := ?_) rfl (by kernel_rfl) (by kernel_rfl) (by kernel_rfl) (fun _ _ _ h => h) (by rfl) hHeld ?_ ?_
        rotate_left
        · (intro w' _; go_simp <;> (with_reducible rfl))
        simp only [Act.put, List.setIfInBounds_toArray, List.set_cons_zero, List.set_cons_succ]
        refine takeQ (i := 3) (v := ?_) rfl (by kernel_rfl) (by kernel_rfl) (by kernel_rfl) (fun _ _ _ h => h) (by rfl) hHeld ?_ ?_
        rotate_left
        · (intro w' _; go_simp <;> (with_reducible rfl))
        simp only [Act.put, List.setIfInBounds_toArray, List.set_cons_zero, List.set_cons_succ]
        refine bothL (i := 0) (j := 4) (by kernel_rfl) rfl rfl (by rfl) (by rfl) (fun K hK => ?_) (fun K hK => ?_)
        · go_simp
          try dsimp only
          refine hK.out _ _ trivial (fun hHeld => ?_)
          clear hK K
          try simp only [Act.put, List.setIfInBounds_toArray, List.set_cons_zero, List.set_cons_succ]
          refine callL (i := 4) (by kernel_rfl) rfl (by rfl) (fun K hK => ?_)
          go_simp
          try simp only [hpw]
          refine hn.mono ?_
          rintro _ w2 ⟨rfl, rd2, hb2⟩
          have pl2 := plD.but hb2 hi (by omega) (by omega)
          have c2 := pl2.cg.c
          have c2a : ∀ o, (w2.alloc o).cell? ⟨G, 0, none⟩ = some vg := fun o => (World.cell?_alloc_lt _ _ _ pl2.cg.lt).trans c2
          have hs2 : w1.heap.size ≤ w2.heap.size := Nat.le_trans hsr hb2.size
          try dsimp only
          refine hK.out _ _ trivial (fun hHeld => ?_)
          clear hK K
          try simp only [Act.put, List.setIfInBounds_toArray, List.set_cons_zero, List.set_cons_succ]
          refine callL (i := 5) (by kernel_rfl) rfl (by rfl) (fun K hK => ?_)
          go_simp
          try dsimp only
          refine hK.out _ _ trivial (fun hHeld => ?_)
          clear hK K
          try simp only [Act.put, List.setIfInBounds_toArray, List.set_cons_zero, List.set_cons_succ]
          refine callL (i := 6) (by kernel_rfl) rfl (by rfl) (fun K hK => ?_)
          refine app_wp0 (w := w2.alloc (.cells #[.int .u64 x] 31)) okU _ _ rfl w1.heap.size (by simp; omega) vg (gotL l ps j) rfl (pl2.og.alloc _) (some ⟨w2.heap.size, 0, none⟩) 1 1 [x] rfl (CameE.new (K := KU) x) (by rw [Hgl]; simp; omega) ?_
          intro v3 w3 own3 gr3
          obtain ⟨A3, n3, m3, rfl⟩ : ∃ a n c, v3 = .slice a n c := by rcases own3.lst with ⟨rfl, _⟩ | ⟨g, cap, rfl, _⟩ <;> exact ⟨_, _, _, rfl⟩
          have v3c := (pl2.cg.below (pl2.grownG _ hs2 gr3) (by omega)).c
          have v3f := (pl2.cg.below (pl2.grownG _ hs2 gr3) (by omega)).f
          try dsimp only
          refine hK.out _ _ trivial (fun hHeld => ?_)
          clear hK K
          try simp only [Act.put, List.setIfInBounds_toArray, List.set_cons_zero, List.set_cons_succ]
          refine callL (i := 7) (by kernel_rfl) rfl (by rfl) (fun K hK => ?_)
          go_simp
          try dsimp only
          refine hK.out _ _ trivial (fun hHeld => ?_)
          clear hK K
          try simp only [Act.put, List.setIfInBounds_toArray, List.set_cons_zero, List.set_cons_succ]
          refine wpAnyH_done (by kernel_rfl) ?_ _
          have pl4 := pl2.got _ hs2 (by omega) (by omega) hGL own3 HG.out gr3
          have b23 := pl2.grownG _ hs2 gr3
          have rd4 := (rd2.below b23 (Nat.le_refl _)).but (But.setCell G 0 w3 (.slice A3 n3 m3)) (.inl (by omega))
          rw [List.drop_drop] at rd4
          have HF4 := Lib.hid (((HF.out.drew.but hb2 (.inl (.inl rfl))).below b23 (Nat.le_refl _)).but (But.setCell G 0 w3 (.slice A3 n3 m3)) (.inl (.inr (.inl rfl))))
          have hs4 : w1.heap.size ≤ (w3.setCell ⟨G, 0, none⟩ (.slice A3 n3 m3)).heap.size := HF4.out.size
          clear b23 gr3 own3 v3c v3f pl2 rd2 hb2 c2 c2a hs2
          go_wp2_with fail
          generalize w3.setCell ⟨G, 0, none⟩ (.slice A3 n3 m3) = w4 at *
          have hn2 := left_any _ _ R _ 0 w4.drew rd4.drew
          rw [hlen] at hn2
          have plE := pl4.drew
          have hs4d : w1.heap.size ≤ w4.drew.heap.size := hs4
          have c4 := pl4.cl.c
          have c4d := plE.cl.c
          have c4a : ∀ o, (w4.drew.alloc o).cell? ⟨L, 0, none⟩ = some vl := fun o => (World.cell?_alloc_lt _ _ _ plE.cl.lt).trans c4d
          have c4b : ∀ o, (w4.alloc o).drew.cell? ⟨L, 0, none⟩ = some vl := fun o => c4a o
          refine wp_region_held_drew (S := fun _ => True) (by kernel_rfl) trivial (fun hHeld => ?_)
          refine takeQ (i := 1) (v := ?_) rfl (by kernel_rfl) (by kernel_rfl) (by kernel_rfl) (fun _ _ _ h => h) (by rfl) hHeld ?_ ?_
          rotate_left
          · (intro w' _; go_simp <;> (with_reducible rfl))
          simp only [Act.put, List.setIfInBounds_toArray, List.set_cons_zero, List.set_cons_succ]
          refine bothL (i := 0) (j := 2) (by kernel_rfl) rfl rfl (by rfl) (by rfl) (fun K hK => ?_) (fun K hK => ?_)
          · go_simp
            try dsimp only
            refine hK.out _ _ trivial (fun hHeld => ?_)
            clear hK K
            try simp only [Act.put, List.setIfInBounds_toArray, List.set_cons_zero, List.set_cons_succ]
            refine callL (i := 2) (by kernel_rfl) rfl (by rfl) (fun K hK => ?_)
            go_simp
            refine hn2.mono ?_
            rintro _ w5 ⟨rfl, rfl⟩
            try dsimp only
            refine hK.out _ _ trivial (fun hHeld => ?_)
            clear hK K
            try simp only [Act.put, List.setIfInBounds_toArray, List.set_cons_zero, List.set_cons_succ]
            refine callL (i := 3) (by kernel_rfl) rfl (by rfl) (fun K hK => ?_)
            go_simp
            try dsimp only
            refine hK.out _ _ trivial (fun hHeld => ?_)
            clear hK K
            try simp only [Act.put, List.setIfInBounds_toArray, List.set_cons_zero, List.set_cons_succ]
            refine callL (i := 4) (by kernel_rfl) rfl (by rfl) (fun K hK => ?_)
            refine app_wp0 (w := w4.drew.alloc (.cells #[.int .i64 y] 3)) okI _ _ rfl w1.heap.size (by simp; omega) vl (leftL l ps j) rfl (plE.ol.alloc _) (some ⟨w4.drew.heap.size, 0, none⟩) 1 1 [y] rfl (CameE.new (K := KI) y) (by rw [Hll]; simp; omega) ?_
            intro v6 w6 own6 gr6
            obtain ⟨A6, n6, m6, rfl⟩ : ∃ a n c, v6 = .slice a n c := by rcases own6.lst with ⟨rfl, _⟩ | ⟨g, cap, rfl, _⟩ <;> exact ⟨_, _, _, rfl⟩
            have v6c := (plE.cl.below (plE.grownL _ hs4d gr6) (by omega)).c
            have v6f := (plE.cl.below (plE.grownL _ hs4d gr6) (by omega)).f
            try dsimp only
            refine hK.out _ _ trivial (fun hHeld => ?_)
            clear hK K
            try simp only [Act.put, List.setIfInBounds_toArray, List.set_cons_zero, List.set_cons_succ]
            refine callL (i := 5) (by kernel_rfl) rfl (by rfl) (fun K hK => ?_)
            go_simp
            try dsimp only
            refine hK.out _ _ trivial (fun hHeld => ?_)
            clear hK K
            try simp only [Act.put, List.setIfInBounds_toArray, List.set_cons_zero, List.set_cons_succ]
            refine wpAnyH_done (by kernel_rfl) ?_ _
            have pl7 := plE.lft _ hs4d (by omega) (by omega) hGL own6 HL.out gr6
            have b46 := plE.grownL _ hs4d gr6
            have rd7 := (rd4.drew.below b46 (Nat.le_refl _)).but (But.setCell L 0 w6 (.slice A6 n6 m6)) (.inl (by omega))
            have fr7 := Lib.hid ((HF4.out.drew.below b46 (Nat.le_refl _)).but (But.setCell L 0 w6 (.slice A6 n6 m6)) (.inl (.inr (.inr rfl))))
            clear b46 gr6 own6 v6c v6f plE pl4 rd4 hn2 c4 c4a c4d c4b
            go_wp2_with fail
            go_roundw
            case rel => exact ⟨j + 1, _, _, by omega, by go_num, HFT.out, by rw [HS.out]; exact rd7, pl7, fr7.out⟩
            case measure => simp [intOf]; omega
          · go_simp
            refine hn2.mono ?_
            rintro _ w5 ⟨rfl, rfl⟩
            try dsimp only
            refine hK.out _ _ trivial (fun hHeld => ?_)
            clear hK K
            try simp only [Act.put, List.setIfInBounds_toArray, List.set_cons_zero, List.set_cons_succ]
            refine bothL (i := 0) (j := 3) (by kernel_rfl) rfl rfl (by rfl) (by rfl) (fun K hK => ?_) (fun K hK => ?_)
            · go_simp
              try dsimp only
              refine hK.out _ _ trivial (fun hHeld => ?_)
              clear hK K
              try simp only [Act.put, List.setIfInBounds_toArray, List.set_cons_zero, List.set_cons_succ]
              refine callL (i := 3) (by kernel_rfl) rfl (by rfl) (fun K hK => ?_)
              go_simp
              try dsimp only
              refine hK.out _ _ trivial (fun hHeld => ?_)
              clear hK K
              try simp only [Act.put, List.setIfInBounds_toArray, List.set_cons_zero, List.set_cons_succ]
              refine callL (i := 4) (by kernel_rfl) rfl (by rfl) (fun K hK => ?_)
              refine app_wp0 (w := w4.drew.alloc (.cells #[.int .i64 y] 3)) okI _ _ rfl w1.heap.size (by simp; omega) vl (leftL l ps j) rfl (plE.ol.alloc _) (some ⟨w4.drew.heap.size, 0, none⟩) 1 1 [y] rfl (CameE.new (K := KI) y) (by rw [Hll]; simp; omega) ?_
              intro v6 w6 own6 gr6
              obtain ⟨A6, n6, m6, rfl⟩ : ∃ a n c, v6 = .slice a n c := by rcases own6.lst with ⟨rfl, _⟩ | ⟨g, cap, rfl, _⟩ <;> exact ⟨_, _, _, rfl⟩
              have v6c := (plE.cl.below (plE.grownL _ hs4d gr6) (by omega)).c
              have v6f := (plE.cl.below (plE.grownL _ hs4d gr6) (by omega)).f
              try dsimp only
              refine hK.out _ _ trivial (fun hHeld => ?_)
              clear hK K
              try simp only [Act.put, List.setIfInBounds_toArray, List.set_cons_zero, List.set_cons_succ]
              refine callL (i := 5) (by kernel_rfl) rfl (by rfl) (fun K hK => ?_)
              go_simp
              try dsimp only
              refine hK.out _ _ trivial (fun hHeld => ?_)
              clear hK K
              try simp only [Act.put, List.setIfInBounds_toArray, List.set_cons_zero, List.set_cons_succ]
              refine wpAnyH_done (by kernel_rfl) ?_ _
              have pl7 := plE.lft _ hs4d (by omega) (by omega) hGL own6 HL.out gr6
              have b46 := plE.grownL _ hs4d gr6
              have rd7 := (rd4.drew.below b46 (Nat.le_refl _)).but (But.setCell L 0 w6 (.slice A6 n6 m6)) (.inl (by omega))
              have fr7 := Lib.hid ((HF4.out.drew.below b46 (Nat.le_refl _)).but (But.setCell L 0 w6 (.slice A6 n6 m6)) (.inl (.inr (.inr rfl))))
              clear b46 gr6 own6 v6c v6f plE pl4 rd4 hn2 c4 c4a c4d c4b
              go_wp2_with fail
              go_roundw
              case rel => exact ⟨j + 1, _, _, by omega, by go_num, HFT.out, by rw [HS.out]; exact rd7, pl7, fr7.out⟩
              case measure => simp [intOf]; omega
            · go_simp
              try dsimp only
              refine hK.out _ _ trivial (fun hHeld => ?_)
              clear hK K
              try simp only [Act.put, List.setIfInBounds_toArray, List.set_cons_zero, List.set_cons_succ]
              refine callL (i := 0) (by kernel_rfl) rfl (by rfl) (fun K hK => ?_)
              go_simp
              try dsimp only
              refine hK.out _ _ trivial (fun hHeld => ?_)
              clear hK K
              try simp only [Act.put, List.setIfInBounds_toArray, List.set_cons_zero, List.set_cons_succ]
              refine callL (i := 4) (by kernel_rfl) rfl (by rfl) (fun K hK => ?_)
              refine app_wp0 (w := w4.drew.alloc (.cells #[.int .i64 y] 3)) okI _ _ rfl w1.heap.size (by simp; omega) vl (leftL l ps j) rfl (plE.ol.alloc _) (some ⟨w4.drew.heap.size, 0, none⟩) 1 1 [y] rfl (CameE.new (K := KI) y) (by rw [Hll]; simp; omega) ?_
              intro v6 w6 own6 gr6
              obtain ⟨A6, n6, m6, rfl⟩ : ∃ a n c, v6 = .slice a n c := by rcases own6.lst with ⟨rfl, _⟩ | ⟨g, cap, rfl, _⟩ <;> exact ⟨_, _, _, rfl⟩
              have v6c := (plE.cl.below (plE.grownL _ hs4d gr6) (by omega)).c
              have v6f := (plE.cl.below (plE.grownL _ hs4d gr6) (by omega)).f
              try dsimp only
              refine hK.out _ _ trivial (fun hHeld => ?_)
              clear hK K
              try simp only [Act.put, List.setIfInBounds_toArray, List.set_cons_zero, List.set_cons_succ]
              refine callL (i := 5) (by kernel_rfl) rfl (by rfl) (fun K hK => ?_)
              go_simp
              try dsimp only
              refine hK.out _ _ trivial (fun hHeld => ?_)
              clear hK K
              try simp only [Act.put, List.setIfInBounds_toArray, List.set_cons_zero, List.set_cons_succ]
              refine wpAnyH_done (by kernel_rfl) ?_ _
              have pl7 := plE.lft _ hs4d (by omega) (by omega) hGL own6 HL.out gr6
              have b46 := plE.grownL _ hs4d gr6
              have rd7 := (rd4.drew.below b46 (Nat.le_refl _)).but (But.setCell L 0 w6 (.slice A6 n6 m6)) (.inl (by omega))
              have fr7 := Lib.hid ((HF4.out.drew.below b46 (Nat.le_refl _)).but (But.setCell L 0 w6 (.slice A6 n6 m6)) (.inl (.inr (.inr rfl))))
              clear b46 gr6 own6 v6c v6f plE pl4 rd4 hn2 c4 c4a c4d c4b
              go_wp2_with fail
              go_roundw
              case rel => exact ⟨j + 1, _, _, by omega, by go_num, HFT.out, by rw [HS.out]; exact rd7, pl7, fr7.out⟩
              case measure => simp [intOf]; omega
        · go_simp
          try simp only [hpw]
          refine hn.mono ?_
          rintro _ w2 ⟨rfl, rd2, hb2⟩
          have pl2 := plD.but hb2 hi (by omega) (by omega)
          have c2 := pl2.cg.c
          have c2a : ∀ o, (w2.alloc o).cell? ⟨G, 0, none⟩ = some vg := fun o => (World.cell?_alloc_lt _ _ _ pl2.cg.lt).trans c2
          have hs2 : w1.heap.size ≤ w2.heap.size := Nat.le_trans hsr hb2.size
          try dsimp only
          refine hK.out _ _ trivial (fun hHeld => ?_)
          clear hK K
          try simp only [Act.put, List.setIfInBounds_toArray, List.set_cons_zero, List.set_cons_succ]
          refine bothL (i := 0) (j := 5) (by kernel_rfl) rfl rfl (by rfl) (by rfl) (fun K hK => ?_) (fun K hK => ?_)
          · go_simp
            try dsimp only
            refine hK.out _ _ trivial (fun hHeld => ?_)
            clear hK K
            try simp only [Act.put, List.setIfInBounds_toArray, List.set_cons_zero, List.set_cons_succ]
            refine callL (i := 5) (by kernel_rfl) rfl (by rfl) (fun K hK => ?_)
            go_simp
            try dsimp only
            refine hK.out _ _ trivial (fun hHeld => ?_)
            clear hK K
            try simp only [Act.put, List.setIfInBounds_toArray, List.set_cons_zero, List.set_cons_succ]
            refine callL (i := 6) (by kernel_rfl) rfl (by rfl) (fun K hK => ?_)
            refine app_wp0 (w := w2.alloc (.cells #[.int .u64 x] 31)) okU _ _ rfl w1.heap.size (by simp; omega) vg (gotL l ps j) rfl (pl2.og.alloc _) (some ⟨w2.heap.size, 0, none⟩) 1 1 [x] rfl (CameE.new (K := KU) x) (by rw [Hgl]; simp; omega) ?_
            intro v3 w3 own3 gr3
            obtain ⟨A3, n3, m3, rfl⟩ : ∃ a n c, v3 = .slice a n c := by rcases own3.lst with ⟨rfl, _⟩ | ⟨g, cap, rfl, _⟩ <;> exact ⟨_, _, _, rfl⟩
            have v3c := (pl2.cg.below (pl2.grownG _ hs2 gr3) (by omega)).c
            have v3f := (pl2.cg.below (pl2.grownG _ hs2 gr3) (by omega)).f
            try dsimp only
            refine hK.out _ _ trivial (fun hHeld => ?_)
            clear hK K
            try simp only [Act.put, List.setIfInBounds_toArray, List.set_cons_zero, List.set_cons_succ]
            refine callL (i := 7) (by kernel_rfl) rfl (by rfl) (fun K hK => ?_)
            go_simp
            try dsimp only
            refine hK.out _ _ trivial (fun hHeld => ?_)
            clear hK K
            try simp only [Act.put, List.setIfInBounds_toArray, List.set_cons_zero, List.set_cons_succ]
            refine wpAnyH_done (by kernel_rfl) ?_ _
            have pl4 := pl2.got _ hs2 (by omega) (by omega) hGL own3 HG.out gr3
            have b23 := pl2.grownG _ hs2 gr3
            have rd4 := (rd2.below b23 (Nat.le_refl _)).but (But.setCell G 0 w3 (.slice A3 n3 m3)) (.inl (by omega))
            rw [List.drop_drop] at rd4
            have HF4 := Lib.hid (((HF.out.drew.but hb2 (.inl (.inl rfl))).below b23 (Nat.le_refl _)).but (But.setCell G 0 w3 (.slice A3 n3 m3)) (.inl (.inr (.inl rfl))))
            have hs4 : w1.heap.size ≤ (w3.setCell ⟨G, 0, none⟩ (.slice A3 n3 m3)).heap.size := HF4.out.size
            clear b23 gr3 own3 v3c v3f pl2 rd2 hb2 c2 c2a hs2
            go_wp2_with fail
            generalize w3.setCell ⟨G, 0, none⟩ (.slice A3 n3 m3) = w4 at *
            have hn2 := left_any _ _ R _ 0 w4.drew rd4.drew
            rw [hlen] at hn2
            have plE := pl4.drew
            have hs4d : w1.heap.size ≤ w4.drew.heap.size := hs4
            have c4 := pl4.cl.c
            have c4d := plE.cl.c
            have c4a : ∀ o, (w4.drew.alloc o).cell? ⟨L, 0, none⟩ = some vl := fun o => (World.cell?_alloc_lt _ _ _ plE.cl.lt).trans c4d
            have c4b : ∀ o, (w4.alloc o).drew.cell? ⟨L, 0, none⟩ = some vl := fun o => c4a o
            refine wp_region_held_drew (S := fun _ => True) (by kernel_rfl) trivial (fun hHeld => ?_)
            refine takeQ (i := 1) (v := ?_) rfl (by kernel_rfl) (by kernel_rfl) (by kernel_rfl) (fun _ _ _ h => h) (by rfl) hHeld ?_ ?_
            rotate_left
            · (intro w' _; go_simp <;> (with_reducible rfl))
            simp only [Act.put, List.setIfInBounds_toArray, List.set_cons_zero, List.set_cons_succ]
            refine bothL (i := 0) (j := 2) (by kernel_rfl) rfl rfl (by rfl) (by rfl) (fun K hK => ?_) (fun K hK => ?_)
            · go_simp
              try dsimp only
              refine hK.out _ _ trivial (fun hHeld => ?_)
              clear hK K
              try simp only [Act.put, List.setIfInBounds_toArray, List.set_cons_zero, List.set_cons_succ]
              refine callL (i := 2) (by kernel_rfl) rfl (by rfl) (fun K hK => ?_)
              go_simp
              refine hn2.mono ?_
              rintro _ w5 ⟨rfl, rfl⟩
              try dsimp only
              refine hK.out _ _ trivial (fun hHeld => ?_)
              clear hK K
              try simp only [Act.put, List.setIfInBounds_toArray, List.set_cons_zero, List.set_cons_succ]
              refine callL (i := 3) (by kernel_rfl) rfl (by rfl) (fun K hK => ?_)
              go_simp
              try dsimp only
              refine hK.out _ _ trivial (fun hHeld => ?_)
              clear hK K
              try simp only [Act.put, List.setIfInBounds_toArray, List.set_cons_zero, List.set_cons_succ]
              refine callL (i := 4) (by kernel_rfl) rfl (by rfl) (fun K hK => ?_)
              refine app_wp0 (w := w4.drew.alloc (.cells #[.int .i64 y] 3)) okI _ _ rfl w1.heap.size (by simp; omega) vl (leftL l ps j) rfl (plE.ol.alloc _) (some ⟨w4.drew.heap.size, 0, none⟩) 1 1 [y] rfl (CameE.new (K := KI) y) (by rw [Hll]; simp; omega) ?_
              intro v6 w6 own6 gr6
              obtain ⟨A6, n6, m6, rfl⟩ : ∃ a n c, v6 = .slice a n c := by rcases own6.lst with ⟨rfl, _⟩ | ⟨g, cap, rfl, _⟩ <;> exact ⟨_, _, _, rfl⟩
              have v6c := (plE.cl.below (plE.grownL _ hs4d gr6) (by omega)).c
              have v6f := (plE.cl.below (plE.grownL _ hs4d gr6) (by omega)).f
              try dsimp only
              refine hK.out _ _ trivial (fun hHeld => ?_)
              clear hK K
              try simp only [Act.put, List.setIfInBounds_toArray, List.set_cons_zero, List.set_cons_succ]
              refine callL (i := 5) (by kernel_rfl) rfl (by rfl) (fun K hK => ?_)
              go_simp
              try dsimp only
              refine hK.out _ _ trivial (fun hHeld => ?_)
              clear hK K
              try simp only [Act.put, List.setIfInBounds_toArray, List.set_cons_zero, List.set_cons_succ]
              refine wpAnyH_done (by kernel_rfl) ?_ _
              have pl7 := plE.lft _ hs4d (by omega) (by omega) hGL own6 HL.out gr6
              have b46 := plE.grownL _ hs4d gr6
              have rd7 := (rd4.drew.below b46 (Nat.le_refl _)).but (But.setCell L 0 w6 (.slice A6 n6 m6)) (.inl (by omega))
              have fr7 := Lib.hid ((HF4.out.drew.below b46 (Nat.le_refl _)).but (But.setCell L 0 w6 (.slice A6 n6 m6)) (.inl (.inr (.inr rfl))))
              clear b46 gr6 own6 v6c v6f plE pl4 rd4 hn2 c4 c4a c4d c4b
              go_wp2_with fail
              go_roundw
              case rel => exact ⟨j + 1, _, _, by omega, by go_num, HFT.out, by rw [HS.out]; exact rd7, pl7, fr7.out⟩
              case measure => simp [intOf]; omega
            · go_simp
              refine hn2.mono ?_
              rintro _ w5 ⟨rfl, rfl⟩
              try dsimp only
              refine hK.out _ _ trivial (fun hHeld => ?_)
              clear hK K
              try simp only [Act.put, List.setIfInBounds_toArray, List.set_cons_zero, List.set_cons_succ]
              refine bothL (i := 0) (j := 3) (by kernel_rfl) rfl rfl (by rfl) (by rfl) (fun K hK => ?_) (fun K hK => ?_)
              · go_simp
                try dsimp only
                refine hK.out _ _ trivial (fun hHeld => ?_)
                clear hK K
                try simp only [Act.put, List.setIfInBounds_toArray, List.set_cons_zero, List.set_cons_succ]
                refine callL (i := 3) (by kernel_rfl) rfl (by rfl) (fun K hK => ?_)
                go_simp
                try dsimp only
                refine hK.out _ _ trivial (fun hHeld => ?_)
                clear hK K
                try simp only [Act.put, List.setIfInBounds_toArray, List.set_cons_zero, List.set_cons_succ]
                refine callL (i := 4) (by kernel_rfl) rfl (by rfl) (fun K hK => ?_)
                refine app_wp0 (w := w4.drew.alloc (.cells #[.int .i64 y] 3)) okI _ _ rfl w1.heap.size (by simp; omega) vl (leftL l ps j) rfl (plE.ol.alloc _) (some ⟨w4.drew.heap.size, 0, none⟩) 1 1 [y] rfl (CameE.new (K := KI) y) (by rw [Hll]; simp; omega) ?_
                intro v6 w6 own6 gr6
                obtain ⟨A6, n6, m6, rfl⟩ : ∃ a n c, v6 = .slice a n c := by rcases own6.lst with ⟨rfl, _⟩ | ⟨g, cap, rfl, _⟩ <;> exact ⟨_, _, _, rfl⟩
                have v6c := (plE.cl.below (plE.grownL _ hs4d gr6) (by omega)).c
                have v6f := (plE.cl.below (plE.grownL _ hs4d gr6) (by omega)).f
                try dsimp only
                refine hK.out _ _ trivial (fun hHeld => ?_)
                clear hK K
                try simp only [Act.put, List.setIfInBounds_toArray, List.set_cons_zero, List.set_cons_succ]
                refine callL (i := 5) (by kernel_rfl) rfl (by rfl) (fun K hK => ?_)
                go_simp
                try dsimp only
                refine hK.out _ _ trivial (fun hHeld => ?_)
                clear hK K
                try simp only [Act.put, List.setIfInBounds_toArray, List.set_cons_zero, List.set_cons_succ]
                refine wpAnyH_done (by kernel_rfl) ?_ _
                have pl7 := plE.lft _ hs4d (by omega) (by omega) hGL own6 HL.out gr6
                have b46 := plE.grownL _ hs4d gr6
                have rd7 := (rd4.drew.below b46 (Nat.le_refl _)).but (But.setCell L 0 w6 (.slice A6 n6 m6)) (.inl (by omega))
                have fr7 := Lib.hid ((HF4.out.drew.below b46 (Nat.le_refl _)).but (But.setCell L 0 w6 (.slice A6 n6 m6)) (.inl (.inr (.inr rfl))))
                clear b46 gr6 own6 v6c v6f plE pl4 rd4 hn2 c4 c4a c4d c4b
                go_wp2_with fail
                go_roundw
                case rel => exact ⟨j + 1, _, _, by omega, by go_num, HFT.out, by rw [HS.out]; exact rd7, pl7, fr7.out⟩
                case measure => simp [intOf]; omega
              · go_simp
                try dsimp only
                refine hK.out _ _ trivial (fun hHeld => ?_)
                clear hK K
                try simp only [Act.put, List.setIfInBounds_toArray, List.set_cons_zero, List.set_cons_succ]
                refine callL (i := 0) (by kernel_rfl) rfl (by rfl) (fun K hK => ?_)
                go_simp
                try dsimp only
                refine hK.out _ _ trivial (fun hHeld => ?_)
                clear hK K
                try simp only [Act.put, List.setIfInBounds_toArray, List.set_cons_zero, List.set_cons_succ]
                refine callL (i := 4) (by kernel_rfl) rfl (by rfl) (fun K hK => ?_)
                refine app_wp0 (w := w4.drew.alloc (.cells #[.int .i64 y] 3)) okI _ _ rfl w1.heap.size (by simp; omega) vl (leftL l ps j) rfl (plE.ol.alloc _) (some ⟨w4.drew.heap.size, 0, none⟩) 1 1 [y] rfl (CameE.new (K := KI) y) (by rw [Hll]; simp; omega) ?_
                intro v6 w6 own6 gr6
                obtain ⟨A6, n6, m6, rfl⟩ : ∃ a n c, v6 = .slice a n c := by rcases own6.lst with ⟨rfl, _⟩ | ⟨g, cap, rfl, _⟩ <;> exact ⟨_, _, _, rfl⟩
                have v6c := (plE.cl.below (plE.grownL _ hs4d gr6) (by omega)).c
                have v6f := (plE.cl.below (plE.grownL _ hs4d gr6) (by omega)).f
                try dsimp only
                refine hK.out _ _ trivial (fun hHeld => ?_)
                clear hK K
                try simp only [Act.put, List.setIfInBounds_toArray, List.set_cons_zero, List.set_cons_succ]
                refine callL (i := 5) (by kernel_rfl) rfl (by rfl) (fun K hK => ?_)
                go_simp
                try dsimp only
                refine hK.out _ _ trivial (fun hHeld => ?_)
                clear hK K
                try simp only [Act.put, List.setIfInBounds_toArray, List.set_cons_zero, List.set_cons_succ]
                refine wpAnyH_done (by kernel_rfl) ?_ _
                have pl7 := plE.lft _ hs4d (by omega) (by omega) hGL own6 HL.out gr6
                have b46 := plE.grownL _ hs4d gr6
                have rd7 := (rd4.drew.below b46 (Nat.le_refl _)).but (But.setCell L 0 w6 (.slice A6 n6 m6)) (.inl (by omega))
                have fr7 := Lib.hid ((HF4.out.drew.below b46 (Nat.le_refl _)).but (But.setCell L 0 w6 (.slice A6 n6 m6)) (.inl (.inr (.inr rfl))))
                clear b46 gr6 own6 v6c v6f plE pl4 rd4 hn2 c4 c4a c4d c4b
                go_wp2_with fail
                go_roundw
                case rel => exact ⟨j + 1, _, _, by omega, by go_num, HFT.out, by rw [HS.out]; exact rd7, pl7, fr7.out⟩
                case measure => simp [intOf]; omega
          · go_simp
            try dsimp only
            refine hK.out _ _ trivial (fun hHeld => ?_)
            clear hK K
            try simp only [Act.put, List.setIfInBounds_toArray, List.set_cons_zero, List.set_cons_succ]
            refine callL (i := 0) (by kernel_rfl) rfl (by rfl) (fun K hK => ?_)
            go_simp
            try dsimp only
            refine hK.out _ _ trivial (fun hHeld => ?_)
            clear hK K
            try simp only [Act.put, List.setIfInBounds_toArray, List.set_cons_zero, List.set_cons_succ]
            refine callL (i := 6) (by kernel_rfl) rfl (by rfl) (fun K hK => ?_)
            refine app_wp0 (w := w2.alloc (.cells #[.int .u64 x] 31)) okU _ _ rfl w1.heap.size (by simp; omega) vg (gotL l ps j) rfl (pl2.og.alloc _) (some ⟨w2.heap.size, 0, none⟩) 1 1 [x] rfl (CameE.new (K := KU) x) (by rw [Hgl]; simp; omega) ?_
            intro v3 w3 own3 gr3
            obtain ⟨A3, n3, m3, rfl⟩ : ∃ a n c, v3 = .slice a n c := by rcases own3.lst with ⟨rfl, _⟩ | ⟨g, cap, rfl, _⟩ <;> exact ⟨_, _, _, rfl⟩
            have v3c := (pl2.cg.below (pl2.grownG _ hs2 gr3) (by omega)).c
            have v3f := (pl2.cg.below (pl2.grownG _ hs2 gr3) (by omega)).f
            try dsimp only
            refine hK.out _ _ trivial (fun hHeld => ?_)
            clear hK K
            try simp only [Act.put, List.setIfInBounds_toArray, List.set_cons_zero, List.set_cons_succ]
            refine callL (i := 7) (by kernel_rfl) rfl (by rfl) (fun K hK => ?_)
            go_simp
            try dsimp only
            refine hK.out _ _ trivial (fun hHeld => ?_)
            clear hK K
            try simp only [Act.put, List.setIfInBounds_toArray, List.set_cons_zero, List.set_cons_succ]
            refine wpAnyH_done (by kernel_rfl) ?_ _
            have pl4 := pl2.got _ hs2 (by omega) (by omega) hGL own3 HG.out gr3
            have b23 := pl2.grownG _ hs2 gr3
            have rd4 := (rd2.below b23 (Nat.le_refl _)).but (But.setCell G 0 w3 (.slice A3 n3 m3)) (.inl (by omega))
            rw [List.drop_drop] at rd4
            have HF4 := Lib.hid (((HF.out.drew.but hb2 (.inl (.inl rfl))).below b23 (Nat.le_refl _)).but (But.setCell G 0 w3 (.slice A3 n3 m3)) (.inl (.inr (.inl rfl))))
            have hs4 : w1.heap.size ≤ (w3.setCell ⟨G, 0, none⟩ (.slice A3 n3 m3)).heap.size := HF4.out.size
            clear b23 gr3 own3 v3c v3f pl2 rd2 hb2 c2 c2a hs2
            go_wp2_with fail
            generalize w3.setCell ⟨G, 0, none⟩ (.slice A3 n3 m3) = w4 at *
            have hn2 := left_any _ _ R _ 0 w4.drew rd4.drew
            rw [hlen] at hn2
            have plE := pl4.drew
            have hs4d : w1.heap.size ≤ w4.drew.heap.size := hs4
            have c4 := pl4.cl.c
            have c4d := plE.cl.c
            have c4a : ∀ o, (w4.drew.alloc o).cell? ⟨L, 0, none⟩ = some vl := fun o => (World.cell?_alloc_lt _ _ _ plE.cl.lt).trans c4d
            have c4b : ∀ o, (w4.alloc o).drew.cell? ⟨L, 0, none⟩ = some vl := fun o => c4a o
            refine wp_region_held_drew (S := fun _ => True) (by kernel_rfl) trivial (fun hHeld => ?_)
            refine takeQ (i := 1) (v := ?_) rfl (by kernel_rfl) (by kernel_rfl) (by kernel_rfl) (fun _ _ _ h => h) (by rfl) hHeld ?_ ?_
            rotate_left
            · (intro w' _; go_simp <;> (with_reducible rfl))
            simp only [Act.put, List.setIfInBounds_toArray, List.set_cons_zero, List.set_cons_succ]
            refine bothL (i := 0) (j := 2) (by kernel_rfl) rfl rfl (by rfl) (by rfl) (fun K hK => ?_) (fun K hK => ?_)
            · go_simp
              try dsimp only
              refine hK.out _ _ trivial (fun hHeld => ?_)
              clear hK K
              try simp only [Act.put, List.setIfInBounds_toArray, List.set_cons_zero, List.set_cons_succ]
              refine callL (i := 2) (by kernel_rfl) rfl (by rfl) (fun K hK => ?_)
              go_simp
              refine hn2.mono ?_
              rintro _ w5 ⟨rfl, rfl⟩
              try dsimp only
              refine hK.out _ _ trivial (fun hHeld => ?_)
              clear hK K
              try simp only [Act.put, List.setIfInBounds_toArray, List.set_cons_zero, List.set_cons_succ]
              refine callL (i := 3) (by kernel_rfl) rfl (by rfl) (fun K hK => ?_)
              go_simp
              try dsimp only
              refine hK.out _ _ trivial (fun hHeld => ?_)
              clear hK K
              try simp only [Act.put, List.setIfInBounds_toArray, List.set_cons_zero, List.set_cons_succ]
              refine callL (i := 4) (by kernel_rfl) rfl (by rfl) (fun K hK => ?_)
              refine app_wp0 (w := w4.drew.alloc (.cells #[.int .i64 y] 3)) okI _ _ rfl w1.heap.size (by simp; omega) vl (leftL l ps j) rfl (plE.ol.alloc _) (some ⟨w4.drew.heap.size, 0, none⟩) 1 1 [y] rfl (CameE.new (K := KI) y) (by rw [Hll]; simp; omega) ?_
              intro v6 w6 own6 gr6
              obtain ⟨A6, n6, m6, rfl⟩ : ∃ a n c, v6 = .slice a n c := by rcases own6.lst with ⟨rfl, _⟩ | ⟨g, cap, rfl, _⟩ <;> exact ⟨_, _, _, rfl⟩
              have v6c := (plE.cl.below (plE.grownL _ hs4d gr6) (by omega)).c
              have v6f := (plE.cl.below (plE.grownL _ hs4d gr6) (by omega)).f
              try dsimp only
              refine hK.out _ _ trivial (fun hHeld => ?_)
              clear hK K
              try simp only [Act.put, List.setIfInBounds_toArray, List.set_cons_zero, List.set_cons_succ]
              refine callL (i := 5) (by kernel_rfl) rfl (by rfl) (fun K hK => ?_)
              go_simp
              try dsimp only
              refine hK.out _ _ trivial (fun hHeld => ?_)
              clear hK K
              try simp only [Act.put, List.setIfInBounds_toArray, List.set_cons_zero, List.set_cons_succ]
              refine wpAnyH_done (by kernel_rfl) ?_ _
              have pl7 := plE.lft _ hs4d (by omega) (by omega) hGL own6 HL.out gr6
              have b46 := plE.grownL _ hs4d gr6
              have rd7 := (rd4.drew.below b46 (Nat.le_refl _)).but (But.setCell L 0 w6 (.slice A6 n6 m6)) (.inl (by omega))
              have fr7 := Lib.hid ((HF4.out.drew.below b46 (Nat.le_refl _)).but (But.setCell L 0 w6 (.slice A6 n6 m6)) (.inl (.inr (.inr rfl))))
              clear b46 gr6 own6 v6c v6f plE pl4 rd4 hn2 c4 c4a c4d c4b
              go_wp2_with fail
              go_roundw
              case rel => exact ⟨j + 1, _, _, by omega, by go_num, HFT.out, by rw [HS.out]; exact rd7, pl7, fr7.out⟩
              case measure => simp [intOf]; omega
            · go_simp
              refine hn2.mono ?_
              rintro _ w5 ⟨rfl, rfl⟩
              try dsimp only
              refine hK.out _ _ trivial (fun hHeld => ?_)
              clear hK K
              try simp only [Act.put, List.setIfInBounds_toArray, List.set_cons_zero, List.set_cons_succ]
              refine bothL (i := 0) (j := 3) (by kernel_rfl) rfl rfl (by rfl) (by rfl) (fun K hK => ?_) (fun K hK => ?_)
              · go_simp
                try dsimp only
                refine hK.out _ _ trivial (fun hHeld => ?_)
                clear hK K
                try simp only [Act.put, List.setIfInBounds_toArray, List.set_cons_zero, List.set_cons_succ]
                refine callL (i := 3) (by kernel_rfl) rfl (by rfl) (fun K hK => ?_)
                go_simp
                try dsimp only
                refine hK.out _ _ trivial (fun hHeld => ?_)
                clear hK K
                try simp only [Act.put, List.setIfInBounds_toArray, List.set_cons_zero, List.set_cons_succ]
                refine callL (i := 4) (by kernel_rfl) rfl (by rfl) (fun K hK => ?_)
                refine app_wp0 (w := w4.drew.alloc (.cells #[.int .i64 y] 3)) okI _ _ rfl w1.heap.size (by simp; omega) vl (leftL l ps j) rfl (plE.ol.alloc _) (some ⟨w4.drew.heap.size, 0, none⟩) 1 1 [y] rfl (CameE.new (K := KI) y) (by rw [Hll]; simp; omega) ?_
                intro v6 w6 own6 gr6
                obtain ⟨A6, n6, m6, rfl⟩ : ∃ a n c, v6 = .slice a n c := by rcases own6.lst with ⟨rfl, _⟩ | ⟨g, cap, rfl, _⟩ <;> exact ⟨_, _, _, rfl⟩
                have v6c := (plE.cl.below (plE.grownL _ hs4d gr6) (by omega)).c
                have v6f := (plE.cl.below (plE.grownL _ hs4d gr6) (by omega)).f
                try dsimp only
                refine hK.out _ _ trivial (fun hHeld => ?_)
                clear hK K
                try simp only [Act.put, List.setIfInBounds_toArray, List.set_cons_zero, List.set_cons_succ]
                refine callL (i := 5) (by kernel_rfl) rfl (by rfl) (fun K hK => ?_)
                go_simp
                try dsimp only
                refine hK.out _ _ trivial (fun hHeld => ?_)
                clear hK K
                try simp only [Act.put, List.setIfInBounds_toArray, List.set_cons_zero, List.set_cons_succ]
                refine wpAnyH_done (by kernel_rfl) ?_ _
                have pl7 := plE.lft _ hs4d (by omega) (by omega) hGL own6 HL.out gr6
                have b46 := plE.grownL _ hs4d gr6
                have rd7 := (rd4.drew.below b46 (Nat.le_refl _)).but (But.setCell L 0 w6 (.slice A6 n6 m6)) (.inl (by omega))
                have fr7 := Lib.hid ((HF4.out.drew.below b46 (Nat.le_refl _)).but (But.setCell L 0 w6 (.slice A6 n6 m6)) (.inl (.inr (.inr rfl))))
                clear b46 gr6 own6 v6c v6f plE pl4 rd4 hn2 c4 c4a c4d c4b
                go_wp2_with fail
                go_roundw
                case rel => exact ⟨j + 1, _, _, by omega, by go_num, HFT.out, by rw [HS.out]; exact rd7, pl7, fr7.out⟩
                case measure => simp [intOf]; omega
              · go_simp
                try dsimp only
                refine hK.out _ _ trivial (fun hHeld => ?_)
                clear hK K
                try simp only [Act.put, List.setIfInBounds_toArray, List.set_cons_zero, List.set_cons_succ]
                refine callL (i := 0) (by kernel_rfl) rfl (by rfl) (fun K hK => ?_)
                go_simp
                try dsimp only
                refine hK.out _ _ trivial (fun hHeld => ?_)
                clear hK K
                try simp only [Act.put, List.setIfInBounds_toArray, List.set_cons_zero, List.set_cons_succ]
                refine callL (i := 4) (by kernel_rfl) rfl (by rfl) (fun K hK => ?_)
                refine app_wp0 (w := w4.drew.alloc (.cells #[.int .i64 y] 3)) okI _ _ rfl w1.heap.size (by simp; omega) vl (leftL l ps j) rfl (plE.ol.alloc _) (some ⟨w4.drew.heap.size, 0, none⟩) 1 1 [y] rfl (CameE.new (K := KI) y) (by rw [Hll]; simp; omega) ?_
                intro v6 w6 own6 gr6
                obtain ⟨A6, n6, m6, rfl⟩ : ∃ a n c, v6 = .slice a n c := by rcases own6.lst with ⟨rfl, _⟩ | ⟨g, cap, rfl, _⟩ <;> exact ⟨_, _, _, rfl⟩
                have v6c := (plE.cl.below (plE.grownL _ hs4d gr6) (by omega)).c
                have v6f := (plE.cl.below (plE.grownL _ hs4d gr6) (by omega)).f
                try dsimp only
                refine hK.out _ _ trivial (fun hHeld => ?_)
                clear hK K
                try simp only [Act.put, List.setIfInBounds_toArray, List.set_cons_zero, List.set_cons_succ]
                refine callL (i := 5) (by kernel_rfl) rfl (by rfl) (fun K hK => ?_)
                go_simp
                try dsimp only
                refine hK.out _ _ trivial (fun hHeld => ?_)
                clear hK K
                try simp only [Act.put, List.setIfInBounds_toArray, List.set_cons_zero, List.set_cons_succ]
                refine wpAnyH_done (by kernel_rfl) ?_ _
                have pl7 := plE.lft _ hs4d (by omega) (by omega) hGL own6 HL.out gr6
                have b46 := plE.grownL _ hs4d gr6
                have rd7 := (rd4.drew.below b46 (Nat.le_refl _)).but (But.setCell L 0 w6 (.slice A6 n6 m6)) (.inl (by omega))
                have fr7 := Lib.hid ((HF4.out.drew.below b46 (Nat.le_refl _)).but (But.setCell L 0 w6 (.slice A6 n6 m6)) (.inl (.inr (.inr rfl))))
                clear b46 gr6 own6 v6c v6f plE pl4 rd4 hn2 c4 c4a c4d c4b
                go_wp2_with fail
                go_roundw
                case rel => exact ⟨j + 1, _, _, by omega, by go_num, HFT.out, by rw [HS.out]; exact rd7, pl7, fr7.out⟩
                case measure => simp [intOf]; omega
      · have hn := number_none _ _ R (l.drop (sumc ps j)) p (by omega) wr.drew rdj.drew
        clear hgot hleft
        go_wp2_with fail
        refine wp_region_held_drew (S := fun _ => True) (by kernel_rfl) trivial (fun hHeld => ?_)
        refine takeQ (i := 1) (v := ?_) rfl (by kernel_rfl) (by kernel_rfl) (by kernel_rfl) (fun _ _ _ h => h) (by rfl) hHeld ?_ ?_
        rotate_left
        · (intro w' _; go_simp <;> (with_reducible rfl))
        simp only [Act.put, List.setIfInBounds_toArray, List.set_cons_zero, List.set_cons_succ]
        refine takeQ (i := 2) (v := ?_) rfl (by kernel_rfl) (by kernel_rfl) (by kernel_rfl) (fun _ _ _ h => h) (by rfl) hHeld ?_ ?_
        rotate_left
        · (intro w' _; go_simp <;> (with_reducible rfl))
        simp only [Act.put, List.setIfInBounds_toArray, List.set_cons_zero, List.set_cons_succ]
        refine takeQ (i := 3) (v := ?_) rfl (by kernel_rfl) (by kernel_rfl) (by kernel_rfl) (fun _ _ _ h => h) (by rfl) hHeld ?_ ?_
        rotate_left
        · (intro w' _; go_simp <;> (with_reducible rfl))
        simp only [Act.put, List.setIfInBounds_toArray, List.set_cons_zero, List.set_cons_succ]
        refine bothL (i := 0) (j := 4) (by kernel_rfl) rfl rfl (by rfl) (by rfl) (fun K hK => ?_) (fun K hK => ?_)
        · go_simp
          try dsimp only
          refine hK.out _ _ trivial (fun hHeld => ?_)
          clear hK K
          try simp only [Act.put, List.setIfInBounds_toArray, List.set_cons_zero, List.set_cons_succ]
          refine callL (i := 4) (by kernel_rfl) rfl (by rfl) (fun K hK => ?_)
          go_simp
          try simp only [hpw]
          refine hn.mono ?_
          rintro _ w2 ⟨rfl, rd2, hb2⟩
          have fr2 := HF.out.drew.but hb2 (.inl (.inl rfl))
          refine ⟨rfl, _, _, .inr rfl, rd2, Tried.frame fr2 (by rintro k (rfl | rfl) <;> omega), j, vg, vl, w1.heap.size, by omega, ⟨hj, hfit, fun _ => by omega⟩, rfl, by rw [if_pos hlt], plD.but hb2 hi (by omega) (by omega), Tried.whole HW.out fr2 (by omega)⟩
        · go_simp
          try simp only [hpw]
          refine hn.mono ?_
          rintro _ w2 ⟨rfl, rd2, hb2⟩
          have fr2 := HF.out.drew.but hb2 (.inl (.inl rfl))
          refine ⟨rfl, _, _, .inr rfl, rd2, Tried.frame fr2 (by rintro k (rfl | rfl) <;> omega), j, vg, vl, w1.heap.size, by omega, ⟨hj, hfit, fun _ => by omega⟩, rfl, by rw [if_pos hlt], plD.but hb2 hi (by omega) (by omega), Tried.whole HW.out fr2 (by omega)⟩
    · have i1 : ¬ (j : Int) < (ps.length : Int) := by omega
      obtain rfl : j = ps.length := by omega
      have HF := Lib.hid (Tried.frame fr (w := w) (by rintro k (rfl | rfl) <;> omega))
      have HG := Lib.hid (Tried.whole HW.out fr (by omega))
      clear fr
      go_wp2_with fail
      go_end0
      exact ⟨_, 0, .inl ⟨rfl, rfl⟩, rdj, HF.out, ps.length, vg, vl, w1.heap.size, by omega, ⟨hj, hfit, fun h => by omega⟩, rfl, by rw [if_neg (by omega)], pl, HG.out⟩
end Go.Proofs.Ytmdbncalcbdigaa
