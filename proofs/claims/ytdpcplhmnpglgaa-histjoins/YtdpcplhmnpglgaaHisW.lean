/-
  HistJoins: its walk, up to the copies. Condition: no more than 1000 counts and 300 moments each; else it is the chapter's example.
-/
import Derived.Test.YtdpcplhmnpglgaaHisV
import Derived.Test.YtdpcplhmnpglgaaHisP
import Derived.Deep.DeepCutAuto
namespace Go.Proofs.Ytdpcplhmnpglgaa
open Go.RowKit

theorem VarH.newP {w : World} {v : Nat} (k b c : Int) (C M : Value) (t : TypeId) (e : w.heap.size = v) : VarH v k b c C M (w.alloc (.cells #[.int .i64 k, .int .i64 b, .int .i64 c, C, M] t)) := by subst e; exact VarH.new w k b c C M t
theorem VarH.set' {v : Nat} {k b c : Int} {C M : Value} {w : World} (h : VarH v k b c C M w) (k' b' c' : Int) (C' M' : Value) : VarH v k' b' c' C' M' (((((w.setCell ⟨v, 0, none⟩ (.int .i64 k')).setCell ⟨v, 1, none⟩ (.int .i64 b')).setCell ⟨v, 2, none⟩ (.int .i64 c')).setCell ⟨v, 3, none⟩ C').setCell ⟨v, 4, none⟩ M') := h.set k' b' c' C' M'
theorem VarH.setO {v m : Nat} {k b c : Int} {C M : Value} {w : World} (h : VarH v k b c C M w) (o : Nat) (u : Value) (hn : v ≠ m) : VarH v k b c C M (w.setCell ⟨m, o, none⟩ u) := h.but (But.setCell m o w u) hn
theorem Lst.setO {g m : Nat} {l : List Int} {w : World} (h : Lst KL g 0 l w) (o : Nat) (u : Value) (hn : g ≠ m) : Lst KL g 0 l (w.setCell ⟨m, o, none⟩ u) := h.but (But.setCell m o w u) hn
theorem Lst.allocO {g : Nat} {l : List Int} {w : World} (h : Lst KL g 0 l w) (o : Obj) : Lst KL g 0 l (w.alloc o) := h.below (alloc_below w o) h.lt
theorem below_more {w0 w : World} (h : Below w0.heap.size w0 w) (o : Obj) : Below w0.heap.size w0 (w.alloc o) := h.alloc h.size o
theorem below_set {w0 w : World} {m : Nat} (h : Below w0.heap.size w0 w) (o : Nat) (u : Value) (hm : w0.heap.size ≤ m) : Below w0.heap.size w0 (w.setCell ⟨m, o, none⟩ u) := h.setCell (p := ⟨m, o, none⟩) hm u
/-- Ten cells that are read. -/
structure V2 (vA vB : Nat) (k b c : Int) (C M : Value) (k' b' c' : Int) (C' M' : Value) (w : World) : Prop where
  A : VarH vA k b c C M w
  B : VarH vB k' b' c' C' M' w
section
variable {vA vB : Nat} {k b c : Int} {C M : Value} {k' b' c' : Int} {C' M' : Value} {w w' : World}
theorem V2.below (h : V2 vA vB k b c C M k' b' c' C' M' w) (x : Below w.heap.size w w') : V2 vA vB k b c C M k' b' c' C' M' w' := ⟨h.A.below x h.A.lt, h.B.below x h.B.lt⟩
theorem V2.alloc (h : V2 vA vB k b c C M k' b' c' C' M' w) (o : Obj) : V2 vA vB k b c C M k' b' c' C' M' (w.alloc o) := h.below (alloc_below w o)
theorem V2.drew (h : V2 vA vB k b c C M k' b' c' C' M' w) : V2 vA vB k b c C M k' b' c' C' M' w.drew := ⟨h.A.drew, h.B.drew⟩
theorem V2.setO {m : Nat} (h : V2 vA vB k b c C M k' b' c' C' M' w) (o : Nat) (u : Value) (h1 : vA ≠ m) (h2 : vB ≠ m) : V2 vA vB k b c C M k' b' c' C' M' (w.setCell ⟨m, o, none⟩ u) := ⟨h.A.setO o u h1, h.B.setO o u h2⟩
theorem V2.cells (h : V2 vA vB k b c C M k' b' c' C' M' w) : (w.cell? ⟨vA, 0, none⟩ = some (.int .i64 k) ∧ w.cell? ⟨vA, 1, none⟩ = some (.int .i64 b) ∧ w.cell? ⟨vA, 2, none⟩ = some (.int .i64 c) ∧ w.cell? ⟨vA, 3, none⟩ = some C ∧ w.cell? ⟨vA, 4, none⟩ = some M) ∧ (w.cell? ⟨vB, 0, none⟩ = some (.int .i64 k') ∧ w.cell? ⟨vB, 1, none⟩ = some (.int .i64 b') ∧ w.cell? ⟨vB, 2, none⟩ = some (.int .i64 c') ∧ w.cell? ⟨vB, 3, none⟩ = some C' ∧ w.cell? ⟨vB, 4, none⟩ = some M') := ⟨h.A.five, h.B.five⟩
end

/-- Two variables that hold what two others hold. -/
def TwoC (a b : HD) (nca nma ncb nmb : Nat) (vA vB : Nat) (aca : Option Addr) (cca : Nat) (ama : Option Addr) (cma : Nat) (acb : Option Addr) (ccb : Nat) (amb : Option Addr) (cmb : Nat) (w : World) (s5 s6 : Value) (wx : World) : Prop :=
  ∃ ox oy gx mx gy my ccx cmx ccy cmy, s5 = .pointer (some ⟨ox, 0, none⟩) ∧ s6 = .pointer (some ⟨oy, 0, none⟩) ∧ HV ox a (some ⟨gx, 0, none⟩) nca ccx (some ⟨mx, 0, none⟩) nma cmx wx ∧ HV oy b (some ⟨gy, 0, none⟩) ncb ccy (some ⟨my, 0, none⟩) nmb cmy wx ∧
    HV vA a aca nca cca ama nma cma wx ∧ HV vB b acb ncb ccb amb nmb cmb wx ∧ Below w.heap.size w wx
/-- A copy, told by its lengths. -/
def CopyQ (d : HD) (nc nm : Nat) (w : World) (e : Ending) (w' : World) : Prop :=
  ∃ g m cc cm, e = .returned (.agg #[.int .i64 d.k, .int .i64 d.b, .int .i64 d.c, .slice (some ⟨g, 0, none⟩) nc cc, .slice (some ⟨m, 0, none⟩) nm cm]) ∧ Lst KL g 0 d.lc w' ∧ Lst KL m 0 d.lm w' ∧ w.heap.size ≤ g ∧ g < m ∧ Below w.heap.size w w'
theorem copyq_any (d : HD) (ac am : Option Addr) (nc cc nm cm : Nat) (w : World) (h : Reads d ac nc am nm w) (z1 : ac = none → cc = 0) (z2 : am = none → cm = 0) (hn1 : nc ≤ 1048576) (hn2 : nm ≤ 1048576) :
    Calls Try.prog 17 #[.agg #[.int .i64 d.k, .int .i64 d.b, .int .i64 d.c, .slice ac nc cc, .slice am nm cm]] w fun e w' => CopyQ d nc nm w e w' := by
  refine (copy_any d ac am nc cc nm cm w h z1 z2 hn1 hn2).mono ?_
  rintro e w' ⟨g, m, nm2, co, mo, rfl, h1, h2, h3, h4, h5, h6, h7, h8⟩
  obtain rfl : nm2 = nm := by have := h.nm; omega
  exact ⟨g, m, co, mo, by rw [h.nc], h4, h5, h6, h7, h8⟩
theorem Lst.belowS {g o : Nat} {l : List Int} {w w' : World} (h : Lst KL g o l w) (c : Below w.heap.size w w') : Lst KL g o l w' := h.below c h.lt
theorem VarH.belowS {g : Nat} {k b c : Int} {C M : Value} {w w' : World} (h : VarH g k b c C M w) (x : Below w.heap.size w w') : VarH g k b c C M w' := h.below x h.lt
/-- Two of the same. -/
theorem same_self (d : HD) (ac am ac' am' : Option Addr) (nc cc nm cm nc' cc' nm' cm' : Nat) (w : World) (h : Reads d ac nc am nm w) (h' : Reads d ac' nc' am' nm' w) (hn : d.lc.length ≤ 1000 ∧ d.lm.length ≤ 900) :
    Calls Try.prog 12 #[.agg #[.int .i64 d.k, .int .i64 d.b, .int .i64 d.c, .slice ac nc cc, .slice am nm cm], .agg #[.int .i64 d.k, .int .i64 d.b, .int .i64 d.c, .slice ac' nc' cc', .slice am' nm' cm']] w fun e w' => e = .returned (.bool true) ∧ Below w.heap.size w w' := by
  have := same_any d d ac am ac' am' nc cc nm cm nc' cc' nm' cm' w h h' (by have := h.nc; omega) (by have := h.nm; omega)
  rw [sameD_refl] at this
  exact this
/-- Eight variables that are read. -/
structure All8 (va vb vx vy vm vn vl vk : Nat) (a b m l : HD) (ca ma cb mb cx mx cy my cm mm cn mn cl ml ck mk : Option Addr) (nca cca nma cma ncb ccb nmb cmb ccx cmx ccy cmy ncm ccm nmm cmm ncn ccn nmn cmn ncl ccl nml cml nck cck nmk cmk : Nat) (w : World) : Prop where
  A : HV va a ca nca cca ma nma cma w
  B : HV vb b cb ncb ccb mb nmb cmb w
  X : HV vx a cx nca ccx mx nma cmx w
  Y : HV vy b cy ncb ccy my nmb cmy w
  M : HV vm m cm ncm ccm mm nmm cmm w
  N : HV vn m cn ncn ccn mn nmn cmn w
  L : HV vl l cl ncl ccl ml nml cml w
  K : HV vk l ck nck cck mk nmk cmk w
section
variable {va vb vx vy vm vn vl vk : Nat} {a b m l : HD} {ca ma cb mb cx mx cy my cm mm cn mn cl ml ck mk : Option Addr} {nca cca nma cma ncb ccb nmb cmb ccx cmx ccy cmy ncm ccm nmm cmm ncn ccn nmn cmn ncl ccl nml cml nck cck nmk cmk : Nat} {w w' : World}
theorem All8.below (h : All8 va vb vx vy vm vn vl vk a b m l ca ma cb mb cx mx cy my cm mm cn mn cl ml ck mk nca cca nma cma ncb ccb nmb cmb ccx cmx ccy cmy ncm ccm nmm cmm ncn ccn nmn cmn ncl ccl nml cml nck cck nmk cmk w) (x : Below w.heap.size w w') : All8 va vb vx vy vm vn vl vk a b m l ca ma cb mb cx mx cy my cm mm cn mn cl ml ck mk nca cca nma cma ncb ccb nmb cmb ccx cmx ccy cmy ncm ccm nmm cmm ncn ccn nmn cmn ncl ccl nml cml nck cck nmk cmk w' :=
  ⟨h.A.below x, h.B.below x, h.X.below x, h.Y.below x, h.M.below x, h.N.below x, h.L.below x, h.K.below x⟩
theorem All8.drew (h : All8 va vb vx vy vm vn vl vk a b m l ca ma cb mb cx mx cy my cm mm cn mn cl ml ck mk nca cca nma cma ncb ccb nmb cmb ccx cmx ccy cmy ncm ccm nmm cmm ncn ccn nmn cmn ncl ccl nml cml nck cck nmk cmk w) : All8 va vb vx vy vm vn vl vk a b m l ca ma cb mb cx mx cy my cm mm cn mn cl ml ck mk nca cca nma cma ncb ccb nmb cmb ccx cmx ccy cmy ncm ccm nmm cmm ncn ccn nmn cmn ncl ccl nml cml nck cck nmk cmk w.drew :=
  ⟨h.A.drew, h.B.drew, h.X.drew, h.Y.drew, h.M.drew, h.N.drew, h.L.drew, h.K.drew⟩
end
theorem HV.five {v : Nat} {d : HD} {ac am : Option Addr} {nc cc nm cm : Nat} {w : World} (h : HV v d ac nc cc am nm cm w) : w.cell? ⟨v, 0, none⟩ = some (.int .i64 d.k) ∧ w.cell? ⟨v, 1, none⟩ = some (.int .i64 d.b) ∧ w.cell? ⟨v, 2, none⟩ = some (.int .i64 d.c) ∧ w.cell? ⟨v, 3, none⟩ = some (.slice ac nc cc) ∧ w.cell? ⟨v, 4, none⟩ = some (.slice am nm cm) := h.v.five
theorem reads_of {d : HD} {nc nm : Nat} {g m : Nat} {w w' : World} {ac am : Option Addr} (h : Reads d ac nc am nm w) (h1 : Lst KL g 0 d.lc w') (h2 : Lst KL m 0 d.lm w') : Reads d (some ⟨g, 0, none⟩) nc (some ⟨m, 0, none⟩) nm w' := ⟨h.nc, h.nm, h1.holds, h2.holds, h.wc, h.wm⟩


set_option maxRecDepth 20000 in
set_option maxHeartbeats 8000000 in
theorem joins_any (a b : HD) (aca ama acb amb : Option Addr) (nca cca nma cma ncb ccb nmb cmb : Nat) (w : World) (ha : Reads a aca nca ama nma w) (hb : Reads b acb ncb amb nmb w) (hza : (aca = none → cca = 0) ∧ (ama = none → cma = 0)) (hzb : (acb = none → ccb = 0) ∧ (amb = none → cmb = 0)) (hga : ¬ (1000 < nca ∨ 300 < nma)) (hgb : ¬ (1000 < ncb ∨ 300 < nmb)) :
    Calls Try.prog 4 #[.agg #[.int .i64 a.k, .int .i64 a.b, .int .i64 a.c, .slice aca nca cca, .slice ama nma cma], .agg #[.int .i64 b.k, .int .i64 b.b, .int .i64 b.c, .slice acb ncb ccb, .slice amb nmb cmb]] w fun e w' => e = .returned (.bool true) ∧ Below w.heap.size w w' := by
  obtain ⟨W1, hW1⟩ : ∃ W1, w.alloc (.cells #[.int .i64 a.k, .int .i64 a.b, .int .i64 a.c, .slice aca nca cca, .slice ama nma cma] 29) = W1 := ⟨_, rfl⟩
  obtain ⟨va, k1, s1⟩ := HV.new ha hW1
  obtain ⟨W2, hW2⟩ : ∃ W2, W1.alloc (.cells #[.int .i64 b.k, .int .i64 b.b, .int .i64 b.c, .slice acb ncb ccb, .slice amb nmb cmb] 29) = W2 := ⟨_, rfl⟩
  obtain ⟨vb, k2, s2⟩ := HV.new (hb.below k1) hW2
  have HB : Hid (Below w.heap.size w W2) := k1.trans (k2.mono k1.size)
  replace va := va.below k2
  rw [s1] at vb s2
  have HSZ : Hid (W2.heap.size = w.heap.size + 1 + 1) := s2
  clear k1 k2 s2
  go_enter Try.func4, Try.ntmps4
  go_upto_region 1 with fail
  clear hW1 hW2 s1
  have gA := fun w => great_any a.k a.b a.c aca ama nca cca nma cma w
  have gB := fun w => great_any b.k b.b b.c acb amb ncb ccb nmb cmb w
  rw [decide_eq_false hga] at gA
  rw [decide_eq_false hgb] at gB
  have HBD : Hid (nca ≤ 1000 ∧ nma ≤ 300 ∧ ncb ≤ 1000 ∧ nmb ≤ 300) := by show _ ∧ _; omega
  have HRA := Lib.hid ha
  have HRB := Lib.hid hb
  have HZA := Lib.hid hza
  have HZB := Lib.hid hzb
  clear hga hgb ha hb hza hzb
  replace va := Lib.hid va
  replace vb := Lib.hid vb
  obtain ⟨a0, a1, a2, a3, a4⟩ := va.out.v.five
  go_wp2_with fail
  refine (gA _).mono ?_
  rintro e W4 ⟨rfl, c4⟩
  clear a0 a1 a2 a3 a4 gA
  replace va := Lib.hid (va.out.below c4)
  replace vb := Lib.hid (vb.out.below c4)
  replace HB := Lib.hid (HB.out.trans (c4.mono HB.out.size))
  have HS4 : Hid (w.heap.size + 1 + 1 ≤ W4.heap.size) := by have := c4.size; have := HSZ.out; show _ ≤ _; omega
  clear c4 HSZ
  obtain ⟨b0, b1, b2, b3, b4⟩ := vb.out.v.five
  go_upto_region 3 with (refine (gB _).mono ?_; rintro e W6 ⟨rfl, c6⟩)
  clear b0 b1 b2 b3 b4 gB
  replace va := Lib.hid (va.out.below c6)
  replace vb := Lib.hid (vb.out.below c6)
  replace HB := Lib.hid (HB.out.trans (c6.mono HB.out.size))
  have hs6 : w.heap.size + 1 + 1 ≤ W6.heap.size := by have := c6.size; have := HS4.out; omega
  clear c6 HS4
  have cA := fun (wq : World) (x : Below w.heap.size w wq) => copyq_any a aca ama nca cca nma cma wq (HRA.out.below x) HZA.out.1 HZA.out.2 (by have := HBD.out; omega) (by have := HBD.out; omega)
  have cB := fun (wq : World) (x : Below w.heap.size w wq) => copyq_any b acb amb ncb ccb nmb cmb wq (HRB.out.below x) HZB.out.1 HZB.out.2 (by have := HBD.out; omega) (by have := HBD.out; omega)
  go_cut [5, 6] (fun s5 s6 wx => TwoC a b nca nma ncb nmb w.heap.size (w.heap.size + 1) aca cca ama cma acb ccb amb cmb w s5 s6 wx)
  case first =>
    have q0 : V2 w.heap.size (w.heap.size + 1) a.k a.b a.c (.slice aca nca cca) (.slice ama nma cma) b.k b.b b.c (.slice acb ncb ccb) (.slice amb nmb cmb) W6 := ⟨va.out.v, vb.out.v⟩
    have hb0 := HB.out
    have MARK : True := trivial
    go_region_held3 (fun w' => (w'.cell? ⟨w.heap.size, 0, none⟩ = some (.int .i64 a.k) ∧ w'.cell? ⟨w.heap.size, 1, none⟩ = some (.int .i64 a.b) ∧ w'.cell? ⟨w.heap.size, 2, none⟩ = some (.int .i64 a.c) ∧ w'.cell? ⟨w.heap.size, 3, none⟩ = some (.slice aca nca cca) ∧ w'.cell? ⟨w.heap.size, 4, none⟩ = some (.slice ama nma cma)) ∧ (w'.cell? ⟨w.heap.size + 1, 0, none⟩ = some (.int .i64 b.k) ∧ w'.cell? ⟨w.heap.size + 1, 1, none⟩ = some (.int .i64 b.b) ∧ w'.cell? ⟨w.heap.size + 1, 2, none⟩ = some (.int .i64 b.c) ∧ w'.cell? ⟨w.heap.size + 1, 3, none⟩ = some (.slice acb ncb ccb) ∧ w'.cell? ⟨w.heap.size + 1, 4, none⟩ = some (.slice amb nmb cmb)))
      ((refine V2.cells ?_; repeat (first | (with_reducible exact q0) | (with_reducible exact q1) | (with_reducible exact q2) | (with_reducible refine V2.alloc ?_ _) | (with_reducible refine V2.drew ?_) | (with_reducible refine V2.setO ?_ _ _ (by omega) (by omega)))))
      (first
        | (clear MARK; go_at_call 17; refine (cA _ (by repeat (first | (with_reducible exact hb0) | (with_reducible refine below_more ?_ _) | (with_reducible refine Below.drew ?_)))).mono ?_; rintro e5 w1 ⟨g1, m1, cc1, cm1, rfl, L1, M1, hg1, hgm1, c1⟩; have l1 := M1.lt; have n1 := c1.size; (try simp at n1); (try simp at hg1); have q1 : V2 w.heap.size (w.heap.size + 1) a.k a.b a.c (.slice aca nca cca) (.slice ama nma cma) b.k b.b b.c (.slice acb ncb ccb) (.slice amb nmb cmb) w1 := V2.below (by repeat (first | (with_reducible exact q0) | (with_reducible refine V2.alloc ?_ _) | (with_reducible refine V2.drew ?_))) c1; have hb1 : Below w.heap.size w w1 := (show Below w.heap.size w _ by repeat (first | (with_reducible exact hb0) | (with_reducible refine below_more ?_ _) | (with_reducible refine Below.drew ?_))).trans (c1.mono (by first | omega | (simp; omega))); (try (have za : VarH W6.heap.size 0 0 0 (.slice none 0 0) (.slice none 0 0) w1 := VarH.below (VarH.new W6 0 0 0 (.slice none 0 0) (.slice none 0 0) 29).drew c1 (by simp))); (try (have za : VarH W6.heap.size 0 0 0 (.slice none 0 0) (.slice none 0 0) w1 := VarH.below ((VarH.new W6 0 0 0 (.slice none 0 0) (.slice none 0 0) 29).alloc (.cells #[.int .i64 0, .int .i64 0, .int .i64 0, .slice none 0 0, .slice none 0 0] 29)).drew c1 (by simp; omega); have zb : VarH (W6.heap.size + 1) 0 0 0 (.slice none 0 0) (.slice none 0 0) w1 := VarH.below (VarH.newP 0 0 0 (.slice none 0 0) (.slice none 0 0) 29 (show (W6.alloc (.cells #[.int .i64 0, .int .i64 0, .int .i64 0, .slice none 0 0, .slice none 0 0] 29)).heap.size = W6.heap.size + 1 by simp)).drew c1 (by simp))))
        | (go_at_call 17; refine (cB _ (by repeat (first | (with_reducible exact hb1) | (with_reducible refine below_more ?_ _) | (with_reducible refine Below.drew ?_)))).mono ?_; rintro e6 w2 ⟨g2, m2, cc2, cm2, rfl, L2, M2, hg2, hgm2, c2⟩; have l2 := M2.lt; have n2 := c2.size; (try simp at n2); (try simp at hg2); have q2 : V2 w.heap.size (w.heap.size + 1) a.k a.b a.c (.slice aca nca cca) (.slice ama nma cma) b.k b.b b.c (.slice acb ncb ccb) (.slice amb nmb cmb) w2 := V2.below (by repeat (first | (with_reducible exact q1) | (with_reducible refine V2.alloc ?_ _) | (with_reducible refine V2.drew ?_))) c2; have hb2 : Below w.heap.size w w2 := (show Below w.heap.size w _ by repeat (first | (with_reducible exact hb1) | (with_reducible refine below_more ?_ _) | (with_reducible refine Below.drew ?_))).trans (c2.mono (by first | omega | (simp; omega))); have L1b : Lst KL g1 0 a.lc w2 := Lst.belowS (by repeat (first | (with_reducible exact L1) | (with_reducible refine Lst.allocO ?_ _))) c2; have M1b : Lst KL m1 0 a.lm w2 := Lst.belowS (by repeat (first | (with_reducible exact M1) | (with_reducible refine Lst.allocO ?_ _))) c2; (try (have za2 : VarH W6.heap.size 0 0 0 (.slice none 0 0) (.slice none 0 0) w2 := VarH.belowS za c2; obtain ⟨za0, za1, za2', za3, za4⟩ := za2.five; obtain ⟨ya0, ya1, ya2, ya3, ya4⟩ := za2.soft; have wza := za2.lt)); (try (have za2 : VarH W6.heap.size 0 0 0 (.slice none 0 0) (.slice none 0 0) w2 := VarH.belowS (VarH.alloc za (.cells #[.int .i64 0, .int .i64 0, .int .i64 0, .slice none 0 0, .slice none 0 0] 29)) c2; obtain ⟨za0, za1, za2', za3, za4⟩ := za2.five; obtain ⟨ya0, ya1, ya2, ya3, ya4⟩ := za2.soft; have wza := za2.lt)); (try (have zb2 : VarH (W6.heap.size + 1) 0 0 0 (.slice none 0 0) (.slice none 0 0) w2 := VarH.belowS zb c2; obtain ⟨zb0, zb1, zb2', zb3, zb4⟩ := zb2.five; obtain ⟨yb0, yb1, yb2, yb3, yb4⟩ := zb2.soft; have wzb := zb2.lt)); (try (have zc : VarH w1.heap.size 0 0 0 (.slice none 0 0) (.slice none 0 0) w2 := VarH.belowS (VarH.new w1 0 0 0 (.slice none 0 0) (.slice none 0 0) 29) c2; obtain ⟨zc0, zc1, zc2, zc3, zc4⟩ := zc.five; obtain ⟨yc0, yc1, yc2, yc3, yc4⟩ := zc.soft; have wzc := zc.lt)); (try (have zc : VarH w1.heap.size 0 0 0 (.slice none 0 0) (.slice none 0 0) w2 := VarH.belowS ((VarH.new w1 0 0 0 (.slice none 0 0) (.slice none 0 0) 29).alloc (.cells #[.int .i64 0, .int .i64 0, .int .i64 0, .slice none 0 0, .slice none 0 0] 29)) c2; have zd : VarH (w1.heap.size + 1) 0 0 0 (.slice none 0 0) (.slice none 0 0) w2 := VarH.belowS (VarH.newP 0 0 0 (.slice none 0 0) (.slice none 0 0) 29 (show (w1.alloc (.cells #[.int .i64 0, .int .i64 0, .int .i64 0, .slice none 0 0, .slice none 0 0] 29)).heap.size = w1.heap.size + 1 by simp)) c2; obtain ⟨zc0, zc1, zc2, zc3, zc4⟩ := zc.five; obtain ⟨yc0, yc1, yc2, yc3, yc4⟩ := zc.soft; have wzc := zc.lt; obtain ⟨zd0, zd1, zd2, zd3, zd4⟩ := zd.five; obtain ⟨yd0, yd1, yd2, yd3, yd4⟩ := zd.soft; have wzd := zd.lt)))
        | fail)
    all_goals
      go_wp2_with fail
      go_meet
      refine ⟨_, _, g1, m1, g2, m2, cc1, cm1, cc2, cm2, rfl, rfl, ⟨?_, reads_of HRA.out ?_ ?_⟩, ⟨?_, reads_of HRB.out ?_ ?_⟩, ⟨?_, HRA.out.below ?_⟩, ⟨?_, HRB.out.below ?_⟩, ?_⟩
      · (repeat (first | (with_reducible exact za2) | (with_reducible exact zb2) | (with_reducible exact zc) | (with_reducible exact zd) | (with_reducible exact q2.A) | (with_reducible exact q2.B) | (with_reducible exact VarH.newP _ _ _ _ _ _ (by simp)) | (with_reducible refine VarH.set' (k := 0) (b := 0) (c := 0) (C := .slice none 0 0) (M := .slice none 0 0) ?_ _ _ _ _ _) | (with_reducible refine VarH.alloc ?_ _) | (with_reducible refine VarH.setO ?_ _ _ (by omega))))
      · (repeat (first | (with_reducible exact L1b) | (with_reducible exact M1b) | (with_reducible exact L2) | (with_reducible exact M2) | (with_reducible refine Lst.allocO ?_ _) | (with_reducible refine Lst.setO ?_ _ _ (by omega))))
      · (repeat (first | (with_reducible exact L1b) | (with_reducible exact M1b) | (with_reducible exact L2) | (with_reducible exact M2) | (with_reducible refine Lst.allocO ?_ _) | (with_reducible refine Lst.setO ?_ _ _ (by omega))))
      · (repeat (first | (with_reducible exact za2) | (with_reducible exact zb2) | (with_reducible exact zc) | (with_reducible exact zd) | (with_reducible exact q2.A) | (with_reducible exact q2.B) | (with_reducible exact VarH.newP _ _ _ _ _ _ (by simp)) | (with_reducible refine VarH.set' (k := 0) (b := 0) (c := 0) (C := .slice none 0 0) (M := .slice none 0 0) ?_ _ _ _ _ _) | (with_reducible refine VarH.alloc ?_ _) | (with_reducible refine VarH.setO ?_ _ _ (by omega))))
      · (repeat (first | (with_reducible exact L1b) | (with_reducible exact M1b) | (with_reducible exact L2) | (with_reducible exact M2) | (with_reducible refine Lst.allocO ?_ _) | (with_reducible refine Lst.setO ?_ _ _ (by omega))))
      · (repeat (first | (with_reducible exact L1b) | (with_reducible exact M1b) | (with_reducible exact L2) | (with_reducible exact M2) | (with_reducible refine Lst.allocO ?_ _) | (with_reducible refine Lst.setO ?_ _ _ (by omega))))
      · (repeat (first | (with_reducible exact za2) | (with_reducible exact zb2) | (with_reducible exact zc) | (with_reducible exact zd) | (with_reducible exact q2.A) | (with_reducible exact q2.B) | (with_reducible exact VarH.newP _ _ _ _ _ _ (by simp)) | (with_reducible refine VarH.set' (k := 0) (b := 0) (c := 0) (C := .slice none 0 0) (M := .slice none 0 0) ?_ _ _ _ _ _) | (with_reducible refine VarH.alloc ?_ _) | (with_reducible refine VarH.setO ?_ _ _ (by omega))))
      · (repeat (first | (with_reducible exact hb2) | (with_reducible refine below_more ?_ _) | (with_reducible refine below_set ?_ _ _ (by omega))))
      · (repeat (first | (with_reducible exact za2) | (with_reducible exact zb2) | (with_reducible exact zc) | (with_reducible exact zd) | (with_reducible exact q2.A) | (with_reducible exact q2.B) | (with_reducible exact VarH.newP _ _ _ _ _ _ (by simp)) | (with_reducible refine VarH.set' (k := 0) (b := 0) (c := 0) (C := .slice none 0 0) (M := .slice none 0 0) ?_ _ _ _ _ _) | (with_reducible refine VarH.alloc ?_ _) | (with_reducible refine VarH.setO ?_ _ _ (by omega))))
      · (repeat (first | (with_reducible exact hb2) | (with_reducible refine below_more ?_ _) | (with_reducible refine below_set ?_ _ _ (by omega))))
      · (repeat (first | (with_reducible exact hb2) | (with_reducible refine below_more ?_ _) | (with_reducible refine below_set ?_ _ _ (by omega))))
  case rest =>
    obtain ⟨ox, oy, gx, mx, gy, my, ccx, cmx, ccy, cmy, rfl, rfl, xx, xy, xa, xb, hB⟩ := hcut
    clear va vb HB hs6 cA cB
    replace xx := Lib.hid xx
    replace xy := Lib.hid xy
    replace xa := Lib.hid xa
    replace xb := Lib.hid xb
    have HB := Lib.hid hB
    clear hB
    obtain ⟨p0, p1, p2, p3, p4⟩ := xa.out.v.five
    obtain ⟨q0, q1, q2, q3, q4⟩ := xb.out.v.five
    have hm := merge_any a b aca ama acb amb nca cca nma cma ncb ccb nmb cmb wc xa.out.r xb.out.r
    obtain ⟨dm, HDM⟩ : ∃ d, Hid (bothD plusW a b = d) := ⟨_, rfl⟩
    obtain ⟨em, HEM⟩ : ∃ d, Hid (bothE plusW a b = d) := ⟨_, rfl⟩
    rw [HDM.out, HEM.out] at hm
    go_wp2_with (fail)
    refine hm.mono ?_
    rintro e Vm ⟨vm, rfl, ⟨acm, ncm, ccm, amm, nmm, cmm, rfl, rm, _⟩, cm⟩
    clear p0 p1 p2 p3 p4 q0 q1 q2 q3 q4 hm
    obtain ⟨Wm, hWm⟩ : ∃ W, Vm.alloc (.cells #[.int .i64 dm.k, .int .i64 dm.b, .int .i64 dm.c, .slice acm ncm ccm, .slice amm nmm cmm] 29) = W := ⟨_, rfl⟩
    obtain ⟨xm, km, _⟩ := HV.new rm hWm
    have c2 := Lib.hid (cm.trans (km.mono cm.size))
    replace xm := Lib.hid xm
    clear rm cm km
    obtain ⟨om, hbm⟩ : ∃ n, Vm.heap.size = n := ⟨_, rfl⟩
    rw [hbm] at xm
    go_upto_region 5 with fail
    clear hWm hbm
    replace xa := Lib.hid (xa.out.below c2.out)
    replace xb := Lib.hid (xb.out.below c2.out)
    replace xx := Lib.hid (xx.out.below c2.out)
    replace xy := Lib.hid (xy.out.below c2.out)
    replace HB := Lib.hid (HB.out.trans (c2.out.mono HB.out.size))
    clear c2
    obtain ⟨p0, p1, p2, p3, p4⟩ := xx.out.v.five
    obtain ⟨q0, q1, q2, q3, q4⟩ := xy.out.v.five
    have hm := rmerge_any a b (some ⟨gx, 0, none⟩) (some ⟨mx, 0, none⟩) (some ⟨gy, 0, none⟩) (some ⟨my, 0, none⟩) nca ccx nma cmx ncb ccy nmb cmy Wm xx.out.r xy.out.r (fun h => by cases h) (fun h => by cases h)
    rw [HDM.out, HEM.out] at hm
    go_wp2_with (fail)
    refine hm.mono ?_
    rintro e Vn ⟨vn, rfl, ⟨acn, ncn, ccn, amn, nmn, cmn, rfl, rn, _⟩, cn⟩
    clear p0 p1 p2 p3 p4 q0 q1 q2 q3 q4 hm
    obtain ⟨Wn, hWn⟩ : ∃ W, Vn.alloc (.cells #[.int .i64 dm.k, .int .i64 dm.b, .int .i64 dm.c, .slice acn ncn ccn, .slice amn nmn cmn] 29) = W := ⟨_, rfl⟩
    obtain ⟨xn, kn, _⟩ := HV.new rn hWn
    have c2 := Lib.hid (cn.trans (kn.mono cn.size))
    replace xn := Lib.hid xn
    clear rn cn kn
    obtain ⟨on, hbn⟩ : ∃ n, Vn.heap.size = n := ⟨_, rfl⟩
    rw [hbn] at xn
    go_upto_region 6 with fail
    clear hWn hbn
    replace xa := Lib.hid (xa.out.below c2.out)
    replace xb := Lib.hid (xb.out.below c2.out)
    replace xx := Lib.hid (xx.out.below c2.out)
    replace xy := Lib.hid (xy.out.below c2.out)
    replace xm := Lib.hid (xm.out.below c2.out)
    replace HB := Lib.hid (HB.out.trans (c2.out.mono HB.out.size))
    clear c2
    obtain ⟨p0, p1, p2, p3, p4⟩ := xa.out.v.five
    obtain ⟨q0, q1, q2, q3, q4⟩ := xb.out.v.five
    have hm := less_any a b aca ama acb amb nca cca nma cma ncb ccb nmb cmb Wn xa.out.r xb.out.r
    obtain ⟨dl, HDL⟩ : ∃ d, Hid (bothD lessW a b = d) := ⟨_, rfl⟩
    obtain ⟨el, HEL⟩ : ∃ d, Hid (bothE lessW a b = d) := ⟨_, rfl⟩
    rw [HDL.out, HEL.out] at hm
    go_wp2_with (fail)
    refine hm.mono ?_
    rintro e Vl ⟨vl, rfl, ⟨acl, ncl, ccl, aml, nml, cml, rfl, rl, _⟩, cl⟩
    clear p0 p1 p2 p3 p4 q0 q1 q2 q3 q4 hm
    obtain ⟨Wl, hWl⟩ : ∃ W, Vl.alloc (.cells #[.int .i64 dl.k, .int .i64 dl.b, .int .i64 dl.c, .slice acl ncl ccl, .slice aml nml cml] 29) = W := ⟨_, rfl⟩
    obtain ⟨xl, kl, _⟩ := HV.new rl hWl
    have c2 := Lib.hid (cl.trans (kl.mono cl.size))
    replace xl := Lib.hid xl
    clear rl cl kl
    obtain ⟨ol, hbl⟩ : ∃ n, Vl.heap.size = n := ⟨_, rfl⟩
    rw [hbl] at xl
    go_upto_region 7 with fail
    clear hWl hbl
    replace xa := Lib.hid (xa.out.below c2.out)
    replace xb := Lib.hid (xb.out.below c2.out)
    replace xx := Lib.hid (xx.out.below c2.out)
    replace xy := Lib.hid (xy.out.below c2.out)
    replace xm := Lib.hid (xm.out.below c2.out)
    replace xn := Lib.hid (xn.out.below c2.out)
    replace HB := Lib.hid (HB.out.trans (c2.out.mono HB.out.size))
    clear c2
    obtain ⟨p0, p1, p2, p3, p4⟩ := xx.out.v.five
    obtain ⟨q0, q1, q2, q3, q4⟩ := xy.out.v.five
    have hm := rless_any a b (some ⟨gx, 0, none⟩) (some ⟨mx, 0, none⟩) (some ⟨gy, 0, none⟩) (some ⟨my, 0, none⟩) nca ccx nma cmx ncb ccy nmb cmy Wl xx.out.r xy.out.r (fun h => by cases h) (fun h => by cases h)
    rw [HDL.out, HEL.out] at hm
    go_wp2_with (fail)
    refine hm.mono ?_
    rintro e Vk ⟨vk, rfl, ⟨ack, nck, cck, amk, nmk, cmk, rfl, rk, _⟩, ck⟩
    clear p0 p1 p2 p3 p4 q0 q1 q2 q3 q4 hm
    obtain ⟨Wk, hWk⟩ : ∃ W, Vk.alloc (.cells #[.int .i64 dl.k, .int .i64 dl.b, .int .i64 dl.c, .slice ack nck cck, .slice amk nmk cmk] 29) = W := ⟨_, rfl⟩
    obtain ⟨xk, kk, _⟩ := HV.new rk hWk
    have c2 := Lib.hid (ck.trans (kk.mono ck.size))
    replace xk := Lib.hid xk
    clear rk ck kk
    obtain ⟨ok, hbk⟩ : ∃ n, Vk.heap.size = n := ⟨_, rfl⟩
    rw [hbk] at xk
    go_upto_region 8 with fail
    clear hWk hbk
    replace xa := Lib.hid (xa.out.below c2.out)
    replace xb := Lib.hid (xb.out.below c2.out)
    replace xx := Lib.hid (xx.out.below c2.out)
    replace xy := Lib.hid (xy.out.below c2.out)
    replace xm := Lib.hid (xm.out.below c2.out)
    replace xn := Lib.hid (xn.out.below c2.out)
    replace xl := Lib.hid (xl.out.below c2.out)
    replace HB := Lib.hid (HB.out.trans (c2.out.mono HB.out.size))
    clear c2
    have HLA : Hid ((a.lc.length ≤ 1000 ∧ a.lm.length ≤ 900) ∧ (b.lc.length ≤ 1000 ∧ b.lm.length ≤ 900) ∧ (dm.lc.length ≤ 1000 ∧ dm.lm.length ≤ 900) ∧ (dl.lc.length ≤ 1000 ∧ dl.lm.length ≤ 900)) := by
      have h1 := both_len plusW a b
      have h2 := both_len lessW a b
      rw [HDM.out] at h1
      rw [HDL.out] at h2
      have := HBD.out; have := HRA.out.nc; have := HRA.out.nm; have := HRB.out.nc; have := HRB.out.nm
      show _ ∧ _
      omega
    have HRR : Hid (rightB a.k a.b a.c nca nma = rightD a) := HRA.out.right
    have hr1 := fun w => right_any a.k a.b a.c aca ama nca cca nma cma w
    have hr2 := fun w => refRight_any a.k a.b a.c aca ama nca cca nma cma w
    generalize rightB a.k a.b a.c nca nma = rb at *
    have q0 : All8 w.heap.size (w.heap.size + 1) ox oy om on ol ok a b dm dl aca ama acb amb (some ⟨gx, 0, none⟩) (some ⟨mx, 0, none⟩) (some ⟨gy, 0, none⟩) (some ⟨my, 0, none⟩) acm amm acn amn acl aml ack amk nca cca nma cma ncb ccb nmb cmb ccx cmx ccy cmy ncm ccm nmm cmm ncn ccn nmn cmn ncl ccl nml cml nck cck nmk cmk Wk := ⟨xa.out, xb.out, xx.out, xy.out, xm.out, xn.out, xl.out, xk.out⟩
    have q := q0.drew
    replace HB := Lib.hid HB.out.drew
    clear xa xb xx xy xm xn xl xk
    go_region_held3 (fun w' => (w'.cell? ⟨w.heap.size, 0, none⟩ = some (.int .i64 a.k) ∧ w'.cell? ⟨w.heap.size, 1, none⟩ = some (.int .i64 a.b) ∧ w'.cell? ⟨w.heap.size, 2, none⟩ = some (.int .i64 a.c) ∧ w'.cell? ⟨w.heap.size, 3, none⟩ = some (.slice aca nca cca) ∧ w'.cell? ⟨w.heap.size, 4, none⟩ = some (.slice ama nma cma)) ∧ (w'.cell? ⟨w.heap.size + 1, 0, none⟩ = some (.int .i64 b.k) ∧ w'.cell? ⟨w.heap.size + 1, 1, none⟩ = some (.int .i64 b.b) ∧ w'.cell? ⟨w.heap.size + 1, 2, none⟩ = some (.int .i64 b.c) ∧ w'.cell? ⟨w.heap.size + 1, 3, none⟩ = some (.slice acb ncb ccb) ∧ w'.cell? ⟨w.heap.size + 1, 4, none⟩ = some (.slice amb nmb cmb)) ∧ (w'.cell? ⟨ox, 0, none⟩ = some (.int .i64 a.k) ∧ w'.cell? ⟨ox, 1, none⟩ = some (.int .i64 a.b) ∧ w'.cell? ⟨ox, 2, none⟩ = some (.int .i64 a.c) ∧ w'.cell? ⟨ox, 3, none⟩ = some (.slice (some ⟨gx, 0, none⟩) nca ccx) ∧ w'.cell? ⟨ox, 4, none⟩ = some (.slice (some ⟨mx, 0, none⟩) nma cmx)) ∧ (w'.cell? ⟨oy, 0, none⟩ = some (.int .i64 b.k) ∧ w'.cell? ⟨oy, 1, none⟩ = some (.int .i64 b.b) ∧ w'.cell? ⟨oy, 2, none⟩ = some (.int .i64 b.c) ∧ w'.cell? ⟨oy, 3, none⟩ = some (.slice (some ⟨gy, 0, none⟩) ncb ccy) ∧ w'.cell? ⟨oy, 4, none⟩ = some (.slice (some ⟨my, 0, none⟩) nmb cmy)) ∧ (w'.cell? ⟨om, 0, none⟩ = some (.int .i64 dm.k) ∧ w'.cell? ⟨om, 1, none⟩ = some (.int .i64 dm.b) ∧ w'.cell? ⟨om, 2, none⟩ = some (.int .i64 dm.c) ∧ w'.cell? ⟨om, 3, none⟩ = some (.slice acm ncm ccm) ∧ w'.cell? ⟨om, 4, none⟩ = some (.slice amm nmm cmm)) ∧ (w'.cell? ⟨on, 0, none⟩ = some (.int .i64 dm.k) ∧ w'.cell? ⟨on, 1, none⟩ = some (.int .i64 dm.b) ∧ w'.cell? ⟨on, 2, none⟩ = some (.int .i64 dm.c) ∧ w'.cell? ⟨on, 3, none⟩ = some (.slice acn ncn ccn) ∧ w'.cell? ⟨on, 4, none⟩ = some (.slice amn nmn cmn)) ∧ (w'.cell? ⟨ol, 0, none⟩ = some (.int .i64 dl.k) ∧ w'.cell? ⟨ol, 1, none⟩ = some (.int .i64 dl.b) ∧ w'.cell? ⟨ol, 2, none⟩ = some (.int .i64 dl.c) ∧ w'.cell? ⟨ol, 3, none⟩ = some (.slice acl ncl ccl) ∧ w'.cell? ⟨ol, 4, none⟩ = some (.slice aml nml cml)) ∧ (w'.cell? ⟨ok, 0, none⟩ = some (.int .i64 dl.k) ∧ w'.cell? ⟨ok, 1, none⟩ = some (.int .i64 dl.b) ∧ w'.cell? ⟨ok, 2, none⟩ = some (.int .i64 dl.c) ∧ w'.cell? ⟨ok, 3, none⟩ = some (.slice ack nck cck) ∧ w'.cell? ⟨ok, 4, none⟩ = some (.slice amk nmk cmk))) (first | exact ⟨q.A.five, q.B.five, q.X.five, q.Y.five, q.M.five, q.N.five, q.L.five, q.K.five⟩ | exact ⟨q0.A.five, q0.B.five, q0.X.five, q0.Y.five, q0.M.five, q0.N.five, q0.L.five, q0.K.five⟩)
      (first
        | (go_at_call 9; refine (fixed_any _).mono ?_; rintro e w' ⟨rfl, c⟩; replace q := q.below c; replace HB := Lib.hid (HB.out.trans (c.mono HB.out.size)); clear c)
        | (go_at_call 12; refine (same_self _ _ _ _ _ _ _ _ _ _ _ _ _ _ (by first | exact q.M.r | exact q.L.r | exact q.A.r | exact q.B.r) (by first | exact q.N.r | exact q.K.r | exact q.X.r | exact q.Y.r) (by first | exact HLA.out.1 | exact HLA.out.2.1 | exact HLA.out.2.2.1 | exact HLA.out.2.2.2)).mono ?_; rintro e w' ⟨rfl, c⟩; replace q := q.below c; replace HB := Lib.hid (HB.out.trans (c.mono HB.out.size)); clear c)
        | (go_at_call 13; refine (hr1 _).mono ?_; rintro e w' ⟨rfl, c⟩; replace q := q.below c; replace HB := Lib.hid (HB.out.trans (c.mono HB.out.size)); clear c)
        | (go_at_call 22; refine (hr2 _).mono ?_; rintro e w' ⟨rfl, c⟩; replace q := q.below c; replace HB := Lib.hid (HB.out.trans (c.mono HB.out.size)); clear c))
    go_wp2_with fail
    go_ret
    exact ⟨rfl, HB.out⟩

set_option maxHeartbeats 2000000 in
theorem joins_great (a b : HD) (aca ama acb amb : Option Addr) (nca cca nma cma ncb ccb nmb cmb : Nat) (w : World) (ha : Reads a aca nca ama nma w) (hb : Reads b acb ncb amb nmb w) (hg : (1000 < nca ∨ 300 < nma) ∨ (1000 < ncb ∨ 300 < nmb)) :
    Calls Try.prog 4 #[.agg #[.int .i64 a.k, .int .i64 a.b, .int .i64 a.c, .slice aca nca cca, .slice ama nma cma], .agg #[.int .i64 b.k, .int .i64 b.b, .int .i64 b.c, .slice acb ncb ccb, .slice amb nmb cmb]] w fun e w' => e = .returned (.bool true) ∧ Below w.heap.size w w' := by
  obtain ⟨W1, hW1⟩ : ∃ W1, w.alloc (.cells #[.int .i64 a.k, .int .i64 a.b, .int .i64 a.c, .slice aca nca cca, .slice ama nma cma] 29) = W1 := ⟨_, rfl⟩
  obtain ⟨va, k1, s1⟩ := HV.new ha hW1
  obtain ⟨W2, hW2⟩ : ∃ W2, W1.alloc (.cells #[.int .i64 b.k, .int .i64 b.b, .int .i64 b.c, .slice acb ncb ccb, .slice amb nmb cmb] 29) = W2 := ⟨_, rfl⟩
  obtain ⟨vb, k2, s2⟩ := HV.new (hb.below k1) hW2
  have HB : Hid (Below w.heap.size w W2) := k1.trans (k2.mono k1.size)
  replace va := va.below k2
  rw [s1] at vb s2
  clear k1 k2 s2
  go_enter Try.func4, Try.ntmps4
  go_upto_region 1 with fail
  clear hW1 hW2 s1
  have gA := fun w => great_any a.k a.b a.c aca ama nca cca nma cma w
  have gB := fun w => great_any b.k b.b b.c acb amb ncb ccb nmb cmb w
  have hg2 : decide (1000 < nca ∨ 300 < nma) = true ∨ decide (1000 < ncb ∨ 300 < nmb) = true := by simpa using hg
  generalize decide (1000 < nca ∨ 300 < nma) = qa at *
  generalize decide (1000 < ncb ∨ 300 < nmb) = qb at *
  have HG := Lib.hid hg2
  have HVB := Lib.hid vb
  clear hg hg2 ha hb vb
  obtain ⟨a0, a1, a2, a3, a4⟩ := va.v.five
  clear va
  go_wp2_with fail
  refine (gA _).mono ?_
  rintro e W4 ⟨rfl, c4⟩
  clear a0 a1 a2 a3 a4 gA
  replace HVB := Lib.hid (HVB.out.below c4)
  replace HB := Lib.hid (HB.out.trans (c4.mono HB.out.size))
  clear c4
  cases qa
  · obtain ⟨b0, b1, b2, b3, b4⟩ := HVB.out.v.five
    obtain rfl : qb = true := by have := HG.out; simpa using this
    clear HG
    go_wp2_with fail
    refine (gB _).mono ?_
    rintro e W5 ⟨rfl, c5⟩
    clear b0 b1 b2 b3 b4 gB HVB
    replace HB := Lib.hid (HB.out.trans (c5.mono HB.out.size))
    clear c5
    go_wp2_with fail
    refine (fixed_any _).mono ?_
    rintro e W7 ⟨rfl, c7⟩
    replace HB := Lib.hid (HB.out.trans (c7.mono HB.out.size))
    clear c7
    go_wp2_with fail
    go_ret
    exact ⟨rfl, HB.out⟩
  · clear HG gB HVB
    go_wp2_with fail
    refine (fixed_any _).mono ?_
    rintro e W7 ⟨rfl, c7⟩
    replace HB := Lib.hid (HB.out.trans (c7.mono HB.out.size))
    clear c7
    go_wp2_with fail
    go_ret
    exact ⟨rfl, HB.out⟩
end Go.Proofs.Ytdpcplhmnpglgaa
