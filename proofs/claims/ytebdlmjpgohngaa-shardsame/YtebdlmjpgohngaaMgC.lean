/-
  Several texts in one: each says what it shows at its head.
-/
import Derived.Test.YtebdlmjpgohngaaMgB
import Derived.Test.YtebdlmjpgohngaaHisH
import Derived.Test.YtebdlmjpgohngaaShC
import Derived.Deep.RegionHeld3
/- A ROW OF HISTOGRAMS, and what they come to together, by the program. Conditions: each number is of 64 bits with a sign; at least one histogram, at most 64. -/
namespace Go.Proofs.Ytebdlmjpgohngaa
open Go.RowKit

/-- A histogram as it lies in a row. -/
structure HR where
  d : HD
  ac : Option Addr
  nc : Nat
  cc : Nat
  am : Option Addr
  nm : Nat
  cm : Nat
def hz : HR := ⟨zD, none, 0, 0, none, 0, 0⟩
def HR.cs (x : HR) : List Value := [.int .i64 x.d.k, .int .i64 x.d.b, .int .i64 x.d.c, .slice x.ac x.nc x.cc, .slice x.am x.nm x.cm]
def rowH (l : List HR) : List Value := l.flatMap HR.cs
theorem rowH_snoc (l : List HR) (x : HR) : rowH (l ++ [x]) = rowH l ++ x.cs := by
  unfold rowH; rw [List.flatMap_append]; simp
theorem rowH_len : ∀ l : List HR, (rowH l).length = l.length * 5
  | [] => rfl
  | x :: r => by
    have := rowH_len r
    show (x.cs ++ rowH r).length = _
    rw [List.length_append, this]
    simp [HR.cs]
    omega
theorem rowH_at : ∀ (l : List HR) (i j : Nat), i < l.length → j < 5 → (rowH l)[i * 5 + j]? = (l.getD i hz).cs[j]?
  | [], i, j, h, _ => absurd h (Nat.not_lt_zero _)
  | x :: r, 0, j, _, hj => by
    show (x.cs ++ rowH r)[0 * 5 + j]? = _
    rw [Nat.zero_mul, Nat.zero_add, List.getElem?_append_left (by simpa [HR.cs] using hj)]
    rfl
  | x :: r, i + 1, j, h, hj => by
    show (x.cs ++ rowH r)[(i + 1) * 5 + j]? = _
    rw [List.getElem?_append_right (by simp [HR.cs]; omega)]
    have e : (i + 1) * 5 + j - x.cs.length = i * 5 + j := by simp [HR.cs]; omega
    rw [e, rowH_at r i j (by simpa using h) hj]
    rfl

/-- A histogram's five cells. -/
structure At5 (g o : Nat) (x : HR) (w : World) : Prop where
  c0 : w.cell? ⟨g, o, none⟩ = some (.int .i64 x.d.k)
  c1 : w.cell? ⟨g, o + 1, none⟩ = some (.int .i64 x.d.b)
  c2 : w.cell? ⟨g, o + 2, none⟩ = some (.int .i64 x.d.c)
  c3 : w.cell? ⟨g, o + 3, none⟩ = some (.slice x.ac x.nc x.cc)
  c4 : w.cell? ⟨g, o + 4, none⟩ = some (.slice x.am x.nm x.cm)
/-- A row of histograms, as it is read. -/
structure RowH (g : Nat) (l : List HR) (B : Nat) (w : World) : Prop where
  lt : g < w.heap.size
  cell : ∀ i, i < l.length → At5 g (i * 5) (l.getD i hz) w
  reads : ∀ i, i < l.length → Reads (l.getD i hz).d (l.getD i hz).ac (l.getD i hz).nc (l.getD i hz).am (l.getD i hz).nm w
  past : ∀ i, i < l.length → Past B (l.getD i hz).ac (l.getD i hz).am
theorem RowH.below {g : Nat} {l : List HR} {B : Nat} {w w' : World} (h : RowH g l B w) (b : Go.RowKit.Below w.heap.size w w') : RowH g l B w' :=
  ⟨Nat.lt_of_lt_of_le h.lt b.size, fun i hi => by
    obtain ⟨a0, a1, a2, a3, a4⟩ := h.cell i hi
    exact ⟨(b.cell (by exact h.lt)).trans a0, (b.cell (by exact h.lt)).trans a1, (b.cell (by exact h.lt)).trans a2, (b.cell (by exact h.lt)).trans a3, (b.cell (by exact h.lt)).trans a4⟩,
    fun i hi => (h.reads i hi).below b, h.past⟩
/-- A row of the call's own is read so. -/
theorem own_row {w : World} {B n : Nat} {v : Value} {l : List HR} {t : TypeId} (h : w.ownsRow B t 5 v n (rowH l)) (hn : 0 < n) :
    ∃ g cap, v = .slice (some ⟨g, 0, none⟩) n cap ∧ l.length = n ∧ n ≤ cap ∧ B ≤ g ∧ g < w.heap.size ∧ ∀ i, i < l.length → At5 g (i * 5) (l.getD i hz) w := by
  obtain ⟨hl, ⟨rfl, h0⟩ | ⟨g, cap, cur, rfl, hB, hg, hc, hm, hs, ht⟩⟩ := h
  · omega
  · rw [rowH_len] at hl
    have hn2 : l.length = n := by omega
    refine ⟨g, cap, rfl, hn2, hc, hB, (Array.getElem?_eq_some_iff.1 hg).1, fun i hi => ?_⟩
    have key : ∀ j, j < 5 → w.cell? ⟨g, i * 5 + j, none⟩ = (l.getD i hz).cs[j]? := by
      intro j hj
      have e : (cur.toList.take (n * 5))[i * 5 + j]? = (rowH l)[i * 5 + j]? := by rw [ht]
      rw [rowH_at l i j hi hj, List.getElem?_take] at e
      have hj3 : i * 5 + j < n * 5 := by omega
      simp only [hj3, if_true, Array.getElem?_toList] at e
      simp only [World.cell?, hg]
      simpa using e
    exact ⟨key 0 (by decide), key 1 (by decide), key 2 (by decide), key 3 (by decide), key 4 (by decide)⟩

/-- No number lies in a block. -/
def NotIn (b : Nat) (d : HD) (ac am : Option Addr) : Prop := (∀ ad, ac = some ad → d.lc ≠ [] → ad.block ≠ b) ∧ (∀ ad, am = some ad → d.lm ≠ [] → ad.block ≠ b)
theorem NotIn.past {b B : Nat} {d : HD} {ac am : Option Addr} (h : Past B ac am) (hb : b < B) : NotIn b d ac am :=
  ⟨fun ad e _ => by have := h.1 ad e; omega, fun ad e _ => by have := h.2 ad e; omega⟩
theorem NotIn.fresh {b : Nat} {d : HD} {ac am : Option Addr} {nc nm : Nat} {w : World} (h : Reads d ac nc am nm w) (hb : w.heap.size ≤ b) : NotIn b d ac am := by
  refine ⟨fun ad e h0 => ?_, fun ad e h0 => ?_⟩
  · rcases h.hc with h1 | ⟨g, off, ha, hlt, -⟩
    · exact absurd h1 h0
    · rw [e] at ha; cases ha; show g ≠ b; omega
  · rcases h.hm with h1 | ⟨g, off, ha, hlt, -⟩
    · exact absurd h1 h0
    · rw [e] at ha; cases ha; show g ≠ b; omega
theorem HoldsE.butE {w w' : World} {b : Nat} {a : Option Addr} {l : List Int} (h : HoldsE KL w a l) (hb : But b w w') (hn : ∀ ad, a = some ad → l ≠ [] → ad.block ≠ b) : HoldsE KL w' a l := by
  by_cases h0 : l = []
  · exact .inl h0
  · exact h.but hb (fun ad e => hn ad e h0)
theorem Reads.butE {d : HD} {ac am : Option Addr} {nc nm b : Nat} {w w' : World} (h : Reads d ac nc am nm w) (n : NotIn b d ac am) (hb : But b w w') : Reads d ac nc am nm w' :=
  ⟨h.nc, h.nm, h.hc.butE hb n.1, h.hm.butE hb n.2, h.wc, h.wm⟩

/-- What histograms come to together; the error's number. -/
def mergeF : HD → List HD → HD × Int
  | D, [] => (D, 0)
  | D, d :: r => if bothE plusW D d = 0 then mergeF (bothD plusW D d) r else (zD, bothE plusW D d)
theorem mergeF_at (L : List HD) (t : Nat) (ht : t < L.length) (D : HD) :
    mergeF D (L.drop t) = if bothE plusW D (L.getD t zD) = 0 then mergeF (bothD plusW D (L.getD t zD)) (L.drop (t + 1)) else (zD, bothE plusW D (L.getD t zD)) := by
  rw [List.drop_eq_getElem_cons ht, List.getD_eq_getElem?_getD, List.getElem?_eq_getElem ht]
  rfl
/-- A histogram is handed back, whose numbers lie past a place. -/
def MadeAt (B : Nat) (d : HD) (err : Int) (w : World) (e : Ending) (w' : World) : Prop := ∃ v, e = .returned (.tuple #[v, .int .i64 err]) ∧ Is B d w' v ∧ Below w.heap.size w w'

theorem tail_run (g n cap m : Nat) (hn : m + 1 = n) :
    ∃ a2 c2, (∀ w, (Instr.slice 67 (.slice (some ⟨g, 0, none⟩) n cap) (some (.int .i64 1)) none none).run Try.prog w = .ok (.slice a2 m c2) w) ∧ (m ≠ 0 → n ≤ cap → a2 = some ⟨g, 5, none⟩) := by
  subst hn
  have hsz : ∀ w, (sizeOf 45).run Try.prog w = .ok 5 w := fun w => by go_simp
  have hel : Try.prog.elem 67 = 45 := by unfold Program.elem; rw [Try.underlying67]
  have hrun := fun w => run_slice_l (P := Try.prog) (w := w) 67 (some ⟨g, 0, none⟩) (m + 1) cap (by rw [hel]; exact Try.underlying67) .i64 (1 : Int) (by omega) (by omega)
  rw [hel] at hrun
  by_cases h1 : cap = 1
  · refine ⟨some ⟨g, 0, none⟩, cap - 1, fun w => ?_, fun h h2 => by omega⟩
    rw [hrun w, hsz w]
    simp [Result.andThen, sliced, h1]
  · refine ⟨some ⟨g, 5, none⟩, cap - 1, fun w => ?_, fun _ _ => rfl⟩
    rw [hrun w, hsz w]
    simp [Result.andThen, sliced, h1, Addr.add]

set_option maxRecDepth 20000 in
set_option maxHeartbeats 4000000 in
theorem merged_any (B g n cap m : Nat) (hm : m + 1 = n) (hc : n ≤ cap) (hn : n ≤ 64) (l : List HR) (hl : l.length = n) (w : World) (h : RowH g l B w) (hB : B ≤ w.heap.size) (DD : HD) (EE : Int)
    (hD : mergeF (l.getD 0 hz).d ((l.map HR.d).drop 1) = (DD, EE)) :
    Calls Try.prog 27 #[.slice (some ⟨g, 0, none⟩) n cap] w fun e w' => MadeAt B DD EE w e w' := by
  obtain ⟨a2, c2, hrun, ha2⟩ := tail_run g n cap m hm
  have hAt := fun t ht D => mergeF_at (l.map HR.d) t ht D
  have hLen : (l.map HR.d).length = n := by simp [hl]
  have hGet : ∀ t, t < n → (l.map HR.d).getD t zD = (l.getD t hz).d := fun t ht => by
    rw [List.getD_eq_getElem?_getD, List.getD_eq_getElem?_getD, List.getElem?_map, List.getElem?_eq_getElem (by omega)]
    rfl
  generalize l.map HR.d = L at *
  have HNil : Hid (∀ D, mergeF D [] = (D, 0)) := fun D => rfl
  obtain ⟨mF, hmF⟩ : ∃ f, mergeF = f := ⟨_, rfl⟩
  rw [hmF] at hD HNil
  have HAt : Hid (∀ t (ht : t < L.length) D, mF D (L.drop t) = if bothE plusW D (L.getD t zD) = 0 then mF (bothD plusW D (L.getD t zD)) (L.drop (t + 1)) else (zD, bothE plusW D (L.getD t zD))) := by rw [← hmF]; exact hAt
  clear hmF hAt
  have HG := Lib.hid hGet
  have HLEN := Lib.hid hLen
  have HDE := Lib.hid hD
  have HROW := Lib.hid h
  have HM := Lib.hid (And.intro hm (And.intro hc (And.intro hn hB)))
  have HL := Lib.hid hl
  have HA2 : Hid (m ≠ 0 → a2 = some ⟨g, 5, none⟩) := fun h0 => ha2 h0 hc
  obtain ⟨f0, f1, f2, f3, f4⟩ := h.cell 0 (by omega)
  have hr0 := h.reads 0 (by omega)
  have hp0 := h.past 0 (by omega)
  simp only [Nat.zero_mul, Nat.zero_add] at f0 f1 f2 f3 f4
  generalize l.getD 0 hz = x at *
  obtain ⟨d, ac, nc, cc, am, nm, cm⟩ := x
  simp only at *
  have i0 : (0 : Int) < (n : Int) := by omega
  have i1 : (1 : Int) ≤ (n : Int) := by omega
  obtain ⟨w1, hw1⟩ : ∃ w1, w.alloc (.cells #[.int .i64 0, .int .i64 0, .int .i64 0, .slice none 0 0, .slice none 0 0] 45) = w1 := ⟨_, rfl⟩
  have hV1 : VarH w.heap.size 0 0 0 (.slice none 0 0) (.slice none 0 0) w1 := by rw [← hw1]; exact VarH.new _ _ _ _ _ _ _
  have hb1 : Below w.heap.size w w1 := by rw [← hw1]; exact alloc_below _ _
  have s1 : w1.heap.size = w.heap.size + 1 := by rw [← hw1]; simp
  have hg1 := h.lt
  replace f0 := (hb1.cell (by exact hg1)).trans f0
  replace f1 := (hb1.cell (by exact hg1)).trans f1
  replace f2 := (hb1.cell (by exact hg1)).trans f2
  replace f3 := (hb1.cell (by exact hg1)).trans f3
  replace f4 := (hb1.cell (by exact hg1)).trans f4
  clear hD hGet hLen h hm hc hn hl hg1 ha2 hB
  go_enter Try.func27, Try.ntmps27
  go_upto_region 1 with fail
  clear hw1
  go_upto_region 2 with fail
  obtain ⟨w2, hw2⟩ : ∃ w2, w1.alloc (.cells #[.int .i64 d.k, .int .i64 d.b, .int .i64 d.c, .slice ac nc cc, .slice am nm cm] 45) = w2 := ⟨_, rfl⟩
  have hV2 : VarH w1.heap.size d.k d.b d.c (.slice ac nc cc) (.slice am nm cm) w2 := by rw [← hw2]; exact VarH.new _ _ _ _ _ _ _
  have hb2 : Below w1.heap.size w1 w2 := by rw [← hw2]; exact alloc_below _ _
  rw [hw2]
  rw [s1] at hV2
  have HB := Lib.hid (hb1.trans (hb2.mono hb1.size))
  have HV := Lib.hid (hV1.below hb2 hV1.lt)
  have HW := Lib.hid hV2
  have HR := Lib.hid (hr0.below HB.out)
  have HN : Hid (NotIn (w.heap.size + 1) d ac am ∧ NotIn w.heap.size d ac am) := ⟨NotIn.fresh hr0 (by omega), NotIn.fresh hr0 (by omega)⟩
  have HP := Lib.hid hp0
  have HS : Hid (w1.heap.size = w.heap.size + 1) := s1
  clear hw2 hV1 hV2 hb1 hb2 hr0 hp0 f0 f1 f2 f3 f4
  clear s1
  go_wp2_with fail
  go_loopw [15] (fun iv wr => ∃ (j : Nat) (D : HD) (ac : Option Addr) (nc cc : Nat) (am : Option Addr) (nm cm : Nat), j ≤ m ∧ iv = .int .i64 (j : Int) ∧ Hid (VarH (w.heap.size + 1) D.k D.b D.c (.slice ac nc cc) (.slice am nm cm) wr) ∧ Hid (Reads D ac nc am nm wr) ∧
    Hid (NotIn (w.heap.size + 1) D ac am ∧ NotIn w.heap.size D ac am) ∧ Hid (Past B ac am) ∧ Hid (Below w.heap.size w wr) ∧ Hid (VarH w.heap.size 0 0 0 (.slice none 0 0) (.slice none 0 0) wr) ∧ Hid (mF D (L.drop (j + 1)) = (DD, EE))) (fun iv _ => m - (intOf iv).toNat)
  case atStart => exact ⟨0, d, _, _, _, _, _, _, Nat.zero_le _, rfl, HW, HR, HN, HP, HB, HV, HDE⟩
  case round =>
    clear HW HR HN HP HB HV HDE
    obtain ⟨j, D, ac, nc, cc, am, nm, cm, ht, rfl, HW, HR, HN, HP, HB, HV, HDE⟩ := hrel
    by_cases hlt : j < m
    · have hlt2 : (j : Int) < (m : Int) := by omega
      obtain rfl := HA2.out (by omega)
      have HT := Lib.hid hlt
      have HNX := Lib.hid (next_num hlt (by have := HM.out; omega))
      have hst := HAt.out (j + 1) (by have := HLEN.out; have := HM.out; omega) D
      rw [HDE.out, HG.out (j + 1) (by have := HM.out; omega)] at hst
      have hrow := HROW.out.below HB.out
      obtain ⟨f0, f1, f2, f3, f4⟩ := hrow.cell (j + 1) (by have := HL.out; have := HM.out; omega)
      have hr2 := hrow.reads (j + 1) (by have := HL.out; have := HM.out; omega)
      rw [show (j + 1) * 5 = 5 + j * 5 by omega] at f0 f1 f2 f3 f4
      generalize l.getD (j + 1) hz = x at *
      obtain ⟨d', ac', nc', cc', am', nm', cm'⟩ := x
      simp only at *
      obtain ⟨E2, hE2⟩ : ∃ E2, bothE plusW D d' = E2 := ⟨_, rfl⟩
      obtain ⟨D2, hD2⟩ : ∃ D2, bothD plusW D d' = D2 := ⟨_, rfl⟩
      rw [hE2, hD2] at hst
      have HST := Lib.hid hst
      have HRR := Lib.hid hr2
      clear hst hlt ht hr2 hrow
      go_upto_region 5 with fail
      obtain ⟨w6, hw6⟩ : ∃ w6, wr.alloc (.cells #[.int .i64 d'.k, .int .i64 d'.b, .int .i64 d'.c, .slice ac' nc' cc', .slice am' nm' cm'] 45) = w6 := ⟨_, rfl⟩
      have hN6 : VarH wr.heap.size d'.k d'.b d'.c (.slice ac' nc' cc') (.slice am' nm' cm') w6 := by rw [← hw6]; exact VarH.new _ _ _ _ _ _ _
      have hb6 : Below wr.heap.size wr w6 := by rw [← hw6]; exact alloc_below _ _
      rw [hw6]
      replace HB := Lib.hid (HB.out.trans (hb6.mono HB.out.size))
      replace HV := Lib.hid (HV.out.below hb6 HV.out.lt)
      replace HW := Lib.hid (HW.out.below hb6 HW.out.lt)
      have hM := merge_any D d' ac am ac' am' nc cc nm cm nc' cc' nm' cm' w6 (HR.out.below hb6) (HRR.out.below hb6)
      rw [hE2, hD2] at hM
      clear hw6 hb6 f0 f1 f2 f3 f4 HR HRR HN HP hE2 hD2
      obtain ⟨v0, v1, v2, v3, v4⟩ := HW.out.five
      obtain ⟨x0, x1, x2, x3, x4⟩ := hN6.five
      go_wp2_with fail
      refine hM.mono ?_
      rintro e w7 ⟨v, rfl, ⟨ac2, nc2, cc2, am2, nm2, cm2, rfl, hR2, hP2⟩, b7⟩
      clear hM v0 v1 v2 v3 v4 x0 x1 x2 x3 x4 hN6
      have hsz := HW.out.lt
      replace HB := Lib.hid (HB.out.trans (b7.mono HB.out.size))
      replace HV := Lib.hid (HV.out.below b7 HV.out.lt)
      replace HW := Lib.hid (HW.out.below b7 HW.out.lt)
      go_upto_region 6 with fail
      obtain ⟨w8, hw8⟩ : ∃ w8, w7.alloc (.cells #[.int .i64 D2.k, .int .i64 D2.b, .int .i64 D2.c, .slice ac2 nc2 cc2, .slice am2 nm2 cm2] 45) = w8 := ⟨_, rfl⟩
      have hN8 : VarH w7.heap.size D2.k D2.b D2.c (.slice ac2 nc2 cc2) (.slice am2 nm2 cm2) w8 := by rw [← hw8]; exact VarH.new _ _ _ _ _ _ _
      have hb8 : Below w7.heap.size w7 w8 := by rw [← hw8]; exact alloc_below _ _
      rw [hw8]
      replace HB := Lib.hid (HB.out.trans (hb8.mono HB.out.size))
      replace HV := Lib.hid (HV.out.below hb8 HV.out.lt)
      replace HW := Lib.hid (HW.out.below hb8 HW.out.lt)
      have HR2 := Lib.hid (hR2.below hb8)
      have HN2 : Hid (NotIn (w.heap.size + 1) D2 ac2 am2 ∧ NotIn w.heap.size D2 ac2 am2) := ⟨NotIn.past hP2 (by omega), NotIn.past hP2 (by omega)⟩
      have HP2 : Hid (Past B ac2 am2) := ⟨fun ad e => by have := hP2.1 ad e; have := HM.out; omega, fun ad e => by have := hP2.2 ad e; have := HM.out; omega⟩
      have HN8 := Lib.hid hN8
      clear hw8 hb8 hR2 hP2 hN8 b7 hsz
      by_cases h0 : E2 = 0
      · have e1 : (E2 != 0) = false := by simpa using h0
        have hst := HST.out
        rw [if_pos h0] at hst
        have HD2 := Lib.hid hst.symm
        clear h0 HST hst
        obtain ⟨x0, x1, x2, x3, x4⟩ := HN8.out.five
        obtain ⟨v0, v1, v2, v3, v4⟩ := HW.out.five
        obtain ⟨y0, y1, y2, y3, y4⟩ := HW.out.soft
        have HBT := set5_but w8 (w.heap.size + 1) (.int .i64 D2.k) (.int .i64 D2.b) (.int .i64 D2.c) (.slice ac2 nc2 cc2) (.slice am2 nm2 cm2)
        have HWN := Lib.hid (HW.out.set D2.k D2.b D2.c (.slice ac2 nc2 cc2) (.slice am2 nm2 cm2))
        have HRN := Lib.hid (HR2.out.butE HN2.out.1 HBT)
        have HBN := Lib.hid (HB.out.trans (HBT.below (by omega) HB.out.size))
        have HVN := Lib.hid (HV.out.but HBT (by omega))
        clear HBT
        go_wp2_with fail
        go_roundw
        case rel => exact ⟨j + 1, D2, _, _, _, _, _, _, HT.out, congrArg (Value.int .i64) HNX.out.1, HWN, HRN, HN2, HP2, HBN, HVN, HD2⟩
        case measure => exact HNX.out.2
      · have e1 : (E2 != 0) = true := by simpa using h0
        have hst := HST.out
        rw [if_neg h0] at hst
        obtain ⟨rfl, rfl⟩ : DD = zD ∧ EE = E2 := by cases hst; exact ⟨rfl, rfl⟩
        clear h0 HST hst HR2 HN2 HP2 HN8
        obtain ⟨r0, r1, r2, r3, r4⟩ := HV.out.five
        obtain ⟨y0, y1, y2, y3, y4⟩ := HV.out.soft
        go_wp2_with fail
        obtain ⟨z0, z1, z2, z3, z4⟩ := (HV.out.set 0 0 0 (.slice none 0 0) (.slice none 0 0)).five
        have HBW := set5_below (g := w.heap.size) (x0 := .int .i64 0) (x1 := .int .i64 0) (x2 := .int .i64 0) (x3 := .slice none 0 0) (x4 := .slice none 0 0) HB.out (by omega)
        change bodyPost _ _ _ _ _ (set5 w8 w.heap.size (.int .i64 0) (.int .i64 0) (.int .i64 0) (.slice none 0 0) (.slice none 0 0))
        generalize set5 w8 w.heap.size (.int .i64 0) (.int .i64 0) (.int .i64 0) (.slice none 0 0) (.slice none 0 0) = WX at *
        simp [bodyPost, results, Try.results27, go_sem, z0, z1, z2, z3, z4]
        exact ⟨_, rfl, Is.zero _ _, HBW⟩
    · have hlt2 : ¬ (j : Int) < (m : Int) := by omega
      obtain rfl : j = m := by omega
      have hst := HDE.out
      rw [List.drop_of_length_le (by have := HLEN.out; have := HM.out; omega), HNil.out] at hst
      obtain ⟨rfl, rfl⟩ : DD = D ∧ EE = 0 := by cases hst; exact ⟨rfl, rfl⟩
      have HR6 := Lib.hid (fun W' (b : But w.heap.size wr W') => HR.out.butE HN.out.2 b)
      obtain ⟨v0, v1, v2, v3, v4⟩ := HW.out.five
      obtain ⟨r0, r1, r2, r3, r4⟩ := HV.out.five
      clear hlt ht hst HDE HAt HNil
      obtain ⟨y0, y1, y2, y3, y4⟩ := HV.out.soft
      go_wp2_with fail
      obtain ⟨z0, z1, z2, z3, z4⟩ := (HV.out.set DD.k DD.b DD.c (.slice ac nc cc) (.slice am nm cm)).five
      have HBW := set5_below (g := w.heap.size) (x0 := .int .i64 DD.k) (x1 := .int .i64 DD.b) (x2 := .int .i64 DD.c) (x3 := (.slice ac nc cc)) (x4 := (.slice am nm cm)) HB.out (by omega)
      have HBT := set5_but wr w.heap.size (.int .i64 DD.k) (.int .i64 DD.b) (.int .i64 DD.c) (.slice ac nc cc) (.slice am nm cm)
      change bodyPost _ _ _ _ _ (set5 wr w.heap.size (.int .i64 DD.k) (.int .i64 DD.b) (.int .i64 DD.c) (.slice ac nc cc) (.slice am nm cm))
      generalize set5 wr w.heap.size (.int .i64 DD.k) (.int .i64 DD.b) (.int .i64 DD.c) (.slice ac nc cc) (.slice am nm cm) = WX at *
      simp [bodyPost, results, Try.results27, go_sem, z0, z1, z2, z3, z4]
      exact ⟨_, rfl, ⟨_, _, _, _, _, _, rfl, HR6.out _ HBT, HP.out⟩, HBW⟩
end Go.Proofs.Ytebdlmjpgohngaa

/- A DRAWN REGION IN A ROUND of a range over a function goes as it does outside, if no operation defers a call. No condition. -/
namespace Go.Proofs.Ytebdlmjpgohngaa
open Go.RowKit

section
variable {P : Program} {md : Region.Mode} {ops : Array Oper} {Q : Exit → Act → World → Prop} {S : World → Prop} {l n : Nat}
theorem rowsIn_round {row : String} {args : Array Value} {w : World} {R : Value → World → Prop} {k : Nat} (h : Go.Rows P row args w R) : Go.RowsIn (Fence.wide.inRound l) k P row args w R :=
  fun c cs _ => let ⟨v, w', r, s⟩ := h c cs; ⟨v, w', r, stepsIn_wide.2 s⟩
theorem wpIn_round {o : Oper} {a : Act} {w : World} {K K' : Act → World → Prop} (hd : ∀ c, o.op ≠ .defer c) (hK : ∀ a w, K a w → K' a w) (h : o.wp P a w K Q) : o.wpIn (Fence.wide.inRound l) n P a w K' Q := by
  unfold Oper.wp at h
  unfold Oper.wpIn
  refine ⟨fun _ _ => trivial, ?_⟩
  rw [Oper.semAt_eq _ _ _ hd]
  generalize (execOp a.eval o).run P w = r at *
  cases r with
  | ok x w' =>
    cases x <;> simp only [Oper.upon, Oper.uponIn] at h ⊢ <;>
      first
        | exact hK _ _ h
        | exact ⟨fun q => (by cases q), CallsIn.mono (callsIn_wide.2 h) (fun e w'' he => by cases e <;> first | exact hK _ _ he | exact he)⟩
        | exact ⟨fun q => (by cases q), rowsIn_round (Go.Rows.mono h (fun _ _ he => hK _ _ he))⟩
  | halt x w' => cases x <;> simp only [Oper.upon, Oper.uponIn] at h ⊢ <;> exact h
theorem wpAnyIn_round (hd : ∀ (i : Nat) (o : Oper), ops[i]? = some o → ∀ c, o.op ≠ .defer c) (hO : ∀ a w, ¬ Q .outgrown a w) : ∀ (fuel : Nat) (listed : Array Bool) (a : Act) (w : World), wpAnyH P md ops Q S fuel listed a w → wpAnyIn (Fence.wide.inRound l) n P md ops Q fuel listed a w
  | 0, _, _, _, h => h
  | fuel + 1, listed, a, w, h => by
    refine ⟨h.1, fun i hi => ?_⟩
    have h2 := h.2 i hi
    unfold wpOp at h2
    unfold wpOpIn
    cases ho : ops[i]? with
    | none => simp only [ho] at h2; exact wpAnyIn_round hd hO fuel _ _ _ h2.2
    | some o =>
      simp only [ho] at h2 ⊢
      by_cases hw : Region.wanted o (yielded ops a.tmps) = true
      · simp only [hw, if_true] at h2 ⊢
        rcases h2 with h2 | ⟨-, a', w', h2⟩
        · exact wpIn_round (hd i o ho) (fun a w h => wpAnyIn_round hd hO fuel _ a w h.2) h2
        · exact absurd h2 (hO a' w')
      · simp only [hw, if_false, Bool.false_eq_true] at h2 ⊢
        exact ⟨fun _ _ => trivial, wpAnyIn_round hd hO fuel _ _ _ h2.2⟩
/-- THE BEGINNING. -/
theorem region_round {id : Nat} {a : Act} {w : World} {L : List Oper} (hm : P.follows .mixedOrders = true) (hd : L.all (fun o => match o.op with | .defer _ => false | _ => true) = true) (hO : ∀ a w, ¬ Q .outgrown a w) (hS : S w.drew)
    (h : S w.drew → wpAnyH P .any L.toArray Q S L.toArray.size (Array.replicate L.toArray.size false) a w.drew) : (Code.region id L.toArray true).wpIn (Fence.wide.inRound l) n P Q a w :=
  wpIn_region_any hm (wpAnyIn_round (fun i o ho c e => by
    have hmem : o ∈ L := by
      have : L[i]? = some o := by simpa using ho
      exact List.mem_of_getElem? this
    have := List.all_eq_true.1 hd o hmem
    rw [e] at this
    cases this) hO _ _ _ _ (h hS))
end
end Go.Proofs.Ytebdlmjpgohngaa

/- PARTS OF ROWS: the rows of a part; the first error of parts; what a loop over parts keeps. Conditions: each number is of 64 bits with a sign. -/
namespace Go.Proofs.Ytebdlmjpgohngaa
open Go.RowKit Go.Shelf

/-- The rows of a part. -/
def partF (f : Nat → Nat) (rows : List Int) (i : Nat) : List Int := (rows.drop (f i)).take (f (i + 1) - f i)
/-- The first error. -/
def errF (he : Nat → Int) : List Nat → Int
  | [] => 0
  | x :: r => if he x = 0 then errF he r else he x
theorem errF_none {he : Nat → Int} : ∀ {l : List Nat}, (∀ i ∈ l, he i = 0) → errF he l = 0
  | [], _ => rfl
  | x :: r, h => by
    show (if he x = 0 then errF he r else he x) = 0
    rw [if_pos (h x (by simp))]
    exact errF_none fun i hi => h i (by simp [hi])
theorem errF_first {he : Nat → Int} {x : Nat} (hx : he x ≠ 0) : ∀ {pre l : List Nat}, (pre ++ [x]) <+: l → (∀ i ∈ pre, he i = 0) → errF he l = he x
  | [], l, ⟨t, e⟩, _ => by
    subst e
    show (if he x = 0 then _ else he x) = he x
    exact if_neg hx
  | y :: r, l, ⟨t, e⟩, h => by
    subst e
    show (if he y = 0 then errF he (r ++ [x] ++ t) else he y) = he x
    rw [if_pos (h y (by simp))]
    exact errF_first hx ⟨t, rfl⟩ fun i hi => h i (by simp [hi])
/-- A sample's histogram, merged of so many parts; the error's number. -/
def partsG (hd : Nat → HD) (he : Nat → Int) (k : Nat) : HD × Int :=
  if k = 0 then (zD, 1) else if errF he (List.range k) = 0 then mergeF (hd 0) (((List.range k).map hd).drop 1) else (zD, errF he (List.range k))
def partsF (s : SD) (col : Int) (rows : List Int) (p : Int) : HD × Int :=
  partsG (fun i => (histF s col (partF (cutF rows.length p.toNat) rows i)).1) (fun i => (histF s col (partF (cutF rows.length p.toNat) rows i)).2) (partsK (rows.length : Int) p)

/-- The rows of a part, as they are cut from a slice. -/
theorem part_runN (a : Option Addr) (n cap m m2 : Nat) (l : List Int) (hl : l.length = n) (hle : m2 ≤ n) (hm : m ≤ m2) (hc : n ≤ cap) (ha : a = none → cap = 0) :
    ∃ a2 c2, (∀ w, (Instr.slice 36 (.slice a n cap) (some (.int .i64 (m : Int))) (some (.int .i64 (m2 : Int))) none).run Try.prog w = .ok (.slice a2 (m2 - m) c2) w) ∧ (∀ w, HoldsE KN w a l → HoldsE KN w a2 ((l.drop m).take (m2 - m))) := by
  obtain ⟨r, hr0⟩ : ∃ r, m2 - m = r := ⟨_, rfl⟩
  obtain rfl : m2 = m + r := by omega
  rw [hr0]
  have hr : ((m : Int) + (r : Int)).toNat - m = r := by omega
  have hsz : ∀ w, (sizeOf 3).run Try.prog w = .ok 1 w := fun w => by go_simp
  have hel : Try.prog.elem 36 = 3 := by unfold Program.elem; rw [Try.underlying36]
  have hrun := fun w => run_slice_lh (P := Try.prog) (w := w) 36 a n cap (by rw [hel]; exact Try.underlying36) .i64 .i64 (m : Int) ((m + r : Nat) : Int) (by omega) (by omega) (by omega)
  rw [hel] at hrun
  cases a with
  | none =>
    have h0 := ha rfl
    refine ⟨none, cap - m, fun w => ?_, fun w h => ?_⟩
    · rw [hrun w, hsz w]
      simp [Result.andThen, sliced, hr]
    · rcases h with rfl | ⟨_, _, h, _⟩
      · exact .inl (by simp)
      · cases h
  | some ad =>
    by_cases hcm : cap = m
    · refine ⟨some ad, cap - m, fun w => ?_, fun w h => .inl ?_⟩
      · rw [hrun w, hsz w]
        simp [Result.andThen, sliced, hr, hcm]
      · have : r = 0 := by omega
        subst this
        simp
    · refine ⟨some (ad.add m), cap - m, fun w => ?_, fun w h => ?_⟩
      · rw [hrun w, hsz w]
        simp [Result.andThen, sliced, hr, hcm]
      · rcases h with rfl | ⟨b, o, e, hlt, hcell⟩
        · exact .inl (by simp)
        · cases e
          refine .inr ⟨b, o + m, by simp [Addr.add], hlt, fun j hj => ?_⟩
          simp only [List.length_take, List.length_drop] at hj
          have := hcell (m + j) (by omega)
          have e : ((l.drop m).take r).getD j KN.z = l.getD (m + j) KN.z := by
            simp only [List.getD_eq_getElem?_getD, List.getElem?_take, List.getElem?_drop]
            rw [if_pos (by omega)]
          rw [Nat.add_assoc, this, e]

theorem infoH : (Try.prog.info? 45).map (fun i => (i.zero, i.size, i.bytes)) = some (some (.agg #[.int .i64 0, .int .i64 0, .int .i64 0, .slice none 0 0, .slice none 0 0]), 5, 72) := by kernel_rfl

/-- What is read is kept by a loop's machinery. -/
theorem HoldsE.owned {a : Option Addr} {l : List Int} {W W' : World} {row : Option Nat} (h : HoldsE KL W a l) (hg : W.grownBy W' row) (hrow : ∀ r, row = some r → ∃ o : Obj, W.heap[r]? = some o ∧ o.isCells = false) : HoldsE KL W' a l := by
  rcases h with h | ⟨g, off, ha, hlt, hr⟩
  · exact .inl h
  · exact .inr ⟨g, off, ha, Nat.lt_of_lt_of_le hlt hg.size, fun j hj => cell_kept (hr j hj) hg hrow⟩
theorem Reads.owned {d : HD} {ac am : Option Addr} {nc nm : Nat} {W W' : World} {row : Option Nat} (h : Reads d ac nc am nm W) (hg : W.grownBy W' row) (hrow : ∀ r, row = some r → ∃ o : Obj, W.heap[r]? = some o ∧ o.isCells = false) : Reads d ac nc am nm W' :=
  ⟨h.nc, h.nm, h.hc.owned hg hrow, h.hm.owned hg hrow, h.wc, h.wm⟩
/-- What is read is kept where another row grows. -/
theorem HoldsE.grown {a : Option Addr} {l : List Int} {W W' : World} {row : Option Nat} (h : HoldsE KL W a l) (hg : W.grownBy W' row) (hn : ∀ b, row = some b → ∀ ad, a = some ad → l ≠ [] → ad.block ≠ b) : HoldsE KL W' a l := by
  by_cases h0 : l = []
  · exact .inl h0
  · rcases h with h | ⟨g, off, ha, hlt, hr⟩
    · exact absurd h h0
    · exact .inr ⟨g, off, ha, Nat.lt_of_lt_of_le hlt hg.size, fun j hj => (World.cell?_of_block (hg.block g hlt (fun e => hn g e.symm _ ha h0 rfl))).trans (hr j hj)⟩
theorem Reads.grown {d : HD} {ac am : Option Addr} {nc nm : Nat} {W W' : World} {row : Option Nat} (h : Reads d ac nc am nm W) (hg : W.grownBy W' row) (hn : ∀ b, row = some b → NotIn b d ac am) : Reads d ac nc am nm W' :=
  ⟨h.nc, h.nm, h.hc.grown hg (fun b e => (hn b e).1), h.hm.grown hg (fun b e => (hn b e).2), h.wc, h.wm⟩
end Go.Proofs.Ytebdlmjpgohngaa
