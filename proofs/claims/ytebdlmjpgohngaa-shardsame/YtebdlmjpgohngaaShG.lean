/-
  SAMPLES: a sample as a value, and a block that holds one; whether it is right, by the program and by the document. Condition: at most 2^20 cells, targets, weights.
-/
import Derived.Test.YtebdlmjpgohngaaShD
import Derived.Test.YtebdlmjpgohngaaHisN
import Derived.Test.YtebdlmjpgohngaaRefCheck
import Derived.BigQuiet
namespace Go.Proofs.Ytebdlmjpgohngaa
open Go.RowKit

/-- What a sample says. -/
structure SD where
  k : Int
  c : Int
  b : Int
  t : Int
  d : Int
  l : Int
  p : Int
  r : Int
  q : Int
  C : List Int
  T : List Int
  W : List Int
/-- A sample's cells. -/
def smpA (k c b t d l p r q : Int) (vC vT vW : Value) : Array Value := #[.int .i64 k, .int .i64 c, .int .i64 b, .int .i64 t, .int .i64 d, .int .i64 l, .int .i64 p, .int .i64 r, .int .i64 q, vC, vT, vW]
/-- Is it right? -/
def rightS (s : SD) : Bool := decide (chk s.k s.c s.b s.t s.d s.l s.p = 0 ∧ fitB s.r s.q s.C.length = true ∧ (s.T.length : Int) = s.r ∧ (s.W.length : Int) = s.r)
/-- A block holds a sample. -/
def BoxS (W : World) (B : Nat) (A : Array Value) : Prop := W.heap[B]? = some (.cells A 38 (0, 0))
theorem BoxS.lt {W : World} {B : Nat} {A : Array Value} (h : BoxS W B A) : B < W.heap.size := (Array.getElem?_eq_some_iff.1 h).1
theorem BoxS.new (W : World) (A : Array Value) : BoxS (W.alloc (.cells A 38)) W.heap.size A := World.alloc_heap_new W _
theorem BoxS.below {W W' : World} {B D : Nat} {A : Array Value} (h : BoxS W B A) (b : Go.RowKit.Below D W W') (hB : B < D) : BoxS W' B A := (b.block B hB).trans h
theorem BoxS.on {W W' : World} {B : Nat} {A : Array Value} (h : BoxS W B A) (b : Go.RowKit.Below W.heap.size W W') : BoxS W' B A := h.below b h.lt
theorem BoxS.kept {W W' : World} {B : Nat} {A : Array Value} (h : BoxS W B A) (hb : W'.heap[B]? = W.heap[B]?) : BoxS W' B A := hb.trans h
theorem BoxS.drew {W : World} {B : Nat} {A : Array Value} (h : BoxS W B A) : BoxS W.drew B A := h
theorem BoxS.drewN {W : World} {B : Nat} {A : Array Value} (h : BoxS W B A) (n : Nat) : BoxS (W.drewN n) B A := h
theorem boxS_own (B : Nat) (A : Array Value) : Go.Own (fun (_ : Unit) W => BoxS W B A) := fun s X Y row hs hg hrow => by
  refine (hg.block B hs.lt (fun e' => ?_)).trans hs
  obtain ⟨o, ho, hc⟩ := hrow B e'.symm
  rw [show X.heap[B]? = _ from hs] at ho; cases ho; cases hc
/-- The twelve cells. -/
theorem BoxS.cells {W : World} {B : Nat} {k c b t d l p r q : Int} {vC vT vW : Value} (h : BoxS W B (smpA k c b t d l p r q vC vT vW)) :
    (W.cell? ⟨B, 0, none⟩ = some (.int .i64 k) ∧ W.cell? ⟨B, 1, none⟩ = some (.int .i64 c) ∧ W.cell? ⟨B, 2, none⟩ = some (.int .i64 b) ∧ W.cell? ⟨B, 3, none⟩ = some (.int .i64 t) ∧ W.cell? ⟨B, 4, none⟩ = some (.int .i64 d) ∧ W.cell? ⟨B, 5, none⟩ = some (.int .i64 l) ∧ W.cell? ⟨B, 6, none⟩ = some (.int .i64 p)) ∧
    (W.cell? ⟨B, 7, none⟩ = some (.int .i64 r) ∧ W.cell? ⟨B, 8, none⟩ = some (.int .i64 q) ∧ W.cell? ⟨B, 9, none⟩ = some vC) ∧ W.cell? ⟨B, 10, none⟩ = some vT ∧ W.cell? ⟨B, 11, none⟩ = some vW := by
  have hh : W.heap[B]? = _ := h
  simp [World.cell?, hh, smpA]

section
variable (k c b t d l p r q : Int) (aC aT aW : Option Addr) (nC cC nT cT nW cW : Nat)

set_option maxRecDepth 20000 in
set_option maxHeartbeats 1000000 in
theorem rightS_any (w : World) :
    Calls Try.prog 16 #[.agg (smpA k c b t d l p r q (.slice aC nC cC) (.slice aT nT cT) (.slice aW nW cW))] w fun e w' =>
      e = .returned (.bool (decide (chk k c b t d l p = 0 ∧ fitB r q nC = true ∧ (nT : Int) = r ∧ (nW : Int) = r))) ∧ Go.RowKit.Below w.heap.size w w' := by
  have hbx := BoxS.new w (smpA k c b t d l p r q (.slice aC nC cC) (.slice aT nT cT) (.slice aW nW cW))
  have hb0 := alloc_below w (.cells (smpA k c b t d l p r q (.slice aC nC cC) (.slice aT nT cT) (.slice aW nW cW)) 38)
  unfold smpA
  obtain ⟨w1, hw1⟩ : ∃ w1, w.alloc (.cells (smpA k c b t d l p r q (.slice aC nC cC) (.slice aT nT cT) (.slice aW nW cW)) 38) = w1 := ⟨_, rfl⟩
  rw [hw1] at hbx hb0
  have HB := Lib.hid hb0
  have HX := Lib.hid hbx
  have hK := check_any k c b t d l p w1
  have hR := fun w2 => rightM_any r q aC nC cC w2
  unfold cf at hK
  unfold mx at hR
  unfold smpA at hw1
  clear hbx hb0
  obtain ⟨z, hz⟩ : ∃ z, chk k c b t d l p = z := ⟨_, rfl⟩
  rw [hz] at hK ⊢
  clear hz
  obtain ⟨fb, hfb⟩ : ∃ fb, fitB r q nC = fb := ⟨_, rfl⟩
  rw [hfb] at hR ⊢
  clear hfb
  go_enter Try.func16, Try.ntmps16
  go_upto_region 1 with fail
  clear hw1
  obtain ⟨⟨c0, c1, c2, c3, c4, c5, c6⟩, ⟨c7, c8, c9⟩, cT', cW'⟩ := HX.out.cells
  go_wp2_with fail
  refine hK.mono ?_
  rintro e w2 ⟨rfl, b2⟩
  have HB2 := Lib.hid (HB.out.trans (b2.mono HB.out.size))
  replace HX := Lib.hid (HX.out.on b2)
  clear b2 c0 c1 c2 c3 c4 c5 c6 c7 c8 c9 cT' cW' hK
  obtain ⟨-, ⟨c7, c8, c9⟩, cT', cW'⟩ := HX.out.cells
  by_cases h0 : z = 0
  · have e0 : (z == 0) = true := by simpa using h0
    cases hf : fb
    · have HD : Hid (decide (z = 0 ∧ fb = true ∧ (nT : Int) = r ∧ (nW : Int) = r) = false) := decide_eq_false (fun h => by rw [hf] at h; cases h.2.1)
      clear h0
      go_wp2_with fail
      refine (hR _).mono ?_
      rintro e w3 ⟨rfl, b3⟩
      clear e0
      go_wp2_with fail
      go_ret
      exact ⟨(congrArg (fun x : Bool => Ending.returned (.bool x)) HD.out).symm, HB2.out.trans (b3.mono HB2.out.size)⟩
    · by_cases h1 : (nT : Int) = r
      · by_cases h2 : (nW : Int) = r
        · have HD : Hid (decide (z = 0 ∧ fb = true ∧ (nT : Int) = r ∧ (nW : Int) = r) = true) := decide_eq_true ⟨h0, hf, h1, h2⟩
          have e1 : ((nT : Int) == r) = true := by simpa using h1
          have e2 : ((nW : Int) == r) = true := by simpa using h2
          have C1 := Lib.hid e1
          have C2 := Lib.hid e2
          clear h0 h1 h2 e1 e2
          go_wp2_with fail
          refine (hR _).mono ?_
          rintro e w3 ⟨rfl, b3⟩
          replace HX := Lib.hid (HX.out.on b3)
          clear e0 c7 c8 c9 cT' cW' hR
          obtain ⟨-, ⟨c7, c8, c9⟩, cT', cW'⟩ := HX.out.cells
          have e1 := C1.out
          have e2 := C2.out
          go_wp2_with fail
          go_ret
          exact ⟨(congrArg (fun x : Bool => Ending.returned (.bool x)) HD.out).symm, HB2.out.trans (b3.mono HB2.out.size)⟩
        · have HD : Hid (decide (z = 0 ∧ fb = true ∧ (nT : Int) = r ∧ (nW : Int) = r) = false) := decide_eq_false (fun h => h2 h.2.2.2)
          have e1 : ((nT : Int) == r) = true := by simpa using h1
          have e2 : ((nW : Int) == r) = false := by simpa using h2
          have C1 := Lib.hid e1
          have C2 := Lib.hid e2
          clear h0 h1 h2 e1 e2
          go_wp2_with fail
          refine (hR _).mono ?_
          rintro e w3 ⟨rfl, b3⟩
          replace HX := Lib.hid (HX.out.on b3)
          clear e0 c7 c8 c9 cT' cW' hR
          obtain ⟨-, ⟨c7, c8, c9⟩, cT', cW'⟩ := HX.out.cells
          have e1 := C1.out
          have e2 := C2.out
          go_wp2_with fail
          go_ret
          exact ⟨(congrArg (fun x : Bool => Ending.returned (.bool x)) HD.out).symm, HB2.out.trans (b3.mono HB2.out.size)⟩
      · have h2 : True := trivial
        have HD : Hid (decide (z = 0 ∧ fb = true ∧ (nT : Int) = r ∧ (nW : Int) = r) = false) := decide_eq_false (fun h => h1 h.2.2.1)
        have e1 : ((nT : Int) == r) = false := by simpa using h1
        have e2 : True := trivial
        have C1 := Lib.hid e1
        have C2 := Lib.hid e2
        clear h0 h1 h2 e1 e2
        go_wp2_with fail
        refine (hR _).mono ?_
        rintro e w3 ⟨rfl, b3⟩
        replace HX := Lib.hid (HX.out.on b3)
        clear e0 c7 c8 c9 cT' cW' hR
        obtain ⟨-, ⟨c7, c8, c9⟩, cT', cW'⟩ := HX.out.cells
        have e1 := C1.out
        have e2 := C2.out
        go_wp2_with fail
        go_ret
        exact ⟨(congrArg (fun x : Bool => Ending.returned (.bool x)) HD.out).symm, HB2.out.trans (b3.mono HB2.out.size)⟩
  · have HD : Hid (decide (z = 0 ∧ fb = true ∧ (nT : Int) = r ∧ (nW : Int) = r) = false) := decide_eq_false (fun h => h0 h.1)
    have e0 : (z == 0) = false := by simpa using h0
    clear h0
    go_wp2_with fail
    go_ret
    exact ⟨(congrArg (fun x : Bool => Ending.returned (.bool x)) HD.out).symm, HB2.out⟩

set_option maxRecDepth 20000 in
set_option maxHeartbeats 1000000 in
theorem refRightS_any (w : World) :
    Calls Try.prog 17 #[.agg (smpA k c b t d l p r q (.slice aC nC cC) (.slice aT nT cT) (.slice aW nW cW))] w fun e w' =>
      e = .returned (.bool (decide (chk k c b t d l p = 0 ∧ fitB r q nC = true ∧ (nT : Int) = r ∧ (nW : Int) = r))) ∧ Go.RowKit.Below w.heap.size w w' := by
  have hbx := BoxS.new w (smpA k c b t d l p r q (.slice aC nC cC) (.slice aT nT cT) (.slice aW nW cW))
  have hb0 := alloc_below w (.cells (smpA k c b t d l p r q (.slice aC nC cC) (.slice aT nT cT) (.slice aW nW cW)) 38)
  unfold smpA
  obtain ⟨w1, hw1⟩ : ∃ w1, w.alloc (.cells (smpA k c b t d l p r q (.slice aC nC cC) (.slice aT nT cT) (.slice aW nW cW)) 38) = w1 := ⟨_, rfl⟩
  rw [hw1] at hbx hb0
  have HB := Lib.hid hb0
  have HX := Lib.hid hbx
  have hK := refCheck_any k c b t d l p w1
  have hR := fun w2 => refRightM_any r q aC nC cC w2
  unfold cf at hK
  unfold mx at hR
  unfold smpA at hw1
  clear hbx hb0
  obtain ⟨z, hz⟩ : ∃ z, chk k c b t d l p = z := ⟨_, rfl⟩
  rw [hz] at hK ⊢
  clear hz
  obtain ⟨fb, hfb⟩ : ∃ fb, fitB r q nC = fb := ⟨_, rfl⟩
  rw [hfb] at hR ⊢
  clear hfb
  go_enter Try.func17, Try.ntmps17
  go_upto_region 1 with fail
  clear hw1
  obtain ⟨⟨c0, c1, c2, c3, c4, c5, c6⟩, ⟨c7, c8, c9⟩, cT', cW'⟩ := HX.out.cells
  go_wp2_with fail
  refine hK.mono ?_
  rintro e w2 ⟨rfl, b2⟩
  have HB2 := Lib.hid (HB.out.trans (b2.mono HB.out.size))
  replace HX := Lib.hid (HX.out.on b2)
  clear b2 c0 c1 c2 c3 c4 c5 c6 c7 c8 c9 cT' cW' hK
  obtain ⟨-, ⟨c7, c8, c9⟩, cT', cW'⟩ := HX.out.cells
  by_cases h0 : z = 0
  · have e0 : (z == 0) = true := by simpa using h0
    cases hf : fb
    · have HD : Hid (decide (z = 0 ∧ fb = true ∧ (nT : Int) = r ∧ (nW : Int) = r) = false) := decide_eq_false (fun h => by rw [hf] at h; cases h.2.1)
      clear h0
      go_wp2_with fail
      refine (hR _).mono ?_
      rintro e w3 ⟨rfl, b3⟩
      clear e0
      go_wp2_with fail
      go_ret
      exact ⟨(congrArg (fun x : Bool => Ending.returned (.bool x)) HD.out).symm, HB2.out.trans (b3.mono HB2.out.size)⟩
    · by_cases h1 : (nT : Int) = r
      · by_cases h2 : (nW : Int) = r
        · have HD : Hid (decide (z = 0 ∧ fb = true ∧ (nT : Int) = r ∧ (nW : Int) = r) = true) := decide_eq_true ⟨h0, hf, h1, h2⟩
          have e1 : ((nT : Int) == r) = true := by simpa using h1
          have e2 : ((nW : Int) == r) = true := by simpa using h2
          have C1 := Lib.hid e1
          have C2 := Lib.hid e2
          clear h0 h1 h2 e1 e2
          go_wp2_with fail
          refine (hR _).mono ?_
          rintro e w3 ⟨rfl, b3⟩
          replace HX := Lib.hid (HX.out.on b3)
          clear e0 c7 c8 c9 cT' cW' hR
          obtain ⟨-, ⟨c7, c8, c9⟩, cT', cW'⟩ := HX.out.cells
          have e1 := C1.out
          have e2 := C2.out
          go_wp2_with fail
          go_ret
          exact ⟨(congrArg (fun x : Bool => Ending.returned (.bool x)) HD.out).symm, HB2.out.trans (b3.mono HB2.out.size)⟩
        · have HD : Hid (decide (z = 0 ∧ fb = true ∧ (nT : Int) = r ∧ (nW : Int) = r) = false) := decide_eq_false (fun h => h2 h.2.2.2)
          have e1 : ((nT : Int) == r) = true := by simpa using h1
          have e2 : ((nW : Int) == r) = false := by simpa using h2
          have C1 := Lib.hid e1
          have C2 := Lib.hid e2
          clear h0 h1 h2 e1 e2
          go_wp2_with fail
          refine (hR _).mono ?_
          rintro e w3 ⟨rfl, b3⟩
          replace HX := Lib.hid (HX.out.on b3)
          clear e0 c7 c8 c9 cT' cW' hR
          obtain ⟨-, ⟨c7, c8, c9⟩, cT', cW'⟩ := HX.out.cells
          have e1 := C1.out
          have e2 := C2.out
          go_wp2_with fail
          go_ret
          exact ⟨(congrArg (fun x : Bool => Ending.returned (.bool x)) HD.out).symm, HB2.out.trans (b3.mono HB2.out.size)⟩
      · have h2 : True := trivial
        have HD : Hid (decide (z = 0 ∧ fb = true ∧ (nT : Int) = r ∧ (nW : Int) = r) = false) := decide_eq_false (fun h => h1 h.2.2.1)
        have e1 : ((nT : Int) == r) = false := by simpa using h1
        have e2 : True := trivial
        have C1 := Lib.hid e1
        have C2 := Lib.hid e2
        clear h0 h1 h2 e1 e2
        go_wp2_with fail
        refine (hR _).mono ?_
        rintro e w3 ⟨rfl, b3⟩
        replace HX := Lib.hid (HX.out.on b3)
        clear e0 c7 c8 c9 cT' cW' hR
        obtain ⟨-, ⟨c7, c8, c9⟩, cT', cW'⟩ := HX.out.cells
        have e1 := C1.out
        have e2 := C2.out
        go_wp2_with fail
        go_ret
        exact ⟨(congrArg (fun x : Bool => Ending.returned (.bool x)) HD.out).symm, HB2.out.trans (b3.mono HB2.out.size)⟩
  · have HD : Hid (decide (z = 0 ∧ fb = true ∧ (nT : Int) = r ∧ (nW : Int) = r) = false) := decide_eq_false (fun h => h0 h.1)
    have e0 : (z == 0) = false := by simpa using h0
    clear h0
    go_wp2_with fail
    go_ret
    exact ⟨(congrArg (fun x : Bool => Ending.returned (.bool x)) HD.out).symm, HB2.out⟩
end
end Go.Proofs.Ytebdlmjpgohngaa
