/-
  HISTOGRAMS: what a histogram is, as it is read; hist.alike; the first error of many; combine over what is only read. Condition: each number is of 64 bits with a sign.
-/
import Derived.Test.YtebdlmjpgohngaaHisE
namespace Go.Proofs.Ytebdlmjpgohngaa
open Go.RowKit

/-- The first error. -/
def firstE (E : Nat → Int) : Nat → Int
  | 0 => 0
  | n + 1 => if firstE E n = 0 then E n else firstE E n
theorem firstE_ran (E : Nat → Int) : ∀ n, ∃ k, Ran E n k (firstE E n) := by
  intro n
  induction n with
  | zero => exact ⟨0, Ran.none E⟩
  | succ n ih =>
    obtain ⟨k, h⟩ := ih
    by_cases h0 : firstE E n = 0
    · have hk : k = n := by
        rcases h.fin with ⟨a, _⟩ | ⟨_, _, c⟩
        · exact a
        · exact absurd h0 c
      subst hk
      simp only [firstE, if_pos h0]
      by_cases h1 : E k = 0
      · exact ⟨k + 1, Nat.le_refl _, fun i hi => by
          by_cases g : i < k
          · exact h.pre i g
          · obtain rfl : i = k := by omega
            exact h1, .inl ⟨rfl, h1⟩⟩
      · exact ⟨k, by omega, h.pre, .inr ⟨by omega, rfl, h1⟩⟩
    · simp only [firstE, if_neg h0]
      rcases h.fin with ⟨_, b⟩ | ⟨a, b, c⟩
      · exact absurd b h0
      · exact ⟨k, by omega, h.pre, .inr ⟨by omega, b, c⟩⟩
theorem Ran.first {E : Nat → Int} {n k : Nat} {err : Int} (h : Ran E n k err) : err = firstE E n := by
  obtain ⟨k', h'⟩ := firstE_ran E n
  exact (h.same h').2
theorem firstE_zero {E : Nat → Int} {n : Nat} : firstE E n = 0 ↔ ∀ i, i < n → E i = 0 := by
  obtain ⟨k, h⟩ := firstE_ran E n
  constructor
  · intro h0 i hi
    rcases h.fin with ⟨a, _⟩ | ⟨_, _, c⟩
    · exact h.pre i (by omega)
    · exact absurd h0 c
  · intro hz
    exact (h.all hz).2
theorem Ran.whole {E : Nat → Int} {n k : Nat} (h : Ran E n k 0) : k = n := by
  rcases h.fin with ⟨a, _⟩ | ⟨_, _, c⟩
  · exact a
  · exact absurd rfl c
theorem firstE_congr {E E' : Nat → Int} : ∀ {n : Nat}, (∀ i, i < n → E i = E' i) → firstE E n = firstE E' n := by
  intro n
  induction n with
  | zero => intro _; rfl
  | succ n ih =>
    intro h
    simp only [firstE]
    rw [ih (fun i hi => h i (by omega)), h n (by omega)]

/-- The first so many numbers. -/
def mapN (f : Nat → Int) (n : Nat) : List Int := (List.range n).map f
theorem mapN_len (f : Nat → Int) (n : Nat) : (mapN f n).length = n := by simp [mapN]
theorem mapN_get (f : Nat → Int) {n j : Nat} (h : j < n) : (mapN f n).getD j 0 = f j := by simp [mapN, List.getD_eq_getElem?_getD, h]
theorem ext_getD {l l' : List Int} (hl : l.length = l'.length) (h : ∀ j, j < l.length → l.getD j 0 = l'.getD j 0) : l = l' := by
  apply List.ext_getElem hl
  intro j h1 h2
  have := h j h1
  simpa [List.getD_eq_getElem?_getD, h1, h2] using this
theorem mixL_all (f : Nat → Int) (l : List Int) {n : Nat} (h : l.length = n) : mixL f l n = mapN f n := by
  apply ext_getD
  · rw [mixL_len, mapN_len, h]
  · intro j hj
    rw [mixL_len, h] at hj
    rw [mixL_get f l n (by omega) j, if_pos hj, mapN_get f hj]
theorem mapN_congr {f f' : Nat → Int} {n : Nat} (h : ∀ j, j < n → f j = f' j) : mapN f n = mapN f' n := by
  apply ext_getD
  · rw [mapN_len, mapN_len]
  · intro j hj
    rw [mapN_len] at hj
    rw [mapN_get f hj, mapN_get f' hj, h j hj]

/-- What a histogram is. -/
structure HD where
  k : Int
  b : Int
  c : Int
  lc : List Int
  lm : List Int
/-- The zero. -/
def zD : HD := ⟨0, 0, 0, [], []⟩
/-- Each number is of 64 bits with a sign. -/
def Wholes (l : List Int) : Prop := ∀ j, j < l.length → Whole (l.getD j 0)
/-- What is read where two slices lead to. -/
structure Reads (d : HD) (ac : Option Addr) (nc : Nat) (am : Option Addr) (nm : Nat) (w : World) : Prop where
  nc : d.lc.length = nc
  nm : d.lm.length = nm * 3
  hc : HoldsE KL w ac d.lc
  hm : HoldsE KL w am d.lm
  wc : Wholes d.lc
  wm : Wholes d.lm
theorem Reads.below {d : HD} {ac am : Option Addr} {nc nm : Nat} {w w' : World} (h : Reads d ac nc am nm w) (b : Below w.heap.size w w') : Reads d ac nc am nm w' :=
  ⟨h.nc, h.nm, h.hc.below b, h.hm.below b, h.wc, h.wm⟩
theorem HoldsE.but {w w' : World} {b : Nat} {a : Option Addr} {l : List Int} (h : HoldsE KL w a l) (hb : But b w w') (hn : ∀ ad, a = some ad → ad.block ≠ b) : HoldsE KL w' a l := by
  rcases h with h | ⟨g, off, ha, hlt, hr⟩
  · exact .inl h
  · exact .inr ⟨g, off, ha, Nat.lt_of_lt_of_le hlt hb.size, fun j hj => (hb.cell (by exact hlt) (by have := hn _ ha; exact this)).trans (hr j hj)⟩
/-- Two slices lead to no block below this one. -/
def Past (B : Nat) (ac am : Option Addr) : Prop := (∀ ad, ac = some ad → B ≤ ad.block) ∧ (∀ ad, am = some ad → B ≤ ad.block)
theorem Reads.but {d : HD} {ac am : Option Addr} {nc nm b B : Nat} {w w' : World} (h : Reads d ac nc am nm w) (p : Past B ac am) (hb : But b w w') (hB : b < B) : Reads d ac nc am nm w' :=
  ⟨h.nc, h.nm, h.hc.but hb (fun ad e => by have := p.1 ad e; omega), h.hm.but hb (fun ad e => by have := p.2 ad e; omega), h.wc, h.wm⟩
/-- A value is this histogram, made here. -/
def Is (B : Nat) (d : HD) (w : World) (v : Value) : Prop := ∃ ac nc cc am nm cm, v = .agg #[.int .i64 d.k, .int .i64 d.b, .int .i64 d.c, .slice ac nc cc, .slice am nm cm] ∧ Reads d ac nc am nm w ∧ Past B ac am
theorem Is.below {B : Nat} {d : HD} {w w' : World} {v : Value} (h : Is B d w v) (b : Below w.heap.size w w') : Is B d w' v := by
  obtain ⟨ac, nc, cc, am, nm, cm, hv, hr, hp⟩ := h
  exact ⟨ac, nc, cc, am, nm, cm, hv, hr.below b, hp⟩
theorem Reads.zero (w : World) : Reads zD none 0 none 0 w := ⟨rfl, rfl, .inl rfl, .inl rfl, fun j h => by simp [zD] at h, fun j h => by simp [zD] at h⟩
theorem Is.zero (B : Nat) (w : World) : Is B zD w (.agg #[.int .i64 0, .int .i64 0, .int .i64 0, .slice none 0 0, .slice none 0 0]) :=
  ⟨none, 0, 0, none, 0, 0, rfl, Reads.zero w, ⟨fun _ h => (by cases h), fun _ h => (by cases h)⟩⟩

/-- Is it right? -/
def rightD (d : HD) : Bool := decide (0 < lenC d.k d.b d.c + lenM d.k d.b d.c ∧ (d.lc.length : Int) = lenC d.k d.b d.c ∧ (d.lm.length : Int) = lenM d.k d.b d.c * 3)
theorem Reads.right {d : HD} {ac am : Option Addr} {nc nm : Nat} {w : World} (h : Reads d ac nc am nm w) : rightB d.k d.b d.c nc nm = rightD d := by
  unfold rightB rightD
  rw [h.nc, h.nm]
  congr 1
  simp only [eq_iff_iff]
  omega
/-- May two be made one? -/
def likeD (a b : HD) : Bool := rightD a && (rightD b && (a.k == b.k && (a.b == b.b && a.c == b.c)))

theorem alike_any (a a' : HD) (ac am ac' am' : Option Addr) (nc cc nm cm nc' cc' nm' cm' : Nat) (w0 w : World) (h : Reads a ac nc am nm w0) (h' : Reads a' ac' nc' am' nm' w0) :
    Calls Try.prog 65 #[.agg #[.int .i64 a.k, .int .i64 a.b, .int .i64 a.c, .slice ac nc cc, .slice am nm cm], .agg #[.int .i64 a'.k, .int .i64 a'.b, .int .i64 a'.c, .slice ac' nc' cc', .slice am' nm' cm']] w fun e w' =>
      e = .returned (.bool (likeD a a')) ∧ Below w.heap.size w w' := by
  have r1 := fun w => right_any a.k a.b a.c ac am nc cc nm cm w
  have r2 := fun w => right_any a'.k a'.b a'.c ac' am' nc' cc' nm' cm' w
  rw [h.right] at r1
  rw [h'.right] at r2
  unfold likeD
  obtain ⟨k, b, c, l, m⟩ := a
  obtain ⟨k', b', c', l', m'⟩ := a'
  generalize rightD ⟨k, b, c, l, m⟩ = ra at *
  generalize rightD ⟨k', b', c', l', m'⟩ = rb at *
  clear h h'
  simp only at *
  have bA := VarH.new w k b c (.slice ac nc cc) (.slice am nm cm) 45
  have bB := VarH.new (w.alloc (.cells #[.int .i64 k, .int .i64 b, .int .i64 c, .slice ac nc cc, .slice am nm cm] 45)) k' b' c' (.slice ac' nc' cc') (.slice am' nm' cm') 45
  rw [show (w.alloc (.cells #[.int .i64 k, .int .i64 b, .int .i64 c, .slice ac nc cc, .slice am nm cm] 45)).heap.size = w.heap.size + 1 by simp] at bB
  replace bA := bA.alloc (.cells #[.int .i64 k', .int .i64 b', .int .i64 c', .slice ac' nc' cc', .slice am' nm' cm'] 45)
  have hB := Lib.hid (((Below.refl _ w).alloc (Nat.le_refl _) (.cells #[.int .i64 k, .int .i64 b, .int .i64 c, .slice ac nc cc, .slice am nm cm] 45)).alloc (by simp) (.cells #[.int .i64 k', .int .i64 b', .int .i64 c', .slice ac' nc' cc', .slice am' nm' cm'] 45))
  go_enter Try.func65, Try.ntmps65
  go_upto_region 1 with fail
  generalize (w.alloc (.cells #[.int .i64 k, .int .i64 b, .int .i64 c, .slice ac nc cc, .slice am nm cm] 45)).alloc (.cells #[.int .i64 k', .int .i64 b', .int .i64 c', .slice ac' nc' cc', .slice am' nm' cm'] 45) = W at *
  obtain ⟨_, a0, a1, a2, a3, a4, _, _, _, _, _⟩ := id bA
  cases ra
  · clear bB
    go_wp2_with fail
    refine (r1 _).mono ?_
    rintro e w1 ⟨rfl, c1⟩
    go_wp2_with fail
    go_ret
    exact ⟨rfl, hB.out.trans (c1.mono hB.out.size)⟩
  · go_wp2_with fail
    refine (r1 _).mono ?_
    rintro e w1 ⟨rfl, c1⟩
    replace bA := bA.below c1 bA.lt
    replace bB := bB.below c1 bB.lt
    replace hB := Lib.hid (hB.out.trans (c1.mono hB.out.size))
    clear a0 a1 a2 a3 a4 r1 c1
    obtain ⟨_, a0, a1, a2, a3, a4, _, _, _, _, _⟩ := id bA
    obtain ⟨_, b0, b1, b2, b3, b4, _, _, _, _, _⟩ := id bB
    go_wp2_with fail
    refine (r2 _).mono ?_
    rintro e w2 ⟨rfl, c2⟩
    replace bA := bA.below c2 bA.lt
    replace bB := bB.below c2 bB.lt
    replace hB := Lib.hid (hB.out.trans (c2.mono hB.out.size))
    clear a0 a1 a2 a3 a4 b0 b1 b2 b3 b4 r2 c2
    obtain ⟨_, a0, a1, a2, a3, a4, _, _, _, _, _⟩ := bA
    obtain ⟨_, b0, b1, b2, b3, b4, _, _, _, _, _⟩ := bB
    cases rb
    · go_wp2_with fail
      go_ret
      exact ⟨rfl, hB.out⟩
    · cases g1 : (k == k')
      · go_wp2_with fail
        go_ret
        exact ⟨by (try rw [g1]); (try rw [g2]); (try rw [g3]); rfl, hB.out⟩
      · cases g2 : (b == b')
        · go_wp2_with fail
          go_ret
          exact ⟨by (try rw [g1]); (try rw [g2]); (try rw [g3]); rfl, hB.out⟩
        · cases g3 : (c == c')
          · go_wp2_with fail
            go_ret
            exact ⟨by (try rw [g1]); (try rw [g2]); (try rw [g3]); rfl, hB.out⟩
          · go_wp2_with fail
            go_ret
            exact ⟨by (try rw [g1]); (try rw [g2]); (try rw [g3]); rfl, hB.out⟩
end Go.Proofs.Ytebdlmjpgohngaa
