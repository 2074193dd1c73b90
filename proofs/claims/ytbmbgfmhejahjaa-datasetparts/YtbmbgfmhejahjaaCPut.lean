/-
  CONFIG: Put: other bytes, and a config's behind them; these alone, if it may not be. Condition: no more than 1000 bytes.
-/
import Derived.Test.YtbmbgfmhejahjaaBytesOf
import Derived.Test.YtbmbgfmhejahjaaApp0
import Derived.Test.YtbmbgfmhejahjaaTry
namespace Go.Proofs.Ytbmbgfmhejahjaa
open Go.RowKit

/-- What Put lays behind others. -/
def cbs (k c b t d l p : Int) : List UInt8 := if chk k c b t d l p = 0 then cb k c b t d l p else []

theorem Tale.came {w : World} {v : Value} {l : List UInt8} (h : Tale w v l) (hl : 0 < l.length) : ∃ a cap, v = .slice a l.length cap ∧ CameE KB w a l.length l := by
  obtain ⟨a, cap, h1, h2, h3⟩ := h
  refine ⟨a, cap, h1, ?_, rfl, h3⟩
  cases a with
  | none =>
    rcases h3 with rfl | ⟨_, _, h, _⟩
    · simp at hl
    · cases h
  | some ad => exact ⟨ad, rfl⟩

theorem Seven.cells {N : Nat} {k c b t d l p : Int} {w : World} (h : Seven N (nf k c b t d l p) w) : w.cell? ⟨N, 0, none⟩ = some (.int .i64 k) ∧ w.cell? ⟨N, 1, none⟩ = some (.int .i64 c) ∧ w.cell? ⟨N, 2, none⟩ = some (.int .i64 b) ∧ w.cell? ⟨N, 3, none⟩ = some (.int .i64 t) ∧ w.cell? ⟨N, 4, none⟩ = some (.int .i64 d) ∧ w.cell? ⟨N, 5, none⟩ = some (.int .i64 l) ∧ w.cell? ⟨N, 6, none⟩ = some (.int .i64 p) :=
  ⟨h.2 0 (by decide), h.2 1 (by decide), h.2 2 (by decide), h.2 3 (by decide), h.2 4 (by decide), h.2 5 (by decide), h.2 6 (by decide)⟩

set_option maxHeartbeats 2000000 in
theorem cput_any (A : Option Addr) (m cap : Nat) (x : List UInt8) (hx : x.length = m) (hm : m ≤ 1000) (hA : A = none → cap = 0) (k c b t d l p : Int) (w : World) (h : HoldsE KB w A x) :
    Calls Try.prog 45 #[.slice A m cap, cf k c b t d l p] w fun e w' => ∃ v, e = .returned v ∧ Tale w' v (x ++ cbs k c b t d l p) ∧ Below w.heap.size w w' := by
  have hk := check_any k c b t d l p
  have hb := bytesOf_any k c b t d l p
  have hl := cb_len k c b t d l p
  unfold cf at *
  have b0 := (Below.refl w.heap.size w).alloc (Nat.le_refl _) (.cells #[.int .i64 k, .int .i64 c, .int .i64 b, .int .i64 t, .int .i64 d, .int .i64 l, .int .i64 p] 23)
  have s0 : (w.alloc (.cells #[.int .i64 k, .int .i64 c, .int .i64 b, .int .i64 t, .int .i64 d, .int .i64 l, .int .i64 p] 23)).heap.size = w.heap.size + 1 := by simp
  have q0 := Seven.new k c b t d l p w 23
  have hc := clone_any A m cap x hx (by omega) hA _ (h.below b0)
  generalize hw0 : w.alloc (.cells #[.int .i64 k, .int .i64 c, .int .i64 b, .int .i64 t, .int .i64 d, .int .i64 l, .int .i64 p] 23) = w0 at b0 s0 q0 hc
  subst hw0
  go_enter Try.func45, Try.ntmps45
  go_wp2_with fail
  refine hc.mono ?_
  rintro e w1 ⟨v1, rfl, own1, b1⟩
  have q1 := q0.below b1 q0.1
  have b01 := b0.trans (b1.mono (by omega))
  have s1 := b1.size
  clear hc b0 b1 q0 h
  generalize w.alloc (.cells #[.int .i64 k, .int .i64 c, .int .i64 b, .int .i64 t, .int .i64 d, .int .i64 l, .int .i64 p] 23) = w0 at *
  obtain ⟨N, hN⟩ : ∃ N, w.heap.size = N := ⟨_, rfl⟩
  have HN := Lib.hid hN
  rw [hN] at q1 ⊢
  have q1' := q1
  obtain ⟨c10, c11, c12, c13, c14, c15, c16⟩ := q1.cells
  clear hN q1
  have HL : Hid (x.length = m) := hx
  clear hx
  by_cases hz : chk k c b t d l p = 0
  · have HC : Hid (cbs k c b t d l p = cb k c b t d l p) := if_pos hz
    rw [hz] at hk
    clear hz
    go_wp2_with fail
    refine (hk _).mono ?_
    rintro e w2 ⟨rfl, b2⟩
    have own2 := own1.below b2
    have q2 := q1'.below b2 q1'.1
    have b02 := b01.trans (b2.mono b01.size)
    have s2 := b2.size
    clear hk own1 q1' b01 b2 c10 c11 c12 c13 c14 c15 c16
    obtain ⟨c10, c11, c12, c13, c14, c15, c16⟩ := q2.cells
    go_wp2_with fail
    refine (hb _).mono ?_
    rintro e w3 ⟨v3, rfl, ta, b3⟩
    have own3 := own2.below b3
    have b03 := b02.trans (b3.mono b02.size)
    have s3 := b3.size
    clear hb own2 b02 b3 q2 c10 c11 c12 c13 c14 c15 c16
    obtain ⟨a3, cap3, rfl, hcm⟩ := ta.came (by omega)
    rw [hl] at hcm ⊢
    have s4 : w0.heap.size ≤ w3.heap.size := by omega
    clear ta
    go_wp2_with (at_builtin; refine app_own okB rfl _ _ rfl w0.heap.size s4 v1 x rfl own3 a3 14 cap3 _ rfl hcm (by rw [HL.out, hl]; omega) ?_)
    intro v4 w4 own4 b4
    have HB := Lib.hid (b03.trans (b4.mono (by omega)))
    have HT := Lib.hid own4.tale
    clear hcm own3 own4 b03 b4
    go_wp2_with fail
    go_ret
    exact ⟨_, rfl, by rw [HC.out]; exact HT.out, HB.out⟩
  · have HC : Hid (cbs k c b t d l p = []) := if_neg hz
    have g : (chk k c b t d l p != 0) = true := by simpa using hz
    clear hz
    generalize chk k c b t d l p = CK at *
    go_wp2_with fail
    refine (hk _).mono ?_
    rintro e w2 ⟨rfl, b2⟩
    have own2 := own1.below b2
    have HB := Lib.hid (b01.trans (b2.mono b01.size))
    have HT := Lib.hid own2.tale
    clear hk own1 q1' b01 b2 own2 c10 c11 c12 c13 c14 c15 c16
    go_wp2_with fail
    go_ret
    exact ⟨_, rfl, by rw [HC.out, List.append_nil]; exact HT.out, HB.out⟩
end Go.Proofs.Ytbmbgfmhejahjaa
