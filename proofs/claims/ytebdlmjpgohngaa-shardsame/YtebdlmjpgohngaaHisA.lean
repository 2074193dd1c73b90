/-
  HISTOGRAMS: how many counts and moments there are to be; what is left; the first error of three; two moments made one. Condition: each number is of 64 bits with a sign.
-/
import Derived.Test.YtebdlmjpgohngaaWide
import Derived.Test.YtebdlmjpgohngaaOwnE
namespace Go.Proofs.Ytebdlmjpgohngaa
open Go.RowKit

/-- Numbers of 64 bits with a sign. -/
def KL : Kind Int := ⟨35, 2, .int .i64, 0, 8⟩
theorem okL : KL.Ok := ⟨Try.underlying35, by kernel_rfl, by decide, fun _ => rfl, rfl⟩

/-- How many counts, and moments, of a kind, bins and classes. -/
def lenC (k b c : Int) : Int := if 1 ≤ b ∧ b ≤ 257 ∧ k = 0 ∧ 2 ≤ c ∧ c ≤ 256 then b * c else 0
def lenM (k b c : Int) : Int := if 1 ≤ b ∧ b ≤ 257 ∧ k = 1 ∧ c = 0 then b else 0

theorem mul_room {b c : Int} (h1 : 1 ≤ b) (h2 : b ≤ 257) (h3 : 2 ≤ c) (h4 : c ≤ 256) : 2 ≤ b * c ∧ b * c ≤ 65792 := by
  have a := Int.mul_le_mul h1 h3 (by omega) (by omega)
  have a2 := Int.mul_le_mul h2 h4 (by omega) (by omega)
  omega

theorem lengths_any (k b c : Int) (w : World) : Calls Try.prog 35 #[.int .i64 k, .int .i64 b, .int .i64 c] w fun e w' => e = .returned (.tuple #[.int .i64 (lenC k b c), .int .i64 (lenM k b c)]) ∧ w' = w := by
  by_cases h1 : b < 1
  · have HC : Hid (lenC k b c = 0) := if_neg (by omega)
    have HM : Hid (lenM k b c = 0) := if_neg (by omega)
    rw [HC.out, HM.out]
    go_enter Try.func35, Try.ntmps35
    go_wp2_with fail
    go_ret2
    exact ⟨rfl, rfl⟩
  by_cases h2 : 257 < b
  · have HC : Hid (lenC k b c = 0) := if_neg (by omega)
    have HM : Hid (lenM k b c = 0) := if_neg (by omega)
    rw [HC.out, HM.out]
    go_enter Try.func35, Try.ntmps35
    go_wp2_with fail
    go_ret2
    exact ⟨rfl, rfl⟩
  by_cases h3 : k = 1
  · subst h3
    have HC : Hid (lenC 1 b c = 0) := if_neg (by omega)
    rw [HC.out]
    by_cases h4 : c = 0
    · subst h4
      have HM : Hid (lenM 1 b 0 = b) := if_pos (by omega)
      rw [HM.out]
      go_enter Try.func35, Try.ntmps35
      go_wp2_with fail
      go_ret2
      exact ⟨rfl, rfl⟩
    · have HM : Hid (lenM 1 b c = 0) := if_neg (by omega)
      rw [HM.out]
      have g : (c == 0) = false := by simpa using h4
      clear h4
      go_enter Try.func35, Try.ntmps35
      go_wp2_with fail
      go_ret2
      exact ⟨rfl, rfl⟩
  have HM : Hid (lenM k b c = 0) := if_neg (by omega)
  rw [HM.out]
  have g3 : (k == 1) = false := by simpa using h3
  by_cases h5 : k = 0
  · subst h5
    clear h3 g3
    by_cases h6 : c < 2
    · have HC : Hid (lenC 0 b c = 0) := if_neg (by omega)
      rw [HC.out]
      have g : ¬ 2 ≤ c := by omega
      clear h6
      go_enter Try.func35, Try.ntmps35
      go_wp2_with fail
      go_ret2
      exact ⟨rfl, rfl⟩
    · have g : 2 ≤ c := by omega
      clear h6
      by_cases h7 : c ≤ 256
      · have HC : Hid (lenC 0 b c = b * c) := if_pos (by omega)
        rw [HC.out]
        obtain ⟨m1, m2⟩ := mul_room (b := b) (c := c) (by omega) (by omega) g h7
        have hw : wrap64 (b * c) = b * c := by unfold wrap64; omega
        clear m1 m2
        go_enter Try.func35, Try.ntmps35
        go_wp2_with fail
        go_ret2
        exact ⟨rfl, rfl⟩
      · have HC : Hid (lenC 0 b c = 0) := if_neg (by omega)
        rw [HC.out]
        go_enter Try.func35, Try.ntmps35
        go_wp2_with fail
        go_ret2
        exact ⟨rfl, rfl⟩
  · have g5 : (k == 0) = false := by simpa using h5
    have HC : Hid (lenC k b c = 0) := if_neg (by omega)
    rw [HC.out]
    clear h3 h5
    go_enter Try.func35, Try.ntmps35
    go_wp2_with fail
    go_ret2
    exact ⟨rfl, rfl⟩

/-- A difference that isn't below 0: what there is of it, the error. -/
def leV (s : Int) : Int := if 0 ≤ s then fitV s else 0
def leE (s : Int) : Int := if fitE s = 0 ∧ s < 0 then 5 else fitE s

theorem fitE_or (s : Int) : fitE s = 0 ∨ fitE s = 6 := by unfold fitE; split <;> simp

/-- The first of three errors. -/
def or3 (x y z : Int) : Int := if x ≠ 0 then x else if y ≠ 0 then y else z

theorem or_any (g : Nat) (x y z : Int) (w : World) (h0 : w.cell? ⟨g, 0, none⟩ = some (.int .i64 x)) (h1 : w.cell? ⟨g, 1, none⟩ = some (.int .i64 y)) (h2 : w.cell? ⟨g, 2, none⟩ = some (.int .i64 z)) :
    Calls Try.prog 70 #[.slice (some ⟨g, 0, none⟩) 3 3] w fun e w' => e = .returned (.int .i64 (or3 x y z)) ∧ w = w' := by
  have hc : ∀ j : Nat, j < 3 → ∃ v : Int, w.cell? ⟨g, j, none⟩ = some (.int .i64 v) ∧ ((j = 0 ∧ v = x) ∨ (j = 1 ∧ v = y) ∨ (j = 2 ∧ v = z)) := by
    intro j hj
    rcases j with _ | _ | _ | j
    · exact ⟨x, h0, .inl ⟨rfl, rfl⟩⟩
    · exact ⟨y, h1, .inr (.inl ⟨rfl, rfl⟩)⟩
    · exact ⟨z, h2, .inr (.inr ⟨rfl, rfl⟩)⟩
    · omega
  have HS0 : Hid (or3 x y z = if (0 : Nat) = 0 then or3 x y z else if (0 : Nat) = 1 then (if y ≠ 0 then y else z) else if (0 : Nat) = 2 then z else 0) := rfl
  clear h0 h1 h2
  go_enter Try.func70, Try.ntmps70
  go_wp2_with fail
  go_loopw [8] (fun iv wr => ∃ j : Nat, j ≤ 3 ∧ iv = .int .i64 j ∧ wr = w ∧ Hid (or3 x y z = if j = 0 then or3 x y z else if j = 1 then (if y ≠ 0 then y else z) else if j = 2 then z else 0)) (fun iv _ => 3 - (intOf iv).toNat)
  case atStart => exact ⟨0, by omega, rfl, rfl, HS0⟩
  case round =>
    obtain ⟨j, hj, rfl, rfl, HO⟩ := hrel
    by_cases hlt : j < 3
    · have i1 : (j : Int) < 3 := by omega
      obtain ⟨v, cv, hv⟩ := hc j hlt
      by_cases h : v = 0
      · have HN : Hid (or3 x y z = if j + 1 = 0 then or3 x y z else if j + 1 = 1 then (if y ≠ 0 then y else z) else if j + 1 = 2 then z else 0) := by
          show _ = _
          refine HO.out.trans ?_
          subst h
          rcases hv with ⟨rfl, rfl⟩ | ⟨rfl, rfl⟩ | ⟨rfl, rfl⟩ <;> simp [or3]
        subst h
        clear hc hv HO
        go_wp2_with fail
        go_roundw
        case rel => exact ⟨j + 1, by omega, by go_num, trivial, HN⟩
        case measure => simp [intOf]; omega
      · have HN : Hid (or3 x y z = v) := by
          show _ = _
          refine HO.out.trans ?_
          rcases hv with ⟨rfl, rfl⟩ | ⟨rfl, rfl⟩ | ⟨rfl, rfl⟩ <;> simp [or3, h]
        have gb : (v != 0) = true := by simpa using h
        clear hc hv HO h
        go_wp2_with fail
        go_ret
        exact ⟨by rw [HN.out]; rfl, rfl⟩
    · obtain rfl : j = 3 := by omega
      have HN : Hid (or3 x y z = 0) := HO.out.trans (by simp)
      clear HO hc
      go_wp2_with fail
      go_ret
      exact ⟨by rw [HN.out]; rfl, rfl⟩

/-- A way to make one number of two, as it is handed over: what it makes, the error. -/
structure Way (F : Nat) (V E : Int → Int → Int) : Prop where
  enter : ∀ x y w, (callFunc F #[.int .i64 x, .int .i64 y]).run Try.prog w = .ok (.enter F #[.int .i64 x, .int .i64 y]) w
  run : ∀ x y w, Whole x → Whole y → Calls Try.prog F #[.int .i64 x, .int .i64 y] w fun e w' => e = .returned (.tuple #[.int .i64 (V x y), .int .i64 (E x y)]) ∧ w = w'
def plV (x y : Int) : Int := fitV (x + y)
def plE (x y : Int) : Int := fitE (x + y)
def miV (x y : Int) : Int := fitV (x - y)
def miE (x y : Int) : Int := fitE (x - y)
def lfV (x y : Int) : Int := leV (x - y)
def lfE (x y : Int) : Int := leE (x - y)
theorem way_plus : Way 54 plV plE := ⟨fun _ _ _ => by simp [go_sem], fun x y w hx hy => plus_any x y hx hy w⟩
/-- What stands, if there is no error. -/
def okV (e v : Int) : Int := if e = 0 then v else 0

end Go.Proofs.Ytebdlmjpgohngaa
