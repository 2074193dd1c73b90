/-
  BYTES: rows of bytes; a row of them as a text; the number of bytes, and the bytes of a number; a row appended to one of the call's own, nil or not. Condition: no more than 2^20 bytes.
-/
import Derived.Test.YtbmbgfmhejahjaaRowE
import Derived.Laws.IdiomStrings
import Derived.Laws.OwnMore
import Derived.Lib.BufferRead
namespace Go.Proofs.Ytbmbgfmhejahjaa
open Go.RowKit

/-- A byte as a value. -/
def bv (b : UInt8) : Value := .int .u8 (b.toNat : Int)
/-- Bytes. -/
def KB : Kind UInt8 := ⟨30, 5, bv, 0, 1⟩
theorem okB : KB.Ok := ⟨Try.underlying30, by kernel_rfl, by decide, fun _ => rfl, rfl⟩
/-- Whole numbers. -/
def KI : Kind Int := ⟨101, 3, .int .i64, 0, 8⟩
theorem okI : KI.Ok := ⟨Try.underlying101, by kernel_rfl, by decide, fun _ => rfl, rfl⟩
/-- A text of bytes. -/
def sb (l : List UInt8) : ByteArray := ⟨l.toArray⟩
theorem sb_size (l : List UInt8) : (sb l).size = l.length := by simp [sb, ByteArray.size]
theorem sb_append (l k : List UInt8) : sb l ++ sb k = sb (l ++ k) := by
  apply ByteArray.ext
  simp [sb, ByteArray.data_append]
theorem run_str (w : World) (a : Option Addr) (n cap : Nat) (l : List UInt8) (hl : l.length = n) (h : HoldsE KB w a l) : (convert 30 9 (.slice a n cap)).run Try.prog w = .ok (.string (sb l)) w := by
  subst hl
  cases a with
  | none =>
    rcases h with rfl | ⟨_, _, h, _⟩
    · exact Lib.run_convert_nil_bytes w _ _ _ cap Try.underlying30 Try.underlying5 Try.underlying9
    · cases h
  | some a =>
    refine run_convert_bytes_back w _ _ _ a cap l Try.underlying30 Try.underlying5 Try.underlying9 fun j hj => ?_
    rcases h with rfl | ⟨g, off, e, _, hc⟩
    · cases hj
    · obtain rfl := Option.some.inj e
      rw [Go.WideShapes.add_plain, hc j hj]
      simp [KB, bv, List.getD_eq_getElem?_getD, hj]

/-! The number of bytes -/
def num (l : List UInt8) : Nat := l.foldl (fun n x => 256 * n + x.toNat) 0
theorem num_snoc (l : List UInt8) (x : UInt8) : num (l ++ [x]) = 256 * num l + x.toNat := by simp [num]
/-! The bytes of a number -/
def byt (n : Nat) : UInt8 := UInt8.ofNat n
theorem byt_toNat (n : Nat) : (byt n).toNat = n % 256 := by simp [byt]
def bts (n : Nat) : Nat → List UInt8
  | 0 => []
  | k + 1 => byt (n / 256 ^ k) :: bts n k
theorem bts_len (n k : Nat) : (bts n k).length = k := by induction k with | zero => rfl | succ k ih => simp [bts, ih]
theorem foldl_num (l : List UInt8) (m : Nat) : l.foldl (fun n x => 256 * n + x.toNat) m = m * 256 ^ l.length + num l := by
  induction l generalizing m with
  | nil => simp [num]
  | cons x l ih =>
    show List.foldl _ (256 * m + x.toNat) l = _
    have e : num (x :: l) = List.foldl (fun n x => 256 * n + x.toNat) (256 * 0 + x.toNat) l := rfl
    rw [e, ih, ih, List.length_cons, Nat.pow_succ]
    grind
theorem num_lt (l : List UInt8) : num l < 256 ^ l.length := by
  induction l with
  | nil => decide
  | cons x l ih =>
    have e : num (x :: l) = List.foldl (fun n x => 256 * n + x.toNat) (256 * 0 + x.toNat) l := rfl
    have : x.toNat < 256 := x.toNat_lt
    have h2 := Nat.mul_le_mul_right (256 ^ l.length) (show x.toNat + 1 ≤ 256 by omega)
    rw [e, foldl_num, List.length_cons, Nat.pow_succ, Nat.mul_zero, Nat.zero_add]
    rw [Nat.add_mul, Nat.one_mul] at h2
    omega
theorem num_bts (n k : Nat) : num (bts n k) = n % 256 ^ k := by
  induction k with
  | zero => simp [bts, num, Nat.mod_one]
  | succ k ih =>
    have e : num (bts n (k + 1)) = List.foldl (fun n x => 256 * n + x.toNat) (256 * 0 + (byt (n / 256 ^ k)).toNat) (bts n k) := rfl
    rw [e, foldl_num, ih, bts_len, byt_toNat, Nat.pow_succ, Nat.mod_mul]
    grind

theorem Own.nil {α : Type} {K : Kind α} (w : World) (B : Nat) : Own K w B (.slice none 0 0) [] := ⟨rfl, .inl ⟨rfl, rfl⟩⟩
/-- What a row of the call's own holds, as it is read. -/
theorem Own.holds {α : Type} {K : Kind α} {w : World} {B : Nat} {v : Value} {l : List α} (h : Own K w B v l) : ∃ a cap, v = .slice a l.length cap ∧ (a = none → cap = 0) ∧ l.length ≤ cap ∧ (∀ ad, a = some ad → B ≤ ad.block ∧ ad.block < w.heap.size) ∧ HoldsE K w a l := by
  rcases h.lst with ⟨rfl, rfl⟩ | ⟨g, cap, rfl, hB, hc, _, hl⟩
  · exact ⟨none, 0, rfl, fun _ => rfl, Nat.le_refl _, fun _ h => (by cases h), .inl rfl⟩
  · refine ⟨_, cap, rfl, fun h => (by cases h), hc, fun ad h => ?_, hl.holds⟩
    obtain rfl := Option.some.inj h
    exact ⟨hB, hl.lt⟩

/-- An append of what a slice leads to, nil or not, outside a drawn region. -/
theorem app_any {α : Type} {K : Kind α} {w : World} (ok : K.Ok) {ops : Array Oper} {rest : List Oper} {o : Oper} {a : Act} {Q : Exit → Act → World → Prop} (hw : Region.wanted o (yielded ops a.tmps) = true) (s x : Operand)
    (ho : o.op = .call { callee := .builtin .append, args := #[s, x], argTypes := #[K.s, K.s] }) (B : Nat) (hB : B ≤ w.heap.size) (v : Value) (l : List α) (hs : a.eval s = v) (hown : Own K w B v l)
    (A : Option Addr) (m c : Nat) (k : List α) (hx : a.eval x = .slice A m c) (hl : k.length = m) (hA : A = none → c = 0) (hk : HoldsE K w A k) (hm : l.length + k.length ≤ 1048576) (hv : v ≠ .slice none 0 0)
    (h : ∀ v' w', Own K w' B v' (l ++ k) → Go.RowKit.Below B w w' → v' ≠ .slice none 0 0 → wpList Try.prog ops Q rest (a.put o.dst v') w') : wpList Try.prog ops Q (o :: rest) a w := by
  cases A with
  | some ad => exact app_e ok hw s x ho B hB v l hs hown (some ad) m c k hx ⟨⟨ad, rfl⟩, hl, hk⟩ hm hv h
  | none =>
    obtain rfl := hA rfl
    obtain rfl : k = [] := by
      rcases hk with h | ⟨_, _, h, _⟩
      · exact h
      · cases h
    obtain rfl : m = 0 := hl.symm
    obtain ⟨i0, hi, hz0, hz1, hz2⟩ := info_parts ok.info
    have hrun := run_append_owned_none (P := Try.prog) (w := w) B K.s o.type K.e i0 1 ok.under hi v _ _ hown
    refine wpList_step fun KK hK => ?_
    rw [if_pos hw]
    unfold Oper.wp execOp
    simp only [ho, resolve, invoke, builtin, Sem.run_bind, Sem.run_pure, Result.andThen_ok, List.map_toArray, List.map_cons, List.map_nil, hs, hx, hrun]
    exact hK _ _ (h v w (by rw [List.append_nil]; exact hown) (Go.RowKit.Below.refl B w) hv)

end Go.Proofs.Ytbmbgfmhejahjaa
