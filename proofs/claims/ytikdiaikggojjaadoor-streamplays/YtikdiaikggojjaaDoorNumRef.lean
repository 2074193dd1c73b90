/-
  THE NUMBERS OF THE DOCUMENT'S OWN MIX: halving so often is a division by a power of two, doubling and adding is a product in 64 bits; so the document's mix is the mix; and folds. Conditions: numbers are at least 0 and below 2^64.
-/
import Derived.Test.YtikdiaikggojjaaDoorNum
namespace Go.Proofs.YtikdiaikggojjaaDoor

def In64 (x : Int) : Prop := 0 ≤ x ∧ x < 18446744073709551616

theorem wrap_in (x : Int) : In64 (IntKind.u64.wrap x) := by
  rw [IntKind.wrap_u64]; unfold In64; omega
theorem wrap_id {x : Int} (h : In64 x) : IntKind.u64.wrap x = x := by
  rw [IntKind.wrap_u64]; unfold In64 at h; omega
theorem half_eq {y : Int} (h : In64 y) : IntKind.u64.wrap (y.tdiv 2) = y / 2 := by
  unfold In64 at h
  rw [Int.tdiv_eq_ediv_of_nonneg h.1, IntKind.wrap_u64]; omega
theorem half_next {x y : Int} {k : Nat} (h : In64 y) (e : y = x / ((2 ^ k : Nat) : Int)) : IntKind.u64.wrap (y.tdiv 2) = x / ((2 ^ (k + 1) : Nat) : Int) := by
  rw [half_eq h, e, Int.ediv_ediv_of_nonneg (Int.natCast_nonneg _), Nat.pow_succ, Int.natCast_mul]; rfl
theorem half_less {q : Int} (h : In64 q) (hq : 0 < q) : (IntKind.u64.wrap (q.tdiv 2)).toNat < q.toNat := by
  rw [half_eq h]; omega

theorem wrap_of_eq {a b : Int} (h : a % 18446744073709551616 = b % 18446744073709551616) : IntKind.u64.wrap a = IntKind.u64.wrap b := by
  rw [IntKind.wrap_u64, IntKind.wrap_u64, h]
theorem dbl (p h m : Int) : ((p + p) % m * h) % m = (p * (2 * h)) % m := by
  rw [Int.mul_emod, Int.emod_emod_of_dvd _ (Int.dvd_refl m), ← Int.mul_emod, show (p + p) * h = p * (2 * h) by rw [← Int.two_mul, Int.mul_comm 2 p, Int.mul_assoc]]
theorem times_odd {p q r g : Int} (hq : In64 q) (ho : q % 2 = 1) (e : IntKind.u64.wrap (r + p * q) = g) :
    IntKind.u64.wrap (IntKind.u64.wrap (r + p) + IntKind.u64.wrap (p + p) * IntKind.u64.wrap (q.tdiv 2)) = g := by
  rw [half_eq hq, ← e]
  apply wrap_of_eq
  rw [IntKind.wrap_u64, IntKind.wrap_u64, Int.emod_add_emod, Int.add_emod, dbl, ← Int.add_emod]
  congr 1
  have e2 : p * q = p * (2 * (q / 2)) + p := by
    rw [show p * q = p * (2 * (q / 2) + 1) by congr 1; omega, Int.mul_add, Int.mul_one]
  rw [e2]; omega
theorem times_even {p q r g : Int} (hq : In64 q) (ho : q % 2 = 0) (e : IntKind.u64.wrap (r + p * q) = g) :
    IntKind.u64.wrap (r + IntKind.u64.wrap (p + p) * IntKind.u64.wrap (q.tdiv 2)) = g := by
  rw [half_eq hq, ← e]
  apply wrap_of_eq
  rw [IntKind.wrap_u64, Int.add_emod, dbl, ← Int.add_emod]
  congr 1
  have e2 : p * q = p * (2 * (q / 2)) := by
    congr 1; omega
  rw [e2]
theorem times_end {p q r g : Int} (hr : In64 r) (hq : In64 q) (h : q ≤ 0) (e : IntKind.u64.wrap (r + p * q) = g) : r = g := by
  have : q = 0 := by unfold In64 at hq; omega
  subst this
  rw [Int.mul_zero, Int.add_zero, wrap_id hr] at e
  exact e

/-- The document's mix, as its text reckons it. -/
def refMixI (x : Int) : Int :=
  let z := IntKind.u64.wrap (x + 11400714819323198485)
  let z1 := IntKind.u64.wrap (bits .xor .u64 z (z / 1073741824) * 13787848793156543929)
  let z2 := IntKind.u64.wrap (bits .xor .u64 z1 (z1 / 134217728) * 10723151780598845931)
  bits .xor .u64 z2 (z2 / 2147483648)

theorem bits_in (a b : Int) : In64 (bits .xor .u64 a b) := by
  unfold bits; exact wrap_in _
theorem refMixI_eq (x : Int) : refMixI x = mixI x := by
  unfold refMixI mixI mix3 st
  simp only [Int.mul_one]
  rw [wrap_id (bits_in _ _)]
theorem mixI_in (x : Int) : In64 (mixI x) := wrap_in _

/-- A fold. -/
def foldI (l : List Int) : Int := l.foldl (fun k n => mixI (bits .xor .u64 k n)) 0
theorem foldI_snoc (l : List Int) (n : Int) : foldI (l ++ [n]) = mixI (bits .xor .u64 (foldI l) n) := by
  unfold foldI; rw [List.foldl_append]; rfl
theorem foldI_take (l : List Int) (k : Nat) (h : k < l.length) : foldI (l.take (k + 1)) = mixI (bits .xor .u64 (foldI (l.take k)) (l.getD k 0)) := by
  rw [List.take_succ_eq_append_getElem h, foldI_snoc]
  congr 2
  simp [h]
theorem foldI_in (l : List Int) : In64 (foldI l) := by
  rcases List.eq_nil_or_concat l with rfl | ⟨r, n, rfl⟩
  · exact ⟨by decide, by decide⟩
  · rw [List.concat_eq_append, foldI_snoc]; exact mixI_in _
theorem foldI_one (x : Int) (h : In64 x) : foldI [x] = mixI x := by
  show mixI (bits .xor .u64 0 x) = mixI x
  obtain ⟨y, rfl⟩ := I_of h.1 h.2
  rw [show (0 : Int) = I 0#64 from rfl, I_xor, BitVec.zero_xor]
theorem xor_inj (k a b : Int) (hk : In64 k) (ha : In64 a) (hb : In64 b) (e : bits .xor .u64 k a = bits .xor .u64 k b) : a = b := by
  obtain ⟨k, rfl⟩ := I_of hk.1 hk.2
  obtain ⟨a, rfl⟩ := I_of ha.1 ha.2
  obtain ⟨b, rfl⟩ := I_of hb.1 hb.2
  rw [I_xor, I_xor] at e
  have e1 := I_inj e
  have e2 : k ^^^ (k ^^^ a) = k ^^^ (k ^^^ b) := by rw [e1]
  rw [← BitVec.xor_assoc, ← BitVec.xor_assoc, BitVec.xor_self, BitVec.zero_xor, BitVec.zero_xor] at e2
  rw [e2]
theorem mixI_eq_iff (a b : Int) (ha : In64 a) (hb : In64 b) : mixI a = mixI b ↔ a = b :=
  ⟨mixI_inj a b ha.1 ha.2 hb.1 hb.2, fun e => by rw [e]⟩
theorem foldI_eq_iff (l : List Int) (a b : Int) (ha : In64 a) (hb : In64 b) : foldI (l ++ [a]) = foldI (l ++ [b]) ↔ a = b := by
  rw [foldI_snoc, foldI_snoc, mixI_eq_iff _ _ (bits_in _ _) (bits_in _ _)]
  exact ⟨xor_inj _ _ _ (foldI_in l) ha hb, fun e => by rw [e]⟩

end Go.Proofs.YtikdiaikggojjaaDoor
