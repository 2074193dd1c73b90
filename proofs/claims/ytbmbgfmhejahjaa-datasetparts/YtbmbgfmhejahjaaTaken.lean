/-
  The config that bytes are taken as, if nothing is left, or why they aren't. Condition: no more than 1000 bytes.
-/
import Derived.Test.YtbmbgfmhejahjaaGet
namespace Go.Proofs.Ytbmbgfmhejahjaa
open Go.RowKit

theorem nf_gN (l : List UInt8) (j : Nat) (hj : j < 7) : nf (gN l 0) (gN l 1) (gN l 2) (gN l 3) (gN l 4) (gN l 5) (gN l 6) j = gN l j := by
  match j with
  | 0 => rfl
  | 1 => rfl
  | 2 => rfl
  | 3 => rfl
  | 4 => rfl
  | 5 => rfl
  | 6 => rfl
  | n + 7 => omega

theorem SevW.buts {N : Nat} {S : Nat → Prop} {f : Nat → Int} {w w' : World} (h : SevW N f w) (hb : Buts S w w') (hn : ¬ S N) : SevW N f w' :=
  ⟨Nat.lt_of_lt_of_le h.1 hb.size, fun j hj => (hb.cell h.1 hn).trans (h.2.1 j hj), fun j hj => (hb.frozen h.1 hn).trans (h.2.2 j hj)⟩

/-- How it ends. -/
def tkE (l : List UInt8) : Int := if l.length < 14 then 2 else if gE l = 0 then (if l.length = 14 then 0 else 3) else gE l
theorem tkE_ok {l : List UInt8} (h : tkE l = 0) : l.length = 14 ∧ gE l = 0 := by
  unfold tkE at h
  split at h
  · omega
  · split at h
    · split at h
      · rename_i h1 h2 h3; exact ⟨h3, h2⟩
      · omega
    · rename_i h1 h2; exact absurd h h2
/-- The config that is answered. -/
def tkV (l : List UInt8) : Value := if tkE l = 0 then cf (gN l 0) (gN l 1) (gN l 2) (gN l 3) (gN l 4) (gN l 5) (gN l 6) else cf 0 0 0 0 0 0 0

end Go.Proofs.Ytbmbgfmhejahjaa
