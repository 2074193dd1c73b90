/-
  What the listed table of rounds gives: its nine cells, as the text lays them; and a world that has them. Condition: the variable reads as listed.
-/
import Derived.Test.YtikdiaikggojjaaDoorMixFwd
import Derived.ProofKit
import Derived.LaidMore
import Derived.OpenShut
import Derived.ShutString
import Derived.Stop.Joined
import Derived.ChangeOld
import Derived.Below
namespace Go.Proofs.YtikdiaikggojjaaDoor
open Go.ChangeShapes Go.WideShapes Go.ChangeAt Go.RowKit

/-- The one variable that the rows list, with what it reads as. -/
abbrev L1 : List (String × DataW Unit) := Rows.streamPlaysRow.laid
theorem gRounds : Tryd.prog.globalNamed (L1.map (·.1)).head! = some 0 := by kernel_rfl
theorem tRounds : (Tryd.prog.globals[0]?).map (·.type) = some 54 := by kernel_rfl
theorem Tryd.cells22 : Tryd.prog.cellsOf 22 = 1 := by kernel_rfl
theorem Tryd.cells47 : Tryd.prog.cellsOf 47 = 1 := by kernel_rfl
theorem Tryd.cells49 : Tryd.prog.cellsOf 49 = 3 := by kernel_rfl
theorem Tryd.cells54 : Tryd.prog.cellsOf 54 = 9 := by kernel_rfl

theorem open_round {H : Type} {enc : TypeId × Value → H} {W : World} {sp : Nat → Bool} {held : Bool} {m : Nat} {c0 c1 c2 : Value} {x : DataW H × List MemPlace}
    (h : DataW.trod enc Tryd.prog W 0 sp held m 49 [c0, c1, c2] = some x) : ∃ a b c, c0 = .int .u64 a ∧ c1 = .int .u64 b ∧ c2 = .int .u64 c ∧ x.1 = .agg [.lit (.int .u64 a), .lit (.int .u64 b), .lit (.int .u64 c)] := by
  obtain ⟨xs, n, _, rfl, hl, hlen, hf⟩ := DataW.trod_struct Tryd.underlying49 h
  match xs, hlen with
  | [y0, y1, y2], _ =>
    have e0 := hf 0 _ rfl
    have e1 := hf 1 _ rfl
    have e2 := hf 2 _ rfl
    simp [Tryd.cells22, Tryd.cells47] at e0 e1 e2
    obtain ⟨a, k0, rfl, _⟩ := DataW.trod_int Tryd.underlying47 e0
    obtain ⟨b, k1, rfl, _⟩ := DataW.trod_int Tryd.underlying22 e1
    obtain ⟨c, k2, rfl, _⟩ := DataW.trod_int Tryd.underlying22 e2
    simp at k0 k1 k2
    exact ⟨a, b, c, k0, k1, k2, by simp⟩

theorem row_of_laid {W : World} (h : laidMetH Tryd.prog L1 W) : ∃ t fr, W.heap[0]? = some (.cells cs9 t fr) := by
  rw [MakeChecks.laidMetH_plain _ _ _ (by kernel_rfl)] at h
  obtain ⟨ps, ⟨g, t, cs, f, p, q, hg, ht, hv, hd, _, _⟩, _⟩ := h
  obtain rfl := Option.some.inj (gRounds.symm.trans hg)
  obtain rfl := Option.some.inj (tRounds.symm.trans ht)
  obtain ⟨xs, m, rfl, hx, hlen, hn, hel⟩ := DataW.trod_array Tryd.underlying54 hd
  have k0 := hel 0 (by decide)
  have k1 := hel 1 (by decide)
  have k2 := hel 2 (by decide)
  rw [Tryd.cells54] at hlen
  rw [Tryd.cells49] at k0 k1 k2
  obtain ⟨l⟩ := cs
  match xs, hn with
  | [x0, x1, x2], _ =>
  match l, hlen with
  | [c0, c1, c2, c3, c4, c5, c6, c7, c8], _ =>
    simp only [Prod.mk.injEq] at hx
    obtain ⟨a0, a1, a2, rfl, rfl, rfl, e0⟩ := open_round (show DataW.trod _ Tryd.prog W 0 _ _ m 49 [c0, c1, c2] = some x0 from k0)
    obtain ⟨a3, a4, a5, rfl, rfl, rfl, e1⟩ := open_round (show DataW.trod _ Tryd.prog W 0 _ _ m 49 [c3, c4, c5] = some x1 from k1)
    obtain ⟨a6, a7, a8, rfl, rfl, rfl, e2⟩ := open_round (show DataW.trod _ Tryd.prog W 0 _ _ m 49 [c6, c7, c8] = some x2 from k2)
    have hx1 := hx.1
    simp [Rows.laid_hornbeam_mix_rounds, e0, e1, e2] at hx1
    obtain ⟨⟨rfl, rfl, rfl⟩, ⟨rfl, rfl, rfl⟩, rfl, rfl, rfl⟩ := hx1
    simp only [World.var?, hg, Option.bind_some] at hv
    split at hv
    · rename_i cs t fr hr
      obtain rfl := Option.some.inj hv
      exact ⟨t, fr, hr⟩
    · cases hv

theorem own : ownKnob Tryd.prog.godebug = none := by kernel_rfl
theorem laidOut : laidOutB Tryd.prog = true := by kernel_rfl

/-- The heap that the door's own run leaves meets the condition. -/
theorem door_met (os : Os) (args : Array Value) : laidMetH Tryd.prog L1 ((World.doorLaid Tryd.prog 400 os).forCall (fun _ _ => 0) ⟨#[], args, []⟩).memory :=
  laidMetH_of_parts3 (fuel := 8) (laidMet_of_run' 8 (by kernel_rfl) (by kernel_rfl)) (by kernel_rfl) (by kernel_rfl)

end Go.Proofs.YtikdiaikggojjaaDoor
