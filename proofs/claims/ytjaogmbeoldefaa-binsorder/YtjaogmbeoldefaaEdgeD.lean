/-
  THE LIBRARY's slices.DeleteFunc at []float64, handed rank.Missing, laid at this program: its bodies are the shelf's (the kernel compares them); what it leaves: those that aren't missing, in their order. Condition: at most 2^20 values, of 64 bits each.
-/
import Derived.Test.YtjaogmbeoldefaaEdgeN
import Derived.Shelf.SlicesE.DeleteFunc
namespace Go.Proofs.Ytjaogmbeoldefaa
open Go.RowKit Go.Shelf

def laysDel_ren : Go.Shelf.Ren := ⟨fun | 6 => 49 | 10 => 41 | n => n, fun | 0 => 0 | 3 => 3 | 4 => 4 | 22 => 31 | 23 => 62 | 25 => 63 | n => n, fun n => n⟩
theorem laysDel : SlLaysH.n10 Try.prog laysDel_ren := {
  mixed := by kernel_rfl
  f6 := ⟨Try.f49.name, by kernel_rfl, Try.func49.trans (congrArg some (by kernel_rfl))⟩
  f10 := ⟨Try.f41.name, by kernel_rfl, Try.func41.trans (congrArg some (by kernel_rfl))⟩
  t0 := Try.underlying0
  a0 := Try.isAgg0
  z0 := Try.sizeOf0
  v0 := Try.zeroValue0
  t3 := Try.underlying3
  a3 := Try.isAgg3
  z3 := Try.sizeOf3
  v3 := Try.zeroValue3
  t4 := Try.underlying4
  a4 := Try.isAgg4
  z4 := Try.sizeOf4
  v4 := Try.zeroValue4
  t22 := Try.underlying31
  a22 := Try.isAgg31
  z22 := Try.sizeOf31
  v22 := Try.zeroValue31
  a23 := Try.isAgg62
  z23 := Try.sizeOf62
  t25 := Try.underlying63
  a25 := Try.isAgg63
  z25 := Try.sizeOf63
  v25 := Try.zeroValue63 }

/-- What rank.Missing says of whatever bits. -/
def misB (b : Nat) : Bool := decide (9218868437227405312 < bits .andNot .u64 (b : Int) 9223372036854775808)
theorem misB_is {b : Nat} (h : b < 18446744073709551616) : misB b = decide (mis b) := by
  unfold misB mis
  rw [low63 b h]
  exact decide_eq_decide.2 (by omega)
theorem missing_raw (b : Nat) (w : World) :
    Calls Try.prog 43 #[.float .f64 b] w fun e w' => e = .returned (.bool (misB b)) ∧ w' = w := by
  go_enter Try.func43, Try.ntmps43
  go_wp2_with (simp only [tob])
  go_ret
  exact ⟨rfl, rfl⟩
theorem misB_filter {l : List Nat} (h : Bits64 l) : (l.filter fun b => !misB b) = l.filter fun b => !decide (mis b) :=
  List.filter_congr fun b hb => by rw [misB_is (h b hb)]

theorem del_any (g cap n : Nat) (l : List Nat) (hn : l.length = n) (hb : n ≤ 1048576) (hc : n ≤ cap) (h64 : Bits64 l) (w : World) (hL : Lst KF g 0 l w) :
    Calls Try.prog 41 #[.slice (some ⟨g, 0, none⟩) n cap, .func (.func 43) #[] #[]] w fun e w' =>
      e = .returned (.slice (some ⟨g, 0, none⟩) (l.filter fun b => !decide (mis b)).length cap) ∧ Lst KF g 0 (l.filter fun b => !decide (mis b)) w' ∧ But g w w' := by
  have eg : ∀ args w, (callFunc 43 args).run Try.prog w = .ok (.enter 43 args) w := enters_of Try.func43 (by kernel_rfl) rfl
  have hsz : l.toArray.size = n := by simpa using hn
  have hH : Sort.Holds (Value.float .f64) w g 0 l.toArray := fun j hj => by
    have hj' : j < l.length := by simpa using hj
    have := hL.cell j hj'
    refine ⟨?_, hL.frozen j hj'⟩
    rw [this, getElem!_pos l.toArray j hj]
    simp [List.getD_eq_getElem?_getD, hj', KF]
  have hg : ∀ (W : World) (x : Nat), FnGives Try.prog 43 #[] #[Value.float .f64 x] (.bool (misB x)) W := fun W x => by
    show Calls Try.prog 43 #[.float .f64 x] W _
    exact (missing_raw x W).mono fun _ _ h => ⟨h.1, 0, h.2⟩
  have H := AnyE.slices_DeleteFunc laysDel (Value.float .f64) (fun _ => rfl) misB 43 #[] eg 0 Try.zeroValue62 g 0 cap l.toArray w (fun W x _ => hg W x) (fun n os dk x _ => hg _ x) hH (by omega) (by omega)
  change Calls Try.prog 41 _ _ _ at H
  rw [hsz] at H
  have hfl : (l.filter fun b => !misB b) = l.filter fun b => !decide (mis b) := misB_filter h64
  simp only [hfl] at H
  have hle : (l.filter fun b => !decide (mis b)).length ≤ n := by rw [← hn]; exact List.length_filter_le _ _
  generalize (l.filter fun b => !decide (mis b)) = r at *
  refine H.mono ?_
  rintro e w' ⟨rfl, q, rfl⟩
  have hs : (r ++ List.replicate (n - r.length) 0).toArray.size = l.toArray.size := by simp; omega
  have h1 := Sort.holds_putRow (Value.float .f64) (Sort.ahead w q) g 0 _ _ (Sort.holds_ahead (Value.float .f64) w q g 0 _ hH) hs
  have hz : (Sort.putRow (Value.float .f64) (Sort.ahead w q) g 0 (r ++ List.replicate (n - r.length) 0).toArray).heap.size = w.heap.size := by simp [Sort.ahead]
  refine ⟨rfl, ⟨by rw [hz]; exact hL.lt, fun j hj => ?_, fun j hj => ?_⟩, ⟨rfl, rfl, rfl, Nat.le_of_eq hz.symm, fun k _ hk => ?_⟩⟩
  · have hj2 : j < (r ++ List.replicate (n - r.length) 0).toArray.size := by simp; omega
    rw [(h1 j hj2).1, getElem!_pos _ j hj2]
    simp [List.getD_eq_getElem?_getD, hj, KF, List.getElem_append_left]
  · exact (h1 j (by simp; omega)).2
  · simp [Sort.putRow, Sort.mapBlock, Sort.ahead, Array.getElem?_modify, Ne.symm hk]

end Go.Proofs.Ytjaogmbeoldefaa
