/-
  THE DOCUMENT's Get: the dataset of a text, or what is wrong with it. Condition: at most 10000 bytes.
-/
import Derived.Test.YtbmbgfmhejahjaaPOf
import Derived.Test.YtbmbgfmhejahjaaRefCGet
namespace Go.Proofs.Ytbmbgfmhejahjaa
open Go.RowKit

theorem sb_take (l : List UInt8) (n : Nat) (w : World) (h : n ≤ l.length) : (Instr.slice 9 (.string (sb l)) none (some (.int .i64 (n : Int))) none).run Try.prog w = .ok (.string (sb (l.take n))) w := by
  rw [run_slice_string_h w 9 (sb l) Try.underlying9 .i64 (n : Int) (by omega) (by rw [sb_size]; omega)]
  congr 2
  apply ByteArray.ext
  simp [sb, ByteArray.data_extract]
theorem sb_drop (l : List UInt8) (n : Nat) (w : World) (h : n ≤ l.length) : (Instr.slice 9 (.string (sb l)) (some (.int .i64 (n : Int))) none none).run Try.prog w = .ok (.string (sb (l.drop n))) w := by
  rw [run_slice_string_l w 9 (sb l) Try.underlying9 .i64 (n : Int) (by omega) (by rw [sb_size]; omega)]
  congr 2
  apply ByteArray.ext
  simp [sb, ByteArray.data_extract]
  exact List.take_of_length_le (by rw [List.length_drop, show (ByteArray.size ⟨l.toArray⟩) = l.length from sb_size l]; exact Nat.le_refl _)

theorem refCGet_short (l : List UInt8) (hl : l.length < 14) (w : World) :
    Calls Try.prog 31 #[.string (sb l)] w fun e w' => e = .returned (.tuple #[cf 0 0 0 0 0 0 0, .int .i64 2]) ∧ Below w.heap.size w w' := by
  have hs := sb_size l
  have g : ((sb l).size : Int) < 14 := by omega
  have s0 := SevW.new 0 0 0 0 0 0 0 w 23
  have b0 := zerW_below w 23
  have HB := Lib.hid b0
  clear b0 hl hs
  go_enter Try.func31, Try.ntmps31
  go_wp2_with fail
  change bodyPost _ _ _ _ _ (zerW w 23)
  change SevW w.heap.size (nf 0 0 0 0 0 0 0) (zerW w 23) at s0
  generalize zerW w 23 = w6 at *
  obtain ⟨c0, c1, c2, c3, c4, c5, c6⟩ := s0.sev.cells
  refine bodyPost_ret (v := .tuple #[cf 0 0 0 0 0 0 0, .int .i64 2]) (by simp [cf, results, Try.results31, go_sem, c0, c1, c2, c3, c4, c5, c6]) rfl ?_
  exact ⟨rfl, HB.out⟩
end Go.Proofs.Ytbmbgfmhejahjaa
