/-
  PutText of the program and of the model: both come to the same bytes. For every text that the row reads.
-/
import Derived.Test.YtgmbpohbjhaghaaNum
import Derived.Test.YtgmbpohbjhaghaaJoin
namespace Go.Proofs.Ytgmbpohbjhaghaa.text
open Go.ChangeShapes Go.WideShapes Go.ChangeAt Go.RowKit
open Go.Proofs.Ytgmbpohbjhaghaa.num Go.Proofs.Ytgmbpohbjhaghaa.join

def textB (s : ByteArray) : ByteArray := if 8000 < s.size then ByteArray.empty else numB s.size ++ s
theorem numB_size (n : Int) : (numB n).size ≤ 10 := by
  have := vb_len 9 (foldN n)
  show (numL n).toArray.size ≤ 10
  simpa [numL] using this
set_option maxHeartbeats 400000 in
theorem specText_any (s : ByteArray) (hs : s.size ≤ maxLen) (w : World) :
    Calls Try.prog 105 #[.string s] w fun e w' => e = .returned (.string (textB s)) ∧ Below w.heap.size w w' := by
  unfold maxLen at hs
  by_cases h1 : (8000 : Int) < s.size
  · have hf : textB s = ByteArray.empty := if_pos (by omega)
    have HF := Lib.hid hf
    clear hf
    go_enter Try.func105, Try.ntmps105
    go_wp2
    go_ret
    exact ⟨by rw [HF.out]; rfl, Below.refl _ _⟩
  · have hf : textB s = numB s.size ++ s := if_neg (by omega)
    have HF := Lib.hid hf
    clear hf
    go_enter Try.func105, Try.ntmps105
    go_wp2_with fail
    refine (specPut_any _ (by omega) (by omega) _).mono ?_
    rintro e w1 ⟨rfl, hb1⟩
    have hnl : ¬ 9223372036854775807 < (numB s.size).size + s.size := by have := numB_size s.size; omega
    go_wp2
    go_ret
    exact ⟨by rw [HF.out]; rfl, hb1⟩
set_option maxHeartbeats 400000 in
theorem implText_any (s : ByteArray) (hs : s.size ≤ maxLen) (w : World) :
    Calls Try.prog 108 #[.string s] w fun e w' => e = .returned (.string (textB s)) ∧ Below w.heap.size w w' := by
  unfold maxLen at hs
  by_cases h1 : (8000 : Int) < s.size
  · have hf : textB s = ByteArray.empty := if_pos (by omega)
    have HF := Lib.hid hf
    clear hf
    go_enter Try.func108, Try.ntmps108
    go_wp2
    go_ret
    exact ⟨by rw [HF.out]; rfl, Below.refl _ _⟩
  · have hf : textB s = numB s.size ++ s := if_neg (by omega)
    have HF := Lib.hid hf
    have hz := numB_size s.size
    clear hf
    go_enter Try.func108, Try.ntmps108
    go_wp2_with fail
    refine (implPut_any _ (by omega) (by omega) _).mono ?_
    rintro e w1 ⟨rfl, hb1⟩
    go_wp2_with fail
    refine (joined_any _ _ (by omega) (by omega) _).mono ?_
    rintro e w2 ⟨rfl, hb2⟩
    have hb := hb1.trans (hb2.mono hb1.size)
    clear hb1 hb2
    go_wp2
    go_ret
    exact ⟨by rw [HF.out]; rfl, hb⟩
end Go.Proofs.Ytgmbpohbjhaghaa.text
