/-
  Insert of the program and of the model: both come to the same answer. For every line, every text that the row reads.
-/
import Derived.Test.YtnnmcenmnmmfpaaDoorLineRight
import Derived.Test.YtnnmcenmnmmfpaaDoorJoin
namespace Go.Proofs.YtnnmcenmnmmfpaaDoor.line
open Go.ChangeShapes Go.WideShapes Go.ChangeAt Go.RowKit
open Go.Proofs.YtnnmcenmnmmfpaaDoor.join
def illV (c : Int) : Value := .agg #[.string ⟨#[]⟩, .int .i64 0, .string ⟨#[]⟩, .int .i64 c]
def insT (s t : ByteArray) (k : Nat) : ByteArray := s.extract 0 k ++ t ++ s.extract k s.size
noncomputable def insV (s : ByteArray) (a : Int) (t : ByteArray) : Value :=
  if 8000 < t.size then illV 2
  else if lineB s a = false ∨ textB t = false then illV 1
  else if 60 < s.size + t.size then illV 9
  else .agg #[.string (insT s t a.toNat), .int .i64 (a + t.size), .string ⟨#[]⟩, .int .i64 0]
theorem insV_form (s : ByteArray) (a : Int) (t : ByteArray) : ∃ x i g c, insV s a t = .agg #[.string x, .int .i64 i, .string g, .int .i64 c] := by
  unfold insV illV; split
  · exact ⟨_, _, _, _, rfl⟩
  · split
    · exact ⟨_, _, _, _, rfl⟩
    · split <;> exact ⟨_, _, _, _, rfl⟩
set_option maxHeartbeats 800000 in
theorem replaced_any (s b : ByteArray) (i j : Nat) (hs : s.size ≤ 60) (hb : b.size ≤ 60) (hi : i ≤ s.size) (hj : j ≤ s.size) (w : World) :
    Calls Tryd.prog 16 #[.string s, .int .i64 i, .int .i64 j, .string b] w fun e w' =>
      e = .returned (.string (s.extract 0 i ++ b ++ s.extract j s.size)) ∧ Below w.heap.size w w' := by
  obtain ⟨X, hX⟩ : ∃ X, X = s.extract 0 i := ⟨_, rfl⟩
  obtain ⟨Y, hY⟩ : ∃ Y, Y = s.extract j s.size := ⟨_, rfl⟩
  have hs1 : ∀ W, (Instr.slice 34 (.string s) none (some (.int .i64 (i : Int))) none).run Tryd.prog W = .ok (.string X) W := by
    intro W
    rw [run_slice_string_h (P := Tryd.prog) W 34 (s := s) Tryd.underlying34 .i64 (i : Int) (by omega) (by omega), hX]; rfl
  have hs2 : ∀ W, (Instr.slice 34 (.string s) (some (.int .i64 (j : Int))) none none).run Tryd.prog W = .ok (.string Y) W := by
    intro W
    rw [run_slice_string_l (P := Tryd.prog) W 34 (s := s) Tryd.underlying34 .i64 (j : Int) (by omega) (by omega), hY]; rfl
  have e1 : X.size = i := by rw [hX]; simp; omega
  have e2 : Y.size = s.size - j := by rw [hY]; simp
  rw [← hX, ← hY]
  clear hX hY
  go_enter Tryd.func16, Tryd.ntmps16
  go_wp2
  go_region_with (go_at_call 27; refine (joined_any _ _ ?_ ?_ _).mono ?_; (try simp only [ByteArray.size_append]); omega; omega; rintro e w1 ⟨rfl, hb1⟩)
  rename_i w0 hb0
  have HB := Lib.hid (bthen (bthen (Below.drew (Below.refl _ w)) hb0 (Nat.le_refl _)) hb1 hb0.size)
  clear hb0 hb1
  go_wp2
  go_ret
  exact ⟨rfl, HB.out⟩
theorem replacedT_any (T s b : ByteArray) (i j : Nat) (hT : s.extract 0 i ++ b ++ s.extract j s.size = T) (hs : s.size ≤ 60) (hb : b.size ≤ 60) (hi : i ≤ s.size) (hj : j ≤ s.size) (w : World) :
    Calls Tryd.prog 16 #[.string s, .int .i64 i, .int .i64 j, .string b] w fun e w' => e = .returned (.string T) ∧ Below w.heap.size w w' := by
  rw [← hT]; exact replaced_any s b i j hs hb hi hj w
end Go.Proofs.YtnnmcenmnmmfpaaDoor.line
