/-
  The walk of FnNums: a number, or a text, is got back from its bytes, with the place behind it; of bytes that end too early nothing is got. For every two codes, where errors.errorType holds what the program's text lays.
-/
import Derived.Test.YtemfobhfejmboaaDoorNumBack
import Derived.Test.YtemfobhfejmboaaDoorDrawNums
import Derived.Test.YtemfobhfejmboaaDoorOpenBytes
namespace Go.Proofs.YtemfobhfejmboaaDoor.nums
open Go.ChangeShapes Go.WideShapes Go.ChangeAt Go.RowKit
open Go.Proofs.YtemfobhfejmboaaDoor.num Go.Proofs.YtemfobhfejmboaaDoor.read Go.Proofs.YtemfobhfejmboaaDoor.back Go.Proofs.YtemfobhfejmboaaDoor.src Go.Proofs.YtemfobhfejmboaaDoor.as_
set_option maxHeartbeats 6400000 in
set_option maxRecDepth 100000 in
theorem walkFnNums (a0 : Option Addr) (n0 C0 : Nat) (a1 : Option Addr) (n1 C1 : Nat) (w : World) (hg : w.cell? ⟨0, 0, none⟩ = some handleE) (h0 : BytesA w.heap.size a0 n0 w) (h1 : BytesA w.heap.size a1 n1 w) :
    Calls Tryd.prog 3 #[.slice a0 n0 C0, .slice a1 n1 C1] w fun e w' => e = .returned (.bool true) ∧ Below w.heap.size w w' := by
  by_cases hn0 : (1048576 : Int) < n0
  · go_enter Tryd.func3, Tryd.ntmps3
    go_wp2
    go_ret
    exact ⟨rfl, Below.refl _ _⟩
  by_cases hn1 : (1048576 : Int) < n1
  · go_enter Tryd.func3, Tryd.ntmps3
    go_wp2
    go_ret
    exact ⟨rfl, Below.refl _ _⟩
  have hlt := Go.Proofs.YtemfobhfejmboaaDoor.blk_lt hg
  have HG := Lib.hid (show ∀ W, Below w.heap.size w W → W.cell? ⟨0, 0, none⟩ = some handleE from fun W hb => by rw [hb.cell (p := ⟨0, 0, none⟩) hlt]; exact hg)
  have H1 := Lib.hid h1
  clear hg
  go_enter Tryd.func3, Tryd.ntmps3
  go_wp2_with fail
  refine (drawPutNum_any w.heap.size a0 n0 C0 (by omega) _ h0).mono ?_
  rintro e w1 ⟨n, hn, rfl, hb1⟩
  have HB1 := Lib.hid hb1
  have HN := Lib.hid hn
  clear h0 h1 hb1 hn
  have HPI := Lib.hid (implPut_any n HN.out.1 HN.out.2)
  have HPS := Lib.hid (specPut_any n HN.out.1 HN.out.2)
  have hT1 : 1 ≤ (numB n).size := by rw [numB_len]; exact numL_pos n
  have hT2 := Go.Proofs.YtemfobhfejmboaaDoor.text.numB_size n
  have HBK := Lib.hid (num_back n HN.out.1 HN.out.2)
  have HSH := Lib.hid (num_short n)
  obtain ⟨T, hT⟩ : ∃ T, T = numB n := ⟨_, rfl⟩
  rw [← hT] at HPI HPS hT1 hT2 HBK HSH
  clear hT
  go_wp2_with fail
  refine (HPI.out _).mono ?_
  rintro e w2 ⟨rfl, hb2⟩
  have HB2 := Lib.hid (bthen HB1.out hb2 HB1.out.size)
  clear hb2
  go_wp2_with fail
  refine (HPS.out _).mono ?_
  rintro e w3 ⟨rfl, hb3⟩
  have HB3 := Lib.hid (bthen HB2.out hb3 HB2.out.size)
  clear hb3
  have z1 : ¬ 9223372036854775807 < (⟨#[120, 121]⟩ : ByteArray).size + T.size := by show ¬ 9223372036854775807 < 2 + T.size; omega
  have zs : (⟨#[120, 121]⟩ ++ T : ByteArray).size ≤ 12 := by rw [ByteArray.size_append]; show 2 + T.size ≤ 12; omega
  have z2 : ¬ 9223372036854775807 < (⟨#[120, 121]⟩ ++ T : ByteArray).size + (⟨#[122]⟩ : ByteArray).size := by show ¬ 9223372036854775807 < _ + 1; omega
  go_wp2_with fail
  have xs : (⟨#[120, 121]⟩ ++ T ++ ⟨#[122]⟩ : ByteArray).size ≤ 13 := by rw [ByteArray.size_append]; show _ + 1 ≤ 13; omega
  have HGI := Lib.hid (implGet_any (⟨#[120, 121]⟩ ++ T ++ ⟨#[122]⟩) 2 (by unfold maxLen; omega) w3 (HG.out _ HB3.out))
  rw [HBK.out] at HGI
  unfold nout at HGI
  dsimp only at HGI
  refine HGI.out.mono ?_
  rintro e w4 ⟨rfl, hb4⟩
  have HB4 := Lib.hid ((bthen HB3.out hb4 HB3.out.size).alloc (Nat.le_trans HB3.out.size hb4.size) (.cells #[.int .i64 n, .int .i64 ((T.size : Int) + 2), .int .i64 0] 26))
  clear hb4 HGI xs z1 z2 zs HBK HPI HPS
  have wm : IntKind.i64.wrap ((T.size : Int) - 1) = (T.size : Int) - 1 := IntWalk.i64_in _ (by omega)
  have tm : ((T.size : Int) - 1).toNat = T.size - 1 := by omega
  have hsl : ∀ W : World, (Instr.slice 9 (.string T) none (some (.int .i64 ((T.size : Int) - 1))) none).run Tryd.prog W = .ok (.string (T.extract 0 (T.size - 1))) W := fun W => by
    rw [run_slice_string_h (P := Tryd.prog) W 9 (s := T) Tryd.underlying9 .i64 ((T.size : Int) - 1) (by omega) (by omega), tm]
  obtain ⟨Y, hY⟩ : ∃ Y, Y = T.extract 0 (T.size - 1) := ⟨_, rfl⟩
  have hYs : Y.size ≤ 10 := by rw [hY, ByteArray.size_extract]; omega
  rw [← hY] at hsl HSH
  have HGJ := Lib.hid (implGet_any Y 0 (by unfold maxLen; omega) _ (HG.out _ HB4.out))
  obtain ⟨x, y, z, hV⟩ : ∃ x y z, getV Y 0 = (x, y, z) := ⟨_, _, _, rfl⟩
  have hz4 : z = 4 := by have h := HSH.out; rw [hV] at h; exact h
  rw [hV, hz4] at HGJ
  unfold nout at HGJ
  dsimp only at HGJ
  have hfld : ∀ W : World, (Instr.field 26 (.agg #[.int .i64 x, .int .i64 y, .int .i64 4]) 2).run Tryd.prog W = .ok (.int .i64 4) W := fun _ => by kernel_rfl
  clear hY hV hz4 tm
  go_wp2_with fail
  refine HGJ.out.mono ?_
  rintro e w5 ⟨rfl, hb5⟩
  have HB5 := Lib.hid (bthen HB4.out hb5 HB4.out.size)
  clear hb5 HGJ hsl wm
  go_wp2_with fail
  refine (drawPutText_any w.heap.size a1 n1 C1 (by omega) _ HB5.out.size (H1.out.below HB5.out)).mono ?_
  rintro e w6 ⟨U, rfl, hU, hb6⟩
  have HB6 := Lib.hid (bthen HB5.out hb6 HB5.out.size)
  clear hb6 hfld HSH
  have hUm : U.size ≤ maxLen := by unfold maxLen; omega
  have HTI := Lib.hid (Go.Proofs.YtemfobhfejmboaaDoor.text.implText_any U hUm)
  have HTS := Lib.hid (Go.Proofs.YtemfobhfejmboaaDoor.text.specText_any U hUm)
  by_cases h8 : 8000 < U.size
  · rw [show Go.Proofs.YtemfobhfejmboaaDoor.text.textB U = ByteArray.empty by unfold Go.Proofs.YtemfobhfejmboaaDoor.text.textB; rw [if_pos h8]] at HTI HTS
    have hem : (ByteArray.empty : ByteArray) = ⟨#[]⟩ := rfl
    rw [hem] at HTI HTS
    clear hem hUm hU h8
    go_wp2_with fail
    refine (HTI.out _).mono ?_
    rintro e w7 ⟨rfl, hb7⟩
    have HB7 := Lib.hid (bthen HB6.out hb7 HB6.out.size)
    clear hb7
    go_wp2_with fail
    refine (HTS.out _).mono ?_
    rintro e w8 ⟨rfl, hb8⟩
    have HB8 := Lib.hid (bthen HB7.out hb8 HB7.out.size)
    clear hb8
    go_wp2_with fail
    refine (HTS.out _).mono ?_
    rintro e w9 ⟨rfl, hb9⟩
    have HB9 := Lib.hid (bthen HB8.out hb9 HB8.out.size)
    clear hb9
    go_wp2
    go_ret
    exact ⟨rfl, HB9.out⟩
  · have hU2 : U.size ≤ 20 := by omega
    rw [show Go.Proofs.YtemfobhfejmboaaDoor.text.textB U = numB U.size ++ U by unfold Go.Proofs.YtemfobhfejmboaaDoor.text.textB; rw [if_neg h8]] at HTI HTS
    have hz := Go.Proofs.YtemfobhfejmboaaDoor.text.numB_size U.size
    have hp1 : 1 ≤ (numB U.size ++ U).size := by rw [ByteArray.size_append, numB_len]; have := numL_pos U.size; omega
    have hp2 : (numB U.size ++ U).size ≤ 30 := by rw [ByteArray.size_append]; omega
    have HTB := Lib.hid (text_back U (by omega))
    have HTH := Lib.hid (text_short U (by omega))
    obtain ⟨P, hP⟩ : ∃ P, P = numB U.size ++ U := ⟨_, rfl⟩
    rw [← hP] at HTI HTS hp1 hp2 HTB HTH
    have hpe := empty_f hp1
    clear hP hz h8 hU hUm
    go_wp2_with fail
    refine (HTI.out _).mono ?_
    rintro e w7 ⟨rfl, hb7⟩
    have HB7 := Lib.hid (bthen HB6.out hb7 HB6.out.size)
    clear hb7
    go_wp2_with fail
    refine (HTS.out _).mono ?_
    rintro e w8 ⟨rfl, hb8⟩
    have HB8 := Lib.hid (bthen HB7.out hb8 HB7.out.size)
    clear hb8
    have z1 : ¬ 9223372036854775807 < (⟨#[120]⟩ : ByteArray).size + P.size := by show ¬ 9223372036854775807 < 1 + P.size; omega
    go_wp2_with fail
    have xs : (⟨#[120]⟩ ++ P : ByteArray).size ≤ 31 := by rw [ByteArray.size_append]; show 1 + P.size ≤ 31; omega
    have HGI := Lib.hid (implText_any (⟨#[120]⟩ ++ P) 1 (by unfold maxLen; omega) w8 (HG.out _ HB8.out))
    rw [HTB.out] at HGI
    unfold toutV at HGI
    dsimp only at HGI
    refine HGI.out.mono ?_
    rintro e w9 ⟨rfl, hb9⟩
    have HB9 := Lib.hid (bthen HB8.out hb9 HB8.out.size)
    clear hb9 HGI xs z1 HTB HTI HTS
    have wm : IntKind.i64.wrap ((P.size : Int) - 1) = (P.size : Int) - 1 := IntWalk.i64_in _ (by omega)
    have tm : ((P.size : Int) - 1).toNat = P.size - 1 := by omega
    have hsl : ∀ W : World, (Instr.slice 9 (.string P) none (some (.int .i64 ((P.size : Int) - 1))) none).run Tryd.prog W = .ok (.string (P.extract 0 (P.size - 1))) W := fun W => by
      rw [run_slice_string_h (P := Tryd.prog) W 9 (s := P) Tryd.underlying9 .i64 ((P.size : Int) - 1) (by omega) (by omega), tm]
    obtain ⟨Y, hY⟩ : ∃ Y, Y = P.extract 0 (P.size - 1) := ⟨_, rfl⟩
    have hYs : Y.size ≤ 30 := by rw [hY, ByteArray.size_extract]; omega
    rw [← hY] at hsl HTH
    have HGJ := Lib.hid (implText_any Y 0 (by unfold maxLen; omega) w9 (HG.out _ HB9.out))
    obtain ⟨x, y, z, hV⟩ : ∃ x y z, textV Y 0 = (x, y, z) := ⟨_, _, _, rfl⟩
    have hz4 : z = 4 := by have h := HTH.out; rw [hV] at h; exact h
    rw [hV, hz4] at HGJ
    unfold toutV at HGJ
    dsimp only at HGJ
    have hfld : ∀ W : World, (Instr.field 31 (.agg #[.string x, .int .i64 y, .int .i64 4]) 2).run Tryd.prog W = .ok (.int .i64 4) W := fun _ => by kernel_rfl
    clear hY hV hz4 tm
    go_wp2_with fail
    refine HGJ.out.mono ?_
    rintro e w10 ⟨rfl, hb10⟩
    have HB10 := Lib.hid (bthen HB9.out hb10 HB9.out.size)
    clear hb10 HGJ hsl wm
    go_wp2
    go_ret
    exact ⟨rfl, HB10.out⟩
end Go.Proofs.YtemfobhfejmboaaDoor.nums
