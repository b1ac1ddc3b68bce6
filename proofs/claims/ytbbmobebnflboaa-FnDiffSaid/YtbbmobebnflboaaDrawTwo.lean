/-
  Draws: a text that may not be right; two texts, often nearly the same. What comes is bounded; nothing else is said of it.
-/
import Derived.Test.YtbbmobebnflboaaDrawLine
namespace Go.Proofs.Ytbbmobebnflboaa.src
open Go.ChangeShapes Go.WideShapes Go.ChangeAt Go.RowKit
set_option maxRecDepth 20000 in
theorem odd_any (N g : Nat) (w : World) (h : Src N g w) (hN : N ≤ w.heap.size) :
    Calls Try.prog 48 #[.pointer (some ⟨g, 0, none⟩)] w fun e w' => ∃ s : ByteArray, e = .returned (.string s) ∧ s.size ≤ 61 ∧ Drew N g w w' := by
  go_enter Try.func48, Try.ntmps48
  go_wp2_with fail
  refine (line_any N g _ h hN).mono ?_
  rintro e w1 ⟨s, i, rfl, hs, hd⟩
  have hfld : ∀ W : World, (Instr.field 31 (.agg #[.string s, .int .i64 i]) 0).run Try.prog W = .ok (.string s) W := fun _ => by kernel_rfl
  go_wp2
  go_ret
  exact ⟨s, rfl, hs, hd⟩
theorem drew0 {N g : Nat} {w : World} (h : Src N g w) : Drew N g w w := ⟨h, grown_refl _ _⟩
theorem cutL (W : World) (B : ByteArray) (i : Nat) (h : i ≤ B.size) : (Instr.slice 9 (.string B) none (some (.int .i64 (i : Int))) none).run Try.prog W = .ok (.string (B.extract 0 i)) W := by
  rw [run_slice_string_h (P := Try.prog) W 9 (s := B) Try.underlying9 .i64 (i : Int) (by omega) (by omega)]; rfl
theorem cutR (W : World) (B : ByteArray) (i : Nat) (h : i ≤ B.size) : (Instr.slice 9 (.string B) (some (.int .i64 (i : Int))) none none).run Try.prog W = .ok (.string (B.extract i B.size)) W := by
  rw [run_slice_string_l (P := Try.prog) W 9 (s := B) Try.underlying9 .i64 (i : Int) (by omega) (by omega)]; rfl
set_option maxHeartbeats 4000000 in
set_option maxRecDepth 20000 in
theorem two_any (N g : Nat) (w : World) (h : Src N g w) (hN : N ≤ w.heap.size) :
    Calls Try.prog 31 #[.pointer (some ⟨g, 0, none⟩)] w fun e w' => ∃ A B : ByteArray, e = .returned (.tuple #[.string A, .string B]) ∧ A.size ≤ 61 ∧ B.size ≤ 70 ∧ Drew N g w w' := by
  go_enter Try.func31, Try.ntmps31
  go_wp2_with fail
  refine (odd_any N g _ h hN).mono ?_
  rintro e w1 ⟨A, rfl, hA, hd1⟩
  have HD1 := Lib.hid hd1
  clear hd1 h
  go_wp2_with fail
  refine (n_in N g 4 (by omega) (by omega) _ HD1.out.1).mono ?_
  rintro e w2 ⟨k0, rfl, hk0, hd2⟩
  have HD2 := Lib.hid (HD1.out.trans hd2)
  clear hd2 HD1
  go_wp2
  go_loopw [5, 6] (fun b x wr => ∃ (k : Nat) (B : ByteArray), x = .int .i64 (k : Nat) ∧ b = .string B ∧ B.size + 3 * k ≤ 70 ∧ Drew N g w wr) (fun _ x _ => (intOf x).toNat)
  case atStart => exact ⟨k0, A, rfl, rfl, by omega, HD2.out⟩
  case round =>
    obtain ⟨k, B, rfl, rfl, hB, hd⟩ := hrel
    rename World => wr
    have HD := Lib.hid hd
    clear hd HD2
    by_cases hk : 0 < k
    · obtain ⟨j, rfl⟩ : ∃ j, k = j + 1 := ⟨k - 1, by omega⟩
      clear hk
      go_wp2_with fail
      refine (n_in N g ((B.size : Int) + 1) (by omega) (by omega) _ HD.out.1).mono ?_
      rintro e w3 ⟨i, rfl, hi, hd3⟩
      have HD3 := Lib.hid (HD.out.trans hd3)
      clear hd3 HD
      have hiB : i ≤ B.size := by omega
      go_wp2_with fail
      refine (n_in N g 3 (by omega) (by omega) _ HD3.out.1).mono ?_
      rintro e w4 ⟨r, rfl, hr, hd4⟩
      have HD4 := Lib.hid (HD3.out.trans hd4)
      clear hd4 HD3
      have hcl := fun W => cutL W B i hiB
      have hcr := fun W => cutR W B i hiB
      have hPs : (B.extract 0 i).size = i := by rw [ByteArray.size_extract]; omega
      have hQs : (B.extract i B.size).size = B.size - i := by rw [ByteArray.size_extract]; omega
      obtain ⟨P, hP⟩ : ∃ P, P = B.extract 0 i := ⟨_, rfl⟩
      obtain ⟨Q, hQ⟩ : ∃ Q, Q = B.extract i B.size := ⟨_, rfl⟩
      rw [← hP] at hcl hPs
      rw [← hQ] at hcr hQs
      clear hP hQ
      have hr3 : r = 0 ∨ r = 1 ∨ r = 2 := by omega
      rcases hr3 with rfl | rfl | rfl
      · go_wp2_with fail
        have hB2 := ((Below.refl _ w4).alloc (Nat.le_refl _) (.cells #[.string ⟨#[120]⟩, .string ⟨#[111, 110, 101]⟩, .string ⟨#[32]⟩] 9)).drew
        have HB := Lib.hid (HD4.out.below hB2)
        have hrow : (w4.alloc (.cells #[.string ⟨#[120]⟩, .string ⟨#[111, 110, 101]⟩, .string ⟨#[32]⟩] 9)).drew.heap[w4.heap.size]? = some (.cells #[.string ⟨#[120]⟩, .string ⟨#[111, 110, 101]⟩, .string ⟨#[32]⟩] 9 (0, 0)) := heap_alloc_new w4 _
        have hstr : StrRow (#[Value.string ⟨#[120]⟩, .string ⟨#[111, 110, 101]⟩, .string ⟨#[32]⟩] : Array Value).toList 3 := by
          intro v hv
          simp at hv
          rcases hv with rfl | rfl | rfl <;> exact ⟨_, rfl, by decide⟩
        have hg4 := HD4.out.1.lt
        go_region_with (first
            | (go_at_call 50
               refine (pick_any N g w4.heap.size 3 _ _ _ 3 (by omega) (by omega) rfl hstr (by omega) _ HB.out.1 hrow).mono ?_
               rintro e w5 ⟨t, rfl, ht, hd⟩
               have z1 : ¬ 9223372036854775807 < P.size + t.size := by omega
               have z2 : ¬ 9223372036854775807 < P.size + t.size + Q.size := by omega
               have H5 := Lib.hid (HB.out.trans hd)
               clear hd))
        go_wp2
        go_roundw
        case rel => exact ⟨j, _, by go_num, rfl, by simp only [ByteArray.size_append]; omega, H5.out⟩
        case measure => simp [intOf]
      · by_cases hlt : i < B.size
        · have hcr2 := fun W => cutR W B (i + 1) (by omega)
          have hQ2 : (B.extract (i + 1) B.size).size = B.size - (i + 1) := by rw [ByteArray.size_extract]; omega
          obtain ⟨R, hR⟩ : ∃ R, R = B.extract (i + 1) B.size := ⟨_, rfl⟩
          rw [← hR] at hcr2 hQ2
          clear hR
          have hwi : IntKind.i64.wrap ((i : Int) + 1) = (i : Int) + 1 := IntWalk.i64_in _ (by omega)
          have hcr3 : ∀ W : World, (Instr.slice 9 (.string B) (some (.int .i64 ((i : Int) + 1))) none none).run Try.prog W = .ok (.string R) W := hcr2
          have z1 : ¬ 9223372036854775807 < P.size + R.size := by omega
          clear hcr2
          go_wp2_with fail
          go_quiet (fail)
          go_wp2
          go_roundw
          case rel => exact ⟨j, _, by go_num, rfl, by simp only [ByteArray.size_append]; omega, HD4.out.below ⟨rfl, rfl, rfl, Nat.le_refl _, fun _ _ => rfl⟩⟩
          case measure => simp [intOf]
        · go_wp2
          go_roundw
          case rel => exact ⟨j, _, by go_num, rfl, by omega, HD4.out⟩
          case measure => simp [intOf]
      · have z1 : ¬ 9223372036854775807 < Q.size + P.size := by omega
        go_wp2_with fail
        go_quiet (fail)
        go_wp2
        go_roundw
        case rel => exact ⟨j, _, by go_num, rfl, by simp only [ByteArray.size_append]; omega, HD4.out.below ⟨rfl, rfl, rfl, Nat.le_refl _, fun _ _ => rfl⟩⟩
        case measure => simp [intOf]
    · obtain rfl : k = 0 := by omega
      go_wp2_with fail
      refine (one_any N g 4 (by omega) _ HD.out.1).mono ?_
      rintro e w3 ⟨b, rfl, hd3⟩
      have HD3 := Lib.hid (HD.out.trans hd3)
      clear hd3
      cases b
      · go_wp2
        go_ret2
        exact ⟨A, B, rfl, hA, by omega, HD3.out⟩
      · go_wp2_with fail
        refine (odd_any N g _ HD3.out.1 (by have := HD3.out.2.size; omega)).mono ?_
        rintro e w4 ⟨B2, rfl, hB2, hd4⟩
        have HD4 := Lib.hid (HD3.out.trans hd4)
        clear hd4
        go_wp2
        go_ret2
        exact ⟨A, B2, rfl, hA, by omega, HD4.out⟩
end Go.Proofs.Ytbbmobebnflboaa.src
