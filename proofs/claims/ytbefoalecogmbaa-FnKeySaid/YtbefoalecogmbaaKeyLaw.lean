/-
  The walk of KeyOf's law. For every text that the row reads, every number.
-/
import Derived.Test.YtbefoalecogmbaaKeySpec
namespace Go.Proofs.Ytbefoalecogmbaa.key
open Go.ChangeShapes Go.WideShapes Go.ChangeAt Go.RowKit
set_option maxHeartbeats 1600000 in
theorem specKeyOf_any (s : ByteArray) (b : Int) (hs : s.size ≤ maxLen) (w : World) :
    Calls Try.prog 16 #[.string s, .int .i64 b] w fun e w' => e = .returned (keyOfV s b) ∧ Below w.heap.size w w' := by
  by_cases h8 : 8000 < s.size
  · have HV := Lib.hid (keyOfV_size (b := b) h8)
    unfold maxLen at hs
    have h8' : (8000 : Int) < s.size := by omega
    go_enter Try.func16, Try.ntmps16
    go_wp2
    exact bodyPost_ret (v := koV ⟨#[]⟩ 0 0 false 2) (by simp [koV, results, Try.results16, go_sem]) rfl ⟨by rw [HV.out], (Below.refl _ w).alloc (Nat.le_refl _) _⟩
  have h8' : ¬ (8000 : Int) < s.size := by omega
  have hwt := l04Wait_any s
  by_cases hw : s.data.toList ∈ waits
  · rw [show decide (s.data.toList ∈ waits) = true from decide_eq_true hw] at hwt
    by_cases hbb : 0 ≤ b ∧ b ≤ 255
    · obtain ⟨x, rfl⟩ : ∃ x : UInt8, b = ((x.toNat : Nat) : Int) := ⟨UInt8.ofNat b.toNat, by rw [UInt8.toNat_ofNat_of_lt' (show b.toNat < 256 by omega)]; omega⟩
      have hv := keyOfV_ok h8 ⟨hw, hbb⟩
      rw [Int.toNat_natCast, UInt8.ofNat_toNat] at hv
      have HV := Lib.hid hv
      have hib := is_any ((x.toNat : Nat) : Int) 0 255
      rw [betB_t hbb.1 hbb.2] at hib
      have HW := Lib.hid hw
      have K0 := Lib.hid (Ko0.made w 31)
      clear hv hw hbb
      go_enter Try.func16, Try.ntmps16
      go_wp2_with (first | (go_at_call 39; refine (hwt _).mono ?_; rintro e w4 ⟨rfl, rfl⟩) | (go_at_call 40; refine (hib _).mono ?_; rintro e w4 ⟨rfl, rfl⟩))
      refine (l04Of_any s x HW.out _).mono ?_
      rintro e w5 ⟨rfl, hb5⟩
      have HB5 := Lib.hid (bthen ((Below.refl _ w).alloc (Nat.le_refl _) _) hb5 (by simp))
      obtain ⟨c0, c1, c2, c3, c4, fz⟩ := K0.out.below hb5
      obtain ⟨p5, q5⟩ := keepC hb5 (g := w.heap.size) (by simp)
      clear hb5
      obtain ⟨X, hX⟩ : ∃ X, X = ofV s.data.toList x := ⟨_, rfl⟩
      rw [← hX] at HV ⊢
      obtain ⟨X1, X2, X3, X4⟩ := X
      clear hX
      unfold koKO koV
      go_wp2
      exact bodyPost_ret (v := koV ⟨X1.toArray⟩ X2 X3 X4 0) (by simp [koV, results, Try.results16, go_sem, c0, c1, c2, c3, c4]) rfl ⟨by rw [HV.out]; rfl, five HB5.out (Nat.le_refl _) _ _ _ _ _⟩
    · have HV := Lib.hid (keyOfV_form h8 (fun h => hbb h.2))
      have hib := is_any b 0 255
      rw [show betB 0 b 255 = false by simp [betB]; omega] at hib
      clear hw hbb
      go_enter Try.func16, Try.ntmps16
      go_wp2_with (first | (go_at_call 39; refine (hwt _).mono ?_; rintro e w4 ⟨rfl, rfl⟩) | (go_at_call 40; refine (hib _).mono ?_; rintro e w4 ⟨rfl, rfl⟩))
      exact bodyPost_ret (v := koV ⟨#[]⟩ 0 0 false 1) (by simp [koV, results, Try.results16, go_sem]) rfl ⟨by rw [HV.out], (Below.refl _ w).alloc (Nat.le_refl _) _⟩
  · rw [show decide (s.data.toList ∈ waits) = false from decide_eq_false hw] at hwt
    have HV := Lib.hid (keyOfV_form (b := b) h8 (fun h => hw h.1))
    clear hw
    go_enter Try.func16, Try.ntmps16
    go_wp2_with (go_at_call 39; refine (hwt _).mono ?_; rintro e w4 ⟨rfl, rfl⟩)
    exact bodyPost_ret (v := koV ⟨#[]⟩ 0 0 false 1) (by simp [koV, results, Try.results16, go_sem]) rfl ⟨by rw [HV.out], (Below.refl _ w).alloc (Nat.le_refl _) _⟩
theorem keyOfV_ko (s : ByteArray) (b : Int) : ∃ (a : ByteArray) (k y : Int) (h : Bool) (c : Int), keyOfV s b = koV a k y h c := by
  unfold keyOfV
  split
  · exact ⟨_, _, _, _, _, rfl⟩
  · split
    · exact ⟨_, _, _, _, _, rfl⟩
    · exact ⟨_, _, _, _, _, rfl⟩
theorem eqKey_same (k y : Int) (w : World) :
    Calls Try.prog 43 #[.agg #[.int .i64 k, .int .i64 y], .agg #[.int .i64 k, .int .i64 y]] w fun e w' => e = .returned (.bool true) ∧ Below w.heap.size w w' := by
  go_enter Try.func43, Try.ntmps43
  go_wp2
  go_ret
  exact ⟨rfl, ((Below.refl _ _).alloc (Nat.le_refl _) _).alloc (by simp) _⟩
set_option maxHeartbeats 1600000 in
theorem eqKeyOut_same (a : ByteArray) (k y : Int) (h : Bool) (c : Int) (w : World) :
    Calls Try.prog 21 #[koV a k y h c, koV a k y h c] w fun e w' => e = .returned (.bool true) ∧ Below w.heap.size w w' := by
  unfold koV
  cases h
  all_goals
    go_enter Try.func21, Try.ntmps21
    go_wp2_with fail
    refine (eqKey_same _ _ _).mono ?_
    rintro e w1 ⟨rfl, hb1⟩
    have HB := Lib.hid (bthen (((Below.refl _ w).alloc (Nat.le_refl _) _).alloc (by simp) _) hb1 (by simp; omega))
    obtain ⟨p0, _⟩ := keepC hb1 (g := w.heap.size) (by simp; omega)
    obtain ⟨p1, _⟩ := keepC hb1 (g := w.heap.size + 1) (by simp)
    clear hb1
    go_wp2
    go_ret
    exact ⟨rfl, HB.out⟩
set_option maxHeartbeats 1600000 in
theorem walkKeyOf (a0 : ByteArray) (a1 : Int) (w0 : a0.size ≤ maxLen) (_ : (Lit.int .i64 a1).wf = true) (w : World) :
    Calls Try.prog 4 #[.string a0, .int .i64 a1] w fun e w' => e = .returned (.bool true) ∧ Below w.heap.size w w' := by
  have HS := Lib.hid (specKeyOf_any a0 a1 w0)
  have HI := Lib.hid (implKeyOf_any a0 a1 w0)
  obtain ⟨a, k, y, h, c, hv⟩ := keyOfV_ko a0 a1
  rw [hv] at HS HI
  clear hv
  have HE := Lib.hid (eqKeyOut_same a k y h c)
  unfold koV at HS HI HE
  unfold maxLen at w0
  by_cases hl : (1048576 : Int) < a0.size
  · go_enter Try.func4, Try.ntmps4
    go_wp2
    go_ret
    exact ⟨rfl, Below.refl _ _⟩
  go_enter Try.func4, Try.ntmps4
  go_wp2_with fail
  refine (HS.out _).mono ?_
  rintro e w1 ⟨rfl, hb1⟩
  have HB1 := Lib.hid (hb1.alloc hb1.size (.cells #[.string a, .int .i64 k, .int .i64 y, .bool h, .int .i64 c] 31))
  clear hb1
  go_wp2_with fail
  refine (HI.out _).mono ?_
  rintro e w2 ⟨rfl, hb2⟩
  obtain ⟨p1, _⟩ := keepC hb2 (g := w1.heap.size) (by simp)
  have z2 : w1.heap.size < w2.heap.size := by have := hb2.size; simp at this; omega
  have HB2 := Lib.hid ((bthen HB1.out hb2 HB1.out.size).alloc (Nat.le_trans HB1.out.size hb2.size) (.cells #[.string a, .int .i64 k, .int .i64 y, .bool h, .int .i64 c] 31))
  clear hb2
  go_wp2_with fail
  refine (HE.out _).mono ?_
  rintro e w3 ⟨rfl, hb3⟩
  have HB3 := Lib.hid (bthen HB2.out hb3 HB2.out.size)
  clear hb3
  go_wp2
  go_ret
  exact ⟨rfl, HB3.out⟩
end Go.Proofs.Ytbefoalecogmbaa.key
