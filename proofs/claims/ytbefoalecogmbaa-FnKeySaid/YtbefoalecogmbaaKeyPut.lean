/-
  A key's bytes put into the map of maps (putKey of the program). For every text of 1 to 1000 bytes.
-/
import Derived.Test.YtbefoalecogmbaaKeyMaps
namespace Go.Proofs.Ytbefoalecogmbaa.key
open Go.ChangeShapes Go.WideShapes Go.ChangeAt Go.RowKit
def preF (F : KF) (t : List UInt8) : Nat → KF
  | 0 => F
  | i + 1 => upd (preF F t i) (t.take i) (t.getD i 0) 0
def putF (F : KF) (t : List UInt8) (k : Int) : KF := upd (preF F t (t.length - 1)) (t.take (t.length - 1)) (t.getD (t.length - 1) 0) k
theorem ext_list (s : ByteArray) (i : Nat) : (s.extract 0 i).data.toList = s.data.toList.take i := by
  simp [ByteArray.data_extract]
theorem at_list (s : ByteArray) (i : Nat) (h : i < s.size) : s[i] = s.data.toList.getD i 0 := by
  have h2 : i < s.data.toList.length := h
  rw [List.getD_eq_getElem?_getD, List.getElem?_eq_getElem h2]
  rfl
theorem ext_size (s : ByteArray) (i : Nat) (h : i ≤ s.size) : (s.extract 0 i).size = i := by simp [ByteArray.size_extract]; omega
theorem draws_below (B : Nat) (w : World) (q : Nat) : Below B w (w.drewN q) := ⟨rfl, rfl, rfl, Nat.le_refl _, fun _ _ => rfl⟩
theorem putByte_anyN (base B n : Nat) (F : KF) (s : ByteArray) (x : UInt8) (k : Int) (hs : s.size ≤ maxLen) (hn : n + 1 < maxLen) (hk : (Lit.int .i64 k).wf = true) (w : World) (q : Nat) (hbase : base ≤ w.heap.size) (h : Maps2 base w B n F) :
    Calls Try.prog 49 #[.map (some B), .string s, .int .u8 (x.toNat : Nat), .int .i64 k] (w.drewN q) fun e w' => e = .returned (.tuple #[]) ∧ Maps2 base w' B (n + 2) (upd F s.data.toList x k) ∧ Below base w w' ∧ keepsCells w w' :=
  (putByte_any base B n F s x k hs hn hk (w.drewN q) hbase (h.below (draws_below _ _ _))).mono fun _ _ ⟨e1, e2, e3, e4⟩ => ⟨e1, e2, (draws_below _ _ _).trans e3, e4⟩
set_option maxHeartbeats 800000 in
theorem putKey_any (base B n : Nat) (F : KF) (s : ByteArray) (k : Int) (h0 : 0 < s.size) (hs : s.size ≤ 1000) (hn : n ≤ 1000000) (hk : (Lit.int .i64 k).wf = true) (w : World) (hbase : base ≤ w.heap.size) (h : Maps2 base w B n F) :
    Calls Try.prog 46 #[.map (some B), .string s, .int .i64 k] w fun e w' => e = .returned (.tuple #[]) ∧ Maps2 base w' B (n + 2 * s.size) (putF F s.data.toList k) ∧ Below base w w' ∧ keepsCells w w' := by
  obtain ⟨m, hm⟩ : ∃ m, m + 1 = s.size := ⟨s.size - 1, by omega⟩
  have hlt : m < s.size := by omega
  have hw1 : IntKind.i64.wrap ((s.size : Int) - 1) = m := by rw [IntWalk.i64_in _ (by omega)]; omega
  have hm' : (s.size : Int) - 1 = m := by omega
  have hl : s.data.toList.length = s.size := rfl
  have HP := Lib.hid (show putF F s.data.toList k = upd (preF F s.data.toList m) (s.extract 0 m).data.toList s[m] k by
    rw [ext_list, at_list s m hlt]; unfold putF; rw [hl, ← hm]; rfl)
  have HQ := Lib.hid (show ∀ i (hi : i < s.size), upd (preF F s.data.toList i) (s.extract 0 i).data.toList s[i] 0 = preF F s.data.toList (i + 1) from fun i hi => by
    rw [ext_list, at_list s i hi]; rfl)
  have HM := Lib.hid h
  have HE := Lib.hid (fun i (hi : i ≤ s.size) => ext_size s i hi)
  have HSZ := Lib.hid hm
  have HM' := Lib.hid hm'
  clear h hm hl
  go_enter Try.func46, Try.ntmps46
  go_wp2
  go_loopw [12] (fun iv wr => ∃ i : Nat, i ≤ m ∧ iv = .int .i64 i ∧ Maps2 base wr B (n + 2 * i) (preF F s.data.toList i) ∧ Below base w wr ∧ keepsCells w wr) (fun iv _ => m - (intOf iv).toNat)
  case atStart => exact ⟨0, Nat.zero_le _, rfl, HM.out, Below.refl _ _, fun _ _ _ _ e => e⟩
  case round =>
    obtain ⟨i, hi, rfl, hms, hb, hkc⟩ := hrel
    rename World => wr
    have HR := Lib.hid hms
    have HB := Lib.hid hb
    have HK := Lib.hid hkc
    have hz := hb.size
    clear hms hb hkc
    by_cases hlt2 : i < m
    · have his : i < s.size := by omega
      have hcall : ∀ q, Calls Try.prog 49 #[.map (some B), .string (s.extract 0 i), .int .u8 ((s[i].toNat : Nat) : Int), .int .i64 0] (wr.drewN q) fun e w' => e = .returned (.tuple #[]) ∧ Maps2 base w' B (n + 2 * (i + 1)) (preF F s.data.toList (i + 1)) ∧ Below base wr w' ∧ keepsCells wr w' := fun q => by
        have hx := HE.out i (by omega)
        have h := putByte_anyN base B (n + 2 * i) (preF F s.data.toList i) (s.extract 0 i) s[i] 0 (by unfold maxLen; omega) (by unfold maxLen; omega) (by decide) wr q (by omega) HR.out
        rw [HQ.out i his] at h
        exact h
      have HC := Lib.hid hcall
      clear hcall
      go_wp2
      go_region_with (go_at_call 49; refine (HC.out _).mono ?_; rintro e w2 ⟨rfl, hm2, hb2, hk2⟩)
      all_goals
        have HM2 := Lib.hid hm2
        have HB2 := Lib.hid (HB.out.trans hb2)
        have HK2 := Lib.hid (HK.out.trans hk2)
        clear hm2 hb2 hk2
        go_wp2
        go_roundw
        case rel => exact ⟨i + 1, by omega, by go_num, HM2.out, HB2.out, HK2.out⟩
        case measure => simp [intOf]; omega
    · obtain rfl : i = m := by omega
      have hcall : ∀ q, Calls Try.prog 49 #[.map (some B), .string (s.extract 0 i), .int .u8 ((s[i].toNat : Nat) : Int), .int .i64 k] (wr.drewN q) fun e w' => e = .returned (.tuple #[]) ∧ Maps2 base w' B (n + 2 * s.size) (putF F s.data.toList k) ∧ Below base wr w' ∧ keepsCells wr w' := fun q => by
        have hx := HE.out i (by omega)
        have h := putByte_anyN base B (n + 2 * i) (preF F s.data.toList i) (s.extract 0 i) s[i] k (by unfold maxLen; omega) (by unfold maxLen; omega) hk wr q (by omega) HR.out
        rw [← HP.out] at h
        have := HSZ.out
        exact h.mono fun e w' ⟨e1, e2, e3⟩ => ⟨e1, e2.mono (by omega), e3⟩
      have HC := Lib.hid hcall
      clear hcall
      go_wp2
      go_region_with (go_at_call 49; refine (HC.out _).mono ?_; rintro e w2 ⟨rfl, hm2, hb2, hk2⟩)
      all_goals
        have HM2 := Lib.hid hm2
        have HB2 := Lib.hid (HB.out.trans hb2)
        have HK2 := Lib.hid (HK.out.trans hk2)
        clear hm2 hb2 hk2
        go_wp2
        go_end0
        exact ⟨rfl, HM2.out, HB2.out, HK2.out⟩
end Go.Proofs.Ytbefoalecogmbaa.key
