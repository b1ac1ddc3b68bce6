/-
  A text of one byte; a text for every number (markText of the laws). Own work.
-/
import Derived.Test.YtjjabfcdhknigaaBase
import Derived.LoopTactic
namespace Go.Proofs.Ytjjabfcdhknigaa
open Go.ChangeShapes Go.WideShapes Go.ChangeAt Go.RowKit
def oneBy (c : UInt8) : ByteArray := ⟨#[c]⟩
theorem conv_oneBy (c : UInt8) (W : World) :
    (convert 73 9 (.slice (some ⟨W.heap.size, 0, none⟩) 1 1)).run Try.prog (W.alloc (.cells #[.int .u8 (c.toNat : Nat)] 5)) = .ok (.string (oneBy c)) (W.alloc (.cells #[.int .u8 (c.toNat : Nat)] 5)) :=
  conv_row (P := Try.prog) (w := W.alloc (.cells #[.int .u8 (c.toNat : Nat)] 5)) (g := W.heap.size) (cap := 1) 73 5 Try.underlying73 Try.underlying5 [c] (fun i hi => by
    have : i = 0 := by simp at hi; omega
    subst this
    rw [World.cell?_alloc_at _ _ _ _ rfl]; rfl) 9 Try.underlying9
def mkR (k : Nat) (o : ByteArray) : ByteArray := if _h : k = 0 then o else mkR (k / 10) (oneBy (UInt8.ofNat (48 + k % 10)) ++ o)
termination_by k
decreasing_by omega
theorem mkR_zero (o : ByteArray) : mkR 0 o = o := by unfold mkR; rfl
theorem mkR_step (k : Nat) (o : ByteArray) (h : ¬ k = 0) : mkR k o = mkR (k / 10) (oneBy (UInt8.ofNat (48 + k % 10)) ++ o) := by
  conv => lhs; unfold mkR
  rw [dif_neg h]
def mkT (k : Nat) : ByteArray := ⟨#[109]⟩ ++ mkR k ⟨#[]⟩
set_option maxHeartbeats 800000 in
theorem markText_any (k : Nat) (h0 : 0 < k) (hk : k ≤ 10000000) (w : World) :
    Calls Try.prog 51 #[.int .i64 k] w fun e w' => e = .returned (.string (mkT k)) ∧ Below w.heap.size w w' := by
  obtain ⟨R, hR⟩ : ∃ R, R = mkR k ⟨#[]⟩ := ⟨_, rfl⟩
  have HR := Lib.hid hR
  have HT := Lib.hid (show mkT k = ⟨#[109]⟩ ++ R by rw [hR]; rfl)
  have hq : ¬ (k : Int) ≤ 0 := by omega
  clear hR
  go_enter Try.func51, Try.ntmps51
  go_wp2
  go_loopw [0, 3] (fun sn so wr => ∃ (n : Nat) (o : ByteArray), sn = .int .i64 n ∧ so = .string o ∧ o.size + n ≤ 10000000 ∧ mkR n o = R ∧ Below w.heap.size w wr)
    (fun sn _ _ => (intOf sn).toNat)
  case atStart => exact ⟨k, ⟨#[]⟩, rfl, rfl, by show 0 + k ≤ 10000000; omega, HR.out.symm, Below.refl _ _⟩
  case round =>
    obtain ⟨n, o, rfl, rfl, hs, hrun, hb⟩ := hrel
    rename World => wr
    have HU := Lib.hid hrun
    have HB := Lib.hid hb
    have hz := hb.size
    clear hrun hb
    by_cases hn : n = 0
    · subst hn
      have HX := Lib.hid (show o = R from (mkR_zero o).symm.trans HU.out)
      clear HU
      have z2 : ¬ 9223372036854775807 < (⟨#[109]⟩ : ByteArray).size + o.size := by show ¬ 9223372036854775807 < 1 + o.size; omega
      go_wp2
      go_ret
      exact ⟨by rw [HT.out, ← HX.out]; rfl, HB.out⟩
    · obtain ⟨c, hc⟩ : ∃ c, c = UInt8.ofNat (48 + n % 10) := ⟨_, rfl⟩
      have hcn : c.toNat = 48 + n % 10 := by rw [hc]; simp; omega
      have HS := Lib.hid (show mkR n o = mkR (n / 10) (oneBy c ++ o) by rw [hc]; exact mkR_step n o hn)
      have hci : (((c.toNat : Nat)) : Int) = 48 + (n : Int) % 10 := by rw [hcn]; omega
      have hcv := conv_oneBy c
      rw [hci] at hcv
      have hlt : (0 : Int) < n := by omega
      obtain ⟨B, hB⟩ : ∃ B, B = oneBy c := ⟨_, rfl⟩
      rw [← hB] at hcv HS
      have z1 : B.size = 1 := by rw [hB]; rfl
      have z2 : ¬ 9223372036854775807 < B.size + o.size := by rw [z1]; omega
      have z3 : (B ++ o).size = B.size + o.size := ByteArray.size_append
      clear hc hci hcn hB
      go_wp2
      go_roundw
      case rel => exact ⟨n / 10, B ++ o, by go_num, rfl, by omega, by rw [← HS.out]; exact HU.out, HB.out.alloc (by omega) _⟩
      case measure => simp [intOf]; omega
end Go.Proofs.Ytjjabfcdhknigaa
