/-
  The model's HistSave. For every such value.
-/
import Derived.Test.YtgmbpohbjhaghaaHistRight
import Derived.Test.YtgmbpohbjhaghaaSeal
import Derived.Test.YtgmbpohbjhaghaaText
namespace Go.Proofs.Ytgmbpohbjhaghaa.hist
open Go.ChangeShapes Go.WideShapes Go.ChangeAt Go.RowKit
open Go.Proofs.Ytgmbpohbjhaghaa.strs Go.Proofs.Ytgmbpohbjhaghaa.line
/-- what a line is kept as -/
def keptB (s : ByteArray) : ByteArray := text.textB (seal_.sealB s)
def keptN (l : List ByteArray) : Nat → ByteArray
  | 0 => ⟨#[]⟩
  | i + 1 => keptN l i ++ keptB (l[i]?.getD ⟨#[]⟩)
noncomputable def saveV (l : List ByteArray) (t : Int) (k : ByteArray) : ByteArray := if histB l t k = true then keptN l l.length else ⟨#[]⟩
theorem seal_size (s : ByteArray) : (seal_.sealB s).size ≤ 8000 := by
  unfold seal_.sealB
  split
  · exact Nat.zero_le _
  · have h4 : (seal_.fourB (seal_.crcN s)).size = 4 := rfl
    rw [ByteArray.size_append, h4]; omega
theorem kept_size (s : ByteArray) : (keptB s).size ≤ 8010 := by
  unfold keptB text.textB
  have h := seal_size s
  split
  · exact Nat.zero_le _
  · have := text.numB_size ((seal_.sealB s).size : Int)
    rw [ByteArray.size_append]; omega
theorem keptN_size (l : List ByteArray) (i : Nat) : (keptN l i).size ≤ 8010 * i := by
  induction i with
  | zero => exact Nat.le_refl _
  | succ i ih =>
    have := kept_size (l[i]?.getD ⟨#[]⟩)
    rw [keptN, ByteArray.size_append]; omega
set_option maxRecDepth 20000 in
set_option maxHeartbeats 400000 in
theorem specSave_any (a : Option Addr) (C : Nat) (l : List ByteArray) (t : Int) (k : ByteArray) (hn : l.length ≤ 1048576) (hl : ∀ s ∈ l, s.size ≤ 1048576) (hk : k.size ≤ 1048576) (w : World) (h : SRow w a l) :
    Calls Try.prog 55 #[hV a l.length C t k] w fun e w' => e = .returned (.string (saveV l t k)) ∧ Below w.heap.size w w' := by
  have hal := (Below.refl _ w).alloc (Nat.le_refl _) (.cells #[.slice a l.length C, .int .i64 t, .string k] 58)
  have HH := Lib.hid (fun w1 (hb : Below w.heap.size w w1) => specHist_any a C l t k hn (fun s hs => by have := hl s hs; unfold maxLen; omega) (by unfold maxLen; omega) w1 (h.below hb))
  have HA := Lib.hid (fun w1 (hb : Below w.heap.size w w1) => h.below hb)
  have HS := Lib.hid (fun (i : Nat) (hi : i < l.length) W => seal_.specSeal_any l[i] (by have := hl _ (List.getElem_mem hi); unfold maxLen; omega) W)
  have HT := Lib.hid (fun (s : ByteArray) W => text.specText_any (seal_.sealB s) (by have := seal_size s; unfold maxLen; omega) W)
  have HQ := Lib.hid (fun (i : Nat) (hi : i < l.length) => (show keptN l (i + 1) = keptN l i ++ text.textB (seal_.sealB l[i]) by rw [keptN, List.getElem?_eq_getElem hi]; rfl))
  have HZ := Lib.hid (fun (i : Nat) => keptN_size l i)
  have HK := Lib.hid (fun (s : ByteArray) => (show (text.textB (seal_.sealB s)).size ≤ 8010 from kept_size s))
  have HB := Lib.hid hal
  obtain ⟨n, hn'⟩ : ∃ n, n = l.length := ⟨_, rfl⟩
  have HN := Lib.hid hn'
  rw [← hn'] at HH HB hn ⊢
  clear h hal hl hn'
  have hwn : ∀ j : Nat, j < n → IntKind.i64.wrap ((j : Int) + 1) = (j : Int) + 1 := fun j hj => IntWalk.i64_in _ (by omega)
  cases hh : histB l t k
  · have HV := Lib.hid (show saveV l t k = ⟨#[]⟩ by unfold saveV; rw [if_neg (by rw [hh]; simp)])
    have HH1 := Lib.hid (HH.out _ HB.out)
    rw [HV.out]
    rw [hh] at HH1
    clear HH HS HT HQ HZ HK HA HV HN hh
    unfold hV at *
    go_enter Try.func55, Try.ntmps55
    go_wp2
    go_loopw [3, 4] (fun x i wr => i = .int .i64 0 ∧ x = .string ⟨#[]⟩ ∧ wr = w.alloc (.cells #[.slice a n C, .int .i64 t, .string k] 58)) (fun _ _ _ => 0)
    case atStart => exact ⟨rfl, rfl, rfl⟩
    case round =>
      obtain ⟨rfl, rfl, rfl⟩ := hrel
      by_cases hz : 0 < n
      · go_wp2_with fail
        refine HH1.out.mono ?_
        rintro e w1 ⟨rfl, hb1⟩
        have HX1 := Lib.hid (bthen HB.out hb1 (by simp))
        clear hb1
        go_wp2
        go_ret
        exact ⟨rfl, HX1.out⟩
      · go_wp2
        go_ret
        exact ⟨rfl, HB.out⟩
  · have HV := Lib.hid (show saveV l t k = keptN l n by unfold saveV; rw [if_pos hh, HN.out])
    rw [HV.out]
    rw [hh] at HH
    clear HV hh
    have h12 : n ≤ 1048576 := hn
    unfold hV at *
    go_enter Try.func55, Try.ntmps55
    go_wp2
    go_loopw [3, 4] (fun x i wr => ∃ m : Nat, m ≤ n ∧ i = .int .i64 m ∧ x = .string (keptN l m) ∧ Below (w.alloc (.cells #[.slice a n C, .int .i64 t, .string k] 58)).heap.size (w.alloc (.cells #[.slice a n C, .int .i64 t, .string k] 58)) wr) (fun _ i _ => n - (intOf i).toNat)
    case atStart => exact ⟨0, Nat.zero_le _, rfl, rfl, Below.refl _ _⟩
    case round =>
      obtain ⟨m, hm, rfl, rfl, hb0⟩ := hrel
      rename World => wr
      have y0 : w.heap.size < wr.heap.size := by have := hb0.size; simp at this; omega
      obtain ⟨p0, q0⟩ := keepC hb0 (g := w.heap.size) (by simp)
      have HR := Lib.hid (bthen HB.out hb0 (by simp))
      have HH1 := Lib.hid (HH.out _ HR.out)
      have HL0 := Lib.hid hb0
      clear hb0
      by_cases hlt : m < n
      · have hml : m < l.length := by rw [← HN.out]; exact hlt
        have hz : (m : Int) < n := by omega
        have HQ1 := Lib.hid (HQ.out m hml)
        have HS1 := Lib.hid (HS.out m hml)
        have hk1 := HZ.out m
        obtain ⟨R, hR⟩ : ∃ R, R = keptN l m := ⟨_, rfl⟩
        rw [← hR] at HQ1 hk1 ⊢
        go_wp2_with fail
        refine HH1.out.mono ?_
        rintro e w1 ⟨rfl, hb1⟩
        have y1 : w.heap.size < w1.heap.size := Nat.lt_of_lt_of_le y0 hb1.size
        obtain ⟨p1, q1⟩ := keepC hb1 (g := w.heap.size) y0
        have HX1 := Lib.hid (bthen HR.out hb1 (by omega))
        have HA1 := Lib.hid (HA.out _ HX1.out)
        have HL1 := Lib.hid (bthen HL0.out hb1 (by simp; omega))
        clear hb1 HL0
        obtain ⟨g, o, rfl, c0⟩ := HA1.out.at hml
        have HT1 := Lib.hid (HT.out l[m])
        have hk2 := HK.out l[m]
        obtain ⟨S, hS⟩ : ∃ S, S = l[m] := ⟨_, rfl⟩
        rw [← hS] at c0 HQ1 HS1 HT1 hk2
        have hnl : ¬ 9223372036854775807 < R.size + (text.textB (seal_.sealB S)).size := by omega
        clear hS hR
        go_wp2_with fail
        refine (HS1.out _).mono ?_
        rintro e w2 ⟨rfl, hb2⟩
        have y2 : w.heap.size < w2.heap.size := Nat.lt_of_lt_of_le y1 hb2.size
        obtain ⟨p2, q2⟩ := keepC hb2 (g := w.heap.size) y1
        have HX2 := Lib.hid (bthen HX1.out hb2 (by omega))
        have HL2 := Lib.hid (bthen HL1.out hb2 (by simp; omega))
        clear hb2 HL1
        obtain ⟨Y, hY⟩ : ∃ Y, Y = seal_.sealB S := ⟨_, rfl⟩
        rw [← hY] at HT1 HQ1 hnl hk2 ⊢
        clear hY
        go_wp2_with fail
        refine (HT1.out _).mono ?_
        rintro e w3 ⟨rfl, hb3⟩
        have y3 : w.heap.size < w3.heap.size := Nat.lt_of_lt_of_le y2 hb3.size
        obtain ⟨p3, q3⟩ := keepC hb3 (g := w.heap.size) y2
        have HL3 := Lib.hid (bthen HL2.out hb3 (by simp; omega))
        clear hb3 HL2
        have hw := hwn m hlt
        go_wp2
        go_roundw
        case rel => exact ⟨m + 1, by omega, by go_num, by rw [HQ1.out], HL3.out⟩
        case measure => simp [intOf]; omega
      · obtain rfl : m = n := by omega
        go_wp2
        go_ret
        exact ⟨rfl, HR.out⟩
end Go.Proofs.Ytgmbpohbjhaghaa.hist
