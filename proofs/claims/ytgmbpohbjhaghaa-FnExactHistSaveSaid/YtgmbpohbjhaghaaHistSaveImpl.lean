/-
  The program's HistSave, and the walk of its law. For every such value.
-/
import Derived.Test.YtgmbpohbjhaghaaHistLaws
import Derived.Test.YtgmbpohbjhaghaaHistImpl
import Derived.Test.YtgmbpohbjhaghaaHistSave
namespace Go.Proofs.Ytgmbpohbjhaghaa.hist
open Go.ChangeShapes Go.WideShapes Go.ChangeAt Go.RowKit
open Go.Proofs.Ytgmbpohbjhaghaa.strs Go.Proofs.Ytgmbpohbjhaghaa.line
open Go.Proofs.Ytgmbpohbjhaghaa.kill (IsTS)
set_option maxRecDepth 20000 in
set_option maxHeartbeats 800000 in
theorem implSave_any (a : Option Addr) (C : Nat) (l : List ByteArray) (t : Int) (k : ByteArray) (hn : l.length ≤ 1048576) (hl : ∀ s ∈ l, s.size ≤ 1048576) (hk : k.size ≤ 1048576) (w : World) (h : SRow w a l) :
    Calls Try.prog 56 #[hV a l.length C t k] w fun e w' => e = .returned (.string (saveV l t k)) ∧ Below w.heap.size w w' := by
  have hal := (Below.refl _ w).alloc (Nat.le_refl _) (.cells #[.slice a l.length C, .int .i64 t, .string k] 58)
  have HH := Lib.hid (implHist_any a C l t k hn (fun s hs => by have := hl s hs; unfold maxLen; omega) (by unfold maxLen; omega) _ (h.below hal))
  have HA := Lib.hid (fun w1 (hb : Below w.heap.size w w1) => h.below hb)
  have HS := Lib.hid (fun (i : Nat) (hi : i < l.length) W => seal_.implSeal_any l[i] (by have := hl _ (List.getElem_mem hi); unfold maxLen; omega) W)
  have HT := Lib.hid (fun (s : ByteArray) W => text.implText_any (seal_.sealB s) (by have := seal_size s; unfold maxLen; omega) W)
  have HQ := Lib.hid (fun (i : Nat) (hi : i < l.length) => (show keptN l (i + 1) = keptN l i ++ text.textB (seal_.sealB l[i]) by rw [keptN, List.getElem?_eq_getElem hi]; rfl))
  have HZ := Lib.hid (fun (i : Nat) => keptN_size l i)
  have HK := Lib.hid (fun (s : ByteArray) => (show (text.textB (seal_.sealB s)).size ≤ 8010 from kept_size s))
  have HB := Lib.hid hal
  obtain ⟨n, hn'⟩ : ∃ n, n = l.length := ⟨_, rfl⟩
  have HN := Lib.hid hn'
  rw [← hn'] at HH HB hn ⊢
  clear h hal hl hn'
  cases hh : histB l t k
  · have HV := Lib.hid (show saveV l t k = ⟨#[]⟩ by unfold saveV; rw [if_neg (by rw [hh]; simp)])
    rw [HV.out]
    rw [hh] at HH
    clear HS HT HQ HZ HK HA HV HN hh
    unfold hV at *
    go_enter Try.func56, Try.ntmps56
    go_wp2_with fail
    refine HH.out.mono ?_
    rintro e w1 ⟨rfl, hb1⟩
    have HX1 := Lib.hid (bthen HB.out hb1 (by simp))
    clear hb1
    go_wp2
    go_ret
    exact ⟨rfl, HX1.out⟩
  · have HV := Lib.hid (show saveV l t k = keptN l n by unfold saveV; rw [if_pos hh, HN.out])
    rw [HV.out]
    rw [hh] at HH
    clear HV hh
    have h12 : n ≤ 1048576 := hn
    unfold hV at *
    go_enter Try.func56, Try.ntmps56
    go_wp2_with fail
    refine HH.out.mono ?_
    rintro e w1 ⟨rfl, hb1⟩
    obtain ⟨p0, q0⟩ := keepC hb1 (g := w.heap.size) (by simp)
    have HX1 := Lib.hid (bthen HB.out hb1 (by simp))
    clear hb1
    go_wp2
    go_loopw [3, 12] (fun x i wr => ∃ m : Nat, m ≤ n ∧ i = .int .i64 m ∧ x = .string (keptN l m) ∧ Below w.heap.size w wr) (fun _ i _ => n - (intOf i).toNat)
    case atStart => exact ⟨0, Nat.zero_le _, rfl, rfl, HX1.out⟩
    case round =>
      obtain ⟨m, hm, rfl, rfl, hb0⟩ := hrel
      rename World => wr
      have HR := Lib.hid hb0
      clear hb0
      by_cases hlt : m < n
      · have hml : m < l.length := by rw [← HN.out]; exact hlt
        have HQ1 := Lib.hid (HQ.out m hml)
        have HS1 := Lib.hid (HS.out m hml)
        have hk1 := HZ.out m
        obtain ⟨g, o, ha, c0⟩ := (HA.out _ HR.out).at hml
        have HT1 := Lib.hid (HT.out l[m])
        have hk2 := HK.out l[m]
        obtain ⟨S, hS⟩ : ∃ S, S = l[m] := ⟨_, rfl⟩
        obtain ⟨R, hR⟩ : ∃ R, R = keptN l m := ⟨_, rfl⟩
        rw [← hR] at HQ1 hk1 ⊢
        rw [← hS] at c0 HQ1 HS1 HT1 hk2
        obtain ⟨Y, hY⟩ : ∃ Y, Y = text.textB (seal_.sealB S) := ⟨_, rfl⟩
        rw [← hY] at HT1 HQ1 hk2
        clear hS hR hY
        subst ha
        go_wp2_with fail
        refine (HS1.out _).mono ?_
        rintro e w2 ⟨rfl, hb2⟩
        have HR := Lib.hid (bthen HR.out hb2 HR.out.size)
        clear hb2
        go_wp2_with fail
        refine (HT1.out _).mono ?_
        rintro e w3 ⟨rfl, hb3⟩
        have HR := Lib.hid (bthen HR.out hb3 HR.out.size)
        clear hb3
        go_wp2_with fail
        refine (join.joined_any R Y (by omega) (by omega) _).mono ?_
        rintro e w4 ⟨rfl, hb4⟩
        have HR := Lib.hid (bthen HR.out hb4 HR.out.size)
        clear hb4
        go_wp2
        go_roundw
        case rel => exact ⟨m + 1, by omega, by go_num, by rw [HQ1.out], HR.out⟩
        case measure => simp [intOf]; omega
      · obtain rfl : m = n := by omega
        go_wp2
        go_ret
        exact ⟨rfl, HR.out⟩
theorem walkHS (a : Option Addr) (n C : Nat) (l : List ByteArray) (t : Int) (k : ByteArray) (_ht : (Lit.int .i64 t).wf = true) (hk : k.size ≤ maxLen) (w : World) (s : IsTS w a n C l) :
    Calls Try.prog 12 #[hV a n C t k] w fun e w' => e = .returned (.bool true) ∧ Below w.heap.size w w' :=
  walkHS_of a n C l t k (saveV l t k) hk w s
    (fun g W hn hl hk h => specSave_any (some ⟨g, 0, none⟩) l.length l t k hn hl hk W h)
    (fun g W hn hl hk h => implSave_any (some ⟨g, 0, none⟩) l.length l t k hn hl hk W h)
end Go.Proofs.Ytgmbpohbjhaghaa.hist
