/-
  A text put behind a list, the first ones gone where there are more than so many. For every list of at most a million texts.
-/
import Derived.Test.YtgmbpohbjhaghaaDoorRowOwn
import Derived.Test.YtgmbpohbjhaghaaDoorShelf
import Derived.Test.YtgmbpohbjhaghaaDoorJoin
import Derived.Deep.RegionHeld3
import Derived.ArgAppend
namespace Go.Proofs.YtgmbpohbjhaghaaDoor.kill
open Go.ChangeShapes Go.WideShapes Go.ChangeAt Go.RowKit
open Go.Proofs.YtgmbpohbjhaghaaDoor.strs
theorem row_drop {w : World} {g o : Nat} {l : List ByteArray} (h : SRow w (some ⟨g, o, none⟩) l) (k : Nat) : SRow w (some ⟨g, o + k, none⟩) (l.drop k) := ⟨fun hl => by
  obtain ⟨g', o', e, h1⟩ := h.it (fun e => hl (by rw [e]; simp))
  injection e with e
  injection e with e1 e2
  subst e1 e2
  refine ⟨g, o + k, rfl, fun i hi => ?_⟩
  rw [List.length_drop] at hi
  rw [List.getElem_drop, Nat.add_assoc]
  exact h1 (k + i) (by omega)⟩
/-- a list cut with three indexes, nothing behind it -/
theorem slice_tail (w : World) (a : Option Addr) (C : Nat) (l : List ByteArray) (k : Nat) (hk : k ≤ l.length) (hC : l.length ≤ C) (hz : a = none → l = []) (h : SRow w a l) :
    ∃ ao, (∀ W, (Instr.slice 22 (.slice a l.length C) (some (.int .i64 (k : Int))) (some (.int .i64 (l.length : Int))) (some (.int .i64 (l.length : Int)))).run Tryd.prog W = .ok (.slice ao (l.length - k) (l.length - k)) W) ∧
      (ao = none → l = []) ∧ SRow w ao (l.drop k) := by
  have hsz : ∀ W : World, (sizeOf (Tryd.prog.elem 22)).run Tryd.prog W = .ok 1 W := fun W => by
    rw [show Tryd.prog.elem 22 = 9 from by kernel_rfl]; exact Tryd.sizeOf9 W
  have hrun : ∀ W, (Instr.slice 22 (.slice a l.length C) (some (.int .i64 (k : Int))) (some (.int .i64 (l.length : Int))) (some (.int .i64 (l.length : Int)))).run Tryd.prog W = .ok (sliced a k l.length l.length 1) W := fun W => by
    rw [run_slice_lhm W 22 a l.length C (by rw [show Tryd.prog.elem 22 = 9 from by kernel_rfl]; exact Tryd.underlying22) .i64 .i64 .i64 k l.length l.length (by omega) (by omega) (by omega) (by omega), hsz]
    simp [Result.andThen]
  by_cases hl : l = []
  · subst hl
    refine ⟨a, fun W => ?_, fun _ => rfl, by rw [List.drop_nil]; exact SRow.nil _ _⟩
    rw [hrun]
    simp [sliced] at hk ⊢
    intro h1; omega
  · by_cases hkn : l.length = k
    · refine ⟨a, fun W => ?_, hz, ?_⟩
      · rw [hrun]; simp [sliced, hkn]
      · rw [List.drop_of_length_le (by omega)]; exact SRow.nil _ _
    · obtain ⟨g, o, rfl, _⟩ := h.it hl
      refine ⟨some ⟨g, o + k, none⟩, fun W => ?_, (fun e => by cases e), row_drop h k⟩
      rw [hrun]
      simp [sliced, hkn, Addr.add]
set_option maxRecDepth 20000 in
theorem behindS_any (a : Option Addr) (C : Nat) (l : List ByteArray) (x : ByteArray) (most : Nat) (hm : 1 ≤ most) (hm2 : most ≤ 1000) (hn : l.length ≤ 1048576) (hC : l.length ≤ C) (hz : a = none → l = []) (w : World) (h : SRow w a l) :
    Calls Tryd.prog 15 #[.slice a l.length C, .string x, .int .i64 (most : Int)] w fun e w' => ∃ v', e = .returned v' ∧ w'.ownsRow w.heap.size 9 1 v' (l.drop (l.length + 1 - most) ++ [x]).length ((l.drop (l.length + 1 - most) ++ [x]).map Value.string) ∧ Below w.heap.size w w' := by
  obtain ⟨i0, hi, hz0, hz1, hz2⟩ := info_parts infoS
  obtain ⟨k, hk⟩ : ∃ k, k = l.length + 1 - most := ⟨_, rfl⟩
  rw [← hk]
  obtain ⟨ao, hrun, hnil, hrow⟩ := slice_tail w a C l k (by omega) hC hz h
  have hmx : max ((l.length : Int) + 1 - (most : Int)) 0 = (k : Int) := by omega
  have hk0 : (0 : Int) ≤ k := by omega
  have HR := Lib.hid hrow
  have HNI := Lib.hid hnil
  have HLEN := Lib.hid (show (l.drop k).length = l.length - k from List.length_drop)
  obtain ⟨m, hmm⟩ : ∃ m, m = l.length - k := ⟨_, rfl⟩
  obtain ⟨n, hn'⟩ : ∃ n, n = l.length := ⟨_, rfl⟩
  rw [← hmm] at hrun HLEN
  have hkn : (k : Int) ≤ l.length := by omega
  have hm3 : m ≤ 1048576 := by omega
  have HEMP := Lib.hid (show l = [] → m = 0 from fun e => by rw [hmm, e]; simp)
  rw [← hn'] at hn hrun hmx hkn ⊢
  clear hC hz h hrow hnil hmm hn' hk
  go_enter Tryd.func15, Tryd.ntmps15
  go_wp2_with (first | (at_builtin; refine wpList_append_grows _ rfl _ _ 22 rfl 9 i0 (.string ⟨#[]⟩) 1 16 Tryd.underlying22 hi hz0 hz1 hz2 rfl (by decide) ao m m ((l.drop k).map Value.string) rfl ?c0 ?c1 ?c2 ⟨w.heap.size, 0, none⟩ 1 1 [.string x] rfl rfl ?c3 ?c4 ?c5 ?c6 ?c7 ?_))
  case c0 =>
    intro e
    have := HEMP.out (HNI.out e)
    exact ⟨this, this⟩
  case c1 => rw [List.length_map, HLEN.out]; omega
  case c2 =>
    intro b e j u hj
    rw [List.getElem?_map] at hj
    by_cases hjl : j < (l.drop k).length
    · obtain ⟨g, o, e2, hc⟩ := (HR.out.below ((Below.refl _ w).alloc (Nat.le_refl _) (.cells #[.string x] 9))).at hjl
      rw [e] at e2
      injection e2 with e2
      subst e2
      rw [add_plain rfl, hc]
      rw [List.getElem?_eq_getElem hjl] at hj
      simpa using hj
    · rw [List.getElem?_eq_none (by omega)] at hj
      cases hj
  case c3 =>
    intro j u hj
    match j, hj with
    | 0, hj => simp at hj; subst hj; simp [Addr.add]
  case c4 => intro u hu; simp at hu; subst hu; rfl
  case c5 => omega
  case c6 => unfold maxLen; omega
  case c7 => omega
  intro v' w4 hown hgrow
  have HO := Lib.hid (show w4.ownsRow w.heap.size 9 1 v' (l.drop k ++ [x]).length ((l.drop k ++ [x]).map Value.string) from by
    rw [List.length_append, HLEN.out, List.map_append, List.map_drop]
    exact own_lo hown (Nat.le_succ _))
  have HB := Lib.hid (((Below.refl _ w).alloc (Nat.le_refl _) (.cells #[.string x] 9)).grown hgrow (by simp) (fun j hj => by cases hj))
  clear hown hgrow
  go_wp2
  go_ret
  exact ⟨_, rfl, HO.out, HB.out⟩
end Go.Proofs.YtgmbpohbjhaghaaDoor.kill
