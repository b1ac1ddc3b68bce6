/-
  The model's HistFind. For every such value.
-/
import Derived.Test.YtgmbpohbjhaghaaHistRight
import Derived.Test.YtgmbpohbjhaghaaHistHas
namespace Go.Proofs.Ytgmbpohbjhaghaa.hist
open Go.ChangeShapes Go.WideShapes Go.ChangeAt Go.RowKit
open Go.Proofs.Ytgmbpohbjhaghaa.strs Go.Proofs.Ytgmbpohbjhaghaa.line
/-- the last place below m whose text has x in it and that lies before b -/
noncomputable def scanV (l : List ByteArray) (x : ByteArray) (b : Int) : Nat → Int
  | 0 => -1
  | m + 1 => if (m : Int) < b ∧ hasB (l[m]?.getD ⟨#[]⟩) x = true then m else scanV l x b m
noncomputable def findV (l : List ByteArray) (t : Int) (k x : ByteArray) (b : Int) : Int := if histB l t k = true ∧ textB x = true then scanV l x b l.length else -1
set_option maxRecDepth 20000 in
set_option maxHeartbeats 800000 in
theorem specFind_any (a : Option Addr) (C : Nat) (l : List ByteArray) (t : Int) (k x : ByteArray) (b : Int) (hn : l.length ≤ 1048576) (hl : ∀ s ∈ l, s.size ≤ 1048576) (hk : k.size ≤ 1048576) (hx : x.size ≤ 1048576) (w : World) (h : SRow w a l) :
    Calls Try.prog 53 #[hV a l.length C t k, .string x, .int .i64 b] w fun e w' => e = .returned (.int .i64 (findV l t k x b)) ∧ Below w.heap.size w w' := by
  have hal := (Below.refl _ w).alloc (Nat.le_refl _) (.cells #[.slice a l.length C, .int .i64 t, .string k] 58)
  have HH := Lib.hid (specHist_any a C l t k hn (fun s hs => by have := hl s hs; unfold maxLen; omega) (by unfold maxLen; omega) _ (h.below hal))
  have HX := Lib.hid (specRight_any x (by unfold maxLen; omega))
  have HA := Lib.hid (fun w1 (hb : Below w.heap.size w w1) => h.below hb)
  have HS := Lib.hid (fun (i : Nat) (hi : i < l.length) W => specHas_any l[i] x (hl _ (List.getElem_mem hi)) hx W)
  have HQ := Lib.hid (fun (i : Nat) (hi : i < l.length) => (show scanV l x b (i + 1) = if (i : Int) < b ∧ hasB l[i] x = true then (i : Int) else scanV l x b i by rw [scanV, List.getElem?_eq_getElem hi]; rfl))
  have HB := Lib.hid hal
  obtain ⟨n, hn'⟩ : ∃ n, n = l.length := ⟨_, rfl⟩
  have HN := Lib.hid hn'
  rw [← hn'] at HH HB hn ⊢
  clear h hal hl hn'
  cases hh : histB l t k
  · have HV := Lib.hid (show findV l t k x b = -1 by unfold findV; rw [if_neg (by rw [hh]; simp)])
    rw [HV.out]
    rw [hh] at HH
    clear hh HX HS HQ HA
    unfold hV at *
    go_enter Try.func53, Try.ntmps53
    go_wp2_with fail
    refine HH.out.mono ?_
    rintro e w1 ⟨rfl, hb1⟩
    have HX1 := Lib.hid (bthen HB.out hb1 (by simp))
    clear hb1
    go_wp2
    go_ret
    exact ⟨rfl, HX1.out⟩
  · cases hx2 : textB x
    · have HV := Lib.hid (show findV l t k x b = -1 by unfold findV; rw [if_neg (by rw [hx2]; simp)])
      rw [HV.out]
      rw [hh] at HH
      rw [hx2] at HX
      clear hh hx2 HS HQ HA
      unfold hV at *
      go_enter Try.func53, Try.ntmps53
      go_wp2_with fail
      refine HH.out.mono ?_
      rintro e w1 ⟨rfl, hb1⟩
      have HX1 := Lib.hid (bthen HB.out hb1 (by simp))
      clear hb1
      go_wp2_with fail
      refine (HX.out _).mono ?_
      rintro e w1' ⟨rfl, rfl⟩
      go_wp2
      go_ret
      exact ⟨rfl, HX1.out⟩
    · have HV := Lib.hid (show findV l t k x b = scanV l x b n by unfold findV; rw [if_pos ⟨hh, hx2⟩, HN.out])
      rw [HV.out]
      rw [hh] at HH
      rw [hx2] at HX
      clear hh hx2 HV
      unfold hV at *
      go_enter Try.func53, Try.ntmps53
      go_wp2_with fail
      refine HH.out.mono ?_
      rintro e w1 ⟨rfl, hb1⟩
      have z0 : w.heap.size < w1.heap.size := by have := hb1.size; simp at this; omega
      obtain ⟨p0, q0⟩ := keepC hb1 (g := w.heap.size) (by simp)
      have HX1 := Lib.hid (bthen HB.out hb1 (by simp))
      have HA1 := Lib.hid (HA.out _ HX1.out)
      clear hb1
      go_wp2_with fail
      refine (HX.out _).mono ?_
      rintro e w1' ⟨rfl, rfl⟩
      have hw : IntKind.i64.wrap ((n : Int) - 1) = (n : Int) - 1 := IntWalk.i64_in _ (by omega)
      go_wp2
      go_loop [7] (fun iv => ∃ m : Nat, m ≤ n ∧ iv = .int .i64 ((m : Int) - 1) ∧ scanV l x b m = scanV l x b n) (fun iv => (intOf iv + 1).toNat)
      case atStart => exact ⟨n, Nat.le_refl _, rfl, rfl⟩
      case round =>
        obtain ⟨m, hm, rfl, hsc⟩ := hrel
        have HC := Lib.hid hsc
        clear hsc
        cases m with
        | zero =>
          have HE := Lib.hid (show scanV l x b n = -1 from HC.out.symm)
          go_wp2
          go_ret
          exact ⟨by rw [HE.out]; rfl, HX1.out⟩
        | succ m =>
          have hml : m < l.length := by rw [← HN.out]; omega
          obtain ⟨g, o, rfl, c0⟩ := HA1.out.at hml
          have HQ1 := Lib.hid (HQ.out m hml)
          have HS1 := Lib.hid (HS.out m hml)
          obtain ⟨s, hse⟩ : ∃ s, s = l[m] := ⟨_, rfl⟩
          rw [← hse] at c0 HQ1 HS1
          have em : ((m + 1 : Nat) : Int) - 1 = (m : Int) := by omega
          rw [em]
          clear hse em
          have hw2 : IntKind.i64.wrap ((m : Int) - 1) = (m : Int) - 1 := IntWalk.i64_in _ (by omega)
          have e1 : ¬ ((n : Int) ≤ (m : Int)) := by rw [HN.out]; omega
          by_cases hlb : (m : Int) < b
          · cases hs : hasB s x
            · have HE := Lib.hid (show scanV l x b m = scanV l x b n by rw [← HC.out, HQ1.out, if_neg (by rw [hs]; simp)])
              rw [hs] at HS1
              clear hs HQ1
              go_wp2_with fail
              refine (HS1.out _).mono ?_
              rintro e w2' ⟨rfl, rfl⟩
              go_wp2
              go_round
              case rel => exact ⟨m, by omega, rfl, HE.out⟩
              case measure => simp [intOf]
            · have HE := Lib.hid (show scanV l x b n = (m : Int) by rw [← HC.out, HQ1.out, if_pos ⟨hlb, hs⟩])
              rw [hs] at HS1
              clear hs HQ1
              go_wp2_with fail
              refine (HS1.out _).mono ?_
              rintro e w2' ⟨rfl, rfl⟩
              go_wp2
              go_ret
              exact ⟨by rw [HE.out]; rfl, HX1.out⟩
          · have HE := Lib.hid (show scanV l x b m = scanV l x b n by rw [← HC.out, HQ1.out, if_neg (fun h => hlb h.1)])
            clear HQ1
            go_wp2
            go_round
            case rel => exact ⟨m, by omega, rfl, HE.out⟩
            case measure => simp [intOf]
end Go.Proofs.Ytgmbpohbjhaghaa.hist
