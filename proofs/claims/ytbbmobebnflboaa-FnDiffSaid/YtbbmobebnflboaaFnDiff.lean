/-
  The walk of FnDiff's law. For every two rows of bytes that can be read.
-/
import Derived.Test.YtbbmobebnflboaaFnDiffMath
import Derived.Test.YtbbmobebnflboaaDiffDraws
import Derived.Deep.RegionHeld3
namespace Go.Proofs.Ytbbmobebnflboaa.diff
open Go.ChangeShapes Go.WideShapes Go.ChangeAt Go.RowKit
open Go.Proofs.Ytbbmobebnflboaa.line Go.Proofs.Ytbbmobebnflboaa.put Go.Proofs.Ytbbmobebnflboaa.table Go.Proofs.Ytbbmobebnflboaa.src
set_option maxHeartbeats 1600000 in
theorem implApply_nil (w : World) :
    Calls Try.prog 13 #[.string ⟨#[]⟩, .slice none 0 0] w fun e w' => e = .returned (outO ⟨#[]⟩ 0) ∧ Below w.heap.size w w' := by
  obtain ⟨O, hO⟩ : ∃ O, O = Obj.cells #[.string ⟨#[]⟩, .int .i64 0, .string ⟨#[]⟩, .int .i64 0] 33 := ⟨_, rfl⟩
  have HO := Lib.hid hO
  have ht : textB ⟨#[]⟩ = true := textB_empty
  have h8 : ¬ (8000 : Int) < ((⟨#[]⟩ : ByteArray).size : Int) := by decide
  go_enter Try.func13, Try.ntmps13
  go_wp2_with fail
  rw [← HO.out]
  refine (implRight_any _ (by decide) _).mono ?_
  rintro e w1 ⟨rfl, hb1⟩
  rw [ht]
  obtain ⟨k1, k2⟩ := keepC hb1 (g := w.heap.size) (by simp)
  have hs1 : w.heap.size < w1.heap.size := by have := hb1.size; simp at this; omega
  have HB1 := Lib.hid (bthen ((Below.refl _ w).alloc (Nat.le_refl _) _) hb1 (by simp))
  clear hb1
  rw [hO] at k1 k2
  go_wp2_with fail
  refine (implDR_nil _).mono ?_
  rintro e w2 ⟨rfl, hb2⟩
  obtain ⟨r1, r2⟩ := keepC hb2 (g := w.heap.size) hs1
  have hs2 : w.heap.size < w2.heap.size := by have := hb2.size; omega
  have HB2 := Lib.hid (bthen HB1.out hb2 (by omega))
  clear hb2
  go_wp2_with fail
  refine (comesOf_nil _).mono ?_
  rintro e w3 ⟨rfl, hb3⟩
  obtain ⟨s1, s2⟩ := keepC hb3 (g := w.heap.size) hs2
  have hs3 : w.heap.size < w3.heap.size := by have := hb3.size; omega
  have HB3 := Lib.hid (bthen HB2.out hb3 (by omega))
  clear hb3
  go_wp2_with fail
  refine (made_nil _).mono ?_
  rintro e w4 ⟨rfl, hb4⟩
  unfold outO
  obtain ⟨t1, t2⟩ := keepC hb4 (g := w.heap.size) hs3
  have HB4 := Lib.hid (bthen HB3.out hb4 (by omega))
  clear hb4
  go_wp2
  exact bodyPost_ret (v := outO ⟨#[]⟩ 0) (by simp [results, Try.results13, go_sem, t1, s1, r1, k1, outO]) rfl ⟨rfl, by repeat (first | exact HB4.out | refine store_bel ?_)⟩
/-- ApplyTo on DiffOf's runs, be they none -/
theorem applyD_any (a b : ByteArray) (ta : textB a = true) (tb : textB b = true) (v : Value) (w : World) (h : ListD v (diffV a b) w) :
    Calls Try.prog 13 #[.string a, v] w fun e w' => ∃ i : Int, e = .returned (.agg #[.string b, .int .i64 i, .string ⟨#[]⟩, .int .i64 0]) ∧ Below w.heap.size w w' := by
  have h6 := (textB_ok ta).1
  have hl := diffV_len a b
  have hX := atX_size (diffV_size a b)
  rcases h with ⟨rfl, hR⟩ | ⟨g, C, rfl, hr⟩
  · have hv : diffV a b = diffL a b := by simp [diffV, ta, tb]
    obtain ⟨_, h2, h3, _⟩ := diffL_good a b (by rw [← hv]; omega)
    rw [← hv, hR] at h2 h3
    have ea : a = ⟨#[]⟩ := h2.symm
    have eb : b = ⟨#[]⟩ := h3.symm
    rw [ea, eb]
    refine (implApply_nil w).mono ?_
    rintro e w' ⟨rfl, hb⟩
    exact ⟨0, rfl, hb⟩
  · refine (implApply_any a g 0 _ C _ _ (by unfold maxLen; omega) (by omega) (fun i hi => by have := hX i hi; omega) w hr.o).mono ?_
    rintro e w' ⟨rfl, hb⟩
    obtain ⟨i, hi⟩ := applyV_diff a b ta tb
    exact ⟨i, by rw [hi], hb⟩
/-- what stands while FnDiff's law goes on -/
structure FS (w : World) (A B : ByteArray) (dv : Value) (b o n : Nat) (K : Nat → Int) (X : Nat → ByteArray) (xb : Nat) (xs : ByteArray) (xi : Int) (xg : ByteArray) (xc : Int) (W : World) : Prop where
  d_ : ListD dv (diffV A B) W
  l_ : RowO W b o n K X
  x0 : W.cell? ⟨xb, 0, none⟩ = some (.string xs)
  x1 : W.cell? ⟨xb, 1, none⟩ = some (.int .i64 xi)
  x2 : W.cell? ⟨xb, 2, none⟩ = some (.string xg)
  x3 : W.cell? ⟨xb, 3, none⟩ = some (.int .i64 xc)
  bel : Below w.heap.size w W
theorem FS.below {w : World} {A B : ByteArray} {dv : Value} {b o n : Nat} {K : Nat → Int} {X : Nat → ByteArray} {xb : Nat} {xs : ByteArray} {xi : Int} {xg : ByteArray} {xc : Int} {W W' : World}
    (h : FS w A B dv b o n K X xb xs xi xg xc W) (hb : Below W.heap.size W W') : FS w A B dv b o n K X xb xs xi xg xc W' :=
  ⟨h.d_.below hb, h.l_.below hb, (hb.cell (p := ⟨xb, 0, none⟩) (blk_lt h.x0)).trans h.x0, (hb.cell (p := ⟨xb, 1, none⟩) (blk_lt h.x1)).trans h.x1, (hb.cell (p := ⟨xb, 2, none⟩) (blk_lt h.x2)).trans h.x2, (hb.cell (p := ⟨xb, 3, none⟩) (blk_lt h.x3)).trans h.x3,
   bthen h.bel hb h.bel.size⟩
set_option maxHeartbeats 8000000 in
set_option maxRecDepth 100000 in
theorem walkFnDiff (a0 : Option Addr) (n0 C0 : Nat) (a1 : Option Addr) (n1 C1 : Nat) (w : World) (h0 : BytesA w.heap.size a0 n0 w) (h1 : BytesA w.heap.size a1 n1 w) :
    Calls Try.prog 3 #[.slice a0 n0 C0, .slice a1 n1 C1] w fun e w' => e = .returned (.bool true) ∧ Below w.heap.size w w' := by
  by_cases hn0 : (1048576 : Int) < n0
  · go_enter Try.func3, Try.ntmps3
    go_wp2
    go_ret
    exact ⟨rfl, Below.refl _ _⟩
  by_cases hn1 : (1048576 : Int) < n1
  · go_enter Try.func3, Try.ntmps3
    go_wp2
    go_ret
    exact ⟨rfl, Below.refl _ _⟩
  have H1 := Lib.hid h1
  go_enter Try.func3, Try.ntmps3
  go_wp2_with fail
  refine (drawDiff_any w.heap.size a0 n0 C0 (by omega) _ (Nat.le_refl _) h0).mono ?_
  rintro e w1 ⟨A, B, rfl, hA, hB, hb1⟩
  have HB1 := Lib.hid hb1
  clear h0 h1 hb1
  go_wp2_with fail
  refine (implDiffOf_any A B (by unfold maxLen; omega) (by unfold maxLen; omega) _).mono ?_
  rintro e w2 ⟨dv, rfl, hs, ho, hb2⟩
  have HL2 := Lib.hid (ListD.of hs ho)
  have HB2 := Lib.hid (bthen HB1.out hb2 HB1.out.size)
  clear hs ho hb2
  obtain ⟨V, hV⟩ : ∃ V, V = commonV A B := ⟨_, rfl⟩
  have HV := Lib.hid hV
  clear hV
  go_wp2_with fail
  refine (implCommon_any A B (by unfold maxLen; omega) (by unfold maxLen; omega) _).mono ?_
  rintro e w3 ⟨rfl, hb3⟩
  rw [← HV.out]
  have HL3 := Lib.hid (HL2.out.below hb3)
  have HB3 := Lib.hid (bthen HB2.out hb3 HB2.out.size)
  clear hb3 HL2
  go_wp2_with fail
  refine (drawApply_any w.heap.size a1 n1 C1 (by omega) _ HB3.out.size (H1.out.below HB3.out)).mono ?_
  rintro e w4 ⟨c, b, o, n, C, K, X, rfl, hc, hn, hX, hr, hb4⟩
  have HL4 := Lib.hid (HL3.out.below hb4)
  have HB4 := Lib.hid (bthen HB3.out hb4 HB3.out.size)
  have HX := Lib.hid hX
  have HR4 := Lib.hid hr
  have HX2 := Lib.hid (show ∀ i, i < n → (X i).size ≤ 1048576 from fun i hi => by have := hX i hi; omega)
  clear hb4 HL3 hX hr
  obtain ⟨xs, xi, xg, xc, hx⟩ := applyV_form c n K X
  have HXV := Lib.hid hx
  clear hx
  go_wp2_with fail
  refine (implApply_any c b o n C K X (by unfold maxLen; omega) (by omega) HX2.out _ HR4.out).mono ?_
  rintro e w5 ⟨rfl, hb5⟩
  rw [HXV.out]
  have hal := (Below.refl _ w5).alloc (Nat.le_refl _) (.cells #[.string xs, .int .i64 xi, .string xg, .int .i64 xc] 33)
  have HS := Lib.hid (show FS w A B dv b o n K X w5.heap.size xs xi xg xc (w5.alloc (.cells #[.string xs, .int .i64 xi, .string xg, .int .i64 xc] 33)) from
    ⟨(HL4.out.below hb5).below hal, (HR4.out.below hb5).below hal, by simp [go_sem], by simp [go_sem], by simp [go_sem], by simp [go_sem], bthen (bthen HB4.out hb5 HB4.out.size) hal (by have := HB4.out.size; have := hb5.size; omega)⟩)
  clear hb5 hal HL4 HR4 HB4
  obtain ⟨xb, hxb⟩ : ∃ xb, xb = w5.heap.size := ⟨_, rfl⟩
  have hdl := diffV_len A B
  have hdX := atX_size (diffV_size A B)
  have HXL := Lib.hid (show xc = 0 → lineB xs xi = true from fun e => by have h := HXV.out; rw [e] at h; exact (applyV_ok h).2.2.2.2.2)
  have HXS := Lib.hid (show xc = 0 → xs.size ≤ maxLen from fun e => by have h := HXV.out; rw [e] at h; have := (textB_ok (applyV_ok h).2.2.2.2.1).1; unfold maxLen; omega)
  go_wp2_with fail
  rw [← hxb] at HS ⊢
  refine absW (P := fun W => Code.wp _ _ _ _ W) (fun W' => FS w A B dv b o n K X xb xs xi xg xc W') HS.out (fun W6 h6 => ?_)
  clear HS hxb
  have y0 := h6.x0
  have y1 := h6.x1
  have y2 := h6.x2
  have y3 := h6.x3
  have HS := Lib.hid (h6.below (drew_below W6))
  clear h6
  go_region_held3 (fun w' => (w'.cell? ⟨xb, 0, none⟩ = some (.string xs) ∧ w'.cell? ⟨xb, 1, none⟩ = some (.int .i64 xi)) ∧ w'.cell? ⟨xb, 2, none⟩ = some (.string xg) ∧ w'.cell? ⟨xb, 3, none⟩ = some (.int .i64 xc)) (go_keep)
    (first
      | (go_at_call 15
         refine (specDiffOf_any A B (by unfold maxLen; omega) (by unfold maxLen; omega) _).mono ?_
         rintro e W7 ⟨gs, Cs, rfl, ho, hb⟩
         have HSP := Lib.hid (own_row ho)
         clear ho
         have HS := Lib.hid (HS.out.below hb)
         have y0 := HS.out.x0
         have y1 := HS.out.x1
         have y2 := HS.out.x2
         have y3 := HS.out.x3
         clear hb)
      | (go_at_call 14
         refine (lwDiffsD dv (diffV A B) gs Cs _ HS.out.d_ HSP.out (by omega)).mono ?_
         rintro e W7 ⟨rfl, hb⟩
         have HS := Lib.hid (HS.out.below hb)
         have y0 := HS.out.x0
         have y1 := HS.out.x1
         have y2 := HS.out.x2
         have y3 := HS.out.x3
         clear hb)
      | (go_at_call 16
         refine (specCommon_any A B (by unfold maxLen; omega) (by unfold maxLen; omega) _).mono ?_
         rintro e W7 ⟨rfl, hb⟩
         rw [← HV.out]
         have HS := Lib.hid (HS.out.below hb)
         have y0 := HS.out.x0
         have y1 := HS.out.x1
         have y2 := HS.out.x2
         have y3 := HS.out.x3
         clear hb)
      | (go_at_call 11
         refine (implCommon_any B A (by unfold maxLen; omega) (by unfold maxLen; omega) _).mono ?_
         rintro e W7 ⟨rfl, hb⟩
         rw [commonV_swap, ← HV.out]
         have HS := Lib.hid (HS.out.below hb)
         have y0 := HS.out.x0
         have y1 := HS.out.x1
         have y2 := HS.out.x2
         have y3 := HS.out.x3
         clear hb)
      | (go_at_call 18
         refine (specApply_o c b o n C K X (by unfold maxLen; omega) (by omega) HX2.out _ HS.out.l_).mono ?_
         rintro e W7 ⟨rfl, hb⟩
         rw [HXV.out]
         have HS := Lib.hid (HS.out.below hb)
         have y0 := HS.out.x0
         have y1 := HS.out.x1
         have y2 := HS.out.x2
         have y3 := HS.out.x3
         clear hb)
      | (go_at_call 17
         refine (lwLine_same xs xi xg xc HXS.out HXL.out _).mono ?_
         rintro e W7 ⟨rfl, hb⟩
         have HS := Lib.hid (HS.out.below hb)
         have y0 := HS.out.x0
         have y1 := HS.out.x1
         have y2 := HS.out.x2
         have y3 := HS.out.x3
         clear hb)
      | (go_at_call 19
         refine (implDR_any b o n C K X (by omega) _ HS.out.l_).mono ?_
         rintro e W7 ⟨rfl, hb⟩
         have HS := Lib.hid (HS.out.below hb)
         have y0 := HS.out.x0
         have y1 := HS.out.x1
         have y2 := HS.out.x2
         have y3 := HS.out.x3
         clear hb)
      | (go_at_call 20
         refine (specDR_o b o n C K X (by omega) _ HS.out.l_).mono ?_
         rintro e W7 ⟨rfl, hb⟩
         have HS := Lib.hid (HS.out.below hb)
         have y0 := HS.out.x0
         have y1 := HS.out.x1
         have y2 := HS.out.x2
         have y3 := HS.out.x3
         clear hb)
      | (go_at_call 21
         refine (implCost_any b o n C K X (by omega) HX2.out _ HS.out.l_).mono ?_
         rintro e W7 ⟨rfl, hb⟩
         have HS := Lib.hid (HS.out.below hb)
         have y0 := HS.out.x0
         have y1 := HS.out.x1
         have y2 := HS.out.x2
         have y3 := HS.out.x3
         clear hb)
      | (go_at_call 22
         refine (specCost_o b o n C K X (by omega) HX2.out _ HS.out.l_).mono ?_
         rintro e W7 ⟨rfl, hb⟩
         have HS := Lib.hid (HS.out.below hb)
         have y0 := HS.out.x0
         have y1 := HS.out.x1
         have y2 := HS.out.x2
         have y3 := HS.out.x3
         clear hb))
  refine absW (P := fun W => Exit.then _ _ .normal _ W) (fun W' => FS w A B dv b o n K X xb xs xi xg xc W') HS.out (fun W8 h8 => ?_)
  clear HSP HS
  have HS := Lib.hid h8
  clear h8
  cases ta : textB A
  · have hv0 : diffV A B = [] := by simp [diffV, ta]
    have hVm : V = -1 := by rw [HV.out]; simp [commonV, ta]
    have HD := Lib.hid (show ∃ a C, dv = .slice a 0 C by
      rcases HS.out.d_ with ⟨h, _⟩ | ⟨g, C, h, _⟩
      · exact ⟨none, 0, h⟩
      · exact ⟨_, C, by rw [h, hv0]; rfl⟩)
    go_wp2_with fail
    refine (specRight_any A (by unfold maxLen; omega) _).mono ?_
    rintro e wx ⟨rfl, rfl⟩
    rw [ta]
    obtain ⟨da, dC, hdv⟩ := HD.out
    rw [hdv]
    clear hdv hv0
    go_wp2
    go_ret
    exact ⟨rfl, HS.out.bel⟩
  cases tb : textB B
  · have hv0 : diffV A B = [] := by simp [diffV, tb]
    have hVm : V = -1 := by rw [HV.out]; simp [commonV, tb]
    have HD := Lib.hid (show ∃ a C, dv = .slice a 0 C by
      rcases HS.out.d_ with ⟨h, _⟩ | ⟨g, C, h, _⟩
      · exact ⟨none, 0, h⟩
      · exact ⟨_, C, by rw [h, hv0]; rfl⟩)
    go_wp2_with fail
    refine (specRight_any A (by unfold maxLen; omega) _).mono ?_
    rintro e wx ⟨rfl, rfl⟩
    rw [ta]
    go_wp2_with fail
    refine (specRight_any B (by unfold maxLen; omega) _).mono ?_
    rintro e wx ⟨rfl, rfl⟩
    rw [tb]
    obtain ⟨da, dC, hdv⟩ := HD.out
    rw [hdv]
    clear hdv hv0
    go_wp2
    go_ret
    exact ⟨rfl, HS.out.bel⟩
  have HCD := Lib.hid (costV_diff A B ta tb)
  have hVr : 0 ≤ V ∧ V ≤ 61 := by
    have h := HV.out
    unfold commonV at h
    rw [ta, tb] at h
    have := tab_le A B 0 0
    simp only [Bool.and_self, if_true] at h
    omega
  obtain ⟨hV0, hV1⟩ := hVr
  go_wp2_with fail
  refine (specRight_any A (by unfold maxLen; omega) _).mono ?_
  rintro e wx ⟨rfl, rfl⟩
  rw [ta]
  go_wp2_with fail
  refine (specRight_any B (by unfold maxLen; omega) _).mono ?_
  rintro e wx ⟨rfl, rfl⟩
  rw [tb]
  go_wp2_with fail
  refine (applyD_any A B ta tb dv _ HS.out.d_).mono ?_
  rintro e W9 ⟨yi, rfl, hb9⟩
  have hal9 := (Below.refl _ W9).alloc (Nat.le_refl _) (.cells #[.string B, .int .i64 yi, .string ⟨#[]⟩, .int .i64 0] 33)
  have HS9 := Lib.hid ((HS.out.below hb9).below hal9)
  clear hb9 hal9
  have w2V : IntKind.i64.wrap (2 * V) = 2 * V := IntWalk.i64_in _ (by omega)
  have wAB : IntKind.i64.wrap ((A.size : Int) + (B.size : Int)) = (A.size : Int) + (B.size : Int) := IntWalk.i64_in _ (by omega)
  have wABV : IntKind.i64.wrap ((A.size : Int) + (B.size : Int) - 2 * V) = (A.size : Int) + (B.size : Int) - 2 * V := IntWalk.i64_in _ (by omega)
  go_wp2_with fail
  refine (costD_any dv (diffV A B) _ HS9.out.d_ (by omega) (fun i hi => by have := hdX i hi; omega)).mono ?_
  rintro e W10 ⟨rfl, hb10⟩
  rw [HCD.out, ← HV.out]
  have h10 := HS9.out.below hb10
  have HS10 := Lib.hid h10
  have z0 := h10.x0
  have z1 := h10.x1
  have z2 := h10.x2
  have z3 := h10.x3
  clear hb10 h10
  go_wp2_with fail
  by_cases hxc : xc = 0
  · subst hxc
    have hge := cost_ge HXV.out
    have hxs := HXS.out rfl
    have HSX := Lib.hid hxs
    have hdl2 := diffV_len c xs
    have hdX2 := atX_size (diffV_size c xs)
    obtain ⟨Cl, hCl⟩ : ∃ Cl, Cl = costV n K X := ⟨_, rfl⟩
    obtain ⟨C2, hC2⟩ : ∃ C2, C2 = costV (diffV c xs).length (atK (diffV c xs)) (atX (diffV c xs)) := ⟨_, rfl⟩
    rw [← hCl, ← hC2] at hge
    have HCl := Lib.hid hCl
    have HC2 := Lib.hid hC2
    clear hCl hC2 hxs
    have HS := Lib.hid (HS10.out.below (drew_below _))
    clear HS10 HS9
    go_region_held3 (fun w' => w'.cell? ⟨xb, 0, none⟩ = some (.string xs) ∧ w'.cell? ⟨xb, 3, none⟩ = some (.int .i64 0)) (go_keep)
      (first
        | (go_at_call 21
           refine (costD_any v2 (diffV c xs) _ HL2.out (by omega) (fun i hi => by have := hdX2 i hi; omega)).mono ?_
           rintro e W7 ⟨rfl, hb⟩
           rw [← HC2.out]
           have HS := Lib.hid (HS.out.below hb)
           have y0 := HS.out.x0
           have y3 := HS.out.x3
           clear hb)
        | (go_at_call 21
           refine (implCost_any b o n C K X (by omega) HX2.out _ HS.out.l_).mono ?_
           rintro e W7 ⟨rfl, hb⟩
           rw [← HCl.out]
           have HS := Lib.hid (HS.out.below hb)
           have y0 := HS.out.x0
           have y3 := HS.out.x3
           clear hb)
        | (go_at_call 10
           refine (implDiffOf_any c xs (by unfold maxLen; omega) HSX.out _).mono ?_
           rintro e W7 ⟨v2, rfl, hs2, ho2, hb⟩
           have HL2 := Lib.hid (ListD.of hs2 ho2)
           have HS := Lib.hid (HS.out.below hb)
           have y0 := HS.out.x0
           have y3 := HS.out.x3
           clear hb hs2 ho2))
    go_wp2
    go_ret
    exact ⟨rfl, HS.out.bel⟩
  · have d : (xc != 0) = true := by simpa using hxc
    go_quiet (fail)
    go_wp2
    go_ret
    exact ⟨rfl, HS10.out.bel.trans ⟨rfl, rfl, rfl, Nat.le_refl _, fun _ _ => rfl⟩⟩
end Go.Proofs.Ytbbmobebnflboaa.diff
