/-
  FrameRead of the program, and the law's walk. For every text that the row reads; of the library's variables it asks what the row tells.
-/
import Derived.Test.YtlhfgpcanfpnfaaDoorReadFrame
import Derived.Test.YtlhfgpcanfpnfaaDoorSaidIn
namespace Go.Proofs.YtlhfgpcanfpnfaaDoor.frame
open Go.ChangeShapes Go.WideShapes Go.ChangeAt Go.RowKit
open Go.Proofs.YtlhfgpcanfpnfaaDoor.line Go.Proofs.YtlhfgpcanfpnfaaDoor.all_
theorem frameOf_right {f : FT3} (h : rightF f = true) (w : World) :
    Calls Tryd.prog 18 #[sV f.1 f.2.1 f.2.2] w fun e w' => e = .returned (.agg #[.int .i64 f.1, .int .i64 f.2.1, .string f.2.2]) ∧ Below w.heap.size w w' := by
  obtain ⟨k, a, t⟩ := f
  have h : frB k a t = true := h
  obtain ⟨h1, h7, _, hz, ht, _⟩ := frB_facts h
  have hk : k = 1 ∨ k = 2 ∨ k = 3 ∨ k = 4 ∨ k = 5 ∨ k = 6 ∨ k = 7 := by omega
  have ht' : t.size ≤ 281474976710656 := by omega
  show Calls Tryd.prog 18 #[sV k a t] w fun e w' => e = .returned (fV k a t) ∧ Below w.heap.size w w'
  rcases hk with rfl | rfl | rfl | rfl | rfl | rfl | rfl
  · rw [← nV_1]; exact frameOf_1 a t ht' w
  · rw [← nV_2]; exact frameOf_2 a t ht' w
  · rw [frB_3, Bool.and_eq_true] at h
    obtain rfl := size_nil (t := t) (by simpa using h.2)
    rw [← nV_3 a ⟨#[]⟩]; exact frameOf_3 a _ ht' w
  · rw [← nV_4]; exact frameOf_4 a t ht' w
  · obtain rfl := hz (by omega)
    rw [← nV_5 0]; exact frameOf_5 0 t ht' w
  · obtain rfl := hz (by omega)
    rw [frB_6, Bool.and_eq_true] at h
    obtain rfl := size_nil (t := t) (by simpa using h.2)
    rw [← nV_6 0 ⟨#[]⟩]; exact frameOf_6 0 _ ht' w
  · obtain rfl := hz (by omega)
    rw [← nV_7 0]; exact frameOf_7 0 t ht' w
theorem implRead_any (s : ByteArray) (hs : s.size ≤ maxLen) (w : World) (h : Vars w) :
    Calls Tryd.prog 6 #[.string s] w fun e w' => e = .returned (foV (outF s).1 (outF s).2) ∧ Below w.heap.size w w' := by
  unfold maxLen at hs
  by_cases h8 : (8000 : Int) < s.size
  · have HV := Lib.hid (outF_big (s := s) (by omega))
    rw [HV.out]
    go_enter Tryd.func6, Tryd.ntmps6
    go_wp2
    exact bodyPost_ret (v := foV noF 2) (by simp [results, Tryd.results6, go_sem, foV, noF]) rfl ⟨rfl, by repeat (first | exact Below.refl _ w | refine Below.alloc ?_ (by simp; try omega) _)⟩
  have HS := Lib.hid (fun w1 (h1 : Vars w1) => saidIn_any s (by omega) w1 h1)
  have hal := (Below.refl _ w).alloc (Nat.le_refl _) (.cells #[.int .i64 0, .int .i64 0, .string ⟨#[]⟩, .int .i64 0] 25)
  have HV0 := Lib.hid (h.below hal)
  have HB0 := Lib.hid hal
  clear hal
  cases hr : readV s with
  | none =>
    have HV := Lib.hid (outF_none (s := s) (by omega) hr)
    rw [hr] at HS
    rw [HV.out]
    clear hr
    go_enter Tryd.func6, Tryd.ntmps6
    go_wp2_with fail
    refine (HS.out _ HV0.out).mono ?_
    rintro e w1 ⟨v, b, rfl, rfl, _, hb⟩
    obtain ⟨k1, k2⟩ := keepC hb (g := w.heap.size) (by simp)
    have HB := Lib.hid (bthen HB0.out hb (by simp))
    clear hb
    go_wp2
    exact bodyPost_ret (v := foV noF 3) (by simp [results, Tryd.results6, go_sem, foV, noF, k1]) rfl
      ⟨rfl, by repeat (first | exact HB.out | refine Below.setCell (B := w.heap.size) (p := ⟨w.heap.size, _, none⟩) ?_ (Nat.le_refl _) _)⟩
  | some f =>
    have HV := Lib.hid (outF_some (s := s) (by omega) hr)
    have HF := Lib.hid (frameOf_right (readV_some hr).1)
    rw [hr] at HS
    rw [HV.out]
    clear hr
    go_enter Tryd.func6, Tryd.ntmps6
    go_wp2_with fail
    refine (HS.out _ HV0.out).mono ?_
    rintro e w1 ⟨v, b, rfl, rfl, hv, hb⟩
    obtain rfl := hv f rfl
    obtain ⟨k1, k2⟩ := keepC hb (g := w.heap.size) (by simp)
    have l1 : w.heap.size < w1.heap.size := by have z1 := hb.size; simp at z1; omega
    have HB := Lib.hid (bthen HB0.out hb (by simp))
    obtain ⟨V, hV⟩ : ∃ V, V = sV f.1 f.2.1 f.2.2 := ⟨_, rfl⟩
    rw [← hV] at HF ⊢
    clear hb hv hV
    go_wp2_with fail
    refine (HF.out _).mono ?_
    rintro e w2 ⟨rfl, hb⟩
    obtain ⟨k3, k4⟩ := keepC hb (g := w.heap.size) l1
    have HB := Lib.hid (bthen HB.out hb HB.out.size)
    clear hb
    go_wp2
    exact bodyPost_ret (v := foV f 0) (by simp [results, Tryd.results6, go_sem, foV, k1, k3]) rfl
      ⟨rfl, by repeat (first | exact HB.out | refine Below.setCell (B := w.heap.size) (p := ⟨w.heap.size, _, none⟩) ?_ (Nat.le_refl _) _)⟩
theorem eqFrameV (k a : Int) (t : ByteArray) (w : World) :
    Calls Tryd.prog 19 #[.agg #[.int .i64 k, .int .i64 a, .string t], .agg #[.int .i64 k, .int .i64 a, .string t]] w fun e w' => e = .returned (.bool true) ∧ Below w.heap.size w w' := by
  have hal := ((Below.refl _ w).alloc (Nat.le_refl _) (.cells #[.int .i64 k, .int .i64 a, .string t] 23)).alloc (by simp) (.cells #[.int .i64 k, .int .i64 a, .string t] 23)
  have HB := Lib.hid hal
  clear hal
  go_enter Tryd.func19, Tryd.ntmps19
  go_wp2
  go_ret
  exact ⟨rfl, HB.out⟩
theorem eqFrameOut_same (f : FT3) (c : Int) (w : World) :
    Calls Tryd.prog 7 #[foV f c, foV f c] w fun e w' => e = .returned (.bool true) ∧ Below w.heap.size w w' := by
  obtain ⟨k, a, t⟩ := f
  unfold foV
  dsimp only
  go_enter Tryd.func7, Tryd.ntmps7
  go_wp2_with fail
  refine (eqFrameV _ _ _ _).mono ?_
  rintro e w1 ⟨rfl, hb1⟩
  obtain ⟨k1, k2⟩ := keepC hb1 (g := w.heap.size) (by simp; omega)
  obtain ⟨k3, k4⟩ := keepC hb1 (g := w.heap.size + 1) (by simp)
  have HB1 := Lib.hid hb1
  clear hb1
  go_wp2
  go_ret
  exact ⟨rfl, bthen (((Below.refl _ _).alloc (Nat.le_refl _) _).alloc (by simp) _) HB1.out (by simp; omega)⟩
theorem walkFRd (a0 : ByteArray) (w0 : a0.size ≤ maxLen) (w : World) (h : Vars w) :
    Calls Tryd.prog 3 #[.string a0] w fun e w' => e = .returned (.bool true) ∧ Below w.heap.size w w' := by
  have HS := Lib.hid (specRead_any a0 w0)
  have HI := Lib.hid (fun w1 (h1 : Vars w1) => implRead_any a0 w0 w1 h1)
  obtain ⟨O, hO⟩ : ∃ O, O = outF a0 := ⟨_, rfl⟩
  rw [← hO] at HS HI
  have HE := Lib.hid (eqFrameOut_same O.1 O.2)
  clear hO
  obtain ⟨⟨fk, fa, ft⟩, fc⟩ := O
  unfold foV at HS HI HE
  dsimp only at HS HI HE
  have HH := Lib.hid h
  clear h
  by_cases hl : (1048576 : Int) < a0.size
  · unfold maxLen at w0
    go_enter Tryd.func3, Tryd.ntmps3
    go_wp2
    go_ret
    exact ⟨rfl, Below.refl _ _⟩
  · unfold maxLen at w0
    go_enter Tryd.func3, Tryd.ntmps3
    go_wp2_with fail
    refine (HS.out _).mono ?_
    rintro e w1 ⟨rfl, hb⟩
    have HB := Lib.hid hb
    have H1 := Lib.hid (HH.out.below hb)
    clear hb
    go_wp2_with fail
    refine (HI.out _ (H1.out.below ((Below.refl _ _).alloc (Nat.le_refl _) _))).mono ?_
    rintro e w2 ⟨rfl, hb⟩
    obtain ⟨k1, _⟩ := keepC hb (g := w1.heap.size) (by simp)
    have l1 : w1.heap.size < w2.heap.size := by have z := hb.size; simp at z; omega
    have HB := Lib.hid (bthen (HB.out.alloc HB.out.size _) hb (by have := HB.out.size; simp; omega))
    clear hb
    go_wp2_with fail
    refine (HE.out _).mono ?_
    rintro e w3 ⟨rfl, hb⟩
    have HB := Lib.hid (bthen (HB.out.alloc HB.out.size _) hb (by have := HB.out.size; simp; omega))
    clear hb
    go_wp2
    go_ret
    exact ⟨rfl, HB.out⟩
end Go.Proofs.YtlhfgpcanfpnfaaDoor.frame
