/-
  FrameRight and FrameText of the model, and the laws of both. For every frame.
-/
import Derived.Test.YtlhfgpcanfpnfaaDoorFrameText
import Derived.Test.YtlhfgpcanfpnfaaDoorLineRight
namespace Go.Proofs.YtlhfgpcanfpnfaaDoor.frame
open Go.ChangeShapes Go.WideShapes Go.ChangeAt Go.RowKit
open Go.Proofs.YtlhfgpcanfpnfaaDoor.line Go.Proofs.YtlhfgpcanfpnfaaDoor.all_
theorem Pr.say {s : ByteArray} {k : Nat} (h : Pr s k) (hk : s.size ≤ k) : sayB s = decide ((s.size : Int) ≤ 80) := by
  have : prB s = true := prB_t fun i hi _ => h i hi (by omega)
  simp [sayB, this]
theorem Pr.sayBad {s : ByteArray} {k : Nat} (hk : k < s.size) (g : printN (s[k].toNat) = false) : sayB s = false := by
  simp [sayB, Pr.badB hk g]
theorem specSay_any (s : ByteArray) (hs : s.size ≤ maxLen) (w : World) :
    Calls Tryd.prog 34 #[.string s] w fun e w' => e = .returned (.bool (sayB s)) ∧ w = w' := by
  unfold maxLen at hs
  go_enter Tryd.func34, Tryd.ntmps34
  go_wp2
  go_loop [3] (fun i => ∃ k : Nat, k ≤ s.size ∧ i = .int .i64 k ∧ Pr s k) (fun i => s.size - (intOf i).toNat)
  case atStart => exact ⟨0, Nat.zero_le _, rfl, Pr.zero s⟩
  case round =>
    obtain ⟨k, hk, rfl, HO⟩ := hrel
    by_cases hlt : k < s.size
    · go_wp2
      all_goals first
        | (go_round
           case rel => exact ⟨k + 1, by omega, by go_num, HO.succ hlt (printN_t (by omega))⟩
           case measure => simp [intOf]; omega)
        | (go_ret
           exact ⟨by rw [Pr.sayBad hlt (printN_f (by omega))]; rfl, rfl⟩)
    · have hd := Pr.say HO (by omega)
      have HD := Lib.hid hd
      clear hd
      go_wp2
      go_ret
      exact ⟨by rw [HD.out]; rfl, rfl⟩
def wordL (k : Int) : List UInt8 := if k = 1 then putL else if k = 2 then dropL else if k = 3 then moveL else if k = 4 then allL else if k = 5 then sayL else if k = 6 then bellL else doneL
theorem specWord_any (k : Int) (h1 : 1 ≤ k) (h7 : k ≤ 7) (w : World) :
    Calls Tryd.prog 14 #[.int .i64 k] w fun e w' => e = .returned (.string ⟨(wordL k).toArray⟩) ∧ Below w.heap.size w w' := by
  have hk : k = 1 ∨ k = 2 ∨ k = 3 ∨ k = 4 ∨ k = 5 ∨ k = 6 ∨ k = 7 := by omega
  clear h1 h7
  rcases hk with rfl | rfl | rfl | rfl | rfl | rfl | rfl
  all_goals
    go_enter Tryd.func14, Tryd.ntmps14
    go_wp2
    go_ret
    exact ⟨rfl, (Below.refl _ _).alloc (Nat.le_refl _) _⟩
theorem conv_one (W : World) (g : Nat) (x : UInt8) (h : W.cell? ⟨g, 0, none⟩ = some (.int .u8 x.toNat)) : (convert 74 9 (.slice (some ⟨g, 0, none⟩) 1 1)).run Tryd.prog W = .ok (.string ⟨#[x]⟩) W := by
  have := conv_row (P := Tryd.prog) (w := W) (g := g) (cap := 1) 74 5 Tryd.underlying74 Tryd.underlying5 [x] (fun i hi => by simp at hi; subst hi; simpa using h) 9 Tryd.underlying9
  simpa using this
/-- so far of a number's digits: m is left, o stands behind -/
def ST (n m : Nat) (o : ByteArray) : Prop := m ≤ n ∧ dec n = (if m = 0 then [] else Lib.decDigits m) ++ o.data.toList
theorem ST.step {n m : Nat} {o : ByteArray} (h : ST n m o) (hm : ¬ m = 0) {x : UInt8} (hx : x = UInt8.ofNat (48 + m % 10)) : ST n (m / 10) ((⟨#[x]⟩ : ByteArray) ++ o) := by
  obtain ⟨h1, h2⟩ := h
  refine ⟨by omega, ?_⟩
  rw [h2, if_neg hm]
  have e : ((⟨#[x]⟩ : ByteArray) ++ o).data.toList = x :: o.data.toList := by simp
  rw [e, Lib.decDigits]
  by_cases h9 : m < 10
  · rw [dif_pos h9, if_pos (by omega), hx]
    have : m % 10 = m := by omega
    rw [this]; rfl
  · rw [dif_neg h9, if_neg (by omega), hx]
    simp
theorem ST.size {n m : Nat} {o : ByteArray} (h : ST n m o) (hn : n ≤ 60) : o.size ≤ 2 := by
  have h1 := dec_len (a := (n : Int)) (by simp [plB]; omega)
  rw [h.2, List.length_append] at h1
  have e1 : o.data.toList.length = o.size := rfl
  omega
set_option maxHeartbeats 1600000 in
theorem specDec_any (n : Nat) (hn : n ≤ 60) (w : World) :
    Calls Tryd.prog 35 #[.int .i64 n] w fun e w' => e = .returned (.string ⟨(dec n).toArray⟩) ∧ Below w.heap.size w w' := by
  by_cases h0 : n = 0
  · subst h0
    go_enter Tryd.func35, Tryd.ntmps35
    go_wp2
    go_ret
    exact ⟨by simp [dec, Lib.decDigits], Below.refl _ _⟩
  · have h0' : ((n : Int) == 0) = false := by simpa using h0
    have hng : decide ((n : Int) < 0) = false := by simp
    have HST0 := Lib.hid (show ST n n ⟨#[]⟩ from ⟨Nat.le_refl _, by rw [if_neg h0]; simp [dec]⟩)
    have HN := Lib.hid hn
    clear h0 hn
    go_enter Tryd.func35, Tryd.ntmps35
    go_wp2
    go_loopw [0, 4] (fun iv ov wr => ∃ m : Nat, ∃ o : ByteArray, iv = .int .i64 m ∧ ov = .string o ∧ ST n m o ∧ Below w.heap.size w wr) (fun iv _ _ => (intOf iv).toNat)
    case atStart => exact ⟨n, ⟨#[]⟩, rfl, rfl, HST0.out, Below.refl _ _⟩
    case round =>
      obtain ⟨m, o, rfl, rfl, hst, hb⟩ := hrel
      rename World => wr
      have hos := hst.size HN.out
      have HS := Lib.hid hst
      have HB := Lib.hid hb
      have hml := hst.1
      clear hst hb
      by_cases hz : m = 0
      · subst hz
        have HE := Lib.hid (show (dec n).toArray = o.data by have := HS.out.2; rw [if_pos rfl] at this; rw [this]; simp)
        go_wp2
        go_ret
        exact ⟨by rw [HE.out]; rfl, HB.out⟩
      have hz' : ((m : Int) == 0) = false := by simpa using hz
      have hml2 := HN.out
      have hx0 : (48 + (m : Int) % 10) ≤ 57 := by omega
      obtain ⟨x, hx⟩ : ∃ x : UInt8, x = UInt8.ofNat (48 + m % 10) := ⟨_, rfl⟩
      have hxn : x.toNat = 48 + m % 10 := by rw [hx]; simp; omega
      have hcv := fun (W : World) (h : W.cell? ⟨wr.heap.size, 0, none⟩ = some (.int .u8 (48 + (m : Int) % 10))) => conv_one W wr.heap.size x (by rw [h, hxn]; simp)
      have HX := Lib.hid (HS.out.step hz hx)
      clear hx hxn
      go_wp2
      go_roundw
      case rel => exact ⟨m / 10, _, by go_num, rfl, HX.out, HB.out.alloc HB.out.size _⟩
      case measure => simp [intOf]; omega
theorem word_1 : wordL 1 = putL := by simp [wordL]
theorem word_2 : wordL 2 = dropL := by simp [wordL]
theorem word_3 : wordL 3 = moveL := by simp [wordL]
theorem word_4 : wordL 4 = allL := by simp [wordL]
theorem word_5 : wordL 5 = sayL := by simp [wordL]
theorem word_6 : wordL 6 = bellL := by simp [wordL]
theorem word_7 : wordL 7 = doneL := by simp [wordL]
set_option maxHeartbeats 1600000 in
theorem specTx_any (k a : Int) (t : ByteArray) (h : frB k a t = true) (w : World) :
    Calls Tryd.prog 27 #[fV k a t] w fun e w' => e = .returned (.string (frS k a t)) ∧ Below w.heap.size w w' := by
  obtain ⟨h1, h7, hp, hz, ht, _⟩ := frB_facts h
  have HW := Lib.hid (specWord_any k h1 h7)
  have hk : k = 1 ∨ k = 2 ∨ k = 3 ∨ k = 4 ∨ k = 5 ∨ k = 6 ∨ k = 7 := by omega
  clear h1 h7 h
  unfold fV
  rcases hk with rfl | rfl | rfl | rfl | rfl | rfl | rfl
  · obtain ⟨h0, h60⟩ := plB_t (hp (by omega))
    have hl := dec_len (hp (by omega))
    obtain ⟨n, rfl⟩ := Int.eq_ofNat_of_zero_le h0
    have HD := Lib.hid (specDec_any n (by omega))
    obtain ⟨D, hD⟩ : ∃ D : ByteArray, D = ⟨(dec (n : Int)).toArray⟩ := ⟨_, rfl⟩
    have hds : D.size ≤ 2 := by rw [hD]; simpa [ByteArray.size] using hl
    obtain ⟨X, hX⟩ : ∃ X : ByteArray, X = ⟨(wordL 1).toArray⟩ := ⟨_, rfl⟩
    have hxs : X.size ≤ 4 := by rw [hX, word_1]; decide
    have HE := Lib.hid (show X ++ ⟨#[32]⟩ ++ D ++ ⟨#[32]⟩ ++ t = frS 1 n t by
      rw [hX, hD, word_1]
      apply ByteArray.ext
      simp [frS, frL])
    rw [← hX] at HW
    rw [← hD] at HD
    clear hl hD h0 h60
    clear hX hp hz
    have c0 : ¬ 9223372036854775807 < X.size + 1 := by omega
    have c1 : ¬ 9223372036854775807 < X.size + 1 + D.size := by omega
    have c2 : ¬ 9223372036854775807 < X.size + 1 + D.size + 1 := by omega
    have c3 : ¬ 9223372036854775807 < X.size + 1 + D.size + 1 + t.size := by omega
    go_enter Tryd.func27, Tryd.ntmps27
    go_wp2_with fail
    refine (HW.out _).mono ?_
    rintro e w1 ⟨rfl, hb⟩
    obtain ⟨k1, _⟩ := keepC hb (g := w.heap.size) (by simp)
    have l1 : w.heap.size < w1.heap.size := by have z1 := hb.size; simp at z1; omega
    have HB := Lib.hid (bthen ((Below.refl _ w).alloc (Nat.le_refl _) _) hb (by simp))
    clear hb
    go_wp2_with fail
    go_region_held3 (fun w' => w'.cell? ⟨w.heap.size, 1, none⟩ = some (.int .i64 n) ∧ w'.cell? ⟨w.heap.size, 2, none⟩ = some (.string t)) (go_keep)
      (first
        | (go_at_call 35
           refine (HD.out _).mono ?_
           rintro e w2 ⟨rfl, hb⟩
           obtain ⟨k2, _⟩ := keepC hb (g := w.heap.size) (by first | exact l1 | (simp; omega))
           have HB := Lib.hid (bthen HB.out.drew hb (by first | omega | (simp; omega)))
           clear hb))
    go_wp2
    go_ret
    exact ⟨by rw [← HE.out]; rfl, HB.out⟩
  · obtain ⟨h0, h60⟩ := plB_t (hp (by omega))
    have hl := dec_len (hp (by omega))
    obtain ⟨n, rfl⟩ := Int.eq_ofNat_of_zero_le h0
    have HD := Lib.hid (specDec_any n (by omega))
    obtain ⟨D, hD⟩ : ∃ D : ByteArray, D = ⟨(dec (n : Int)).toArray⟩ := ⟨_, rfl⟩
    have hds : D.size ≤ 2 := by rw [hD]; simpa [ByteArray.size] using hl
    obtain ⟨X, hX⟩ : ∃ X : ByteArray, X = ⟨(wordL 2).toArray⟩ := ⟨_, rfl⟩
    have hxs : X.size ≤ 4 := by rw [hX, word_2]; decide
    have HE := Lib.hid (show X ++ ⟨#[32]⟩ ++ D ++ ⟨#[32]⟩ ++ t = frS 2 n t by
      rw [hX, hD, word_2]
      apply ByteArray.ext
      simp [frS, frL])
    rw [← hX] at HW
    rw [← hD] at HD
    clear hl hD h0 h60
    clear hX hp hz
    have c0 : ¬ 9223372036854775807 < X.size + 1 := by omega
    have c1 : ¬ 9223372036854775807 < X.size + 1 + D.size := by omega
    have c2 : ¬ 9223372036854775807 < X.size + 1 + D.size + 1 := by omega
    have c3 : ¬ 9223372036854775807 < X.size + 1 + D.size + 1 + t.size := by omega
    go_enter Tryd.func27, Tryd.ntmps27
    go_wp2_with fail
    refine (HW.out _).mono ?_
    rintro e w1 ⟨rfl, hb⟩
    obtain ⟨k1, _⟩ := keepC hb (g := w.heap.size) (by simp)
    have l1 : w.heap.size < w1.heap.size := by have z1 := hb.size; simp at z1; omega
    have HB := Lib.hid (bthen ((Below.refl _ w).alloc (Nat.le_refl _) _) hb (by simp))
    clear hb
    go_wp2_with fail
    go_region_held3 (fun w' => w'.cell? ⟨w.heap.size, 1, none⟩ = some (.int .i64 n) ∧ w'.cell? ⟨w.heap.size, 2, none⟩ = some (.string t)) (go_keep)
      (first
        | (go_at_call 35
           refine (HD.out _).mono ?_
           rintro e w2 ⟨rfl, hb⟩
           obtain ⟨k2, _⟩ := keepC hb (g := w.heap.size) (by first | exact l1 | (simp; omega))
           have HB := Lib.hid (bthen HB.out.drew hb (by first | omega | (simp; omega)))
           clear hb))
    go_wp2
    go_ret
    exact ⟨by rw [← HE.out]; rfl, HB.out⟩
  · obtain ⟨h0, h60⟩ := plB_t (hp (by omega))
    have hl := dec_len (hp (by omega))
    obtain ⟨n, rfl⟩ := Int.eq_ofNat_of_zero_le h0
    have HD := Lib.hid (specDec_any n (by omega))
    obtain ⟨D, hD⟩ : ∃ D : ByteArray, D = ⟨(dec (n : Int)).toArray⟩ := ⟨_, rfl⟩
    have hds : D.size ≤ 2 := by rw [hD]; simpa [ByteArray.size] using hl
    obtain ⟨X, hX⟩ : ∃ X : ByteArray, X = ⟨(wordL 3).toArray⟩ := ⟨_, rfl⟩
    have hxs : X.size ≤ 4 := by rw [hX, word_3]; decide
    have HE := Lib.hid (show X ++ ⟨#[32]⟩ ++ D = frS 3 n t by
      rw [hX, hD, word_3]
      apply ByteArray.ext
      simp [frS, frL])
    rw [← hX] at HW
    rw [← hD] at HD
    clear hl hD h0 h60
    clear hX hp hz
    have c0 : ¬ 9223372036854775807 < X.size + 1 := by omega
    have c1 : ¬ 9223372036854775807 < X.size + 1 + D.size := by omega
    go_enter Tryd.func27, Tryd.ntmps27
    go_wp2_with fail
    refine (HW.out _).mono ?_
    rintro e w1 ⟨rfl, hb⟩
    obtain ⟨k1, _⟩ := keepC hb (g := w.heap.size) (by simp)
    have l1 : w.heap.size < w1.heap.size := by have z1 := hb.size; simp at z1; omega
    have HB := Lib.hid (bthen ((Below.refl _ w).alloc (Nat.le_refl _) _) hb (by simp))
    clear hb
    go_wp2_with fail
    refine (HD.out _).mono ?_
    rintro e w2 ⟨rfl, hb⟩
    have HB := Lib.hid (bthen HB.out hb (by first | omega | (simp; omega)))
    clear hb
    go_wp2
    go_ret
    exact ⟨by rw [← HE.out]; rfl, HB.out⟩
  · obtain ⟨h0, h60⟩ := plB_t (hp (by omega))
    have hl := dec_len (hp (by omega))
    obtain ⟨n, rfl⟩ := Int.eq_ofNat_of_zero_le h0
    have HD := Lib.hid (specDec_any n (by omega))
    obtain ⟨D, hD⟩ : ∃ D : ByteArray, D = ⟨(dec (n : Int)).toArray⟩ := ⟨_, rfl⟩
    have hds : D.size ≤ 2 := by rw [hD]; simpa [ByteArray.size] using hl
    obtain ⟨X, hX⟩ : ∃ X : ByteArray, X = ⟨(wordL 4).toArray⟩ := ⟨_, rfl⟩
    have hxs : X.size ≤ 4 := by rw [hX, word_4]; decide
    have HE := Lib.hid (show X ++ ⟨#[32]⟩ ++ D ++ ⟨#[32]⟩ ++ t = frS 4 n t by
      rw [hX, hD, word_4]
      apply ByteArray.ext
      simp [frS, frL])
    rw [← hX] at HW
    rw [← hD] at HD
    clear hl hD h0 h60
    clear hX hp hz
    have c0 : ¬ 9223372036854775807 < X.size + 1 := by omega
    have c1 : ¬ 9223372036854775807 < X.size + 1 + D.size := by omega
    have c2 : ¬ 9223372036854775807 < X.size + 1 + D.size + 1 := by omega
    have c3 : ¬ 9223372036854775807 < X.size + 1 + D.size + 1 + t.size := by omega
    go_enter Tryd.func27, Tryd.ntmps27
    go_wp2_with fail
    refine (HW.out _).mono ?_
    rintro e w1 ⟨rfl, hb⟩
    obtain ⟨k1, _⟩ := keepC hb (g := w.heap.size) (by simp)
    have l1 : w.heap.size < w1.heap.size := by have z1 := hb.size; simp at z1; omega
    have HB := Lib.hid (bthen ((Below.refl _ w).alloc (Nat.le_refl _) _) hb (by simp))
    clear hb
    go_wp2_with fail
    go_region_held3 (fun w' => w'.cell? ⟨w.heap.size, 1, none⟩ = some (.int .i64 n) ∧ w'.cell? ⟨w.heap.size, 2, none⟩ = some (.string t)) (go_keep)
      (first
        | (go_at_call 35
           refine (HD.out _).mono ?_
           rintro e w2 ⟨rfl, hb⟩
           obtain ⟨k2, _⟩ := keepC hb (g := w.heap.size) (by first | exact l1 | (simp; omega))
           have HB := Lib.hid (bthen HB.out.drew hb (by first | omega | (simp; omega)))
           clear hb))
    go_wp2
    go_ret
    exact ⟨by rw [← HE.out]; rfl, HB.out⟩
  · skip
    obtain ⟨X, hX⟩ : ∃ X : ByteArray, X = ⟨(wordL 5).toArray⟩ := ⟨_, rfl⟩
    have hxs : X.size ≤ 4 := by rw [hX, word_5]; decide
    have HE := Lib.hid (show X ++ ⟨#[32]⟩ ++ t = frS 5 a t by
      rw [hX, word_5]
      apply ByteArray.ext
      simp [frS, frL])
    rw [← hX] at HW
    clear hX hp hz
    have c0 : ¬ 9223372036854775807 < X.size + 1 := by omega
    have c1 : ¬ 9223372036854775807 < X.size + 1 + t.size := by omega
    go_enter Tryd.func27, Tryd.ntmps27
    go_wp2_with fail
    refine (HW.out _).mono ?_
    rintro e w1 ⟨rfl, hb⟩
    obtain ⟨k1, _⟩ := keepC hb (g := w.heap.size) (by simp)
    have l1 : w.heap.size < w1.heap.size := by have z1 := hb.size; simp at z1; omega
    have HB := Lib.hid (bthen ((Below.refl _ w).alloc (Nat.le_refl _) _) hb (by simp))
    clear hb
    go_wp2
    go_ret
    exact ⟨by rw [← HE.out]; rfl, HB.out⟩
  · skip
    obtain ⟨X, hX⟩ : ∃ X : ByteArray, X = ⟨(wordL 6).toArray⟩ := ⟨_, rfl⟩
    have hxs : X.size ≤ 4 := by rw [hX, word_6]; decide
    have HE := Lib.hid (show X = frS 6 a t by
      rw [hX, word_6]
      apply ByteArray.ext
      simp [frS, frL, bellL])
    rw [← hX] at HW
    clear hX hp hz
    go_enter Tryd.func27, Tryd.ntmps27
    go_wp2_with fail
    refine (HW.out _).mono ?_
    rintro e w1 ⟨rfl, hb⟩
    obtain ⟨k1, _⟩ := keepC hb (g := w.heap.size) (by simp)
    have l1 : w.heap.size < w1.heap.size := by have z1 := hb.size; simp at z1; omega
    have HB := Lib.hid (bthen ((Below.refl _ w).alloc (Nat.le_refl _) _) hb (by simp))
    clear hb
    go_wp2
    go_ret
    exact ⟨by rw [← HE.out]; rfl, HB.out⟩
  · skip
    obtain ⟨X, hX⟩ : ∃ X : ByteArray, X = ⟨(wordL 7).toArray⟩ := ⟨_, rfl⟩
    have hxs : X.size ≤ 4 := by rw [hX, word_7]; decide
    have HE := Lib.hid (show X ++ ⟨#[32]⟩ ++ t = frS 7 a t by
      rw [hX, word_7]
      apply ByteArray.ext
      simp [frS, frL])
    rw [← hX] at HW
    clear hX hp hz
    have c0 : ¬ 9223372036854775807 < X.size + 1 := by omega
    have c1 : ¬ 9223372036854775807 < X.size + 1 + t.size := by omega
    go_enter Tryd.func27, Tryd.ntmps27
    go_wp2_with fail
    refine (HW.out _).mono ?_
    rintro e w1 ⟨rfl, hb⟩
    obtain ⟨k1, _⟩ := keepC hb (g := w.heap.size) (by simp)
    have l1 : w.heap.size < w1.heap.size := by have z1 := hb.size; simp at z1; omega
    have HB := Lib.hid (bthen ((Below.refl _ w).alloc (Nat.le_refl _) _) hb (by simp))
    clear hb
    go_wp2
    go_ret
    exact ⟨by rw [← HE.out]; rfl, HB.out⟩
end Go.Proofs.YtlhfgpcanfpnfaaDoor.frame
