/-
  A frame's text as a plain function; FrameRight and FrameText of the program. For every frame.
-/
import Derived.Test.YtlhfgpcanfpnfaaDoorSaidBy
namespace Go.Proofs.YtlhfgpcanfpnfaaDoor.frame
open Go.ChangeShapes Go.WideShapes Go.ChangeAt Go.RowKit
open Go.Proofs.YtlhfgpcanfpnfaaDoor.line Go.Proofs.YtlhfgpcanfpnfaaDoor.all_
def putL : List UInt8 := [112, 117, 116]
def dropL : List UInt8 := [100, 114, 111, 112]
def moveL : List UInt8 := [109, 111, 118, 101]
def allL : List UInt8 := [97, 108, 108]
def sayL : List UInt8 := [115, 97, 121]
def bellL : List UInt8 := [98, 101, 108, 108]
def doneL : List UInt8 := [100, 111, 110, 101]
def dec (a : Int) : List UInt8 := Lib.decDigits a.toNat
/-- the text of such a frame -/
def frL (k a : Int) (t : ByteArray) : List UInt8 :=
  if k = 1 then putL ++ 32 :: (dec a ++ 32 :: t.data.toList) else if k = 2 then dropL ++ 32 :: (dec a ++ 32 :: t.data.toList)
  else if k = 3 then moveL ++ 32 :: dec a else if k = 4 then allL ++ 32 :: (dec a ++ 32 :: t.data.toList)
  else if k = 5 then sayL ++ 32 :: t.data.toList else if k = 6 then bellL else doneL ++ 32 :: t.data.toList
def frS (k a : Int) (t : ByteArray) : ByteArray := ⟨(frL k a t).toArray⟩
theorem dec_len {a : Int} (h : plB a = true) : (dec a).length ≤ 2 := by
  obtain ⟨h0, h1⟩ := plB_t h
  obtain ⟨n, rfl⟩ := Int.eq_ofNat_of_zero_le h0
  have hn : n ≤ 60 := by omega
  unfold dec
  rw [Int.toNat_natCast, Lib.decDigits]
  split
  · simp
  · rw [Lib.decDigits, dif_pos (by omega)]
    simp
theorem digits_any (a : Int) (h : plB a = true) (w : World) :
    Calls Tryd.prog 94 #[.int .i64 a] w fun e w' => e = .returned (.string ⟨(dec a).toArray⟩) ∧ w = w' := by
  obtain ⟨h0, h1⟩ := plB_t h
  obtain ⟨n, rfl⟩ := Int.eq_ofNat_of_zero_le h0
  have HF := Lib.hid (Tryd.strconv_FormatInt_10_small n (by omega))
  have HD := Lib.hid (show dec (n : Int) = Lib.decDigits n by simp [dec])
  clear h h0 h1
  go_enter Tryd.func94, Tryd.ntmps94
  go_wp2_with fail
  refine (HF.out _).mono ?_
  rintro e w1 ⟨rfl, rfl⟩
  go_wp2
  go_ret
  exact ⟨by rw [HD.out]; rfl, rfl⟩
theorem spaced_any (b : Nat) (xs : List ByteArray) (L : List UInt8) (hL : Lib.join (xs.map (·.data.toList)) [32] = L) (hl : L.length ≤ 140737488355328) (hn : xs.length ≤ 140737488355328) (w : World)
    (hc : ∀ (j : Nat) x, xs[j]? = some x → w.cell? ⟨b, 0 + j, none⟩ = some (.string x)) (hb : b < w.heap.size) :
    Calls Tryd.prog 93 #[.slice (some ⟨b, 0, none⟩) xs.length xs.length] w fun e w' => e = .returned (.string ⟨L.toArray⟩) ∧ Below w.heap.size w w' := by
  have HJ := Lib.hid (Tryd.strings_Join b 0 xs.length xs ⟨#[32]⟩ w hc hb hn (Nat.le_refl _) (by rw [show (⟨#[32]⟩ : ByteArray).data.toList = [32] from rfl, hL]; exact hl))
  rw [show (⟨#[32]⟩ : ByteArray).data.toList = [32] from rfl, hL] at HJ
  obtain ⟨n, hnn⟩ : ∃ n, n = xs.length := ⟨_, rfl⟩
  rw [← hnn] at HJ ⊢
  clear hnn hc hL hl hn
  go_enter Tryd.func93, Tryd.ntmps93
  go_wp2_with fail
  refine HJ.out.mono ?_
  rintro e w1 ⟨rfl, hb1⟩
  go_wp2
  go_ret
  exact ⟨rfl, hb1⟩
theorem written_1 (a : Int) (t : ByteArray) (hp : plB a = true) (ht : t.size ≤ 80) (w : World) :
    Calls Tryd.prog 92 #[.agg #[.int .i64 a, .string t]] w fun e w' => e = .returned (.string (frS 1 a t)) ∧ Below w.heap.size w w' := by
  have HL := Lib.hid (show Lib.join (([⟨putL.toArray⟩, ⟨(dec a).toArray⟩, t] : List ByteArray).map (·.data.toList)) [32] = frL 1 a t by
    simp [Lib.join_cons, Lib.joinTail, frL])
  have hl : (frL 1 a t).length ≤ 140737488355328 := by
    have hd := dec_len hp
    have e1 : t.data.toList.length = t.size := rfl
    simp [frL, putL, e1]
    try omega
  have HN := Lib.hid hl
  have HD := Lib.hid (digits_any a hp)
  clear hl hp ht
  go_enter Tryd.func92, Tryd.ntmps92
  go_wp2_with fail
  refine wp_region_held_drew (S := (fun w' => w'.cell? ⟨w.heap.size, 0, none⟩ = some (.int .i64 a) ∧ w'.cell? ⟨w.heap.size, 1, none⟩ = some (.string t))) (by kernel_rfl) ⟨by simp, by simp⟩ (fun hHeld => ?_)
  refine wpAnyH_take (i := 0) rfl (by kernel_rfl) (by kernel_rfl) (by kernel_rfl) (fun _ _ _ h => h) (Or.inl ⟨by kernel_rfl, by rintro w ⟨q0, q1⟩; go_simp; try with_reducible rfl⟩) (by assumption) ?_
  refine wpAnyH_take (i := 1) rfl (by kernel_rfl) (by kernel_rfl) (by kernel_rfl) (fun _ _ _ h => h) (Or.inl ⟨by kernel_rfl, by rintro w ⟨q0, q1⟩; go_simp; try with_reducible rfl⟩) (by assumption) ?_
  refine wpAnyH_take (i := 2) rfl (by kernel_rfl) (by kernel_rfl) (by kernel_rfl) (fun _ _ _ h => h) (Or.inl ⟨by kernel_rfl, by rintro w ⟨q0, q1⟩; go_simp; try with_reducible rfl⟩) (by assumption) ?_
  refine wpAnyH_take (i := 4) rfl (by kernel_rfl) (by kernel_rfl) (by kernel_rfl) (fun _ _ _ h => h) (Or.inl ⟨by kernel_rfl, by rintro w ⟨q0, q1⟩; go_simp; try with_reducible rfl⟩) (by assumption) ?_
  refine wpAnyH_take (i := 5) rfl (by kernel_rfl) (by kernel_rfl) (by kernel_rfl) (fun _ _ _ h => h) (Or.inl ⟨by kernel_rfl, by rintro w ⟨q0, q1⟩; go_simp; try with_reducible rfl⟩) (by assumption) ?_
  refine wpAnyH_take (i := 6) rfl (by kernel_rfl) (by kernel_rfl) (by kernel_rfl) (fun _ _ _ h => h) (Or.inl ⟨by kernel_rfl, by rintro w ⟨q0, q1⟩; go_simp; try with_reducible rfl⟩) (by assumption) ?_
  refine wpAnyH_ready (rs := [3]) (by kernel_rfl) (by simp) (AllReadyH.cons rfl (fun K hK => ?_) AllReadyH.nil)
  go_simp
  refine (HD.out _).mono ?_
  rintro e w1 ⟨rfl, rfl⟩
  refine hK.out _ _ ⟨by simp, by simp⟩ (fun hHeld => ?_)
  clear hK K
  refine wpAnyH_ready (rs := [7]) (by kernel_rfl) (by simp) (AllReadyH.cons rfl (fun K hK => ?_) AllReadyH.nil)
  go_simp
  refine hK.out _ _ ⟨by simp, by simp⟩ (fun hHeld => ?_)
  clear hK K
  refine wpAnyH_ready (rs := [8]) (by kernel_rfl) (by simp) (AllReadyH.cons rfl (fun K hK => ?_) AllReadyH.nil)
  go_simp
  refine (spaced_any _ [⟨putL.toArray⟩, ⟨(dec a).toArray⟩, t] _ HL.out HN.out (by simp) _ (fun j x hj => ?_) (by simp)).mono ?_
  · match j, hj with
    | 0, hj => simp at hj; subst hj; simp [putL]
    | 1, hj => simp at hj; subst hj; simp
    | 2, hj => simp at hj; subst hj; simp
  rintro e w2 ⟨rfl, hb⟩
  obtain ⟨k2, _⟩ := keepC hb (g := w.heap.size) (by simp; try omega)
  have HB := Lib.hid (show Below w.heap.size w w2 from bthen (by repeat (first | exact Below.refl _ w | refine Below.drew ?_ | refine Below.alloc ?_ (by simp; try omega) _)) hb (by simp; try omega))
  clear hb
  refine hK.out _ _ ⟨by simp [k2], by simp [k2]⟩ (fun hHeld => ?_)
  clear hK K
  refine wpAnyH_take (i := 9) rfl (by kernel_rfl) (by kernel_rfl) (by kernel_rfl) (fun _ _ _ h => h) (Or.inl ⟨by kernel_rfl, by rintro w ⟨q0, q1⟩; go_simp; try with_reducible rfl⟩) (by assumption) ?_
  refine wpAnyH_done (by kernel_rfl) ?_ _
  go_simp
  go_wp2
  go_ret
  exact ⟨rfl, HB.out⟩
theorem written_2 (a : Int) (t : ByteArray) (hp : plB a = true) (ht : t.size ≤ 80) (w : World) :
    Calls Tryd.prog 104 #[.agg #[.int .i64 a, .string t]] w fun e w' => e = .returned (.string (frS 2 a t)) ∧ Below w.heap.size w w' := by
  have HL := Lib.hid (show Lib.join (([⟨dropL.toArray⟩, ⟨(dec a).toArray⟩, t] : List ByteArray).map (·.data.toList)) [32] = frL 2 a t by
    simp [Lib.join_cons, Lib.joinTail, frL])
  have hl : (frL 2 a t).length ≤ 140737488355328 := by
    have hd := dec_len hp
    have e1 : t.data.toList.length = t.size := rfl
    simp [frL, dropL, e1]
    try omega
  have HN := Lib.hid hl
  have HD := Lib.hid (digits_any a hp)
  clear hl hp ht
  go_enter Tryd.func104, Tryd.ntmps104
  go_wp2_with fail
  refine wp_region_held_drew (S := (fun w' => w'.cell? ⟨w.heap.size, 0, none⟩ = some (.int .i64 a) ∧ w'.cell? ⟨w.heap.size, 1, none⟩ = some (.string t))) (by kernel_rfl) ⟨by simp, by simp⟩ (fun hHeld => ?_)
  refine wpAnyH_take (i := 0) rfl (by kernel_rfl) (by kernel_rfl) (by kernel_rfl) (fun _ _ _ h => h) (Or.inl ⟨by kernel_rfl, by rintro w ⟨q0, q1⟩; go_simp; try with_reducible rfl⟩) (by assumption) ?_
  refine wpAnyH_take (i := 1) rfl (by kernel_rfl) (by kernel_rfl) (by kernel_rfl) (fun _ _ _ h => h) (Or.inl ⟨by kernel_rfl, by rintro w ⟨q0, q1⟩; go_simp; try with_reducible rfl⟩) (by assumption) ?_
  refine wpAnyH_take (i := 2) rfl (by kernel_rfl) (by kernel_rfl) (by kernel_rfl) (fun _ _ _ h => h) (Or.inl ⟨by kernel_rfl, by rintro w ⟨q0, q1⟩; go_simp; try with_reducible rfl⟩) (by assumption) ?_
  refine wpAnyH_take (i := 4) rfl (by kernel_rfl) (by kernel_rfl) (by kernel_rfl) (fun _ _ _ h => h) (Or.inl ⟨by kernel_rfl, by rintro w ⟨q0, q1⟩; go_simp; try with_reducible rfl⟩) (by assumption) ?_
  refine wpAnyH_take (i := 5) rfl (by kernel_rfl) (by kernel_rfl) (by kernel_rfl) (fun _ _ _ h => h) (Or.inl ⟨by kernel_rfl, by rintro w ⟨q0, q1⟩; go_simp; try with_reducible rfl⟩) (by assumption) ?_
  refine wpAnyH_take (i := 6) rfl (by kernel_rfl) (by kernel_rfl) (by kernel_rfl) (fun _ _ _ h => h) (Or.inl ⟨by kernel_rfl, by rintro w ⟨q0, q1⟩; go_simp; try with_reducible rfl⟩) (by assumption) ?_
  refine wpAnyH_ready (rs := [3]) (by kernel_rfl) (by simp) (AllReadyH.cons rfl (fun K hK => ?_) AllReadyH.nil)
  go_simp
  refine (HD.out _).mono ?_
  rintro e w1 ⟨rfl, rfl⟩
  refine hK.out _ _ ⟨by simp, by simp⟩ (fun hHeld => ?_)
  clear hK K
  refine wpAnyH_ready (rs := [7]) (by kernel_rfl) (by simp) (AllReadyH.cons rfl (fun K hK => ?_) AllReadyH.nil)
  go_simp
  refine hK.out _ _ ⟨by simp, by simp⟩ (fun hHeld => ?_)
  clear hK K
  refine wpAnyH_ready (rs := [8]) (by kernel_rfl) (by simp) (AllReadyH.cons rfl (fun K hK => ?_) AllReadyH.nil)
  go_simp
  refine (spaced_any _ [⟨dropL.toArray⟩, ⟨(dec a).toArray⟩, t] _ HL.out HN.out (by simp) _ (fun j x hj => ?_) (by simp)).mono ?_
  · match j, hj with
    | 0, hj => simp at hj; subst hj; simp [dropL]
    | 1, hj => simp at hj; subst hj; simp
    | 2, hj => simp at hj; subst hj; simp
  rintro e w2 ⟨rfl, hb⟩
  obtain ⟨k2, _⟩ := keepC hb (g := w.heap.size) (by simp; try omega)
  have HB := Lib.hid (show Below w.heap.size w w2 from bthen (by repeat (first | exact Below.refl _ w | refine Below.drew ?_ | refine Below.alloc ?_ (by simp; try omega) _)) hb (by simp; try omega))
  clear hb
  refine hK.out _ _ ⟨by simp [k2], by simp [k2]⟩ (fun hHeld => ?_)
  clear hK K
  refine wpAnyH_take (i := 9) rfl (by kernel_rfl) (by kernel_rfl) (by kernel_rfl) (fun _ _ _ h => h) (Or.inl ⟨by kernel_rfl, by rintro w ⟨q0, q1⟩; go_simp; try with_reducible rfl⟩) (by assumption) ?_
  refine wpAnyH_done (by kernel_rfl) ?_ _
  go_simp
  go_wp2
  go_ret
  exact ⟨rfl, HB.out⟩
theorem written_3 (a : Int) (t : ByteArray) (hp : plB a = true) (w : World) :
    Calls Tryd.prog 106 #[.agg #[.int .i64 a]] w fun e w' => e = .returned (.string (frS 3 a t)) ∧ Below w.heap.size w w' := by
  have HL := Lib.hid (show Lib.join (([⟨moveL.toArray⟩, ⟨(dec a).toArray⟩] : List ByteArray).map (·.data.toList)) [32] = frL 3 a t by
    simp [Lib.join_cons, Lib.joinTail, frL])
  have hl : (frL 3 a t).length ≤ 140737488355328 := by
    have hd := dec_len hp
    skip
    simp [frL, moveL]
    try omega
  have HN := Lib.hid hl
  have HD := Lib.hid (digits_any a hp)
  clear hl hp
  go_enter Tryd.func106, Tryd.ntmps106
  go_wp2_with (first | (go_at_call 94; refine (HD.out _).mono ?_; rintro e w1 ⟨rfl, rfl⟩) | fail)
  refine (spaced_any _ [⟨moveL.toArray⟩, ⟨(dec a).toArray⟩] _ HL.out HN.out (by simp) _ (fun j x hj => ?_) (by simp)).mono ?_
  · match j, hj with
    | 0, hj => simp at hj; subst hj; simp [moveL]
    | 1, hj => simp at hj; subst hj; simp
  rintro e w2 ⟨rfl, hb⟩
  obtain ⟨k2, _⟩ := keepC hb (g := w.heap.size) (by simp; try omega)
  have HB := Lib.hid (show Below w.heap.size w w2 from bthen (by repeat (first | exact Below.refl _ w | refine Below.drew ?_ | refine Below.alloc ?_ (by simp; try omega) _)) hb (by simp; try omega))
  clear hb
  go_wp2
  go_ret
  exact ⟨rfl, HB.out⟩
theorem written_4 (a : Int) (t : ByteArray) (hp : plB a = true) (ht : t.size ≤ 80) (w : World) :
    Calls Tryd.prog 108 #[.agg #[.int .i64 a, .string t]] w fun e w' => e = .returned (.string (frS 4 a t)) ∧ Below w.heap.size w w' := by
  have HL := Lib.hid (show Lib.join (([⟨allL.toArray⟩, ⟨(dec a).toArray⟩, t] : List ByteArray).map (·.data.toList)) [32] = frL 4 a t by
    simp [Lib.join_cons, Lib.joinTail, frL])
  have hl : (frL 4 a t).length ≤ 140737488355328 := by
    have hd := dec_len hp
    have e1 : t.data.toList.length = t.size := rfl
    simp [frL, allL, e1]
    try omega
  have HN := Lib.hid hl
  have HD := Lib.hid (digits_any a hp)
  clear hl hp ht
  go_enter Tryd.func108, Tryd.ntmps108
  go_wp2_with fail
  refine wp_region_held_drew (S := (fun w' => w'.cell? ⟨w.heap.size, 0, none⟩ = some (.int .i64 a) ∧ w'.cell? ⟨w.heap.size, 1, none⟩ = some (.string t))) (by kernel_rfl) ⟨by simp, by simp⟩ (fun hHeld => ?_)
  refine wpAnyH_take (i := 0) rfl (by kernel_rfl) (by kernel_rfl) (by kernel_rfl) (fun _ _ _ h => h) (Or.inl ⟨by kernel_rfl, by rintro w ⟨q0, q1⟩; go_simp; try with_reducible rfl⟩) (by assumption) ?_
  refine wpAnyH_take (i := 1) rfl (by kernel_rfl) (by kernel_rfl) (by kernel_rfl) (fun _ _ _ h => h) (Or.inl ⟨by kernel_rfl, by rintro w ⟨q0, q1⟩; go_simp; try with_reducible rfl⟩) (by assumption) ?_
  refine wpAnyH_take (i := 3) rfl (by kernel_rfl) (by kernel_rfl) (by kernel_rfl) (fun _ _ _ h => h) (Or.inl ⟨by kernel_rfl, by rintro w ⟨q0, q1⟩; go_simp; try with_reducible rfl⟩) (by assumption) ?_
  refine wpAnyH_take (i := 4) rfl (by kernel_rfl) (by kernel_rfl) (by kernel_rfl) (fun _ _ _ h => h) (Or.inl ⟨by kernel_rfl, by rintro w ⟨q0, q1⟩; go_simp; try with_reducible rfl⟩) (by assumption) ?_
  refine wpAnyH_ready (rs := [2]) (by kernel_rfl) (by simp) (AllReadyH.cons rfl (fun K hK => ?_) AllReadyH.nil)
  go_simp
  refine (HD.out _).mono ?_
  rintro e w1 ⟨rfl, rfl⟩
  refine hK.out _ _ ⟨by simp, by simp⟩ (fun hHeld => ?_)
  clear hK K
  refine wpAnyH_ready (rs := [5]) (by kernel_rfl) (by simp) (AllReadyH.cons rfl (fun K hK => ?_) AllReadyH.nil)
  go_simp
  refine hK.out _ _ ⟨by simp, by simp⟩ (fun hHeld => ?_)
  clear hK K
  refine wpAnyH_ready (rs := [6]) (by kernel_rfl) (by simp) (AllReadyH.cons rfl (fun K hK => ?_) AllReadyH.nil)
  go_simp
  refine (spaced_any _ [⟨allL.toArray⟩, ⟨(dec a).toArray⟩, t] _ HL.out HN.out (by simp) _ (fun j x hj => ?_) (by simp)).mono ?_
  · match j, hj with
    | 0, hj => simp at hj; subst hj; simp [allL]
    | 1, hj => simp at hj; subst hj; simp
    | 2, hj => simp at hj; subst hj; simp
  rintro e w2 ⟨rfl, hb⟩
  obtain ⟨k2, _⟩ := keepC hb (g := w.heap.size) (by simp; try omega)
  have HB := Lib.hid (show Below w.heap.size w w2 from bthen (by repeat (first | exact Below.refl _ w | refine Below.drew ?_ | refine Below.alloc ?_ (by simp; try omega) _)) hb (by simp; try omega))
  clear hb
  refine hK.out _ _ ⟨by simp [k2], by simp [k2]⟩ (fun hHeld => ?_)
  clear hK K
  refine wpAnyH_take (i := 7) rfl (by kernel_rfl) (by kernel_rfl) (by kernel_rfl) (fun _ _ _ h => h) (Or.inl ⟨by kernel_rfl, by rintro w ⟨q0, q1⟩; go_simp; try with_reducible rfl⟩) (by assumption) ?_
  refine wpAnyH_done (by kernel_rfl) ?_ _
  go_simp
  go_wp2
  go_ret
  exact ⟨rfl, HB.out⟩
theorem written_5 (a : Int) (t : ByteArray) (ht : t.size ≤ 80) (w : World) :
    Calls Tryd.prog 110 #[.agg #[.string t]] w fun e w' => e = .returned (.string (frS 5 a t)) ∧ Below w.heap.size w w' := by
  have HL := Lib.hid (show Lib.join (([⟨sayL.toArray⟩, t] : List ByteArray).map (·.data.toList)) [32] = frL 5 a t by
    simp [Lib.join_cons, Lib.joinTail, frL])
  have hl : (frL 5 a t).length ≤ 140737488355328 := by
    skip
    have e1 : t.data.toList.length = t.size := rfl
    simp [frL, sayL, e1]
    try omega
  have HN := Lib.hid hl
  clear hl ht
  go_enter Tryd.func110, Tryd.ntmps110
  go_wp2_with (first | fail | fail)
  refine (spaced_any _ [⟨sayL.toArray⟩, t] _ HL.out HN.out (by simp) _ (fun j x hj => ?_) (by simp)).mono ?_
  · match j, hj with
    | 0, hj => simp at hj; subst hj; simp [sayL]
    | 1, hj => simp at hj; subst hj; simp
  rintro e w2 ⟨rfl, hb⟩
  obtain ⟨k2, _⟩ := keepC hb (g := w.heap.size) (by simp; try omega)
  have HB := Lib.hid (show Below w.heap.size w w2 from bthen (by repeat (first | exact Below.refl _ w | refine Below.drew ?_ | refine Below.alloc ?_ (by simp; try omega) _)) hb (by simp; try omega))
  clear hb
  go_wp2
  go_ret
  exact ⟨rfl, HB.out⟩
theorem written_6 (a : Int) (t : ByteArray) (w : World) :
    Calls Tryd.prog 112 #[.agg #[]] w fun e w' => e = .returned (.string (frS 6 a t)) ∧ Below w.heap.size w w' := by
  go_enter Tryd.func112, Tryd.ntmps112
  go_wp2
  go_ret
  exact ⟨rfl, (Below.refl _ _).alloc (Nat.le_refl _) _⟩
theorem written_7 (a : Int) (t : ByteArray) (ht : t.size ≤ 80) (w : World) :
    Calls Tryd.prog 114 #[.agg #[.string t]] w fun e w' => e = .returned (.string (frS 7 a t)) ∧ Below w.heap.size w w' := by
  have HL := Lib.hid (show Lib.join (([⟨doneL.toArray⟩, t] : List ByteArray).map (·.data.toList)) [32] = frL 7 a t by
    simp [Lib.join_cons, Lib.joinTail, frL])
  have hl : (frL 7 a t).length ≤ 140737488355328 := by
    skip
    have e1 : t.data.toList.length = t.size := rfl
    simp [frL, doneL, e1]
    try omega
  have HN := Lib.hid hl
  clear hl ht
  go_enter Tryd.func114, Tryd.ntmps114
  go_wp2_with (first | fail | fail)
  refine (spaced_any _ [⟨doneL.toArray⟩, t] _ HL.out HN.out (by simp) _ (fun j x hj => ?_) (by simp)).mono ?_
  · match j, hj with
    | 0, hj => simp at hj; subst hj; simp [doneL]
    | 1, hj => simp at hj; subst hj; simp
  rintro e w2 ⟨rfl, hb⟩
  obtain ⟨k2, _⟩ := keepC hb (g := w.heap.size) (by simp; try omega)
  have HB := Lib.hid (show Below w.heap.size w w2 from bthen (by repeat (first | exact Below.refl _ w | refine Below.drew ?_ | refine Below.alloc ?_ (by simp; try omega) _)) hb (by simp; try omega))
  clear hb
  go_wp2
  go_ret
  exact ⟨rfl, HB.out⟩
theorem frB_facts {k a : Int} {t : ByteArray} (h : frB k a t = true) : 1 ≤ k ∧ k ≤ 7 ∧ (k ≤ 4 → plB a = true) ∧ (4 < k → a = 0) ∧ t.size ≤ 80 ∧ Pr t t.size := by
  have T : ∀ {t : ByteArray}, textB t = true → t.size ≤ 80 ∧ Pr t t.size := fun {t} h => by have := textB_ok h; exact ⟨by have := this.1; omega, this.2⟩
  have Z : ∀ {t : ByteArray}, t.size = 0 → t.size ≤ 80 ∧ Pr t t.size := fun {t} h => ⟨by omega, fun i hi => by omega⟩
  unfold frB at h
  split at h
  · simp only [Bool.and_eq_true, goodB] at h; exact ⟨by omega, by omega, fun _ => h.1, fun h => by omega, T h.2.1⟩
  split at h
  · simp only [Bool.and_eq_true, goodB] at h; exact ⟨by omega, by omega, fun _ => h.1, fun h => by omega, T h.2.1⟩
  split at h
  · simp only [Bool.and_eq_true, decide_eq_true_eq] at h; exact ⟨by omega, by omega, fun _ => h.1, fun h => by omega, Z h.2⟩
  split at h
  · simp only [Bool.and_eq_true] at h; exact ⟨by omega, by omega, fun _ => h.1, fun h => by omega, T h.2⟩
  split at h
  · simp only [Bool.and_eq_true, decide_eq_true_eq, sayB] at h; exact ⟨by omega, by omega, fun h => by omega, fun _ => h.1, by omega, prB_ok h.2.2⟩
  split at h
  · simp only [Bool.and_eq_true, decide_eq_true_eq] at h; exact ⟨by omega, by omega, fun h => by omega, fun _ => h.1, Z h.2⟩
  split at h
  · simp only [Bool.and_eq_true, decide_eq_true_eq] at h; exact ⟨by omega, by omega, fun h => by omega, fun _ => h.1, T h.2⟩
  · cases h
noncomputable def frTx (k a : Int) (t : ByteArray) : ByteArray := if frB k a t = true then frS k a t else ⟨#[]⟩
theorem frTx_t {k a : Int} {t : ByteArray} (h : frB k a t = true) : frTx k a t = frS k a t := if_pos h
theorem frTx_f {k a : Int} {t : ByteArray} (h : frB k a t = false) : frTx k a t = ⟨#[]⟩ := if_neg (by rw [h]; exact Bool.noConfusion)
end Go.Proofs.YtlhfgpcanfpnfaaDoor.frame
