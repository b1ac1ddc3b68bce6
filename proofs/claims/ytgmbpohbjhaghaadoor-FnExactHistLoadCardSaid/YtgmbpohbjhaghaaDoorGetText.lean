/-
  GetText: the program's answer is the model's, field by field. For every text and place that the row reads, where errors.errorType holds what the program's text lays.
-/
import Derived.Test.YtgmbpohbjhaghaaDoorGetNum
import Derived.Test.YtgmbpohbjhaghaaDoorShelf
import Derived.RegionTactic
import Derived.BigRegion
namespace Go.Proofs.YtgmbpohbjhaghaaDoor.read
open Go.ChangeShapes Go.WideShapes Go.ChangeAt Go.RowKit
open Go.Proofs.YtgmbpohbjhaghaaDoor.as_

theorem rd_in (s : ByteArray) (p : Nat) : ∀ (f k x : Nat), (rd s p f k x).2.2 = 0 → 0 ≤ (rd s p f k x).2.1 ∧ (rd s p f k x).2.1 ≤ s.size
  | 0, k, x, h => by simp [rd] at h
  | f + 1, k, x, h => by
    rw [rd] at h ⊢
    split
    · rename_i h1; rw [if_pos h1] at h; simp at h
    · rename_i h1
      rw [if_neg h1] at h
      split
      · rename_i h2; rw [if_pos h2] at h; simp at h
      · rename_i h2
        rw [if_neg h2] at h
        split
        · rename_i h3
          rw [if_pos h3] at h
          split
          · rename_i h4; rw [if_pos h4] at h; simp at h
          · exact ⟨by simp; omega, by simp; omega⟩
        · rename_i h3
          rw [if_neg h3] at h
          exact rd_in s p f (k + 1) _ h
theorem getV_in (s : ByteArray) (p : Int) (h : (getV s p).2.2 = 0) : s.size ≤ 8000 ∧ 0 ≤ (getV s p).2.1 ∧ (getV s p).2.1 ≤ s.size := by
  unfold getV at h ⊢
  split
  · rename_i h1; rw [if_pos h1] at h; simp at h
  · rename_i h1
    rw [if_neg h1] at h
    split
    · rename_i h2; rw [if_pos h2] at h; simp at h
    · rename_i h2
      rw [if_neg h2] at h
      exact ⟨by omega, rd_in s p.toNat 10 0 0 h⟩
/-- text, place behind it, code -/
def textV (s : ByteArray) (p : Int) : ByteArray × Int × Int :=
  if (getV s p).2.2 ≠ 0 then (⟨#[]⟩, 0, (getV s p).2.2)
  else if (getV s p).1 < 0 ∨ 8000 < (getV s p).1 then (⟨#[]⟩, 0, 3)
  else if (s.size : Int) < (getV s p).2.1 + (getV s p).1 then (⟨#[]⟩, 0, 4)
  else (s.extract (getV s p).2.1.toNat ((getV s p).2.1.toNat + (getV s p).1.toNat), (getV s p).2.1 + (getV s p).1, 0)
def toutV (x : ByteArray × Int × Int) : Value := .agg #[.string x.1, .int .i64 x.2.1, .int .i64 x.2.2]

set_option maxHeartbeats 1000000 in
theorem specText_code (s : ByteArray) (p : Int) (hs : s.size ≤ maxLen) (hp : p ≤ 9223372036854775807) (z : Int) (hz : (getV s p).2.2 = z) (hz0 : z ≠ 0) (w : World) :
    Calls Tryd.prog 9 #[.string s, .int .i64 p] w fun e w' => e = .returned (toutV (textV s p)) ∧ Below w.heap.size w w' := by
  have HT := Lib.hid (show textV s p = (⟨#[]⟩, 0, z) by unfold textV; rw [hz, if_pos hz0])
  obtain ⟨x, y, hV⟩ : ∃ x y, getV s p = (x, y, z) := ⟨(getV s p).1, (getV s p).2.1, by rw [← hz]⟩
  have HN := Lib.hid (show nout (getV s p) = .agg #[.int .i64 x, .int .i64 y, .int .i64 z] by rw [hV]; rfl)
  have hzb : (z != 0) = true := by simp [hz0]
  clear hz hz0 hV
  go_enter Tryd.func9, Tryd.ntmps9
  go_wp2_with fail
  refine (specGet_any _ _ hs hp _).mono ?_
  rintro e w1 ⟨rfl, hb1⟩
  rw [HN.out]
  obtain ⟨k1, k2⟩ := keepC hb1 (g := w.heap.size) (by simp)
  have hs2 : w.heap.size < w1.heap.size := by have := hb1.size; simp at this; omega
  have hs2' : w.heap.size ≠ w1.heap.size := by omega
  have HB := Lib.hid hb1
  clear hb1
  go_wp2
  exact bodyPost_ret (v := .agg #[.string ⟨#[]⟩, .int .i64 0, .int .i64 z]) (by simp [results, Tryd.results9, go_sem, k1, hs2]) rfl
        ⟨by rw [HT.out]; rfl, by have hb := ((Below.refl w.heap.size w).alloc (Nat.le_refl _) _).trans (HB.out.mono (by simp)); repeat (first | exact hb | refine Below.setCell (B := w.heap.size) (p := ⟨w.heap.size, _, none⟩) ?_ (Nat.le_refl _) _ | refine Below.alloc (B := w.heap.size) ?_ (by simp [World.setCell] <;> omega) _ | refine Below.drew (B := w.heap.size) ?_)⟩
set_option maxHeartbeats 1000000 in
theorem specText_ok (s : ByteArray) (p : Int) (hs : s.size ≤ maxLen) (hp : p ≤ 9223372036854775807) (hz : (getV s p).2.2 = 0) (w : World) :
    Calls Tryd.prog 9 #[.string s, .int .i64 p] w fun e w' => e = .returned (toutV (textV s p)) ∧ Below w.heap.size w w' := by
  obtain ⟨h8, hy0, hy1⟩ := getV_in s p hz
  obtain ⟨x, y, hV⟩ : ∃ x y, getV s p = (x, y, 0) := ⟨(getV s p).1, (getV s p).2.1, by rw [← hz]⟩
  have HN := Lib.hid (show nout (getV s p) = .agg #[.int .i64 x, .int .i64 y, .int .i64 0] by rw [hV]; rfl)
  rw [hV] at hy0 hy1
  simp only at hy0 hy1
  have hs8 : (s.size : Int) ≤ 8000 := by omega
  obtain ⟨Y, rfl⟩ := Int.eq_ofNat_of_zero_le hy0
  by_cases hx : x < 0 ∨ 8000 < x
  · have HT := Lib.hid (show textV s p = (⟨#[]⟩, 0, 3) by unfold textV; rw [hV, if_neg (by simp), if_pos hx])
    clear hV hz h8
    rcases hx with hx | hx
    all_goals
      go_enter Tryd.func9, Tryd.ntmps9
      go_wp2_with fail
      refine (specGet_any _ _ hs hp _).mono ?_
      rintro e w1 ⟨rfl, hb1⟩
      rw [HN.out]
      obtain ⟨k1, k2⟩ := keepC hb1 (g := w.heap.size) (by simp)
      have hs2 : w.heap.size < w1.heap.size := by have := hb1.size; simp at this; omega
      have hs2' : w.heap.size ≠ w1.heap.size := by omega
      have HB := Lib.hid hb1
      clear hb1
      go_wp2
      exact bodyPost_ret (v := .agg #[.string ⟨#[]⟩, .int .i64 0, .int .i64 3]) (by simp [results, Tryd.results9, go_sem, k1, hs2]) rfl
        ⟨by rw [HT.out]; rfl, by have hb := ((Below.refl w.heap.size w).alloc (Nat.le_refl _) _).trans (HB.out.mono (by simp)); repeat (first | exact hb | refine Below.setCell (B := w.heap.size) (p := ⟨w.heap.size, _, none⟩) ?_ (Nat.le_refl _) _ | refine Below.alloc (B := w.heap.size) ?_ (by simp [World.setCell] <;> omega) _ | refine Below.drew (B := w.heap.size) ?_)⟩
  · by_cases hyx : (s.size : Int) < Y + x
    · have HT := Lib.hid (show textV s p = (⟨#[]⟩, 0, 4) by unfold textV; rw [hV, if_neg (by simp), if_neg hx]; simp only; rw [if_pos hyx])
      have hx0 : 0 ≤ x := by omega
      have hx8 : x ≤ 8000 := by omega
      have hyx' : (s.size : Int) - x < Y := by omega
      clear hV hz h8 hx hyx
      go_enter Tryd.func9, Tryd.ntmps9
      go_wp2_with fail
      refine (specGet_any _ _ hs hp _).mono ?_
      rintro e w1 ⟨rfl, hb1⟩
      rw [HN.out]
      obtain ⟨k1, k2⟩ := keepC hb1 (g := w.heap.size) (by simp)
      have hs2 : w.heap.size < w1.heap.size := by have := hb1.size; simp at this; omega
      have hs2' : w.heap.size ≠ w1.heap.size := by omega
      have HB := Lib.hid hb1
      clear hb1
      go_wp2
      exact bodyPost_ret (v := .agg #[.string ⟨#[]⟩, .int .i64 0, .int .i64 4]) (by simp [results, Tryd.results9, go_sem, k1, hs2]) rfl
        ⟨by rw [HT.out]; rfl, by have hb := ((Below.refl w.heap.size w).alloc (Nat.le_refl _) _).trans (HB.out.mono (by simp)); repeat (first | exact hb | refine Below.setCell (B := w.heap.size) (p := ⟨w.heap.size, _, none⟩) ?_ (Nat.le_refl _) _ | refine Below.alloc (B := w.heap.size) ?_ (by simp [World.setCell] <;> omega) _ | refine Below.drew (B := w.heap.size) ?_)⟩
    · obtain ⟨X, rfl⟩ := Int.eq_ofNat_of_zero_le (show 0 ≤ x by omega)
      have HT := Lib.hid (show textV s p = (s.extract Y (Y + X), (Y : Int) + X, 0) by unfold textV; rw [hV, if_neg (by simp), if_neg hx]; simp only; rw [if_neg hyx]; simp)
      have hx8 : (X : Int) ≤ 8000 := by omega
      have hyx' : (Y : Int) ≤ (s.size : Int) - X := by omega
      have hw1 : IntKind.i64.wrap ((Y : Int) + X) = (Y : Int) + X := IntWalk.i64_in _ (by omega)
      have hb1 : (Y : Int) ≤ (Y : Int) + X := by omega
      have hb2 : (Y : Int) + X ≤ s.size := by omega
      have hb3 : ((Y : Int) + X).toNat = Y + X := by omega
      have hb4 : (0 : Int) ≤ (Y : Int) + X := by omega
      clear hx hyx hV hz h8
      go_enter Tryd.func9, Tryd.ntmps9
      go_wp2_with fail
      refine (specGet_any _ _ hs hp _).mono ?_
      rintro e w1 ⟨rfl, hb1⟩
      rw [HN.out]
      obtain ⟨k1, k2⟩ := keepC hb1 (g := w.heap.size) (by simp)
      have hs2 : w.heap.size < w1.heap.size := by have := hb1.size; simp at this; omega
      have hs2' : w.heap.size ≠ w1.heap.size := by omega
      have HB := Lib.hid hb1
      clear hb1
      go_wp2
      go_region
      go_wp2
      exact bodyPost_ret (v := .agg #[.string (s.extract Y (Y + X)), .int .i64 ((Y : Int) + X), .int .i64 0]) (by simp [results, Tryd.results9, go_sem, k1, hs2]) rfl
        ⟨by rw [HT.out]; rfl, by have hb := ((Below.refl w.heap.size w).alloc (Nat.le_refl _) _).trans (HB.out.mono (by simp)); repeat (first | exact hb | refine Below.setCell (B := w.heap.size) (p := ⟨w.heap.size, _, none⟩) ?_ (Nat.le_refl _) _ | refine Below.alloc (B := w.heap.size) ?_ (by simp [World.setCell] <;> omega) _ | refine Below.drew (B := w.heap.size) ?_)⟩
theorem specText_any (s : ByteArray) (p : Int) (hs : s.size ≤ maxLen) (hp : p ≤ 9223372036854775807) (w : World) :
    Calls Tryd.prog 9 #[.string s, .int .i64 p] w fun e w' => e = .returned (toutV (textV s p)) ∧ Below w.heap.size w w' := by
  by_cases hz : (getV s p).2.2 = 0
  · exact specText_ok s p hs hp hz w
  · exact specText_code s p hs hp _ rfl hz w

theorem clone_any (s : ByteArray) (hs : s.size ≤ 1000000) (w : World) :
    Calls Tryd.prog 25 #[.string s] w fun e w' => e = .returned (.string s) ∧ Below w.heap.size w w' := by
  go_enter Tryd.func25, Tryd.ntmps25
  go_wp2_with fail
  refine (Tryd.stringslite_Clone s _ (by omega)).mono ?_
  rintro e w1 ⟨rfl, hb1⟩
  go_wp2
  go_ret
  exact ⟨rfl, hb1⟩
def rtV (x : ByteArray × Int × Int) : Value := .tuple #[.string x.1, .int .i64 x.2.1, errV x.2.2]
set_option maxHeartbeats 1000000 in
theorem readText_any (s : ByteArray) (p : Int) (hs : s.size ≤ maxLen) (w : World) :
    Calls Tryd.prog 22 #[.string s, .int .i64 p] w fun e w' => e = .returned (rtV (textV s p)) ∧ Below w.heap.size w w' := by
  obtain ⟨x, y, z, hV⟩ : ∃ x y z, getV s p = (x, y, z) := ⟨_, _, _, rfl⟩
  have H1 := Lib.hid (show (getV s p).1 = x by rw [hV])
  have H2 := Lib.hid (show (getV s p).2.1 = y by rw [hV])
  have H3 := Lib.hid (show (getV s p).2.2 = z by rw [hV])
  by_cases hz : z = 0
  · subst hz
    obtain ⟨h8, hy0, hy1⟩ := getV_in s p (by rw [hV])
    rw [hV] at hy0 hy1
    simp only at hy0 hy1
    have hs8 : (s.size : Int) ≤ 8000 := by omega
    obtain ⟨Y, rfl⟩ := Int.eq_ofNat_of_zero_le hy0
    by_cases hx : x < 0 ∨ 8000 < x
    · have HT := Lib.hid (show rtV (textV s p) = .tuple #[.string ⟨#[]⟩, .int .i64 0, wrong 3] by unfold textV; rw [hV, if_neg (by simp), if_pos hx]; rfl)
      clear hV h8
      rcases hx with hx | hx
      all_goals
        go_enter Tryd.func22, Tryd.ntmps22
        go_wp2_with fail
        refine (readNum_any _ _ hs _).mono ?_
        rintro e w1 ⟨rfl, rfl⟩
        rw [H1.out, H2.out, H3.out, show errV 0 = .nilIface from rfl]
        go_wp2
        go_ret3
        exact ⟨by rw [HT.out]; rfl, Below.refl _ _⟩
    · by_cases hyx : (s.size : Int) < Y + x
      · have HT := Lib.hid (show rtV (textV s p) = .tuple #[.string ⟨#[]⟩, .int .i64 0, wrong 4] by unfold textV; rw [hV, if_neg (by simp), if_neg hx]; simp only; rw [if_pos hyx]; rfl)
        have hx0 : 0 ≤ x := by omega
        have hx8 : x ≤ 8000 := by omega
        clear hV h8 hx
        go_enter Tryd.func22, Tryd.ntmps22
        go_wp2_with fail
        refine (readNum_any _ _ hs _).mono ?_
        rintro e w1 ⟨rfl, rfl⟩
        rw [H1.out, H2.out, H3.out, show errV 0 = .nilIface from rfl]
        go_wp2
        go_ret3
        exact ⟨by rw [HT.out]; rfl, Below.refl _ _⟩
      · obtain ⟨X, rfl⟩ := Int.eq_ofNat_of_zero_le (show 0 ≤ x by omega)
        have HT := Lib.hid (show rtV (textV s p) = .tuple #[.string (s.extract Y (Y + X)), .int .i64 ((Y : Int) + X), .nilIface] by unfold textV; rw [hV, if_neg (by simp), if_neg hx]; simp only; rw [if_neg hyx]; simp [rtV, errV])
        have hx8 : (X : Int) ≤ 8000 := by omega
        have hb1 : (Y : Int) ≤ (Y : Int) + X := by omega
        have hb2 : (Y : Int) + X ≤ s.size := by omega
        have hb3 : ((Y : Int) + X).toNat = Y + X := by omega
        have hb4 : (0 : Int) ≤ (Y : Int) + X := by omega
        have hxs : (s.extract Y (Y + X)).size ≤ 1000000 := by rw [ByteArray.size_extract]; omega
        clear hx hyx hV h8
        go_enter Tryd.func22, Tryd.ntmps22
        go_wp2_with fail
        refine (readNum_any _ _ hs _).mono ?_
        rintro e w1 ⟨rfl, rfl⟩
        rw [H1.out, H2.out, H3.out, show errV 0 = .nilIface from rfl]
        go_wp2_with fail
        refine (clone_any _ hxs _).mono ?_
        rintro e w2 ⟨rfl, hb⟩
        go_wp2
        go_ret3
        exact ⟨by rw [HT.out]; rfl, hb⟩
  · have HT := Lib.hid (show rtV (textV s p) = .tuple #[.string ⟨#[]⟩, .int .i64 0, wrong z] by unfold textV; rw [hV, if_pos hz]; simp [rtV, errV, hz])
    have HE := Lib.hid (show errV z = wrong z from if_neg hz)
    clear hV hz
    go_enter Tryd.func22, Tryd.ntmps22
    go_wp2_with fail
    refine (readNum_any _ _ hs _).mono ?_
    rintro e w1 ⟨rfl, rfl⟩
    rw [H1.out, H2.out, H3.out, HE.out]
    unfold wrong
    go_wp2
    go_ret3
    exact ⟨by rw [HT.out]; rfl, Below.refl _ _⟩
set_option maxHeartbeats 1000000 in
theorem implText_any (s : ByteArray) (p : Int) (hs : s.size ≤ maxLen) (w : World) (hg : w.cell? ⟨0, 0, none⟩ = some handleE) :
    Calls Tryd.prog 12 #[.string s, .int .i64 p] w fun e w' => e = .returned (toutV (textV s p)) ∧ Below w.heap.size w w' := by
  have hlt := blk_lt hg
  have HG := Lib.hid hg
  obtain ⟨x, y, z, hV⟩ : ∃ x y z, textV s p = (x, y, z) := ⟨_, _, _, rfl⟩
  have HN := Lib.hid (show toutV (textV s p) = .agg #[.string x, .int .i64 y, .int .i64 z] by rw [hV]; rfl)
  have HR := Lib.hid (show rtV (textV s p) = .tuple #[.string x, .int .i64 y, errV z] by rw [hV]; rfl)
  clear hV hg
  go_enter Tryd.func12, Tryd.ntmps12
  go_wp2_with fail
  refine (readText_any s p hs _).mono ?_
  rintro e w1 ⟨rfl, hb1⟩
  rw [HR.out]
  obtain ⟨k1, k2⟩ := keepC hb1 (g := w.heap.size) (by simp)
  have hs1 : w.heap.size < w1.heap.size := by have := hb1.size; simp at this; omega
  have hg1 : w1.cell? ⟨0, 0, none⟩ = some handleE := by
    rw [hb1.cell (p := ⟨0, 0, none⟩) (by simp <;> omega), World.cell?_alloc_lt _ _ ⟨0, 0, none⟩ hlt]; exact HG.out
  have HG1 := Lib.hid hg1
  have HB1 := Lib.hid hb1
  clear hb1 hg1
  go_wp2_with fail
  refine (codeOf_any z _ HG1.out).mono ?_
  rintro e w2 ⟨rfl, hb2⟩
  obtain ⟨q1, q2⟩ := keepC hb2 (g := w.heap.size) hs1
  have HB2 := Lib.hid hb2
  clear hb2
  go_wp2
  exact bodyPost_ret (v := .agg #[.string x, .int .i64 y, .int .i64 z]) (by simp [results, Tryd.results12, go_sem, q1, k1]) rfl
    ⟨by rw [HN.out], ((((((Below.refl _ w).alloc (Nat.le_refl _) _).trans (HB1.out.mono (by simp))).trans (HB2.out.mono (by omega))).setCell (Nat.le_refl _) _).setCell (Nat.le_refl _) _).setCell (Nat.le_refl _) _⟩
end Go.Proofs.YtgmbpohbjhaghaaDoor.read
