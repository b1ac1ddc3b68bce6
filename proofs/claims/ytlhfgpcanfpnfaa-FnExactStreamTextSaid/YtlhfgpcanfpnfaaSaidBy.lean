/-
  What the program makes of a frame. For every frame.
-/
import Derived.Test.YtlhfgpcanfpnfaaFrameOf
namespace Go.Proofs.Ytlhfgpcanfpnfaa.frame
open Go.ChangeShapes Go.WideShapes Go.ChangeAt Go.RowKit
open Go.Proofs.Ytlhfgpcanfpnfaa.line Go.Proofs.Ytlhfgpcanfpnfaa.all_
theorem rightM_1 (a : Int) (t : ByteArray) (w : World) : (method 216 57 (.agg #[.int .i64 a, .string t]) "loop.example/g00731/impl.right").run Try.prog w = .ok (49, .agg #[.int .i64 a, .string t]) w := by kernel_rfl
theorem writtenM_1 (a : Int) (t : ByteArray) (w : World) : (method 216 57 (.agg #[.int .i64 a, .string t]) "loop.example/g00731/impl.written").run Try.prog w = .ok (58, .agg #[.int .i64 a, .string t]) w := by kernel_rfl
theorem rightM_2 (a : Int) (t : ByteArray) (w : World) : (method 216 58 (.agg #[.int .i64 a, .string t]) "loop.example/g00731/impl.right").run Try.prog w = .ok (49, .agg #[.int .i64 a, .string t]) w := by kernel_rfl
theorem writtenM_2 (a : Int) (t : ByteArray) (w : World) : (method 216 58 (.agg #[.int .i64 a, .string t]) "loop.example/g00731/impl.written").run Try.prog w = .ok (78, .agg #[.int .i64 a, .string t]) w := by kernel_rfl
theorem rightM_3 (a : Int) (w : World) : (method 216 60 (.agg #[.int .i64 a]) "loop.example/g00731/impl.right").run Try.prog w = .ok (79, .agg #[.int .i64 a]) w := by kernel_rfl
theorem writtenM_3 (a : Int) (w : World) : (method 216 60 (.agg #[.int .i64 a]) "loop.example/g00731/impl.written").run Try.prog w = .ok (80, .agg #[.int .i64 a]) w := by kernel_rfl
theorem rightM_4 (a : Int) (t : ByteArray) (w : World) : (method 216 61 (.agg #[.int .i64 a, .string t]) "loop.example/g00731/impl.right").run Try.prog w = .ok (81, .agg #[.int .i64 a, .string t]) w := by kernel_rfl
theorem writtenM_4 (a : Int) (t : ByteArray) (w : World) : (method 216 61 (.agg #[.int .i64 a, .string t]) "loop.example/g00731/impl.written").run Try.prog w = .ok (82, .agg #[.int .i64 a, .string t]) w := by kernel_rfl
theorem rightM_5 (t : ByteArray) (w : World) : (method 216 63 (.agg #[.string t]) "loop.example/g00731/impl.right").run Try.prog w = .ok (83, .agg #[.string t]) w := by kernel_rfl
theorem writtenM_5 (t : ByteArray) (w : World) : (method 216 63 (.agg #[.string t]) "loop.example/g00731/impl.written").run Try.prog w = .ok (84, .agg #[.string t]) w := by kernel_rfl
theorem rightM_6 (w : World) : (method 216 65 (.agg #[]) "loop.example/g00731/impl.right").run Try.prog w = .ok (85, .agg #[]) w := by kernel_rfl
theorem writtenM_6 (w : World) : (method 216 65 (.agg #[]) "loop.example/g00731/impl.written").run Try.prog w = .ok (86, .agg #[]) w := by kernel_rfl
theorem rightM_7 (t : ByteArray) (w : World) : (method 216 66 (.agg #[.string t]) "loop.example/g00731/impl.right").run Try.prog w = .ok (87, .agg #[.string t]) w := by kernel_rfl
theorem writtenM_7 (t : ByteArray) (w : World) : (method 216 66 (.agg #[.string t]) "loop.example/g00731/impl.written").run Try.prog w = .ok (88, .agg #[.string t]) w := by kernel_rfl
set_option maxHeartbeats 1000000 in
theorem saidBy_1 (a : Int) (t : ByteArray) (ht : t.size ≤ 281474976710656) (w : World) :
    Calls Try.prog 20 #[fV 1 a t] w fun e w' => e = .returned (.tuple #[sV 1 a t, .bool (frB 1 a t)]) ∧ Below w.heap.size w w' := by
  have hm : t.size ≤ maxLen := by unfold maxLen; omega
  have HR := Lib.hid (changeR_any a t hm)
  have HF := Lib.hid (frameOf_1 a t ht)
  rw [nV_1, sV_1] at HF
  rw [frB_1, sV_1]
  unfold fV at HF ⊢
  clear hm ht
  have hcm := rightM_1 a t
  obtain ⟨R, hR⟩ : ∃ R, R = (plB a && goodB t) := ⟨_, rfl⟩
  rw [← hR] at HR
  simp only [← hR]
  clear hR
  cases R
  · skip
    go_enter Try.func20, Try.ntmps20
    go_wp2_with fail
    refine wp_region_held_drew (S := (fun w' => w'.cell? ⟨w.heap.size, 0, none⟩ = some (.int .i64 1) ∧ w'.cell? ⟨w.heap.size, 1, none⟩ = some (.int .i64 a) ∧ w'.cell? ⟨w.heap.size, 2, none⟩ = some (.string t))) (by kernel_rfl) ⟨by simp, by simp, by simp⟩ (fun hHeld => ?_)
    refine wpAnyH_take (i := 0) rfl (by kernel_rfl) (by kernel_rfl) (by kernel_rfl) (fun _ _ _ h => h) (Or.inl ⟨by kernel_rfl, by rintro w ⟨q0, q1, q2⟩; go_simp; try with_reducible rfl⟩) (by assumption) ?_
    refine wpAnyH_take (i := 1) rfl (by kernel_rfl) (by kernel_rfl) (by kernel_rfl) (fun _ _ _ h => h) (Or.inl ⟨by kernel_rfl, by rintro w ⟨q0, q1, q2⟩; go_simp; try with_reducible rfl⟩) (by assumption) ?_
    refine wpAnyH_ready (rs := [2]) (by kernel_rfl) (by simp) (AllReadyH.cons rfl (fun K hK => ?_) AllReadyH.nil)
    go_simp
    refine (HR.out _).mono ?_
    rintro e w1 ⟨rfl, hb⟩
    obtain ⟨k1, _⟩ := keepC hb (g := w.heap.size) (by simp)
    have HB := Lib.hid (bthen ((Below.refl _ w).alloc (Nat.le_refl _) _).drew hb (by simp))
    have l1 : w.heap.size < w1.heap.size := by have z1 := hb.size; simp at z1; omega
    clear hb
    refine hK.out _ _ ⟨by simp [k1], by simp [k1], by simp [k1]⟩ (fun hHeld => ?_)
    clear hK K
    refine wpAnyH_take (i := 3) rfl (by kernel_rfl) (by kernel_rfl) (by kernel_rfl) (fun _ _ _ h => h) (Or.inl ⟨by kernel_rfl, by rintro w ⟨q0, q1, q2⟩; go_simp; try with_reducible rfl⟩) (by assumption) ?_
    refine wpAnyH_take (i := 4) (v := undef) rfl (by kernel_rfl) (by kernel_rfl) (by kernel_rfl) (fun _ _ _ h => h) (Or.inr ⟨by kernel_rfl, rfl⟩) (by assumption) ?_
    refine wpAnyH_take (i := 6) (v := undef) rfl (by kernel_rfl) (by kernel_rfl) (by kernel_rfl) (fun _ _ _ h => h) (Or.inr ⟨by kernel_rfl, rfl⟩) (by assumption) ?_
    refine wpAnyH_take (i := 5) (v := undef) rfl (by kernel_rfl) (by kernel_rfl) (by kernel_rfl) (fun _ _ _ h => h) (Or.inr ⟨by kernel_rfl, rfl⟩) (by assumption) ?_
    refine wpAnyH_take (i := 7) (v := undef) rfl (by kernel_rfl) (by kernel_rfl) (by kernel_rfl) (fun _ _ _ h => h) (Or.inr ⟨by kernel_rfl, rfl⟩) (by assumption) ?_
    refine wpAnyH_take (i := 8) rfl (by kernel_rfl) (by kernel_rfl) (by kernel_rfl) (fun _ _ _ h => h) (Or.inl ⟨by kernel_rfl, by rintro w ⟨q0, q1, q2⟩; go_simp; try with_reducible rfl⟩) (by assumption) ?_
    refine wpAnyH_take (i := 9) rfl (by kernel_rfl) (by kernel_rfl) (by kernel_rfl) (fun _ _ _ h => h) (Or.inl ⟨by kernel_rfl, by rintro w ⟨q0, q1, q2⟩; go_simp; try with_reducible rfl⟩) (by assumption) ?_
    refine wpAnyH_take (i := 10) rfl (by kernel_rfl) (by kernel_rfl) (by kernel_rfl) (fun _ _ _ h => h) (Or.inl ⟨by kernel_rfl, by rintro w ⟨q0, q1, q2⟩; go_simp; try with_reducible rfl⟩) (by assumption) ?_
    refine wpAnyH_done (by kernel_rfl) ?_ _
    go_simp
    go_wp2
    exact bodyPost_ret (v := .tuple #[.iface 57 (.agg #[.int .i64 a, .string t]), .bool false]) (by simp [results, Try.results20, go_sem]) rfl ⟨rfl, HB.out⟩
  · skip
    go_enter Try.func20, Try.ntmps20
    go_wp2_with fail
    refine wp_region_held_drew (S := (fun w' => w'.cell? ⟨w.heap.size, 0, none⟩ = some (.int .i64 1) ∧ w'.cell? ⟨w.heap.size, 1, none⟩ = some (.int .i64 a) ∧ w'.cell? ⟨w.heap.size, 2, none⟩ = some (.string t))) (by kernel_rfl) ⟨by simp, by simp, by simp⟩ (fun hHeld => ?_)
    refine wpAnyH_take (i := 0) rfl (by kernel_rfl) (by kernel_rfl) (by kernel_rfl) (fun _ _ _ h => h) (Or.inl ⟨by kernel_rfl, by rintro w ⟨q0, q1, q2⟩; go_simp; try with_reducible rfl⟩) (by assumption) ?_
    refine wpAnyH_take (i := 1) rfl (by kernel_rfl) (by kernel_rfl) (by kernel_rfl) (fun _ _ _ h => h) (Or.inl ⟨by kernel_rfl, by rintro w ⟨q0, q1, q2⟩; go_simp; try with_reducible rfl⟩) (by assumption) ?_
    refine wpAnyH_ready (rs := [2]) (by kernel_rfl) (by simp) (AllReadyH.cons rfl (fun K hK => ?_) AllReadyH.nil)
    go_simp
    refine (HR.out _).mono ?_
    rintro e w1 ⟨rfl, hb⟩
    obtain ⟨k1, _⟩ := keepC hb (g := w.heap.size) (by simp)
    have HB := Lib.hid (bthen ((Below.refl _ w).alloc (Nat.le_refl _) _).drew hb (by simp))
    have l1 : w.heap.size < w1.heap.size := by have z1 := hb.size; simp at z1; omega
    clear hb
    refine hK.out _ _ ⟨by simp [k1], by simp [k1], by simp [k1]⟩ (fun hHeld => ?_)
    clear hK K
    refine wpAnyH_take (i := 3) rfl (by kernel_rfl) (by kernel_rfl) (by kernel_rfl) (fun _ _ _ h => h) (Or.inl ⟨by kernel_rfl, by rintro w ⟨q0, q1, q2⟩; go_simp; try with_reducible rfl⟩) (by assumption) ?_
    refine wpAnyH_take (i := 4) rfl (by kernel_rfl) (by kernel_rfl) (by kernel_rfl) (fun _ _ _ h => h) (Or.inl ⟨by kernel_rfl, by rintro w ⟨q0, q1, q2⟩; go_simp; try with_reducible rfl⟩) (by assumption) ?_
    refine wpAnyH_take (i := 6) rfl (by kernel_rfl) (by kernel_rfl) (by kernel_rfl) (fun _ _ _ h => h) (Or.inl ⟨by kernel_rfl, by rintro w ⟨q0, q1, q2⟩; go_simp; try with_reducible rfl⟩) (by assumption) ?_
    refine wpAnyH_ready (rs := [5]) (by kernel_rfl) (by simp) (AllReadyH.cons rfl (fun K hK => ?_) AllReadyH.nil)
    go_simp
    refine (HF.out _).mono ?_
    rintro e w2 ⟨rfl, hb⟩
    obtain ⟨k2, _⟩ := keepC hb (g := w.heap.size) l1
    have HB := Lib.hid (bthen HB.out hb (Nat.le_of_lt l1))
    clear hb
    refine hK.out _ _ ⟨by simp [k2, k1], by simp [k2, k1], by simp [k2, k1]⟩ (fun hHeld => ?_)
    clear hK K
    refine wpAnyH_take (i := 7) rfl (by kernel_rfl) (by kernel_rfl) (by kernel_rfl) (fun _ _ _ h => h) (Or.inl ⟨by kernel_rfl, by rintro w ⟨q0, q1, q2⟩; go_simp; try with_reducible rfl⟩) (by assumption) ?_
    refine wpAnyH_take (i := 8) rfl (by kernel_rfl) (by kernel_rfl) (by kernel_rfl) (fun _ _ _ h => h) (Or.inl ⟨by kernel_rfl, by rintro w ⟨q0, q1, q2⟩; go_simp; try with_reducible rfl⟩) (by assumption) ?_
    refine wpAnyH_take (i := 9) rfl (by kernel_rfl) (by kernel_rfl) (by kernel_rfl) (fun _ _ _ h => h) (Or.inl ⟨by kernel_rfl, by rintro w ⟨q0, q1, q2⟩; go_simp; try with_reducible rfl⟩) (by assumption) ?_
    refine wpAnyH_take (i := 10) rfl (by kernel_rfl) (by kernel_rfl) (by kernel_rfl) (fun _ _ _ h => h) (Or.inl ⟨by kernel_rfl, by rintro w ⟨q0, q1, q2⟩; go_simp; try with_reducible rfl⟩) (by assumption) ?_
    refine wpAnyH_done (by kernel_rfl) ?_ _
    go_simp
    go_wp2
    exact bodyPost_ret (v := .tuple #[.iface 57 (.agg #[.int .i64 a, .string t]), .bool true]) (by simp [results, Try.results20, go_sem]) rfl ⟨rfl, HB.out⟩
set_option maxHeartbeats 1000000 in
theorem saidBy_2 (a : Int) (t : ByteArray) (ht : t.size ≤ 281474976710656) (w : World) :
    Calls Try.prog 20 #[fV 2 a t] w fun e w' => e = .returned (.tuple #[sV 2 a t, .bool (frB 2 a t)]) ∧ Below w.heap.size w w' := by
  have hm : t.size ≤ maxLen := by unfold maxLen; omega
  have HR := Lib.hid (changeR_any a t hm)
  have HF := Lib.hid (frameOf_2 a t ht)
  rw [nV_2, sV_2] at HF
  rw [frB_2, sV_2]
  unfold fV at HF ⊢
  clear hm ht
  have hcm := rightM_2 a t
  obtain ⟨R, hR⟩ : ∃ R, R = (plB a && goodB t) := ⟨_, rfl⟩
  rw [← hR] at HR
  simp only [← hR]
  clear hR
  cases R
  · skip
    go_enter Try.func20, Try.ntmps20
    go_wp2_with fail
    refine wp_region_held_drew (S := (fun w' => w'.cell? ⟨w.heap.size, 0, none⟩ = some (.int .i64 2) ∧ w'.cell? ⟨w.heap.size, 1, none⟩ = some (.int .i64 a) ∧ w'.cell? ⟨w.heap.size, 2, none⟩ = some (.string t))) (by kernel_rfl) ⟨by simp, by simp, by simp⟩ (fun hHeld => ?_)
    refine wpAnyH_take (i := 0) rfl (by kernel_rfl) (by kernel_rfl) (by kernel_rfl) (fun _ _ _ h => h) (Or.inl ⟨by kernel_rfl, by rintro w ⟨q0, q1, q2⟩; go_simp; try with_reducible rfl⟩) (by assumption) ?_
    refine wpAnyH_take (i := 1) rfl (by kernel_rfl) (by kernel_rfl) (by kernel_rfl) (fun _ _ _ h => h) (Or.inl ⟨by kernel_rfl, by rintro w ⟨q0, q1, q2⟩; go_simp; try with_reducible rfl⟩) (by assumption) ?_
    refine wpAnyH_ready (rs := [2]) (by kernel_rfl) (by simp) (AllReadyH.cons rfl (fun K hK => ?_) AllReadyH.nil)
    go_simp
    refine (HR.out _).mono ?_
    rintro e w1 ⟨rfl, hb⟩
    obtain ⟨k1, _⟩ := keepC hb (g := w.heap.size) (by simp)
    have HB := Lib.hid (bthen ((Below.refl _ w).alloc (Nat.le_refl _) _).drew hb (by simp))
    have l1 : w.heap.size < w1.heap.size := by have z1 := hb.size; simp at z1; omega
    clear hb
    refine hK.out _ _ ⟨by simp [k1], by simp [k1], by simp [k1]⟩ (fun hHeld => ?_)
    clear hK K
    refine wpAnyH_take (i := 3) rfl (by kernel_rfl) (by kernel_rfl) (by kernel_rfl) (fun _ _ _ h => h) (Or.inl ⟨by kernel_rfl, by rintro w ⟨q0, q1, q2⟩; go_simp; try with_reducible rfl⟩) (by assumption) ?_
    refine wpAnyH_take (i := 4) (v := undef) rfl (by kernel_rfl) (by kernel_rfl) (by kernel_rfl) (fun _ _ _ h => h) (Or.inr ⟨by kernel_rfl, rfl⟩) (by assumption) ?_
    refine wpAnyH_take (i := 6) (v := undef) rfl (by kernel_rfl) (by kernel_rfl) (by kernel_rfl) (fun _ _ _ h => h) (Or.inr ⟨by kernel_rfl, rfl⟩) (by assumption) ?_
    refine wpAnyH_take (i := 5) (v := undef) rfl (by kernel_rfl) (by kernel_rfl) (by kernel_rfl) (fun _ _ _ h => h) (Or.inr ⟨by kernel_rfl, rfl⟩) (by assumption) ?_
    refine wpAnyH_take (i := 7) (v := undef) rfl (by kernel_rfl) (by kernel_rfl) (by kernel_rfl) (fun _ _ _ h => h) (Or.inr ⟨by kernel_rfl, rfl⟩) (by assumption) ?_
    refine wpAnyH_take (i := 8) rfl (by kernel_rfl) (by kernel_rfl) (by kernel_rfl) (fun _ _ _ h => h) (Or.inl ⟨by kernel_rfl, by rintro w ⟨q0, q1, q2⟩; go_simp; try with_reducible rfl⟩) (by assumption) ?_
    refine wpAnyH_take (i := 9) rfl (by kernel_rfl) (by kernel_rfl) (by kernel_rfl) (fun _ _ _ h => h) (Or.inl ⟨by kernel_rfl, by rintro w ⟨q0, q1, q2⟩; go_simp; try with_reducible rfl⟩) (by assumption) ?_
    refine wpAnyH_take (i := 10) rfl (by kernel_rfl) (by kernel_rfl) (by kernel_rfl) (fun _ _ _ h => h) (Or.inl ⟨by kernel_rfl, by rintro w ⟨q0, q1, q2⟩; go_simp; try with_reducible rfl⟩) (by assumption) ?_
    refine wpAnyH_done (by kernel_rfl) ?_ _
    go_simp
    go_wp2
    exact bodyPost_ret (v := .tuple #[.iface 58 (.agg #[.int .i64 a, .string t]), .bool false]) (by simp [results, Try.results20, go_sem]) rfl ⟨rfl, HB.out⟩
  · skip
    go_enter Try.func20, Try.ntmps20
    go_wp2_with fail
    refine wp_region_held_drew (S := (fun w' => w'.cell? ⟨w.heap.size, 0, none⟩ = some (.int .i64 2) ∧ w'.cell? ⟨w.heap.size, 1, none⟩ = some (.int .i64 a) ∧ w'.cell? ⟨w.heap.size, 2, none⟩ = some (.string t))) (by kernel_rfl) ⟨by simp, by simp, by simp⟩ (fun hHeld => ?_)
    refine wpAnyH_take (i := 0) rfl (by kernel_rfl) (by kernel_rfl) (by kernel_rfl) (fun _ _ _ h => h) (Or.inl ⟨by kernel_rfl, by rintro w ⟨q0, q1, q2⟩; go_simp; try with_reducible rfl⟩) (by assumption) ?_
    refine wpAnyH_take (i := 1) rfl (by kernel_rfl) (by kernel_rfl) (by kernel_rfl) (fun _ _ _ h => h) (Or.inl ⟨by kernel_rfl, by rintro w ⟨q0, q1, q2⟩; go_simp; try with_reducible rfl⟩) (by assumption) ?_
    refine wpAnyH_ready (rs := [2]) (by kernel_rfl) (by simp) (AllReadyH.cons rfl (fun K hK => ?_) AllReadyH.nil)
    go_simp
    refine (HR.out _).mono ?_
    rintro e w1 ⟨rfl, hb⟩
    obtain ⟨k1, _⟩ := keepC hb (g := w.heap.size) (by simp)
    have HB := Lib.hid (bthen ((Below.refl _ w).alloc (Nat.le_refl _) _).drew hb (by simp))
    have l1 : w.heap.size < w1.heap.size := by have z1 := hb.size; simp at z1; omega
    clear hb
    refine hK.out _ _ ⟨by simp [k1], by simp [k1], by simp [k1]⟩ (fun hHeld => ?_)
    clear hK K
    refine wpAnyH_take (i := 3) rfl (by kernel_rfl) (by kernel_rfl) (by kernel_rfl) (fun _ _ _ h => h) (Or.inl ⟨by kernel_rfl, by rintro w ⟨q0, q1, q2⟩; go_simp; try with_reducible rfl⟩) (by assumption) ?_
    refine wpAnyH_take (i := 4) rfl (by kernel_rfl) (by kernel_rfl) (by kernel_rfl) (fun _ _ _ h => h) (Or.inl ⟨by kernel_rfl, by rintro w ⟨q0, q1, q2⟩; go_simp; try with_reducible rfl⟩) (by assumption) ?_
    refine wpAnyH_take (i := 6) rfl (by kernel_rfl) (by kernel_rfl) (by kernel_rfl) (fun _ _ _ h => h) (Or.inl ⟨by kernel_rfl, by rintro w ⟨q0, q1, q2⟩; go_simp; try with_reducible rfl⟩) (by assumption) ?_
    refine wpAnyH_ready (rs := [5]) (by kernel_rfl) (by simp) (AllReadyH.cons rfl (fun K hK => ?_) AllReadyH.nil)
    go_simp
    refine (HF.out _).mono ?_
    rintro e w2 ⟨rfl, hb⟩
    obtain ⟨k2, _⟩ := keepC hb (g := w.heap.size) l1
    have HB := Lib.hid (bthen HB.out hb (Nat.le_of_lt l1))
    clear hb
    refine hK.out _ _ ⟨by simp [k2, k1], by simp [k2, k1], by simp [k2, k1]⟩ (fun hHeld => ?_)
    clear hK K
    refine wpAnyH_take (i := 7) rfl (by kernel_rfl) (by kernel_rfl) (by kernel_rfl) (fun _ _ _ h => h) (Or.inl ⟨by kernel_rfl, by rintro w ⟨q0, q1, q2⟩; go_simp; try with_reducible rfl⟩) (by assumption) ?_
    refine wpAnyH_take (i := 8) rfl (by kernel_rfl) (by kernel_rfl) (by kernel_rfl) (fun _ _ _ h => h) (Or.inl ⟨by kernel_rfl, by rintro w ⟨q0, q1, q2⟩; go_simp; try with_reducible rfl⟩) (by assumption) ?_
    refine wpAnyH_take (i := 9) rfl (by kernel_rfl) (by kernel_rfl) (by kernel_rfl) (fun _ _ _ h => h) (Or.inl ⟨by kernel_rfl, by rintro w ⟨q0, q1, q2⟩; go_simp; try with_reducible rfl⟩) (by assumption) ?_
    refine wpAnyH_take (i := 10) rfl (by kernel_rfl) (by kernel_rfl) (by kernel_rfl) (fun _ _ _ h => h) (Or.inl ⟨by kernel_rfl, by rintro w ⟨q0, q1, q2⟩; go_simp; try with_reducible rfl⟩) (by assumption) ?_
    refine wpAnyH_done (by kernel_rfl) ?_ _
    go_simp
    go_wp2
    exact bodyPost_ret (v := .tuple #[.iface 58 (.agg #[.int .i64 a, .string t]), .bool true]) (by simp [results, Try.results20, go_sem]) rfl ⟨rfl, HB.out⟩
set_option maxHeartbeats 1000000 in
theorem saidBy_3 (a : Int) (t : ByteArray) (ht : t.size ≤ 281474976710656) (w : World) :
    Calls Try.prog 20 #[fV 3 a t] w fun e w' => e = .returned (.tuple #[sV 3 a t, .bool (frB 3 a t)]) ∧ Below w.heap.size w w' := by
  have hm : t.size ≤ maxLen := by unfold maxLen; omega
  have HR := Lib.hid (moveR_any a)
  have HF := Lib.hid (frameOf_3 a t ht)
  rw [nV_3, sV_3] at HF
  rw [frB_3, sV_3]
  unfold fV at HF ⊢
  clear hm ht
  have hcm := rightM_3 a
  obtain ⟨R, hR⟩ : ∃ R, R = (plB a) := ⟨_, rfl⟩
  rw [← hR] at HR ⊢
  clear hR
  cases R
  · rw [Bool.false_and]
    go_enter Try.func20, Try.ntmps20
    go_wp2_with fail
    refine wp_region_held_drew (S := (fun w' => w'.cell? ⟨w.heap.size, 0, none⟩ = some (.int .i64 3) ∧ w'.cell? ⟨w.heap.size, 1, none⟩ = some (.int .i64 a) ∧ w'.cell? ⟨w.heap.size, 2, none⟩ = some (.string t))) (by kernel_rfl) ⟨by simp, by simp, by simp⟩ (fun hHeld => ?_)
    refine wpAnyH_take (i := 0) rfl (by kernel_rfl) (by kernel_rfl) (by kernel_rfl) (fun _ _ _ h => h) (Or.inl ⟨by kernel_rfl, by rintro w ⟨q0, q1, q2⟩; go_simp; try with_reducible rfl⟩) (by assumption) ?_
    refine wpAnyH_take (i := 1) rfl (by kernel_rfl) (by kernel_rfl) (by kernel_rfl) (fun _ _ _ h => h) (Or.inl ⟨by kernel_rfl, by rintro w ⟨q0, q1, q2⟩; go_simp; try with_reducible rfl⟩) (by assumption) ?_
    refine wpAnyH_ready (rs := [2]) (by kernel_rfl) (by simp) (AllReadyH.cons rfl (fun K hK => ?_) AllReadyH.nil)
    go_simp
    refine (HR.out _).mono ?_
    rintro e w1 ⟨rfl, hb⟩
    obtain ⟨k1, _⟩ := keepC hb (g := w.heap.size) (by simp)
    have HB := Lib.hid (bthen ((Below.refl _ w).alloc (Nat.le_refl _) _).drew hb (by simp))
    have l1 : w.heap.size < w1.heap.size := by have z1 := hb.size; simp at z1; omega
    clear hb
    refine hK.out _ _ ⟨by simp [k1], by simp [k1], by simp [k1]⟩ (fun hHeld => ?_)
    clear hK K
    refine wpAnyH_take (i := 3) rfl (by kernel_rfl) (by kernel_rfl) (by kernel_rfl) (fun _ _ _ h => h) (Or.inl ⟨by kernel_rfl, by rintro w ⟨q0, q1, q2⟩; go_simp; try with_reducible rfl⟩) (by assumption) ?_
    refine wpAnyH_take (i := 4) (v := undef) rfl (by kernel_rfl) (by kernel_rfl) (by kernel_rfl) (fun _ _ _ h => h) (Or.inr ⟨by kernel_rfl, rfl⟩) (by assumption) ?_
    refine wpAnyH_take (i := 6) (v := undef) rfl (by kernel_rfl) (by kernel_rfl) (by kernel_rfl) (fun _ _ _ h => h) (Or.inr ⟨by kernel_rfl, rfl⟩) (by assumption) ?_
    refine wpAnyH_take (i := 5) (v := undef) rfl (by kernel_rfl) (by kernel_rfl) (by kernel_rfl) (fun _ _ _ h => h) (Or.inr ⟨by kernel_rfl, rfl⟩) (by assumption) ?_
    refine wpAnyH_take (i := 7) (v := undef) rfl (by kernel_rfl) (by kernel_rfl) (by kernel_rfl) (fun _ _ _ h => h) (Or.inr ⟨by kernel_rfl, rfl⟩) (by assumption) ?_
    refine wpAnyH_take (i := 8) rfl (by kernel_rfl) (by kernel_rfl) (by kernel_rfl) (fun _ _ _ h => h) (Or.inl ⟨by kernel_rfl, by rintro w ⟨q0, q1, q2⟩; go_simp; try with_reducible rfl⟩) (by assumption) ?_
    refine wpAnyH_take (i := 9) rfl (by kernel_rfl) (by kernel_rfl) (by kernel_rfl) (fun _ _ _ h => h) (Or.inl ⟨by kernel_rfl, by rintro w ⟨q0, q1, q2⟩; go_simp; try with_reducible rfl⟩) (by assumption) ?_
    refine wpAnyH_take (i := 10) rfl (by kernel_rfl) (by kernel_rfl) (by kernel_rfl) (fun _ _ _ h => h) (Or.inl ⟨by kernel_rfl, by rintro w ⟨q0, q1, q2⟩; go_simp; try with_reducible rfl⟩) (by assumption) ?_
    refine wpAnyH_done (by kernel_rfl) ?_ _
    go_simp
    go_wp2
    exact bodyPost_ret (v := .tuple #[.iface 60 (.agg #[.int .i64 a]), .bool false]) (by simp [results, Try.results20, go_sem]) rfl ⟨rfl, HB.out⟩
  · rw [Bool.true_and]
    by_cases hz : t.size = 0
    · obtain rfl := size_nil hz
      rw [decide_eq_true (by rfl)]
      go_enter Try.func20, Try.ntmps20
      go_wp2_with fail
      refine wp_region_held_drew (S := (fun w' => w'.cell? ⟨w.heap.size, 0, none⟩ = some (.int .i64 3) ∧ w'.cell? ⟨w.heap.size, 1, none⟩ = some (.int .i64 a) ∧ w'.cell? ⟨w.heap.size, 2, none⟩ = some (.string ⟨#[]⟩))) (by kernel_rfl) ⟨by simp, by simp, by simp⟩ (fun hHeld => ?_)
      refine wpAnyH_take (i := 0) rfl (by kernel_rfl) (by kernel_rfl) (by kernel_rfl) (fun _ _ _ h => h) (Or.inl ⟨by kernel_rfl, by rintro w ⟨q0, q1, q2⟩; go_simp; try with_reducible rfl⟩) (by assumption) ?_
      refine wpAnyH_take (i := 1) rfl (by kernel_rfl) (by kernel_rfl) (by kernel_rfl) (fun _ _ _ h => h) (Or.inl ⟨by kernel_rfl, by rintro w ⟨q0, q1, q2⟩; go_simp; try with_reducible rfl⟩) (by assumption) ?_
      refine wpAnyH_ready (rs := [2]) (by kernel_rfl) (by simp) (AllReadyH.cons rfl (fun K hK => ?_) AllReadyH.nil)
      go_simp
      refine (HR.out _).mono ?_
      rintro e w1 ⟨rfl, hb⟩
      obtain ⟨k1, _⟩ := keepC hb (g := w.heap.size) (by simp)
      have HB := Lib.hid (bthen ((Below.refl _ w).alloc (Nat.le_refl _) _).drew hb (by simp))
      have l1 : w.heap.size < w1.heap.size := by have z1 := hb.size; simp at z1; omega
      clear hb
      refine hK.out _ _ ⟨by simp [k1], by simp [k1], by simp [k1]⟩ (fun hHeld => ?_)
      clear hK K
      refine wpAnyH_take (i := 3) rfl (by kernel_rfl) (by kernel_rfl) (by kernel_rfl) (fun _ _ _ h => h) (Or.inl ⟨by kernel_rfl, by rintro w ⟨q0, q1, q2⟩; go_simp; try with_reducible rfl⟩) (by assumption) ?_
      refine wpAnyH_take (i := 4) rfl (by kernel_rfl) (by kernel_rfl) (by kernel_rfl) (fun _ _ _ h => h) (Or.inl ⟨by kernel_rfl, by rintro w ⟨q0, q1, q2⟩; go_simp; try with_reducible rfl⟩) (by assumption) ?_
      refine wpAnyH_take (i := 6) rfl (by kernel_rfl) (by kernel_rfl) (by kernel_rfl) (fun _ _ _ h => h) (Or.inl ⟨by kernel_rfl, by rintro w ⟨q0, q1, q2⟩; go_simp; try with_reducible rfl⟩) (by assumption) ?_
      refine wpAnyH_ready (rs := [5]) (by kernel_rfl) (by simp) (AllReadyH.cons rfl (fun K hK => ?_) AllReadyH.nil)
      go_simp
      refine (HF.out _).mono ?_
      rintro e w2 ⟨rfl, hb⟩
      obtain ⟨k2, _⟩ := keepC hb (g := w.heap.size) l1
      have HB := Lib.hid (bthen HB.out hb (Nat.le_of_lt l1))
      clear hb
      refine hK.out _ _ ⟨by simp [k2, k1], by simp [k2, k1], by simp [k2, k1]⟩ (fun hHeld => ?_)
      clear hK K
      refine wpAnyH_take (i := 7) rfl (by kernel_rfl) (by kernel_rfl) (by kernel_rfl) (fun _ _ _ h => h) (Or.inl ⟨by kernel_rfl, by rintro w ⟨q0, q1, q2⟩; go_simp; try with_reducible rfl⟩) (by assumption) ?_
      refine wpAnyH_take (i := 8) rfl (by kernel_rfl) (by kernel_rfl) (by kernel_rfl) (fun _ _ _ h => h) (Or.inl ⟨by kernel_rfl, by rintro w ⟨q0, q1, q2⟩; go_simp; try with_reducible rfl⟩) (by assumption) ?_
      refine wpAnyH_take (i := 9) rfl (by kernel_rfl) (by kernel_rfl) (by kernel_rfl) (fun _ _ _ h => h) (Or.inl ⟨by kernel_rfl, by rintro w ⟨q0, q1, q2⟩; go_simp; try with_reducible rfl⟩) (by assumption) ?_
      refine wpAnyH_take (i := 10) rfl (by kernel_rfl) (by kernel_rfl) (by kernel_rfl) (fun _ _ _ h => h) (Or.inl ⟨by kernel_rfl, by rintro w ⟨q0, q1, q2⟩; go_simp; try with_reducible rfl⟩) (by assumption) ?_
      refine wpAnyH_done (by kernel_rfl) ?_ _
      go_simp
      go_wp2
      exact bodyPost_ret (v := .tuple #[.iface 60 (.agg #[.int .i64 a]), .bool true]) (by simp [results, Try.results20, go_sem]) rfl ⟨rfl, HB.out⟩
    · have hem := empty_f (s := t) (by omega)
      have hz' : decide (t.size = 0) = false := by simpa using hz
      rw [hz']
      go_enter Try.func20, Try.ntmps20
      go_wp2_with fail
      refine wp_region_held_drew (S := (fun w' => w'.cell? ⟨w.heap.size, 0, none⟩ = some (.int .i64 3) ∧ w'.cell? ⟨w.heap.size, 1, none⟩ = some (.int .i64 a) ∧ w'.cell? ⟨w.heap.size, 2, none⟩ = some (.string t))) (by kernel_rfl) ⟨by simp, by simp, by simp⟩ (fun hHeld => ?_)
      refine wpAnyH_take (i := 0) rfl (by kernel_rfl) (by kernel_rfl) (by kernel_rfl) (fun _ _ _ h => h) (Or.inl ⟨by kernel_rfl, by rintro w ⟨q0, q1, q2⟩; go_simp; try with_reducible rfl⟩) (by assumption) ?_
      refine wpAnyH_take (i := 1) rfl (by kernel_rfl) (by kernel_rfl) (by kernel_rfl) (fun _ _ _ h => h) (Or.inl ⟨by kernel_rfl, by rintro w ⟨q0, q1, q2⟩; go_simp; try with_reducible rfl⟩) (by assumption) ?_
      refine wpAnyH_ready (rs := [2]) (by kernel_rfl) (by simp) (AllReadyH.cons rfl (fun K hK => ?_) AllReadyH.nil)
      go_simp
      refine (HR.out _).mono ?_
      rintro e w1 ⟨rfl, hb⟩
      obtain ⟨k1, _⟩ := keepC hb (g := w.heap.size) (by simp)
      have HB := Lib.hid (bthen ((Below.refl _ w).alloc (Nat.le_refl _) _).drew hb (by simp))
      have l1 : w.heap.size < w1.heap.size := by have z1 := hb.size; simp at z1; omega
      clear hb
      refine hK.out _ _ ⟨by simp [k1], by simp [k1], by simp [k1]⟩ (fun hHeld => ?_)
      clear hK K
      refine wpAnyH_take (i := 3) rfl (by kernel_rfl) (by kernel_rfl) (by kernel_rfl) (fun _ _ _ h => h) (Or.inl ⟨by kernel_rfl, by rintro w ⟨q0, q1, q2⟩; go_simp; try with_reducible rfl⟩) (by assumption) ?_
      refine wpAnyH_take (i := 4) rfl (by kernel_rfl) (by kernel_rfl) (by kernel_rfl) (fun _ _ _ h => h) (Or.inl ⟨by kernel_rfl, by rintro w ⟨q0, q1, q2⟩; go_simp; try with_reducible rfl⟩) (by assumption) ?_
      refine wpAnyH_take (i := 6) rfl (by kernel_rfl) (by kernel_rfl) (by kernel_rfl) (fun _ _ _ h => h) (Or.inl ⟨by kernel_rfl, by rintro w ⟨q0, q1, q2⟩; go_simp; try with_reducible rfl⟩) (by assumption) ?_
      refine wpAnyH_ready (rs := [5]) (by kernel_rfl) (by simp) (AllReadyH.cons rfl (fun K hK => ?_) AllReadyH.nil)
      go_simp
      refine (HF.out _).mono ?_
      rintro e w2 ⟨rfl, hb⟩
      obtain ⟨k2, _⟩ := keepC hb (g := w.heap.size) l1
      have HB := Lib.hid (bthen HB.out hb (Nat.le_of_lt l1))
      clear hb
      refine hK.out _ _ ⟨by simp [k2, k1], by simp [k2, k1], by simp [k2, k1]⟩ (fun hHeld => ?_)
      clear hK K
      refine wpAnyH_take (i := 7) rfl (by kernel_rfl) (by kernel_rfl) (by kernel_rfl) (fun _ _ _ h => h) (Or.inl ⟨by kernel_rfl, by rintro w ⟨q0, q1, q2⟩; go_simp; try with_reducible rfl⟩) (by assumption) ?_
      refine wpAnyH_take (i := 8) rfl (by kernel_rfl) (by kernel_rfl) (by kernel_rfl) (fun _ _ _ h => h) (Or.inl ⟨by kernel_rfl, by rintro w ⟨q0, q1, q2⟩; go_simp; try with_reducible rfl⟩) (by assumption) ?_
      refine wpAnyH_take (i := 9) rfl (by kernel_rfl) (by kernel_rfl) (by kernel_rfl) (fun _ _ _ h => h) (Or.inl ⟨by kernel_rfl, by rintro w ⟨q0, q1, q2⟩; go_simp; try with_reducible rfl⟩) (by assumption) ?_
      refine wpAnyH_take (i := 10) rfl (by kernel_rfl) (by kernel_rfl) (by kernel_rfl) (fun _ _ _ h => h) (Or.inl ⟨by kernel_rfl, by rintro w ⟨q0, q1, q2⟩; go_simp; try with_reducible rfl⟩) (by assumption) ?_
      refine wpAnyH_done (by kernel_rfl) ?_ _
      go_simp
      go_wp2
      exact bodyPost_ret (v := .tuple #[.iface 60 (.agg #[.int .i64 a]), .bool false]) (by simp [results, Try.results20, go_sem]) rfl ⟨rfl, HB.out⟩
set_option maxHeartbeats 1000000 in
theorem saidBy_4 (a : Int) (t : ByteArray) (ht : t.size ≤ 281474976710656) (w : World) :
    Calls Try.prog 20 #[fV 4 a t] w fun e w' => e = .returned (.tuple #[sV 4 a t, .bool (frB 4 a t)]) ∧ Below w.heap.size w w' := by
  have hm : t.size ≤ maxLen := by unfold maxLen; omega
  have HR := Lib.hid (allR_any a t hm)
  have HF := Lib.hid (frameOf_4 a t ht)
  rw [nV_4, sV_4] at HF
  rw [frB_4, sV_4]
  unfold fV at HF ⊢
  clear hm ht
  have hcm := rightM_4 a t
  obtain ⟨R, hR⟩ : ∃ R, R = (plB a && textB t) := ⟨_, rfl⟩
  rw [← hR] at HR
  simp only [← hR]
  clear hR
  cases R
  · skip
    go_enter Try.func20, Try.ntmps20
    go_wp2_with fail
    refine wp_region_held_drew (S := (fun w' => w'.cell? ⟨w.heap.size, 0, none⟩ = some (.int .i64 4) ∧ w'.cell? ⟨w.heap.size, 1, none⟩ = some (.int .i64 a) ∧ w'.cell? ⟨w.heap.size, 2, none⟩ = some (.string t))) (by kernel_rfl) ⟨by simp, by simp, by simp⟩ (fun hHeld => ?_)
    refine wpAnyH_take (i := 0) rfl (by kernel_rfl) (by kernel_rfl) (by kernel_rfl) (fun _ _ _ h => h) (Or.inl ⟨by kernel_rfl, by rintro w ⟨q0, q1, q2⟩; go_simp; try with_reducible rfl⟩) (by assumption) ?_
    refine wpAnyH_take (i := 1) rfl (by kernel_rfl) (by kernel_rfl) (by kernel_rfl) (fun _ _ _ h => h) (Or.inl ⟨by kernel_rfl, by rintro w ⟨q0, q1, q2⟩; go_simp; try with_reducible rfl⟩) (by assumption) ?_
    refine wpAnyH_ready (rs := [2]) (by kernel_rfl) (by simp) (AllReadyH.cons rfl (fun K hK => ?_) AllReadyH.nil)
    go_simp
    refine (HR.out _).mono ?_
    rintro e w1 ⟨rfl, hb⟩
    obtain ⟨k1, _⟩ := keepC hb (g := w.heap.size) (by simp)
    have HB := Lib.hid (bthen ((Below.refl _ w).alloc (Nat.le_refl _) _).drew hb (by simp))
    have l1 : w.heap.size < w1.heap.size := by have z1 := hb.size; simp at z1; omega
    clear hb
    refine hK.out _ _ ⟨by simp [k1], by simp [k1], by simp [k1]⟩ (fun hHeld => ?_)
    clear hK K
    refine wpAnyH_take (i := 3) rfl (by kernel_rfl) (by kernel_rfl) (by kernel_rfl) (fun _ _ _ h => h) (Or.inl ⟨by kernel_rfl, by rintro w ⟨q0, q1, q2⟩; go_simp; try with_reducible rfl⟩) (by assumption) ?_
    refine wpAnyH_take (i := 4) (v := undef) rfl (by kernel_rfl) (by kernel_rfl) (by kernel_rfl) (fun _ _ _ h => h) (Or.inr ⟨by kernel_rfl, rfl⟩) (by assumption) ?_
    refine wpAnyH_take (i := 6) (v := undef) rfl (by kernel_rfl) (by kernel_rfl) (by kernel_rfl) (fun _ _ _ h => h) (Or.inr ⟨by kernel_rfl, rfl⟩) (by assumption) ?_
    refine wpAnyH_take (i := 5) (v := undef) rfl (by kernel_rfl) (by kernel_rfl) (by kernel_rfl) (fun _ _ _ h => h) (Or.inr ⟨by kernel_rfl, rfl⟩) (by assumption) ?_
    refine wpAnyH_take (i := 7) (v := undef) rfl (by kernel_rfl) (by kernel_rfl) (by kernel_rfl) (fun _ _ _ h => h) (Or.inr ⟨by kernel_rfl, rfl⟩) (by assumption) ?_
    refine wpAnyH_take (i := 8) rfl (by kernel_rfl) (by kernel_rfl) (by kernel_rfl) (fun _ _ _ h => h) (Or.inl ⟨by kernel_rfl, by rintro w ⟨q0, q1, q2⟩; go_simp; try with_reducible rfl⟩) (by assumption) ?_
    refine wpAnyH_take (i := 9) rfl (by kernel_rfl) (by kernel_rfl) (by kernel_rfl) (fun _ _ _ h => h) (Or.inl ⟨by kernel_rfl, by rintro w ⟨q0, q1, q2⟩; go_simp; try with_reducible rfl⟩) (by assumption) ?_
    refine wpAnyH_take (i := 10) rfl (by kernel_rfl) (by kernel_rfl) (by kernel_rfl) (fun _ _ _ h => h) (Or.inl ⟨by kernel_rfl, by rintro w ⟨q0, q1, q2⟩; go_simp; try with_reducible rfl⟩) (by assumption) ?_
    refine wpAnyH_done (by kernel_rfl) ?_ _
    go_simp
    go_wp2
    exact bodyPost_ret (v := .tuple #[.iface 61 (.agg #[.int .i64 a, .string t]), .bool false]) (by simp [results, Try.results20, go_sem]) rfl ⟨rfl, HB.out⟩
  · skip
    go_enter Try.func20, Try.ntmps20
    go_wp2_with fail
    refine wp_region_held_drew (S := (fun w' => w'.cell? ⟨w.heap.size, 0, none⟩ = some (.int .i64 4) ∧ w'.cell? ⟨w.heap.size, 1, none⟩ = some (.int .i64 a) ∧ w'.cell? ⟨w.heap.size, 2, none⟩ = some (.string t))) (by kernel_rfl) ⟨by simp, by simp, by simp⟩ (fun hHeld => ?_)
    refine wpAnyH_take (i := 0) rfl (by kernel_rfl) (by kernel_rfl) (by kernel_rfl) (fun _ _ _ h => h) (Or.inl ⟨by kernel_rfl, by rintro w ⟨q0, q1, q2⟩; go_simp; try with_reducible rfl⟩) (by assumption) ?_
    refine wpAnyH_take (i := 1) rfl (by kernel_rfl) (by kernel_rfl) (by kernel_rfl) (fun _ _ _ h => h) (Or.inl ⟨by kernel_rfl, by rintro w ⟨q0, q1, q2⟩; go_simp; try with_reducible rfl⟩) (by assumption) ?_
    refine wpAnyH_ready (rs := [2]) (by kernel_rfl) (by simp) (AllReadyH.cons rfl (fun K hK => ?_) AllReadyH.nil)
    go_simp
    refine (HR.out _).mono ?_
    rintro e w1 ⟨rfl, hb⟩
    obtain ⟨k1, _⟩ := keepC hb (g := w.heap.size) (by simp)
    have HB := Lib.hid (bthen ((Below.refl _ w).alloc (Nat.le_refl _) _).drew hb (by simp))
    have l1 : w.heap.size < w1.heap.size := by have z1 := hb.size; simp at z1; omega
    clear hb
    refine hK.out _ _ ⟨by simp [k1], by simp [k1], by simp [k1]⟩ (fun hHeld => ?_)
    clear hK K
    refine wpAnyH_take (i := 3) rfl (by kernel_rfl) (by kernel_rfl) (by kernel_rfl) (fun _ _ _ h => h) (Or.inl ⟨by kernel_rfl, by rintro w ⟨q0, q1, q2⟩; go_simp; try with_reducible rfl⟩) (by assumption) ?_
    refine wpAnyH_take (i := 4) rfl (by kernel_rfl) (by kernel_rfl) (by kernel_rfl) (fun _ _ _ h => h) (Or.inl ⟨by kernel_rfl, by rintro w ⟨q0, q1, q2⟩; go_simp; try with_reducible rfl⟩) (by assumption) ?_
    refine wpAnyH_take (i := 6) rfl (by kernel_rfl) (by kernel_rfl) (by kernel_rfl) (fun _ _ _ h => h) (Or.inl ⟨by kernel_rfl, by rintro w ⟨q0, q1, q2⟩; go_simp; try with_reducible rfl⟩) (by assumption) ?_
    refine wpAnyH_ready (rs := [5]) (by kernel_rfl) (by simp) (AllReadyH.cons rfl (fun K hK => ?_) AllReadyH.nil)
    go_simp
    refine (HF.out _).mono ?_
    rintro e w2 ⟨rfl, hb⟩
    obtain ⟨k2, _⟩ := keepC hb (g := w.heap.size) l1
    have HB := Lib.hid (bthen HB.out hb (Nat.le_of_lt l1))
    clear hb
    refine hK.out _ _ ⟨by simp [k2, k1], by simp [k2, k1], by simp [k2, k1]⟩ (fun hHeld => ?_)
    clear hK K
    refine wpAnyH_take (i := 7) rfl (by kernel_rfl) (by kernel_rfl) (by kernel_rfl) (fun _ _ _ h => h) (Or.inl ⟨by kernel_rfl, by rintro w ⟨q0, q1, q2⟩; go_simp; try with_reducible rfl⟩) (by assumption) ?_
    refine wpAnyH_take (i := 8) rfl (by kernel_rfl) (by kernel_rfl) (by kernel_rfl) (fun _ _ _ h => h) (Or.inl ⟨by kernel_rfl, by rintro w ⟨q0, q1, q2⟩; go_simp; try with_reducible rfl⟩) (by assumption) ?_
    refine wpAnyH_take (i := 9) rfl (by kernel_rfl) (by kernel_rfl) (by kernel_rfl) (fun _ _ _ h => h) (Or.inl ⟨by kernel_rfl, by rintro w ⟨q0, q1, q2⟩; go_simp; try with_reducible rfl⟩) (by assumption) ?_
    refine wpAnyH_take (i := 10) rfl (by kernel_rfl) (by kernel_rfl) (by kernel_rfl) (fun _ _ _ h => h) (Or.inl ⟨by kernel_rfl, by rintro w ⟨q0, q1, q2⟩; go_simp; try with_reducible rfl⟩) (by assumption) ?_
    refine wpAnyH_done (by kernel_rfl) ?_ _
    go_simp
    go_wp2
    exact bodyPost_ret (v := .tuple #[.iface 61 (.agg #[.int .i64 a, .string t]), .bool true]) (by simp [results, Try.results20, go_sem]) rfl ⟨rfl, HB.out⟩
set_option maxHeartbeats 1000000 in
theorem saidBy_5 (a : Int) (t : ByteArray) (ht : t.size ≤ 281474976710656) (w : World) :
    Calls Try.prog 20 #[fV 5 a t] w fun e w' => e = .returned (.tuple #[sV 5 a t, .bool (frB 5 a t)]) ∧ Below w.heap.size w w' := by
  have hm : t.size ≤ maxLen := by unfold maxLen; omega
  have HR := Lib.hid (sayR_any t hm)
  have HF := Lib.hid (frameOf_5 a t ht)
  rw [nV_5, sV_5] at HF
  rw [frB_5, sV_5]
  unfold fV at HF ⊢
  clear hm ht
  have hcm := rightM_5 t
  obtain ⟨R, hR⟩ : ∃ R, R = (sayB t) := ⟨_, rfl⟩
  rw [← hR] at HR ⊢
  clear hR
  cases R
  · rw [Bool.and_false]
    go_enter Try.func20, Try.ntmps20
    go_wp2_with fail
    refine wp_region_held_drew (S := (fun w' => w'.cell? ⟨w.heap.size, 0, none⟩ = some (.int .i64 5) ∧ w'.cell? ⟨w.heap.size, 1, none⟩ = some (.int .i64 a) ∧ w'.cell? ⟨w.heap.size, 2, none⟩ = some (.string t))) (by kernel_rfl) ⟨by simp, by simp, by simp⟩ (fun hHeld => ?_)
    refine wpAnyH_take (i := 0) rfl (by kernel_rfl) (by kernel_rfl) (by kernel_rfl) (fun _ _ _ h => h) (Or.inl ⟨by kernel_rfl, by rintro w ⟨q0, q1, q2⟩; go_simp; try with_reducible rfl⟩) (by assumption) ?_
    refine wpAnyH_take (i := 1) rfl (by kernel_rfl) (by kernel_rfl) (by kernel_rfl) (fun _ _ _ h => h) (Or.inl ⟨by kernel_rfl, by rintro w ⟨q0, q1, q2⟩; go_simp; try with_reducible rfl⟩) (by assumption) ?_
    refine wpAnyH_ready (rs := [2]) (by kernel_rfl) (by simp) (AllReadyH.cons rfl (fun K hK => ?_) AllReadyH.nil)
    go_simp
    refine (HR.out _).mono ?_
    rintro e w1 ⟨rfl, hb⟩
    obtain ⟨k1, _⟩ := keepC hb (g := w.heap.size) (by simp)
    have HB := Lib.hid (bthen ((Below.refl _ w).alloc (Nat.le_refl _) _).drew hb (by simp))
    have l1 : w.heap.size < w1.heap.size := by have z1 := hb.size; simp at z1; omega
    clear hb
    refine hK.out _ _ ⟨by simp [k1], by simp [k1], by simp [k1]⟩ (fun hHeld => ?_)
    clear hK K
    refine wpAnyH_take (i := 3) rfl (by kernel_rfl) (by kernel_rfl) (by kernel_rfl) (fun _ _ _ h => h) (Or.inl ⟨by kernel_rfl, by rintro w ⟨q0, q1, q2⟩; go_simp; try with_reducible rfl⟩) (by assumption) ?_
    refine wpAnyH_take (i := 4) (v := undef) rfl (by kernel_rfl) (by kernel_rfl) (by kernel_rfl) (fun _ _ _ h => h) (Or.inr ⟨by kernel_rfl, rfl⟩) (by assumption) ?_
    refine wpAnyH_take (i := 6) (v := undef) rfl (by kernel_rfl) (by kernel_rfl) (by kernel_rfl) (fun _ _ _ h => h) (Or.inr ⟨by kernel_rfl, rfl⟩) (by assumption) ?_
    refine wpAnyH_take (i := 5) (v := undef) rfl (by kernel_rfl) (by kernel_rfl) (by kernel_rfl) (fun _ _ _ h => h) (Or.inr ⟨by kernel_rfl, rfl⟩) (by assumption) ?_
    refine wpAnyH_take (i := 7) (v := undef) rfl (by kernel_rfl) (by kernel_rfl) (by kernel_rfl) (fun _ _ _ h => h) (Or.inr ⟨by kernel_rfl, rfl⟩) (by assumption) ?_
    refine wpAnyH_take (i := 8) rfl (by kernel_rfl) (by kernel_rfl) (by kernel_rfl) (fun _ _ _ h => h) (Or.inl ⟨by kernel_rfl, by rintro w ⟨q0, q1, q2⟩; go_simp; try with_reducible rfl⟩) (by assumption) ?_
    refine wpAnyH_take (i := 9) rfl (by kernel_rfl) (by kernel_rfl) (by kernel_rfl) (fun _ _ _ h => h) (Or.inl ⟨by kernel_rfl, by rintro w ⟨q0, q1, q2⟩; go_simp; try with_reducible rfl⟩) (by assumption) ?_
    refine wpAnyH_take (i := 10) rfl (by kernel_rfl) (by kernel_rfl) (by kernel_rfl) (fun _ _ _ h => h) (Or.inl ⟨by kernel_rfl, by rintro w ⟨q0, q1, q2⟩; go_simp; try with_reducible rfl⟩) (by assumption) ?_
    refine wpAnyH_done (by kernel_rfl) ?_ _
    go_simp
    go_wp2
    exact bodyPost_ret (v := .tuple #[.iface 63 (.agg #[.string t]), .bool false]) (by simp [results, Try.results20, go_sem]) rfl ⟨rfl, HB.out⟩
  · rw [Bool.and_true]
    by_cases hz : a = 0
    · subst hz
      rw [decide_eq_true (by rfl)]
      go_enter Try.func20, Try.ntmps20
      go_wp2_with fail
      refine wp_region_held_drew (S := (fun w' => w'.cell? ⟨w.heap.size, 0, none⟩ = some (.int .i64 5) ∧ w'.cell? ⟨w.heap.size, 1, none⟩ = some (.int .i64 0) ∧ w'.cell? ⟨w.heap.size, 2, none⟩ = some (.string t))) (by kernel_rfl) ⟨by simp, by simp, by simp⟩ (fun hHeld => ?_)
      refine wpAnyH_take (i := 0) rfl (by kernel_rfl) (by kernel_rfl) (by kernel_rfl) (fun _ _ _ h => h) (Or.inl ⟨by kernel_rfl, by rintro w ⟨q0, q1, q2⟩; go_simp; try with_reducible rfl⟩) (by assumption) ?_
      refine wpAnyH_take (i := 1) rfl (by kernel_rfl) (by kernel_rfl) (by kernel_rfl) (fun _ _ _ h => h) (Or.inl ⟨by kernel_rfl, by rintro w ⟨q0, q1, q2⟩; go_simp; try with_reducible rfl⟩) (by assumption) ?_
      refine wpAnyH_ready (rs := [2]) (by kernel_rfl) (by simp) (AllReadyH.cons rfl (fun K hK => ?_) AllReadyH.nil)
      go_simp
      refine (HR.out _).mono ?_
      rintro e w1 ⟨rfl, hb⟩
      obtain ⟨k1, _⟩ := keepC hb (g := w.heap.size) (by simp)
      have HB := Lib.hid (bthen ((Below.refl _ w).alloc (Nat.le_refl _) _).drew hb (by simp))
      have l1 : w.heap.size < w1.heap.size := by have z1 := hb.size; simp at z1; omega
      clear hb
      refine hK.out _ _ ⟨by simp [k1], by simp [k1], by simp [k1]⟩ (fun hHeld => ?_)
      clear hK K
      refine wpAnyH_take (i := 3) rfl (by kernel_rfl) (by kernel_rfl) (by kernel_rfl) (fun _ _ _ h => h) (Or.inl ⟨by kernel_rfl, by rintro w ⟨q0, q1, q2⟩; go_simp; try with_reducible rfl⟩) (by assumption) ?_
      refine wpAnyH_take (i := 4) rfl (by kernel_rfl) (by kernel_rfl) (by kernel_rfl) (fun _ _ _ h => h) (Or.inl ⟨by kernel_rfl, by rintro w ⟨q0, q1, q2⟩; go_simp; try with_reducible rfl⟩) (by assumption) ?_
      refine wpAnyH_take (i := 6) rfl (by kernel_rfl) (by kernel_rfl) (by kernel_rfl) (fun _ _ _ h => h) (Or.inl ⟨by kernel_rfl, by rintro w ⟨q0, q1, q2⟩; go_simp; try with_reducible rfl⟩) (by assumption) ?_
      refine wpAnyH_ready (rs := [5]) (by kernel_rfl) (by simp) (AllReadyH.cons rfl (fun K hK => ?_) AllReadyH.nil)
      go_simp
      refine (HF.out _).mono ?_
      rintro e w2 ⟨rfl, hb⟩
      obtain ⟨k2, _⟩ := keepC hb (g := w.heap.size) l1
      have HB := Lib.hid (bthen HB.out hb (Nat.le_of_lt l1))
      clear hb
      refine hK.out _ _ ⟨by simp [k2, k1], by simp [k2, k1], by simp [k2, k1]⟩ (fun hHeld => ?_)
      clear hK K
      refine wpAnyH_take (i := 7) rfl (by kernel_rfl) (by kernel_rfl) (by kernel_rfl) (fun _ _ _ h => h) (Or.inl ⟨by kernel_rfl, by rintro w ⟨q0, q1, q2⟩; go_simp; try with_reducible rfl⟩) (by assumption) ?_
      refine wpAnyH_take (i := 8) rfl (by kernel_rfl) (by kernel_rfl) (by kernel_rfl) (fun _ _ _ h => h) (Or.inl ⟨by kernel_rfl, by rintro w ⟨q0, q1, q2⟩; go_simp; try with_reducible rfl⟩) (by assumption) ?_
      refine wpAnyH_take (i := 9) rfl (by kernel_rfl) (by kernel_rfl) (by kernel_rfl) (fun _ _ _ h => h) (Or.inl ⟨by kernel_rfl, by rintro w ⟨q0, q1, q2⟩; go_simp; try with_reducible rfl⟩) (by assumption) ?_
      refine wpAnyH_take (i := 10) rfl (by kernel_rfl) (by kernel_rfl) (by kernel_rfl) (fun _ _ _ h => h) (Or.inl ⟨by kernel_rfl, by rintro w ⟨q0, q1, q2⟩; go_simp; try with_reducible rfl⟩) (by assumption) ?_
      refine wpAnyH_done (by kernel_rfl) ?_ _
      go_simp
      go_wp2
      exact bodyPost_ret (v := .tuple #[.iface 63 (.agg #[.string t]), .bool true]) (by simp [results, Try.results20, go_sem]) rfl ⟨rfl, HB.out⟩
    · have hz' : decide (a = 0) = false := by simpa using hz
      have hz2 : (0 == a) = false := by simp; omega
      rw [hz']
      go_enter Try.func20, Try.ntmps20
      go_wp2_with fail
      refine wp_region_held_drew (S := (fun w' => w'.cell? ⟨w.heap.size, 0, none⟩ = some (.int .i64 5) ∧ w'.cell? ⟨w.heap.size, 1, none⟩ = some (.int .i64 a) ∧ w'.cell? ⟨w.heap.size, 2, none⟩ = some (.string t))) (by kernel_rfl) ⟨by simp, by simp, by simp⟩ (fun hHeld => ?_)
      refine wpAnyH_take (i := 0) rfl (by kernel_rfl) (by kernel_rfl) (by kernel_rfl) (fun _ _ _ h => h) (Or.inl ⟨by kernel_rfl, by rintro w ⟨q0, q1, q2⟩; go_simp; try with_reducible rfl⟩) (by assumption) ?_
      refine wpAnyH_take (i := 1) rfl (by kernel_rfl) (by kernel_rfl) (by kernel_rfl) (fun _ _ _ h => h) (Or.inl ⟨by kernel_rfl, by rintro w ⟨q0, q1, q2⟩; go_simp; try with_reducible rfl⟩) (by assumption) ?_
      refine wpAnyH_ready (rs := [2]) (by kernel_rfl) (by simp) (AllReadyH.cons rfl (fun K hK => ?_) AllReadyH.nil)
      go_simp
      refine (HR.out _).mono ?_
      rintro e w1 ⟨rfl, hb⟩
      obtain ⟨k1, _⟩ := keepC hb (g := w.heap.size) (by simp)
      have HB := Lib.hid (bthen ((Below.refl _ w).alloc (Nat.le_refl _) _).drew hb (by simp))
      have l1 : w.heap.size < w1.heap.size := by have z1 := hb.size; simp at z1; omega
      clear hb
      refine hK.out _ _ ⟨by simp [k1], by simp [k1], by simp [k1]⟩ (fun hHeld => ?_)
      clear hK K
      refine wpAnyH_take (i := 3) rfl (by kernel_rfl) (by kernel_rfl) (by kernel_rfl) (fun _ _ _ h => h) (Or.inl ⟨by kernel_rfl, by rintro w ⟨q0, q1, q2⟩; go_simp; try with_reducible rfl⟩) (by assumption) ?_
      refine wpAnyH_take (i := 4) rfl (by kernel_rfl) (by kernel_rfl) (by kernel_rfl) (fun _ _ _ h => h) (Or.inl ⟨by kernel_rfl, by rintro w ⟨q0, q1, q2⟩; go_simp; try with_reducible rfl⟩) (by assumption) ?_
      refine wpAnyH_take (i := 6) rfl (by kernel_rfl) (by kernel_rfl) (by kernel_rfl) (fun _ _ _ h => h) (Or.inl ⟨by kernel_rfl, by rintro w ⟨q0, q1, q2⟩; go_simp; try with_reducible rfl⟩) (by assumption) ?_
      refine wpAnyH_ready (rs := [5]) (by kernel_rfl) (by simp) (AllReadyH.cons rfl (fun K hK => ?_) AllReadyH.nil)
      go_simp
      refine (HF.out _).mono ?_
      rintro e w2 ⟨rfl, hb⟩
      obtain ⟨k2, _⟩ := keepC hb (g := w.heap.size) l1
      have HB := Lib.hid (bthen HB.out hb (Nat.le_of_lt l1))
      clear hb
      refine hK.out _ _ ⟨by simp [k2, k1], by simp [k2, k1], by simp [k2, k1]⟩ (fun hHeld => ?_)
      clear hK K
      refine wpAnyH_take (i := 7) rfl (by kernel_rfl) (by kernel_rfl) (by kernel_rfl) (fun _ _ _ h => h) (Or.inl ⟨by kernel_rfl, by rintro w ⟨q0, q1, q2⟩; go_simp; try with_reducible rfl⟩) (by assumption) ?_
      refine wpAnyH_take (i := 8) rfl (by kernel_rfl) (by kernel_rfl) (by kernel_rfl) (fun _ _ _ h => h) (Or.inl ⟨by kernel_rfl, by rintro w ⟨q0, q1, q2⟩; go_simp; try with_reducible rfl⟩) (by assumption) ?_
      refine wpAnyH_take (i := 9) rfl (by kernel_rfl) (by kernel_rfl) (by kernel_rfl) (fun _ _ _ h => h) (Or.inl ⟨by kernel_rfl, by rintro w ⟨q0, q1, q2⟩; go_simp; try with_reducible rfl⟩) (by assumption) ?_
      refine wpAnyH_take (i := 10) rfl (by kernel_rfl) (by kernel_rfl) (by kernel_rfl) (fun _ _ _ h => h) (Or.inl ⟨by kernel_rfl, by rintro w ⟨q0, q1, q2⟩; go_simp; try with_reducible rfl⟩) (by assumption) ?_
      refine wpAnyH_done (by kernel_rfl) ?_ _
      go_simp
      go_wp2
      exact bodyPost_ret (v := .tuple #[.iface 63 (.agg #[.string t]), .bool false]) (by simp [results, Try.results20, go_sem]) rfl ⟨rfl, HB.out⟩
set_option maxHeartbeats 1000000 in
theorem saidBy_6 (a : Int) (t : ByteArray) (ht : t.size ≤ 281474976710656) (w : World) :
    Calls Try.prog 20 #[fV 6 a t] w fun e w' => e = .returned (.tuple #[sV 6 a t, .bool (frB 6 a t)]) ∧ Below w.heap.size w w' := by
  have hm : t.size ≤ maxLen := by unfold maxLen; omega
  have HR := Lib.hid (bellR_any)
  have HF := Lib.hid (frameOf_6 a t ht)
  rw [nV_6, sV_6] at HF
  rw [frB_6, sV_6]
  unfold fV at HF ⊢
  clear hm ht
  have hcm := rightM_6
  by_cases hz : a = 0
  · subst hz
    by_cases hy : t.size = 0
    · obtain rfl := size_nil hy
      go_enter Try.func20, Try.ntmps20
      go_wp2_with fail
      refine wp_region_held_drew (S := (fun w' => w'.cell? ⟨w.heap.size, 0, none⟩ = some (.int .i64 6) ∧ w'.cell? ⟨w.heap.size, 1, none⟩ = some (.int .i64 0) ∧ w'.cell? ⟨w.heap.size, 2, none⟩ = some (.string ⟨#[]⟩))) (by kernel_rfl) ⟨by simp, by simp, by simp⟩ (fun hHeld => ?_)
      refine wpAnyH_take (i := 0) rfl (by kernel_rfl) (by kernel_rfl) (by kernel_rfl) (fun _ _ _ h => h) (Or.inl ⟨by kernel_rfl, by rintro w ⟨q0, q1, q2⟩; go_simp; try with_reducible rfl⟩) (by assumption) ?_
      refine wpAnyH_take (i := 1) rfl (by kernel_rfl) (by kernel_rfl) (by kernel_rfl) (fun _ _ _ h => h) (Or.inl ⟨by kernel_rfl, by rintro w ⟨q0, q1, q2⟩; go_simp; try with_reducible rfl⟩) (by assumption) ?_
      refine wpAnyH_ready (rs := [2]) (by kernel_rfl) (by simp) (AllReadyH.cons rfl (fun K hK => ?_) AllReadyH.nil)
      go_simp
      refine (HR.out _).mono ?_
      rintro e w1 ⟨rfl, hb⟩
      obtain ⟨k1, _⟩ := keepC hb (g := w.heap.size) (by simp)
      have HB := Lib.hid (bthen ((Below.refl _ w).alloc (Nat.le_refl _) _).drew hb (by simp))
      have l1 : w.heap.size < w1.heap.size := by have z1 := hb.size; simp at z1; omega
      clear hb
      refine hK.out _ _ ⟨by simp [k1], by simp [k1], by simp [k1]⟩ (fun hHeld => ?_)
      clear hK K
      refine wpAnyH_take (i := 3) rfl (by kernel_rfl) (by kernel_rfl) (by kernel_rfl) (fun _ _ _ h => h) (Or.inl ⟨by kernel_rfl, by rintro w ⟨q0, q1, q2⟩; go_simp; try with_reducible rfl⟩) (by assumption) ?_
      refine wpAnyH_take (i := 4) rfl (by kernel_rfl) (by kernel_rfl) (by kernel_rfl) (fun _ _ _ h => h) (Or.inl ⟨by kernel_rfl, by rintro w ⟨q0, q1, q2⟩; go_simp; try with_reducible rfl⟩) (by assumption) ?_
      refine wpAnyH_take (i := 6) rfl (by kernel_rfl) (by kernel_rfl) (by kernel_rfl) (fun _ _ _ h => h) (Or.inl ⟨by kernel_rfl, by rintro w ⟨q0, q1, q2⟩; go_simp; try with_reducible rfl⟩) (by assumption) ?_
      refine wpAnyH_ready (rs := [5]) (by kernel_rfl) (by simp) (AllReadyH.cons rfl (fun K hK => ?_) AllReadyH.nil)
      go_simp
      refine (HF.out _).mono ?_
      rintro e w2 ⟨rfl, hb⟩
      obtain ⟨k2, _⟩ := keepC hb (g := w.heap.size) l1
      have HB := Lib.hid (bthen HB.out hb (Nat.le_of_lt l1))
      clear hb
      refine hK.out _ _ ⟨by simp [k2, k1], by simp [k2, k1], by simp [k2, k1]⟩ (fun hHeld => ?_)
      clear hK K
      refine wpAnyH_take (i := 7) rfl (by kernel_rfl) (by kernel_rfl) (by kernel_rfl) (fun _ _ _ h => h) (Or.inl ⟨by kernel_rfl, by rintro w ⟨q0, q1, q2⟩; go_simp; try with_reducible rfl⟩) (by assumption) ?_
      refine wpAnyH_take (i := 8) rfl (by kernel_rfl) (by kernel_rfl) (by kernel_rfl) (fun _ _ _ h => h) (Or.inl ⟨by kernel_rfl, by rintro w ⟨q0, q1, q2⟩; go_simp; try with_reducible rfl⟩) (by assumption) ?_
      refine wpAnyH_take (i := 9) rfl (by kernel_rfl) (by kernel_rfl) (by kernel_rfl) (fun _ _ _ h => h) (Or.inl ⟨by kernel_rfl, by rintro w ⟨q0, q1, q2⟩; go_simp; try with_reducible rfl⟩) (by assumption) ?_
      refine wpAnyH_take (i := 10) rfl (by kernel_rfl) (by kernel_rfl) (by kernel_rfl) (fun _ _ _ h => h) (Or.inl ⟨by kernel_rfl, by rintro w ⟨q0, q1, q2⟩; go_simp; try with_reducible rfl⟩) (by assumption) ?_
      refine wpAnyH_done (by kernel_rfl) ?_ _
      go_simp
      go_wp2
      exact bodyPost_ret (v := .tuple #[.iface 65 (.agg #[]), .bool true]) (by simp [results, Try.results20, go_sem]) rfl ⟨rfl, HB.out⟩
    · have hem := empty_f (s := t) (by omega)
      have hz' : decide (t.size = 0) = false := by simpa using hy
      rw [hz', Bool.and_false]
      go_enter Try.func20, Try.ntmps20
      go_wp2_with fail
      refine wp_region_held_drew (S := (fun w' => w'.cell? ⟨w.heap.size, 0, none⟩ = some (.int .i64 6) ∧ w'.cell? ⟨w.heap.size, 1, none⟩ = some (.int .i64 0) ∧ w'.cell? ⟨w.heap.size, 2, none⟩ = some (.string t))) (by kernel_rfl) ⟨by simp, by simp, by simp⟩ (fun hHeld => ?_)
      refine wpAnyH_take (i := 0) rfl (by kernel_rfl) (by kernel_rfl) (by kernel_rfl) (fun _ _ _ h => h) (Or.inl ⟨by kernel_rfl, by rintro w ⟨q0, q1, q2⟩; go_simp; try with_reducible rfl⟩) (by assumption) ?_
      refine wpAnyH_take (i := 1) rfl (by kernel_rfl) (by kernel_rfl) (by kernel_rfl) (fun _ _ _ h => h) (Or.inl ⟨by kernel_rfl, by rintro w ⟨q0, q1, q2⟩; go_simp; try with_reducible rfl⟩) (by assumption) ?_
      refine wpAnyH_ready (rs := [2]) (by kernel_rfl) (by simp) (AllReadyH.cons rfl (fun K hK => ?_) AllReadyH.nil)
      go_simp
      refine (HR.out _).mono ?_
      rintro e w1 ⟨rfl, hb⟩
      obtain ⟨k1, _⟩ := keepC hb (g := w.heap.size) (by simp)
      have HB := Lib.hid (bthen ((Below.refl _ w).alloc (Nat.le_refl _) _).drew hb (by simp))
      have l1 : w.heap.size < w1.heap.size := by have z1 := hb.size; simp at z1; omega
      clear hb
      refine hK.out _ _ ⟨by simp [k1], by simp [k1], by simp [k1]⟩ (fun hHeld => ?_)
      clear hK K
      refine wpAnyH_take (i := 3) rfl (by kernel_rfl) (by kernel_rfl) (by kernel_rfl) (fun _ _ _ h => h) (Or.inl ⟨by kernel_rfl, by rintro w ⟨q0, q1, q2⟩; go_simp; try with_reducible rfl⟩) (by assumption) ?_
      refine wpAnyH_take (i := 4) rfl (by kernel_rfl) (by kernel_rfl) (by kernel_rfl) (fun _ _ _ h => h) (Or.inl ⟨by kernel_rfl, by rintro w ⟨q0, q1, q2⟩; go_simp; try with_reducible rfl⟩) (by assumption) ?_
      refine wpAnyH_take (i := 6) rfl (by kernel_rfl) (by kernel_rfl) (by kernel_rfl) (fun _ _ _ h => h) (Or.inl ⟨by kernel_rfl, by rintro w ⟨q0, q1, q2⟩; go_simp; try with_reducible rfl⟩) (by assumption) ?_
      refine wpAnyH_ready (rs := [5]) (by kernel_rfl) (by simp) (AllReadyH.cons rfl (fun K hK => ?_) AllReadyH.nil)
      go_simp
      refine (HF.out _).mono ?_
      rintro e w2 ⟨rfl, hb⟩
      obtain ⟨k2, _⟩ := keepC hb (g := w.heap.size) l1
      have HB := Lib.hid (bthen HB.out hb (Nat.le_of_lt l1))
      clear hb
      refine hK.out _ _ ⟨by simp [k2, k1], by simp [k2, k1], by simp [k2, k1]⟩ (fun hHeld => ?_)
      clear hK K
      refine wpAnyH_take (i := 7) rfl (by kernel_rfl) (by kernel_rfl) (by kernel_rfl) (fun _ _ _ h => h) (Or.inl ⟨by kernel_rfl, by rintro w ⟨q0, q1, q2⟩; go_simp; try with_reducible rfl⟩) (by assumption) ?_
      refine wpAnyH_take (i := 8) rfl (by kernel_rfl) (by kernel_rfl) (by kernel_rfl) (fun _ _ _ h => h) (Or.inl ⟨by kernel_rfl, by rintro w ⟨q0, q1, q2⟩; go_simp; try with_reducible rfl⟩) (by assumption) ?_
      refine wpAnyH_take (i := 9) rfl (by kernel_rfl) (by kernel_rfl) (by kernel_rfl) (fun _ _ _ h => h) (Or.inl ⟨by kernel_rfl, by rintro w ⟨q0, q1, q2⟩; go_simp; try with_reducible rfl⟩) (by assumption) ?_
      refine wpAnyH_take (i := 10) rfl (by kernel_rfl) (by kernel_rfl) (by kernel_rfl) (fun _ _ _ h => h) (Or.inl ⟨by kernel_rfl, by rintro w ⟨q0, q1, q2⟩; go_simp; try with_reducible rfl⟩) (by assumption) ?_
      refine wpAnyH_done (by kernel_rfl) ?_ _
      go_simp
      go_wp2
      exact bodyPost_ret (v := .tuple #[.iface 65 (.agg #[]), .bool false]) (by simp [results, Try.results20, go_sem]) rfl ⟨rfl, HB.out⟩
  · have hz' : decide (a = 0) = false := by simpa using hz
    have hz2 : (0 == a) = false := by simp; omega
    rw [hz', Bool.false_and]
    go_enter Try.func20, Try.ntmps20
    go_wp2_with fail
    refine wp_region_held_drew (S := (fun w' => w'.cell? ⟨w.heap.size, 0, none⟩ = some (.int .i64 6) ∧ w'.cell? ⟨w.heap.size, 1, none⟩ = some (.int .i64 a) ∧ w'.cell? ⟨w.heap.size, 2, none⟩ = some (.string t))) (by kernel_rfl) ⟨by simp, by simp, by simp⟩ (fun hHeld => ?_)
    refine wpAnyH_take (i := 0) rfl (by kernel_rfl) (by kernel_rfl) (by kernel_rfl) (fun _ _ _ h => h) (Or.inl ⟨by kernel_rfl, by rintro w ⟨q0, q1, q2⟩; go_simp; try with_reducible rfl⟩) (by assumption) ?_
    refine wpAnyH_take (i := 1) rfl (by kernel_rfl) (by kernel_rfl) (by kernel_rfl) (fun _ _ _ h => h) (Or.inl ⟨by kernel_rfl, by rintro w ⟨q0, q1, q2⟩; go_simp; try with_reducible rfl⟩) (by assumption) ?_
    refine wpAnyH_ready (rs := [2]) (by kernel_rfl) (by simp) (AllReadyH.cons rfl (fun K hK => ?_) AllReadyH.nil)
    go_simp
    refine (HR.out _).mono ?_
    rintro e w1 ⟨rfl, hb⟩
    obtain ⟨k1, _⟩ := keepC hb (g := w.heap.size) (by simp)
    have HB := Lib.hid (bthen ((Below.refl _ w).alloc (Nat.le_refl _) _).drew hb (by simp))
    have l1 : w.heap.size < w1.heap.size := by have z1 := hb.size; simp at z1; omega
    clear hb
    refine hK.out _ _ ⟨by simp [k1], by simp [k1], by simp [k1]⟩ (fun hHeld => ?_)
    clear hK K
    refine wpAnyH_take (i := 3) rfl (by kernel_rfl) (by kernel_rfl) (by kernel_rfl) (fun _ _ _ h => h) (Or.inl ⟨by kernel_rfl, by rintro w ⟨q0, q1, q2⟩; go_simp; try with_reducible rfl⟩) (by assumption) ?_
    refine wpAnyH_take (i := 4) rfl (by kernel_rfl) (by kernel_rfl) (by kernel_rfl) (fun _ _ _ h => h) (Or.inl ⟨by kernel_rfl, by rintro w ⟨q0, q1, q2⟩; go_simp; try with_reducible rfl⟩) (by assumption) ?_
    refine wpAnyH_take (i := 6) rfl (by kernel_rfl) (by kernel_rfl) (by kernel_rfl) (fun _ _ _ h => h) (Or.inl ⟨by kernel_rfl, by rintro w ⟨q0, q1, q2⟩; go_simp; try with_reducible rfl⟩) (by assumption) ?_
    refine wpAnyH_ready (rs := [5]) (by kernel_rfl) (by simp) (AllReadyH.cons rfl (fun K hK => ?_) AllReadyH.nil)
    go_simp
    refine (HF.out _).mono ?_
    rintro e w2 ⟨rfl, hb⟩
    obtain ⟨k2, _⟩ := keepC hb (g := w.heap.size) l1
    have HB := Lib.hid (bthen HB.out hb (Nat.le_of_lt l1))
    clear hb
    refine hK.out _ _ ⟨by simp [k2, k1], by simp [k2, k1], by simp [k2, k1]⟩ (fun hHeld => ?_)
    clear hK K
    refine wpAnyH_take (i := 7) rfl (by kernel_rfl) (by kernel_rfl) (by kernel_rfl) (fun _ _ _ h => h) (Or.inl ⟨by kernel_rfl, by rintro w ⟨q0, q1, q2⟩; go_simp; try with_reducible rfl⟩) (by assumption) ?_
    refine wpAnyH_take (i := 8) rfl (by kernel_rfl) (by kernel_rfl) (by kernel_rfl) (fun _ _ _ h => h) (Or.inl ⟨by kernel_rfl, by rintro w ⟨q0, q1, q2⟩; go_simp; try with_reducible rfl⟩) (by assumption) ?_
    refine wpAnyH_take (i := 9) rfl (by kernel_rfl) (by kernel_rfl) (by kernel_rfl) (fun _ _ _ h => h) (Or.inl ⟨by kernel_rfl, by rintro w ⟨q0, q1, q2⟩; go_simp; try with_reducible rfl⟩) (by assumption) ?_
    refine wpAnyH_take (i := 10) rfl (by kernel_rfl) (by kernel_rfl) (by kernel_rfl) (fun _ _ _ h => h) (Or.inl ⟨by kernel_rfl, by rintro w ⟨q0, q1, q2⟩; go_simp; try with_reducible rfl⟩) (by assumption) ?_
    refine wpAnyH_done (by kernel_rfl) ?_ _
    go_simp
    go_wp2
    exact bodyPost_ret (v := .tuple #[.iface 65 (.agg #[]), .bool false]) (by simp [results, Try.results20, go_sem]) rfl ⟨rfl, HB.out⟩
set_option maxHeartbeats 1000000 in
theorem saidBy_7 (a : Int) (t : ByteArray) (ht : t.size ≤ 281474976710656) (w : World) :
    Calls Try.prog 20 #[fV 7 a t] w fun e w' => e = .returned (.tuple #[sV 7 a t, .bool (frB 7 a t)]) ∧ Below w.heap.size w w' := by
  have hm : t.size ≤ maxLen := by unfold maxLen; omega
  have HR := Lib.hid (doneR_any t hm)
  have HF := Lib.hid (frameOf_7 a t ht)
  rw [nV_7, sV_7] at HF
  rw [frB_7, sV_7]
  unfold fV at HF ⊢
  clear hm ht
  have hcm := rightM_7 t
  obtain ⟨R, hR⟩ : ∃ R, R = (textB t) := ⟨_, rfl⟩
  rw [← hR] at HR ⊢
  clear hR
  cases R
  · rw [Bool.and_false]
    go_enter Try.func20, Try.ntmps20
    go_wp2_with fail
    refine wp_region_held_drew (S := (fun w' => w'.cell? ⟨w.heap.size, 0, none⟩ = some (.int .i64 7) ∧ w'.cell? ⟨w.heap.size, 1, none⟩ = some (.int .i64 a) ∧ w'.cell? ⟨w.heap.size, 2, none⟩ = some (.string t))) (by kernel_rfl) ⟨by simp, by simp, by simp⟩ (fun hHeld => ?_)
    refine wpAnyH_take (i := 0) rfl (by kernel_rfl) (by kernel_rfl) (by kernel_rfl) (fun _ _ _ h => h) (Or.inl ⟨by kernel_rfl, by rintro w ⟨q0, q1, q2⟩; go_simp; try with_reducible rfl⟩) (by assumption) ?_
    refine wpAnyH_take (i := 1) rfl (by kernel_rfl) (by kernel_rfl) (by kernel_rfl) (fun _ _ _ h => h) (Or.inl ⟨by kernel_rfl, by rintro w ⟨q0, q1, q2⟩; go_simp; try with_reducible rfl⟩) (by assumption) ?_
    refine wpAnyH_ready (rs := [2]) (by kernel_rfl) (by simp) (AllReadyH.cons rfl (fun K hK => ?_) AllReadyH.nil)
    go_simp
    refine (HR.out _).mono ?_
    rintro e w1 ⟨rfl, hb⟩
    obtain ⟨k1, _⟩ := keepC hb (g := w.heap.size) (by simp)
    have HB := Lib.hid (bthen ((Below.refl _ w).alloc (Nat.le_refl _) _).drew hb (by simp))
    have l1 : w.heap.size < w1.heap.size := by have z1 := hb.size; simp at z1; omega
    clear hb
    refine hK.out _ _ ⟨by simp [k1], by simp [k1], by simp [k1]⟩ (fun hHeld => ?_)
    clear hK K
    refine wpAnyH_take (i := 3) rfl (by kernel_rfl) (by kernel_rfl) (by kernel_rfl) (fun _ _ _ h => h) (Or.inl ⟨by kernel_rfl, by rintro w ⟨q0, q1, q2⟩; go_simp; try with_reducible rfl⟩) (by assumption) ?_
    refine wpAnyH_take (i := 4) (v := undef) rfl (by kernel_rfl) (by kernel_rfl) (by kernel_rfl) (fun _ _ _ h => h) (Or.inr ⟨by kernel_rfl, rfl⟩) (by assumption) ?_
    refine wpAnyH_take (i := 6) (v := undef) rfl (by kernel_rfl) (by kernel_rfl) (by kernel_rfl) (fun _ _ _ h => h) (Or.inr ⟨by kernel_rfl, rfl⟩) (by assumption) ?_
    refine wpAnyH_take (i := 5) (v := undef) rfl (by kernel_rfl) (by kernel_rfl) (by kernel_rfl) (fun _ _ _ h => h) (Or.inr ⟨by kernel_rfl, rfl⟩) (by assumption) ?_
    refine wpAnyH_take (i := 7) (v := undef) rfl (by kernel_rfl) (by kernel_rfl) (by kernel_rfl) (fun _ _ _ h => h) (Or.inr ⟨by kernel_rfl, rfl⟩) (by assumption) ?_
    refine wpAnyH_take (i := 8) rfl (by kernel_rfl) (by kernel_rfl) (by kernel_rfl) (fun _ _ _ h => h) (Or.inl ⟨by kernel_rfl, by rintro w ⟨q0, q1, q2⟩; go_simp; try with_reducible rfl⟩) (by assumption) ?_
    refine wpAnyH_take (i := 9) rfl (by kernel_rfl) (by kernel_rfl) (by kernel_rfl) (fun _ _ _ h => h) (Or.inl ⟨by kernel_rfl, by rintro w ⟨q0, q1, q2⟩; go_simp; try with_reducible rfl⟩) (by assumption) ?_
    refine wpAnyH_take (i := 10) rfl (by kernel_rfl) (by kernel_rfl) (by kernel_rfl) (fun _ _ _ h => h) (Or.inl ⟨by kernel_rfl, by rintro w ⟨q0, q1, q2⟩; go_simp; try with_reducible rfl⟩) (by assumption) ?_
    refine wpAnyH_done (by kernel_rfl) ?_ _
    go_simp
    go_wp2
    exact bodyPost_ret (v := .tuple #[.iface 66 (.agg #[.string t]), .bool false]) (by simp [results, Try.results20, go_sem]) rfl ⟨rfl, HB.out⟩
  · rw [Bool.and_true]
    by_cases hz : a = 0
    · subst hz
      rw [decide_eq_true (by rfl)]
      go_enter Try.func20, Try.ntmps20
      go_wp2_with fail
      refine wp_region_held_drew (S := (fun w' => w'.cell? ⟨w.heap.size, 0, none⟩ = some (.int .i64 7) ∧ w'.cell? ⟨w.heap.size, 1, none⟩ = some (.int .i64 0) ∧ w'.cell? ⟨w.heap.size, 2, none⟩ = some (.string t))) (by kernel_rfl) ⟨by simp, by simp, by simp⟩ (fun hHeld => ?_)
      refine wpAnyH_take (i := 0) rfl (by kernel_rfl) (by kernel_rfl) (by kernel_rfl) (fun _ _ _ h => h) (Or.inl ⟨by kernel_rfl, by rintro w ⟨q0, q1, q2⟩; go_simp; try with_reducible rfl⟩) (by assumption) ?_
      refine wpAnyH_take (i := 1) rfl (by kernel_rfl) (by kernel_rfl) (by kernel_rfl) (fun _ _ _ h => h) (Or.inl ⟨by kernel_rfl, by rintro w ⟨q0, q1, q2⟩; go_simp; try with_reducible rfl⟩) (by assumption) ?_
      refine wpAnyH_ready (rs := [2]) (by kernel_rfl) (by simp) (AllReadyH.cons rfl (fun K hK => ?_) AllReadyH.nil)
      go_simp
      refine (HR.out _).mono ?_
      rintro e w1 ⟨rfl, hb⟩
      obtain ⟨k1, _⟩ := keepC hb (g := w.heap.size) (by simp)
      have HB := Lib.hid (bthen ((Below.refl _ w).alloc (Nat.le_refl _) _).drew hb (by simp))
      have l1 : w.heap.size < w1.heap.size := by have z1 := hb.size; simp at z1; omega
      clear hb
      refine hK.out _ _ ⟨by simp [k1], by simp [k1], by simp [k1]⟩ (fun hHeld => ?_)
      clear hK K
      refine wpAnyH_take (i := 3) rfl (by kernel_rfl) (by kernel_rfl) (by kernel_rfl) (fun _ _ _ h => h) (Or.inl ⟨by kernel_rfl, by rintro w ⟨q0, q1, q2⟩; go_simp; try with_reducible rfl⟩) (by assumption) ?_
      refine wpAnyH_take (i := 4) rfl (by kernel_rfl) (by kernel_rfl) (by kernel_rfl) (fun _ _ _ h => h) (Or.inl ⟨by kernel_rfl, by rintro w ⟨q0, q1, q2⟩; go_simp; try with_reducible rfl⟩) (by assumption) ?_
      refine wpAnyH_take (i := 6) rfl (by kernel_rfl) (by kernel_rfl) (by kernel_rfl) (fun _ _ _ h => h) (Or.inl ⟨by kernel_rfl, by rintro w ⟨q0, q1, q2⟩; go_simp; try with_reducible rfl⟩) (by assumption) ?_
      refine wpAnyH_ready (rs := [5]) (by kernel_rfl) (by simp) (AllReadyH.cons rfl (fun K hK => ?_) AllReadyH.nil)
      go_simp
      refine (HF.out _).mono ?_
      rintro e w2 ⟨rfl, hb⟩
      obtain ⟨k2, _⟩ := keepC hb (g := w.heap.size) l1
      have HB := Lib.hid (bthen HB.out hb (Nat.le_of_lt l1))
      clear hb
      refine hK.out _ _ ⟨by simp [k2, k1], by simp [k2, k1], by simp [k2, k1]⟩ (fun hHeld => ?_)
      clear hK K
      refine wpAnyH_take (i := 7) rfl (by kernel_rfl) (by kernel_rfl) (by kernel_rfl) (fun _ _ _ h => h) (Or.inl ⟨by kernel_rfl, by rintro w ⟨q0, q1, q2⟩; go_simp; try with_reducible rfl⟩) (by assumption) ?_
      refine wpAnyH_take (i := 8) rfl (by kernel_rfl) (by kernel_rfl) (by kernel_rfl) (fun _ _ _ h => h) (Or.inl ⟨by kernel_rfl, by rintro w ⟨q0, q1, q2⟩; go_simp; try with_reducible rfl⟩) (by assumption) ?_
      refine wpAnyH_take (i := 9) rfl (by kernel_rfl) (by kernel_rfl) (by kernel_rfl) (fun _ _ _ h => h) (Or.inl ⟨by kernel_rfl, by rintro w ⟨q0, q1, q2⟩; go_simp; try with_reducible rfl⟩) (by assumption) ?_
      refine wpAnyH_take (i := 10) rfl (by kernel_rfl) (by kernel_rfl) (by kernel_rfl) (fun _ _ _ h => h) (Or.inl ⟨by kernel_rfl, by rintro w ⟨q0, q1, q2⟩; go_simp; try with_reducible rfl⟩) (by assumption) ?_
      refine wpAnyH_done (by kernel_rfl) ?_ _
      go_simp
      go_wp2
      exact bodyPost_ret (v := .tuple #[.iface 66 (.agg #[.string t]), .bool true]) (by simp [results, Try.results20, go_sem]) rfl ⟨rfl, HB.out⟩
    · have hz' : decide (a = 0) = false := by simpa using hz
      have hz2 : (0 == a) = false := by simp; omega
      rw [hz']
      go_enter Try.func20, Try.ntmps20
      go_wp2_with fail
      refine wp_region_held_drew (S := (fun w' => w'.cell? ⟨w.heap.size, 0, none⟩ = some (.int .i64 7) ∧ w'.cell? ⟨w.heap.size, 1, none⟩ = some (.int .i64 a) ∧ w'.cell? ⟨w.heap.size, 2, none⟩ = some (.string t))) (by kernel_rfl) ⟨by simp, by simp, by simp⟩ (fun hHeld => ?_)
      refine wpAnyH_take (i := 0) rfl (by kernel_rfl) (by kernel_rfl) (by kernel_rfl) (fun _ _ _ h => h) (Or.inl ⟨by kernel_rfl, by rintro w ⟨q0, q1, q2⟩; go_simp; try with_reducible rfl⟩) (by assumption) ?_
      refine wpAnyH_take (i := 1) rfl (by kernel_rfl) (by kernel_rfl) (by kernel_rfl) (fun _ _ _ h => h) (Or.inl ⟨by kernel_rfl, by rintro w ⟨q0, q1, q2⟩; go_simp; try with_reducible rfl⟩) (by assumption) ?_
      refine wpAnyH_ready (rs := [2]) (by kernel_rfl) (by simp) (AllReadyH.cons rfl (fun K hK => ?_) AllReadyH.nil)
      go_simp
      refine (HR.out _).mono ?_
      rintro e w1 ⟨rfl, hb⟩
      obtain ⟨k1, _⟩ := keepC hb (g := w.heap.size) (by simp)
      have HB := Lib.hid (bthen ((Below.refl _ w).alloc (Nat.le_refl _) _).drew hb (by simp))
      have l1 : w.heap.size < w1.heap.size := by have z1 := hb.size; simp at z1; omega
      clear hb
      refine hK.out _ _ ⟨by simp [k1], by simp [k1], by simp [k1]⟩ (fun hHeld => ?_)
      clear hK K
      refine wpAnyH_take (i := 3) rfl (by kernel_rfl) (by kernel_rfl) (by kernel_rfl) (fun _ _ _ h => h) (Or.inl ⟨by kernel_rfl, by rintro w ⟨q0, q1, q2⟩; go_simp; try with_reducible rfl⟩) (by assumption) ?_
      refine wpAnyH_take (i := 4) rfl (by kernel_rfl) (by kernel_rfl) (by kernel_rfl) (fun _ _ _ h => h) (Or.inl ⟨by kernel_rfl, by rintro w ⟨q0, q1, q2⟩; go_simp; try with_reducible rfl⟩) (by assumption) ?_
      refine wpAnyH_take (i := 6) rfl (by kernel_rfl) (by kernel_rfl) (by kernel_rfl) (fun _ _ _ h => h) (Or.inl ⟨by kernel_rfl, by rintro w ⟨q0, q1, q2⟩; go_simp; try with_reducible rfl⟩) (by assumption) ?_
      refine wpAnyH_ready (rs := [5]) (by kernel_rfl) (by simp) (AllReadyH.cons rfl (fun K hK => ?_) AllReadyH.nil)
      go_simp
      refine (HF.out _).mono ?_
      rintro e w2 ⟨rfl, hb⟩
      obtain ⟨k2, _⟩ := keepC hb (g := w.heap.size) l1
      have HB := Lib.hid (bthen HB.out hb (Nat.le_of_lt l1))
      clear hb
      refine hK.out _ _ ⟨by simp [k2, k1], by simp [k2, k1], by simp [k2, k1]⟩ (fun hHeld => ?_)
      clear hK K
      refine wpAnyH_take (i := 7) rfl (by kernel_rfl) (by kernel_rfl) (by kernel_rfl) (fun _ _ _ h => h) (Or.inl ⟨by kernel_rfl, by rintro w ⟨q0, q1, q2⟩; go_simp; try with_reducible rfl⟩) (by assumption) ?_
      refine wpAnyH_take (i := 8) rfl (by kernel_rfl) (by kernel_rfl) (by kernel_rfl) (fun _ _ _ h => h) (Or.inl ⟨by kernel_rfl, by rintro w ⟨q0, q1, q2⟩; go_simp; try with_reducible rfl⟩) (by assumption) ?_
      refine wpAnyH_take (i := 9) rfl (by kernel_rfl) (by kernel_rfl) (by kernel_rfl) (fun _ _ _ h => h) (Or.inl ⟨by kernel_rfl, by rintro w ⟨q0, q1, q2⟩; go_simp; try with_reducible rfl⟩) (by assumption) ?_
      refine wpAnyH_take (i := 10) rfl (by kernel_rfl) (by kernel_rfl) (by kernel_rfl) (fun _ _ _ h => h) (Or.inl ⟨by kernel_rfl, by rintro w ⟨q0, q1, q2⟩; go_simp; try with_reducible rfl⟩) (by assumption) ?_
      refine wpAnyH_done (by kernel_rfl) ?_ _
      go_simp
      go_wp2
      exact bodyPost_ret (v := .tuple #[.iface 66 (.agg #[.string t]), .bool false]) (by simp [results, Try.results20, go_sem]) rfl ⟨rfl, HB.out⟩
end Go.Proofs.Ytlhfgpcanfpnfaa.frame
