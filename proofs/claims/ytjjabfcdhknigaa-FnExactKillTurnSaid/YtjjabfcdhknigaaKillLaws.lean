/-
  The walks of the laws of Kills, given what the program's function answers. Written by wip/tool/gen_killlaws.py.
-/
import Derived.Test.YtjjabfcdhknigaaKillModel
import Derived.Test.YtjjabfcdhknigaaTexts
import Derived.Deep.RegionHeld3
namespace Go.Proofs.Ytjjabfcdhknigaa.kill
open Go.ChangeShapes Go.WideShapes Go.ChangeAt Go.RowKit
open Go.Proofs.Ytjjabfcdhknigaa.strs Go.Proofs.Ytjjabfcdhknigaa.line
theorem putV_len {l : List ByteArray} {t : Int} {x : ByteArray} {more : Int} (h : l.length ≤ 5) : (putV l t x more).1.length ≤ 5 := by
  unfold putV
  split
  · exact h
  · show (trimV (midV l x more)).length ≤ 5
    have hm : (midV l x more).length ≤ 6 := by unfold midV; split <;> simp <;> omega
    unfold trimV
    split
    · rw [List.length_drop]; omega
    · omega
theorem specPut_len {l : List ByteArray} {t : Int} {x : ByteArray} {more : Int} (h : l.length ≤ 1048576) : (specPutV l t x more).1.length ≤ 1048576 := by
  unfold specPutV
  split
  · rename_i hk
    have := putV_len (t := t) (x := x) (more := more) (killsB_parts hk.1).1
    omega
  · exact h
set_option maxRecDepth 20000 in
set_option maxHeartbeats 3200000 in
theorem walkKR_of (a : Option Addr) (n C : Nat) (l : List ByteArray) (t : Int) (w : World) (s : IsTS w a n C l)
    (HI : ∀ g W, l.length ≤ 1048576 → (∀ s ∈ l, s.size ≤ 1048576) → SRow W (some ⟨g, 0, none⟩) l →
      Calls Try.prog 10 #[kV (some ⟨g, 0, none⟩) l.length l.length t] W fun e w' => e = .returned (.bool (killsB l t)) ∧ Below W.heap.size W w') :
    Calls Try.prog 3 #[kV a n C t] w fun e w' => e = .returned (.bool true) ∧ Below w.heap.size w w' := by
  obtain ⟨hlen, hmax, hnil, hrow, hsz⟩ := s
  subst hlen
  have hal := (Below.refl _ w).alloc (Nat.le_refl _) (.cells #[.slice a l.length C, .int .i64 t] 24)
  have HZ := Lib.hid (szKills_any a C l t 1048576 (by omega) (by omega) hmax hsz _ (hrow.below hal))
  have HB := Lib.hid hal
  rcases szV_or l with hv | ⟨hv, hn, hl⟩
  · rw [hv] at HZ
    clear hv HI hnil hrow hsz hmax hal
    unfold kV at *
    go_enter Try.func3, Try.ntmps3
    go_wp2_with fail
    refine HZ.out.mono ?_
    rintro e w1 ⟨rfl, hb1⟩
    have HX := Lib.hid (bthen HB.out hb1 (by simp))
    clear hb1
    go_wp2
    go_ret
    exact ⟨rfl, HX.out⟩
  · have HT := Lib.hid (fun w1 (hb : Below w.heap.size w w1) => toKills_any a C l t hn w1 (hrow.below hb))
    have HS := Lib.hid (fun g W (h : SRow W (some ⟨g, 0, none⟩) l) => specKills_any (some ⟨g, 0, none⟩) l.length l t hn (fun s hs => by have := hl s hs; unfold maxLen; omega) W h)
    have HP := Lib.hid (fun g W (h : SRow W (some ⟨g, 0, none⟩) l) => HI g W hn hl h)
    have HE := Lib.hid (fun g h W (h1 : SRow W (some ⟨g, 0, none⟩) l) (h2 : SRow W (some ⟨h, 0, none⟩) l) => eqKills_same (some ⟨g, 0, none⟩) (some ⟨h, 0, none⟩) l.length l.length l t hn W h1 h2)
    obtain ⟨Z, hZ⟩ : ∃ Z, Z = szV l 1048576 := ⟨_, rfl⟩
    rw [← hZ] at HZ hv
    obtain ⟨B, hB⟩ : ∃ B, B = killsB l t := ⟨_, rfl⟩
    rw [← hB] at HS HP
    obtain ⟨n, hn'⟩ : ∃ n, n = l.length := ⟨_, rfl⟩
    rw [← hn'] at HZ HT HS HP HE HB hn ⊢
    clear hnil hrow hsz hmax HI hZ hB hn' hl hal
    unfold kV at *
    go_enter Try.func3, Try.ntmps3
    have HX0 := Lib.hid (Below.refl w.heap.size w)
    have HA := Lib.hid ((Below.refl _ w).alloc (Nat.le_refl _) (.cells #[.slice a n C, .int .i64 t] 24))
    have HC := Lib.hid (HZ.out)
    go_wp2_with fail
    refine HC.out.mono ?_
    clear HC
    rintro e w1 ⟨rfl, hb⟩
    have hq := HX0.out.size
    have HX1 := Lib.hid (bthen (HX0.out.alloc HX0.out.size (.cells #[.slice a n C, .int .i64 t] 24)) hb (by first | (simp; done) | (simp; omega)))
    clear hq
    have T1 := Lib.hid (Nat.le_trans HA.out.size hb.size)
    obtain ⟨r, _⟩ := keepC hb (g := w.heap.size) (by simp)
    have v0c0 : w1.cell? ⟨w.heap.size, 0, none⟩ = some (.slice a n C) := by rw [r 0]; simp [go_sem]
    have v0c1 : w1.cell? ⟨w.heap.size, 1, none⟩ = some (.int .i64 t) := by rw [r 1]; simp [go_sem]
    have v0z : w.heap.size < w1.heap.size := by have := hb.size; simp at this; omega
    clear r
    have U0 := Lib.hid v0z
    clear HA
    clear hb 
    have HC := Lib.hid (HT.out _ HX1.out)
    go_wp2_with fail
    refine HC.out.mono ?_
    clear HC
    rintro e w2 ⟨g1, rfl, hx, _, hb⟩
    have HX2 := Lib.hid (bthen HX1.out hb HX1.out.size)
    have T2 := Lib.hid hb.size
    obtain ⟨r, _⟩ := keepC hb (g := w.heap.size) v0z
    have v0c0 := (r 0).trans v0c0
    have v0c1 := (r 1).trans v0c1
    have v0z := Nat.lt_of_lt_of_le v0z hb.size
    clear r
    have HX := Lib.hid hx
    clear hb hx
    have HC := Lib.hid (HS.out g1 _ HX.out)
    go_wp2_with fail
    refine HC.out.mono ?_
    clear HC
    rintro e w3 ⟨rfl, hb⟩
    have HX3 := Lib.hid (bthen HX2.out hb HX2.out.size)
    have T3 := Lib.hid hb.size
    obtain ⟨r, _⟩ := keepC hb (g := w.heap.size) v0z
    have v0c0 := (r 0).trans v0c0
    have v0c1 := (r 1).trans v0c1
    have v0z := Nat.lt_of_lt_of_le v0z hb.size
    clear r
    clear hb 
    have HC := Lib.hid (HT.out _ HX3.out)
    go_wp2_with fail
    refine HC.out.mono ?_
    clear HC
    rintro e w4 ⟨g2, rfl, hy, _, hb⟩
    have HX4 := Lib.hid (bthen HX3.out hb HX3.out.size)
    have T4 := Lib.hid hb.size
    obtain ⟨r, _⟩ := keepC hb (g := w.heap.size) v0z
    have v0c0 := (r 0).trans v0c0
    have v0c1 := (r 1).trans v0c1
    have v0z := Nat.lt_of_lt_of_le v0z hb.size
    clear r
    have HY := Lib.hid hy
    clear hb hy
    have HA := Lib.hid ((Below.refl _ w4).alloc (Nat.le_refl _) (.cells #[.slice (some ⟨g2, 0, none⟩) n n, .int .i64 t] 27))
    have HC := Lib.hid (HP.out g2 _ (HY.out.below HA.out))
    go_wp2_with fail
    refine HC.out.mono ?_
    clear HC
    rintro e w5 ⟨rfl, hb⟩
    have hq := HX4.out.size
    have HX5 := Lib.hid (bthen (HX4.out.alloc HX4.out.size (.cells #[.slice (some ⟨g2, 0, none⟩) n n, .int .i64 t] 27)) hb (by first | (simp; done) | (simp; omega)))
    clear hq
    have T5 := Lib.hid (Nat.le_trans HA.out.size hb.size)
    obtain ⟨r, _⟩ := keepC hb (g := w.heap.size) (by simp; omega)
    have v0c0 := (r 0).trans ((HA.out.cell (p := ⟨w.heap.size, 0, none⟩) v0z).trans v0c0)
    have v0c1 := (r 1).trans ((HA.out.cell (p := ⟨w.heap.size, 1, none⟩) v0z).trans v0c1)
    have v0z := Nat.lt_of_lt_of_le v0z (Nat.le_trans HA.out.size hb.size)
    clear r
    obtain ⟨r, _⟩ := keepC hb (g := w4.heap.size) (by simp)
    have v1c0 : w5.cell? ⟨w4.heap.size, 0, none⟩ = some (.slice (some ⟨g2, 0, none⟩) n n) := by rw [r 0]; simp [go_sem]
    have v1c1 : w5.cell? ⟨w4.heap.size, 1, none⟩ = some (.int .i64 t) := by rw [r 1]; simp [go_sem]
    have v1z : w4.heap.size < w5.heap.size := by have := hb.size; simp at this; omega
    clear r
    have U1 := Lib.hid v1z
    have HY := Lib.hid ((HY.out.below HA.out).below hb)
    clear HA
    clear hb 
    go_wp2
    have HS := Lib.hid (show RS w [(some ⟨g2, 0, none⟩, l)] [] [(w.heap.size, 0, .slice a n C), (w.heap.size, 1, .int .i64 t), (w4.heap.size, 0, .slice (some ⟨g2, 0, none⟩) n n), (w4.heap.size, 1, .int .i64 t)] w5.drew from RS.below ⟨HX5.out, by
      intro r hr
      simp only [List.mem_cons, List.not_mem_nil, or_false] at hr
      rcases hr with rfl
      · exact HY.out, fun _ h => absurd h List.not_mem_nil, by
      intro v hv
      simp only [List.mem_cons, List.not_mem_nil, or_false] at hv
      rcases hv with rfl | rfl | rfl | rfl
      · exact v0c0
      · exact v0c1
      · exact v1c0
      · exact v1c1⟩ (drew_below' _))
    clear v0c0 v0c1 v1c0 v1c1 v0z v1z
    have v0c0 := HS.out.vars (w.heap.size, 0, .slice a n C) (by simp)
    have v0c1 := HS.out.vars (w.heap.size, 1, .int .i64 t) (by simp)
    have v1c0 := HS.out.vars (w4.heap.size, 0, .slice (some ⟨g2, 0, none⟩) n n) (by simp)
    have v1c1 := HS.out.vars (w4.heap.size, 1, .int .i64 t) (by simp)
    go_region_held3 (fun w' => w'.cell? ⟨w.heap.size, 0, none⟩ = some (.slice a n C) ∧ w'.cell? ⟨w.heap.size, 1, none⟩ = some (.int .i64 t) ∧ w'.cell? ⟨w4.heap.size, 0, none⟩ = some (.slice (some ⟨g2, 0, none⟩) n n) ∧ w'.cell? ⟨w4.heap.size, 1, none⟩ = some (.int .i64 t)) (go_keep)
      (first
        | (go_at_call 9
           refine (HT.out _ HS.out.bel).mono ?_
           rintro e w6 ⟨gu, rfl, hu, _, hb⟩
           have HU := Lib.hid hu
           have HS := Lib.hid (HS.out.below hb)
           clear v0c0 v0c1 v1c0 v1c1
           have v0c0 := HS.out.vars (w.heap.size, 0, .slice a n C) (by simp)
           have v0c1 := HS.out.vars (w.heap.size, 1, .int .i64 t) (by simp)
           have v1c0 := HS.out.vars (w4.heap.size, 0, .slice (some ⟨g2, 0, none⟩) n n) (by simp)
           have v1c1 := HS.out.vars (w4.heap.size, 1, .int .i64 t) (by simp)
           clear hb hu)
        | (go_at_call 11
           refine (HE.out g2 gu _ (HS.out.rows (some ⟨g2, 0, none⟩, l) (by simp)) HU.out).mono ?_
           rintro e w7 ⟨rfl, hb⟩
           have HS := Lib.hid (HS.out.below hb)
           clear v0c0 v0c1 v1c0 v1c1
           have v0c0 := HS.out.vars (w.heap.size, 0, .slice a n C) (by simp)
           have v0c1 := HS.out.vars (w.heap.size, 1, .int .i64 t) (by simp)
           have v1c0 := HS.out.vars (w4.heap.size, 0, .slice (some ⟨g2, 0, none⟩) n n) (by simp)
           have v1c1 := HS.out.vars (w4.heap.size, 1, .int .i64 t) (by simp)
           clear hb))
    all_goals
      go_wp2
      go_ret
      exact ⟨rfl, HS.out.bel⟩
set_option maxRecDepth 20000 in
set_option maxHeartbeats 3200000 in
theorem walkTop_of (a : Option Addr) (n C : Nat) (l : List ByteArray) (t : Int) (w : World) (s : IsTS w a n C l)
    (HI : ∀ g W, l.length ≤ 1048576 → (∀ s ∈ l, s.size ≤ 1048576) → SRow W (some ⟨g, 0, none⟩) l →
      Calls Try.prog 13 #[kV (some ⟨g, 0, none⟩) l.length l.length t] W fun e w' => e = .returned (.string (topV l t)) ∧ Below W.heap.size W w') :
    Calls Try.prog 4 #[kV a n C t] w fun e w' => e = .returned (.bool true) ∧ Below w.heap.size w w' := by
  obtain ⟨hlen, hmax, hnil, hrow, hsz⟩ := s
  subst hlen
  have hal := (Below.refl _ w).alloc (Nat.le_refl _) (.cells #[.slice a l.length C, .int .i64 t] 24)
  have HZ := Lib.hid (szKills_any a C l t 1048576 (by omega) (by omega) hmax hsz _ (hrow.below hal))
  have HB := Lib.hid hal
  rcases szV_or l with hv | ⟨hv, hn, hl⟩
  · rw [hv] at HZ
    clear hv HI hnil hrow hsz hmax hal
    unfold kV at *
    go_enter Try.func4, Try.ntmps4
    go_wp2_with fail
    refine HZ.out.mono ?_
    rintro e w1 ⟨rfl, hb1⟩
    have HX := Lib.hid (bthen HB.out hb1 (by simp))
    clear hb1
    go_wp2
    go_ret
    exact ⟨rfl, HX.out⟩
  · have HT := Lib.hid (fun w1 (hb : Below w.heap.size w w1) => toKills_any a C l t hn w1 (hrow.below hb))
    have HS := Lib.hid (fun g W (h : SRow W (some ⟨g, 0, none⟩) l) => specTop_any (some ⟨g, 0, none⟩) l.length l t hn hl W h)
    have HP := Lib.hid (fun g W (h : SRow W (some ⟨g, 0, none⟩) l) => HI g W hn hl h)
    have HE := Lib.hid (fun g h W (h1 : SRow W (some ⟨g, 0, none⟩) l) (h2 : SRow W (some ⟨h, 0, none⟩) l) => eqKills_same (some ⟨g, 0, none⟩) (some ⟨h, 0, none⟩) l.length l.length l t hn W h1 h2)
    obtain ⟨Z, hZ⟩ : ∃ Z, Z = szV l 1048576 := ⟨_, rfl⟩
    rw [← hZ] at HZ hv
    obtain ⟨B, hB⟩ : ∃ B, B = topV l t := ⟨_, rfl⟩
    rw [← hB] at HS HP
    obtain ⟨n, hn'⟩ : ∃ n, n = l.length := ⟨_, rfl⟩
    rw [← hn'] at HZ HT HS HP HE HB hn ⊢
    clear hnil hrow hsz hmax HI hZ hB hn' hl hal
    unfold kV at *
    go_enter Try.func4, Try.ntmps4
    have HX0 := Lib.hid (Below.refl w.heap.size w)
    have HA := Lib.hid ((Below.refl _ w).alloc (Nat.le_refl _) (.cells #[.slice a n C, .int .i64 t] 24))
    have HC := Lib.hid (HZ.out)
    go_wp2_with fail
    refine HC.out.mono ?_
    clear HC
    rintro e w1 ⟨rfl, hb⟩
    have hq := HX0.out.size
    have HX1 := Lib.hid (bthen (HX0.out.alloc HX0.out.size (.cells #[.slice a n C, .int .i64 t] 24)) hb (by first | (simp; done) | (simp; omega)))
    clear hq
    have T1 := Lib.hid (Nat.le_trans HA.out.size hb.size)
    obtain ⟨r, _⟩ := keepC hb (g := w.heap.size) (by simp)
    have v0c0 : w1.cell? ⟨w.heap.size, 0, none⟩ = some (.slice a n C) := by rw [r 0]; simp [go_sem]
    have v0c1 : w1.cell? ⟨w.heap.size, 1, none⟩ = some (.int .i64 t) := by rw [r 1]; simp [go_sem]
    have v0z : w.heap.size < w1.heap.size := by have := hb.size; simp at this; omega
    clear r
    have U0 := Lib.hid v0z
    clear HA
    clear hb 
    have HC := Lib.hid (HT.out _ HX1.out)
    go_wp2_with fail
    refine HC.out.mono ?_
    clear HC
    rintro e w2 ⟨g1, rfl, hx, _, hb⟩
    have HX2 := Lib.hid (bthen HX1.out hb HX1.out.size)
    have T2 := Lib.hid hb.size
    obtain ⟨r, _⟩ := keepC hb (g := w.heap.size) v0z
    have v0c0 := (r 0).trans v0c0
    have v0c1 := (r 1).trans v0c1
    have v0z := Nat.lt_of_lt_of_le v0z hb.size
    clear r
    have HX := Lib.hid hx
    clear hb hx
    have HC := Lib.hid (HS.out g1 _ HX.out)
    go_wp2_with fail
    refine HC.out.mono ?_
    clear HC
    rintro e w3 ⟨rfl, hb⟩
    have HX3 := Lib.hid (bthen HX2.out hb HX2.out.size)
    have T3 := Lib.hid hb.size
    obtain ⟨r, _⟩ := keepC hb (g := w.heap.size) v0z
    have v0c0 := (r 0).trans v0c0
    have v0c1 := (r 1).trans v0c1
    have v0z := Nat.lt_of_lt_of_le v0z hb.size
    clear r
    clear hb 
    have HC := Lib.hid (HT.out _ HX3.out)
    go_wp2_with fail
    refine HC.out.mono ?_
    clear HC
    rintro e w4 ⟨g2, rfl, hy, _, hb⟩
    have HX4 := Lib.hid (bthen HX3.out hb HX3.out.size)
    have T4 := Lib.hid hb.size
    obtain ⟨r, _⟩ := keepC hb (g := w.heap.size) v0z
    have v0c0 := (r 0).trans v0c0
    have v0c1 := (r 1).trans v0c1
    have v0z := Nat.lt_of_lt_of_le v0z hb.size
    clear r
    have HY := Lib.hid hy
    clear hb hy
    have HA := Lib.hid ((Below.refl _ w4).alloc (Nat.le_refl _) (.cells #[.slice (some ⟨g2, 0, none⟩) n n, .int .i64 t] 27))
    have HC := Lib.hid (HP.out g2 _ (HY.out.below HA.out))
    go_wp2_with fail
    refine HC.out.mono ?_
    clear HC
    rintro e w5 ⟨rfl, hb⟩
    have hq := HX4.out.size
    have HX5 := Lib.hid (bthen (HX4.out.alloc HX4.out.size (.cells #[.slice (some ⟨g2, 0, none⟩) n n, .int .i64 t] 27)) hb (by first | (simp; done) | (simp; omega)))
    clear hq
    have T5 := Lib.hid (Nat.le_trans HA.out.size hb.size)
    obtain ⟨r, _⟩ := keepC hb (g := w.heap.size) (by simp; omega)
    have v0c0 := (r 0).trans ((HA.out.cell (p := ⟨w.heap.size, 0, none⟩) v0z).trans v0c0)
    have v0c1 := (r 1).trans ((HA.out.cell (p := ⟨w.heap.size, 1, none⟩) v0z).trans v0c1)
    have v0z := Nat.lt_of_lt_of_le v0z (Nat.le_trans HA.out.size hb.size)
    clear r
    obtain ⟨r, _⟩ := keepC hb (g := w4.heap.size) (by simp)
    have v1c0 : w5.cell? ⟨w4.heap.size, 0, none⟩ = some (.slice (some ⟨g2, 0, none⟩) n n) := by rw [r 0]; simp [go_sem]
    have v1c1 : w5.cell? ⟨w4.heap.size, 1, none⟩ = some (.int .i64 t) := by rw [r 1]; simp [go_sem]
    have v1z : w4.heap.size < w5.heap.size := by have := hb.size; simp at this; omega
    clear r
    have U1 := Lib.hid v1z
    have HY := Lib.hid ((HY.out.below HA.out).below hb)
    clear HA
    clear hb 
    go_wp2
    have HS := Lib.hid (show RS w [(some ⟨g2, 0, none⟩, l)] [] [(w.heap.size, 0, .slice a n C), (w.heap.size, 1, .int .i64 t), (w4.heap.size, 0, .slice (some ⟨g2, 0, none⟩) n n), (w4.heap.size, 1, .int .i64 t)] w5.drew from RS.below ⟨HX5.out, by
      intro r hr
      simp only [List.mem_cons, List.not_mem_nil, or_false] at hr
      rcases hr with rfl
      · exact HY.out, fun _ h => absurd h List.not_mem_nil, by
      intro v hv
      simp only [List.mem_cons, List.not_mem_nil, or_false] at hv
      rcases hv with rfl | rfl | rfl | rfl
      · exact v0c0
      · exact v0c1
      · exact v1c0
      · exact v1c1⟩ (drew_below' _))
    clear v0c0 v0c1 v1c0 v1c1 v0z v1z
    have v0c0 := HS.out.vars (w.heap.size, 0, .slice a n C) (by simp)
    have v0c1 := HS.out.vars (w.heap.size, 1, .int .i64 t) (by simp)
    have v1c0 := HS.out.vars (w4.heap.size, 0, .slice (some ⟨g2, 0, none⟩) n n) (by simp)
    have v1c1 := HS.out.vars (w4.heap.size, 1, .int .i64 t) (by simp)
    go_region_held3 (fun w' => w'.cell? ⟨w.heap.size, 0, none⟩ = some (.slice a n C) ∧ w'.cell? ⟨w.heap.size, 1, none⟩ = some (.int .i64 t) ∧ w'.cell? ⟨w4.heap.size, 0, none⟩ = some (.slice (some ⟨g2, 0, none⟩) n n) ∧ w'.cell? ⟨w4.heap.size, 1, none⟩ = some (.int .i64 t)) (go_keep)
      (first
        | (go_at_call 9
           refine (HT.out _ HS.out.bel).mono ?_
           rintro e w6 ⟨gu, rfl, hu, _, hb⟩
           have HU := Lib.hid hu
           have HS := Lib.hid (HS.out.below hb)
           clear v0c0 v0c1 v1c0 v1c1
           have v0c0 := HS.out.vars (w.heap.size, 0, .slice a n C) (by simp)
           have v0c1 := HS.out.vars (w.heap.size, 1, .int .i64 t) (by simp)
           have v1c0 := HS.out.vars (w4.heap.size, 0, .slice (some ⟨g2, 0, none⟩) n n) (by simp)
           have v1c1 := HS.out.vars (w4.heap.size, 1, .int .i64 t) (by simp)
           clear hb hu)
        | (go_at_call 11
           refine (HE.out g2 gu _ (HS.out.rows (some ⟨g2, 0, none⟩, l) (by simp)) HU.out).mono ?_
           rintro e w7 ⟨rfl, hb⟩
           have HS := Lib.hid (HS.out.below hb)
           clear v0c0 v0c1 v1c0 v1c1
           have v0c0 := HS.out.vars (w.heap.size, 0, .slice a n C) (by simp)
           have v0c1 := HS.out.vars (w.heap.size, 1, .int .i64 t) (by simp)
           have v1c0 := HS.out.vars (w4.heap.size, 0, .slice (some ⟨g2, 0, none⟩) n n) (by simp)
           have v1c1 := HS.out.vars (w4.heap.size, 1, .int .i64 t) (by simp)
           clear hb))
    all_goals
      go_wp2
      go_ret
      exact ⟨rfl, HS.out.bel⟩
set_option maxRecDepth 20000 in
set_option maxHeartbeats 6400000 in
theorem walkTurn_gen (a : Option Addr) (n C : Nat) (l : List ByteArray) (t : Int) (L : List ByteArray) (T : Int) (hm0 : l.length ≤ 1048576 → L.length ≤ 1048576) (w : World) (s : IsTS w a n C l)
    (HM : ∀ g W, l.length ≤ 1048576 → (∀ s ∈ l, s.size ≤ 1048576) → SRow W (some ⟨g, 0, none⟩) l →
      Calls Try.prog 14 #[kV (some ⟨g, 0, none⟩) l.length l.length t] W fun e w' => ∃ a' c', e = .returned (kV a' L.length c' T) ∧ KR W.heap.size w' a' c' L ∧ Below W.heap.size W w')
    (HI : ∀ g W, l.length ≤ 1048576 → (∀ s ∈ l, s.size ≤ 1048576) → SRow W (some ⟨g, 0, none⟩) l →
      Calls Try.prog 15 #[kV (some ⟨g, 0, none⟩) l.length l.length t] W fun e w' => ∃ a' c', e = .returned (kV a' L.length c' T) ∧ SRow w' a' L ∧ SBlk W.heap.size w' a' L.length ∧ Below W.heap.size W w') :
    Calls Try.prog 5 #[kV a n C t] w fun e w' => e = .returned (.bool true) ∧ Below w.heap.size w w' := by
  obtain ⟨hlen, hmax, hnil, hrow, hsz⟩ := s
  subst hlen
  have hal := (Below.refl _ w).alloc (Nat.le_refl _) (.cells #[.slice a l.length C, .int .i64 t] 24)
  have HZ := Lib.hid (szKills_any a C l t 1048576 (by omega) (by omega) hmax hsz _ (hrow.below hal))
  have HB := Lib.hid hal
  rcases szV_or l with hv | ⟨hv, hn, hl⟩
  · rw [hv] at HZ
    clear hv HI hnil hrow hsz hmax hal
    unfold kV at *
    go_enter Try.func5, Try.ntmps5
    go_wp2_with fail
    refine HZ.out.mono ?_
    rintro e w1 ⟨rfl, hb1⟩
    have HX := Lib.hid (bthen HB.out hb1 (by simp))
    clear hb1
    go_wp2
    go_ret
    exact ⟨rfl, HX.out⟩
  · have HT := Lib.hid (fun w1 (hb : Below w.heap.size w w1) => toKills_any a C l t hn w1 (hrow.below hb))
    have HS := Lib.hid (fun g W (h : SRow W (some ⟨g, 0, none⟩) l) => HM g W hn hl h)
    have HP := Lib.hid (fun g W (h : SRow W (some ⟨g, 0, none⟩) l) => HI g W hn hl h)
    have hm := hm0 hn
    have HE := Lib.hid (fun g h W (h1 : SRow W (some ⟨g, 0, none⟩) l) (h2 : SRow W (some ⟨h, 0, none⟩) l) => eqKills_same (some ⟨g, 0, none⟩) (some ⟨h, 0, none⟩) l.length l.length l t hn W h1 h2)
    obtain ⟨Z, hZ⟩ : ∃ Z, Z = szV l 1048576 := ⟨_, rfl⟩
    rw [← hZ] at HZ hv
    have HE2 := Lib.hid (fun a b C D W (h1 : SRow W a L) (h2 : SRow W b L) => eqKills_same a b C D L T hm W h1 h2)
    have HLT := Lib.hid (fun (W : World) (a : Option Addr) (h : SRow W a L) => h.lt)
    have HLN := Lib.hid (fun (W : World) (a : Option Addr) (h : SRow W a l) => h.lt)
    obtain ⟨m, hm'⟩ : ∃ m, m = L.length := ⟨_, rfl⟩
    have HMM := Lib.hid hm'
    rw [← hm'] at HS HP HE2 HLT hm
    obtain ⟨n, hn'⟩ : ∃ n, n = l.length := ⟨_, rfl⟩
    rw [← hn'] at HZ HT HS HP HE HB HLN hn ⊢
    have HKM := Lib.hid (fun g W B (h : SBlk B W (some ⟨g, 0, none⟩) n) => markKills_any B (some ⟨g, 0, none⟩) n n 1 t (by omega) (by omega) W h)
    have HK2 := Lib.hid (fun a c W B (h : SBlk B W a m) => markKills_any B a m c 1 T (by omega) (by omega) W h)
    have HH := Lib.hid (fun a c W (h : SRow W a (markS 1 m)) => heldKills_any a m c 1 T (by omega) (by omega) W h)
    clear hnil hrow hsz hmax HI HM hZ hn' hm' hl hal hm0
    unfold kV at *
    go_enter Try.func5, Try.ntmps5
    have HX0 := Lib.hid (Below.refl w.heap.size w)
    have HA := Lib.hid ((Below.refl _ w).alloc (Nat.le_refl _) (.cells #[.slice a n C, .int .i64 t] 24))
    have HC := Lib.hid (HZ.out)
    go_wp2_with fail
    refine HC.out.mono ?_
    clear HC
    rintro e w1 ⟨rfl, hb⟩
    have hq := HX0.out.size
    have HX1 := Lib.hid (bthen (HX0.out.alloc HX0.out.size (.cells #[.slice a n C, .int .i64 t] 24)) hb (by first | (simp; done) | (simp; omega)))
    clear hq
    have T1 := Lib.hid (Nat.le_trans HA.out.size hb.size)
    obtain ⟨r, _⟩ := keepC hb (g := w.heap.size) (by simp)
    have v0c0 : w1.cell? ⟨w.heap.size, 0, none⟩ = some (.slice a n C) := by rw [r 0]; simp [go_sem]
    have v0c1 : w1.cell? ⟨w.heap.size, 1, none⟩ = some (.int .i64 t) := by rw [r 1]; simp [go_sem]
    have v0z : w.heap.size < w1.heap.size := by have := hb.size; simp at this; omega
    clear r
    have U0 := Lib.hid v0z
    clear HA
    clear hb 
    have HC := Lib.hid (HT.out _ HX1.out)
    go_wp2_with fail
    refine HC.out.mono ?_
    clear HC
    rintro e w2 ⟨g1, rfl, hx, _, hb⟩
    have HX2 := Lib.hid (bthen HX1.out hb HX1.out.size)
    have T2 := Lib.hid hb.size
    obtain ⟨r, _⟩ := keepC hb (g := w.heap.size) v0z
    have v0c0 := (r 0).trans v0c0
    have v0c1 := (r 1).trans v0c1
    have v0z := Nat.lt_of_lt_of_le v0z hb.size
    clear r
    have HX := Lib.hid hx
    clear hb hx
    have HC := Lib.hid (HS.out g1 _ HX.out)
    go_wp2_with fail
    refine HC.out.mono ?_
    clear HC
    rintro e w3 ⟨a0, c0', rfl, hk, hb⟩
    have HX3 := Lib.hid (bthen HX2.out hb HX2.out.size)
    have T3 := Lib.hid hb.size
    obtain ⟨r, _⟩ := keepC hb (g := w.heap.size) v0z
    have v0c0 := (r 0).trans v0c0
    have v0c1 := (r 1).trans v0c1
    have v0z := Nat.lt_of_lt_of_le v0z hb.size
    clear r
    have HK := Lib.hid hk
    clear hb hk
    have HW := Lib.hid HK.out.row
    have HWL := Lib.hid (HLT.out _ _ HW.out)
    clear HK HX
    have HA := Lib.hid ((Below.refl _ w3).alloc (Nat.le_refl _) (.cells #[.slice a0 m c0', .int .i64 T] 27))
    have HC := Lib.hid (HT.out _ (HX3.out.alloc HX3.out.size (.cells #[.slice a0 m c0', .int .i64 T] 27)))
    go_wp2_with fail
    refine HC.out.mono ?_
    clear HC
    rintro e w4 ⟨g2, rfl, hy, hyb, hb⟩
    have hq := HX3.out.size
    have HX4 := Lib.hid (bthen (HX3.out.alloc HX3.out.size (.cells #[.slice a0 m c0', .int .i64 T] 27)) hb (by first | (simp; done) | (simp; omega)))
    clear hq
    have T4 := Lib.hid (Nat.le_trans HA.out.size hb.size)
    obtain ⟨r, _⟩ := keepC hb (g := w.heap.size) (by simp; omega)
    have v0c0 := (r 0).trans ((HA.out.cell (p := ⟨w.heap.size, 0, none⟩) v0z).trans v0c0)
    have v0c1 := (r 1).trans ((HA.out.cell (p := ⟨w.heap.size, 1, none⟩) v0z).trans v0c1)
    have v0z := Nat.lt_of_lt_of_le v0z (Nat.le_trans HA.out.size hb.size)
    clear r
    obtain ⟨r, _⟩ := keepC hb (g := w3.heap.size) (by simp)
    have v1c0 : w4.cell? ⟨w3.heap.size, 0, none⟩ = some (.slice a0 m c0') := by rw [r 0]; simp [go_sem]
    have v1c1 : w4.cell? ⟨w3.heap.size, 1, none⟩ = some (.int .i64 T) := by rw [r 1]; simp [go_sem]
    have v1z : w3.heap.size < w4.heap.size := by have := hb.size; simp at this; omega
    clear r
    have U1 := Lib.hid v1z
    have HW := Lib.hid ((HW.out.below HA.out).below hb)
    clear HA
    have HY := Lib.hid hy
    have HYB := Lib.hid hyb
    clear hb hy hyb
    have HYB := Lib.hid (HYB.out.lo (b' := w3.heap.size + 1) (by simp))
    have HYL := Lib.hid (HLN.out _ _ HY.out)
    have HA := Lib.hid ((Below.refl _ w4).alloc (Nat.le_refl _) (.cells #[.slice (some ⟨g2, 0, none⟩) n n, .int .i64 t] 27))
    have HC := Lib.hid (HP.out g2 _ (HY.out.below HA.out))
    go_wp2_with fail
    refine HC.out.mono ?_
    clear HC
    rintro e w5 ⟨a5, c5, rfl, hg, hgb, hb⟩
    have hq := HX4.out.size
    have HX5 := Lib.hid (bthen (HX4.out.alloc HX4.out.size (.cells #[.slice (some ⟨g2, 0, none⟩) n n, .int .i64 t] 27)) hb (by first | (simp; done) | (simp; omega)))
    clear hq
    have T5 := Lib.hid (Nat.le_trans HA.out.size hb.size)
    obtain ⟨r, _⟩ := keepC hb (g := w.heap.size) (by simp; omega)
    have v0c0 := (r 0).trans ((HA.out.cell (p := ⟨w.heap.size, 0, none⟩) v0z).trans v0c0)
    have v0c1 := (r 1).trans ((HA.out.cell (p := ⟨w.heap.size, 1, none⟩) v0z).trans v0c1)
    have v0z := Nat.lt_of_lt_of_le v0z (Nat.le_trans HA.out.size hb.size)
    clear r
    obtain ⟨r, _⟩ := keepC hb (g := w3.heap.size) (by simp; omega)
    have v1c0 := (r 0).trans ((HA.out.cell (p := ⟨w3.heap.size, 0, none⟩) v1z).trans v1c0)
    have v1c1 := (r 1).trans ((HA.out.cell (p := ⟨w3.heap.size, 1, none⟩) v1z).trans v1c1)
    have v1z := Nat.lt_of_lt_of_le v1z (Nat.le_trans HA.out.size hb.size)
    clear r
    obtain ⟨r, _⟩ := keepC hb (g := w4.heap.size) (by simp)
    have v2c0 : w5.cell? ⟨w4.heap.size, 0, none⟩ = some (.slice (some ⟨g2, 0, none⟩) n n) := by rw [r 0]; simp [go_sem]
    have v2c1 : w5.cell? ⟨w4.heap.size, 1, none⟩ = some (.int .i64 t) := by rw [r 1]; simp [go_sem]
    have v2z : w4.heap.size < w5.heap.size := by have := hb.size; simp at this; omega
    clear r
    have U2 := Lib.hid v2z
    have HW := Lib.hid ((HW.out.below HA.out).below hb)
    have HY := Lib.hid ((HY.out.below HA.out).below hb)
    have HYB := Lib.hid ((HYB.out.below HA.out).below hb)
    clear HA
    have HG := Lib.hid hg
    have HGB := Lib.hid hgb
    clear hb hg hgb
    have HGB := Lib.hid (HGB.out.lo (b' := w4.heap.size + 1) (by simp))
    have HGL := Lib.hid (HLT.out _ _ HG.out)
    have HA := Lib.hid ((Below.refl _ w5).alloc (Nat.le_refl _) (.cells #[.slice a5 m c5, .int .i64 T] 27))
    have HC := Lib.hid (HE2.out a5 a0 c5 c0' _ (HG.out.below HA.out) (HW.out.below HA.out))
    go_wp2_with fail
    refine HC.out.mono ?_
    clear HC
    rintro e w6 ⟨rfl, hb⟩
    have hq := HX5.out.size
    have HX6 := Lib.hid (bthen (HX5.out.alloc HX5.out.size (.cells #[.slice a5 m c5, .int .i64 T] 27)) hb (by first | (simp; done) | (simp; omega)))
    clear hq
    have T6 := Lib.hid (Nat.le_trans HA.out.size hb.size)
    obtain ⟨r, _⟩ := keepC hb (g := w.heap.size) (by simp; omega)
    have v0c0 := (r 0).trans ((HA.out.cell (p := ⟨w.heap.size, 0, none⟩) v0z).trans v0c0)
    have v0c1 := (r 1).trans ((HA.out.cell (p := ⟨w.heap.size, 1, none⟩) v0z).trans v0c1)
    have v0z := Nat.lt_of_lt_of_le v0z (Nat.le_trans HA.out.size hb.size)
    clear r
    obtain ⟨r, _⟩ := keepC hb (g := w3.heap.size) (by simp; omega)
    have v1c0 := (r 0).trans ((HA.out.cell (p := ⟨w3.heap.size, 0, none⟩) v1z).trans v1c0)
    have v1c1 := (r 1).trans ((HA.out.cell (p := ⟨w3.heap.size, 1, none⟩) v1z).trans v1c1)
    have v1z := Nat.lt_of_lt_of_le v1z (Nat.le_trans HA.out.size hb.size)
    clear r
    obtain ⟨r, _⟩ := keepC hb (g := w4.heap.size) (by simp; omega)
    have v2c0 := (r 0).trans ((HA.out.cell (p := ⟨w4.heap.size, 0, none⟩) v2z).trans v2c0)
    have v2c1 := (r 1).trans ((HA.out.cell (p := ⟨w4.heap.size, 1, none⟩) v2z).trans v2c1)
    have v2z := Nat.lt_of_lt_of_le v2z (Nat.le_trans HA.out.size hb.size)
    clear r
    obtain ⟨r, _⟩ := keepC hb (g := w5.heap.size) (by simp)
    have v3c0 : w6.cell? ⟨w5.heap.size, 0, none⟩ = some (.slice a5 m c5) := by rw [r 0]; simp [go_sem]
    have v3c1 : w6.cell? ⟨w5.heap.size, 1, none⟩ = some (.int .i64 T) := by rw [r 1]; simp [go_sem]
    have v3z : w5.heap.size < w6.heap.size := by have := hb.size; simp at this; omega
    clear r
    have U3 := Lib.hid v3z
    have HW := Lib.hid ((HW.out.below HA.out).below hb)
    have HY := Lib.hid ((HY.out.below HA.out).below hb)
    have HG := Lib.hid ((HG.out.below HA.out).below hb)
    have HYB := Lib.hid ((HYB.out.below HA.out).below hb)
    have HGB := Lib.hid ((HGB.out.below HA.out).below hb)
    clear HA
    clear hb 
    go_wp2
    have HS := Lib.hid (show RS w [(a0, L), (some ⟨g2, 0, none⟩, l), (a5, L)] [(w3.heap.size + 1, some ⟨g2, 0, none⟩, n), (w4.heap.size + 1, a5, m)] [(w.heap.size, 0, .slice a n C), (w.heap.size, 1, .int .i64 t), (w3.heap.size, 0, .slice a0 m c0'), (w3.heap.size, 1, .int .i64 T), (w4.heap.size, 0, .slice (some ⟨g2, 0, none⟩) n n), (w4.heap.size, 1, .int .i64 t), (w5.heap.size, 0, .slice a5 m c5), (w5.heap.size, 1, .int .i64 T)] w6.drew from RS.below ⟨HX6.out, by
      intro r hr
      simp only [List.mem_cons, List.not_mem_nil, or_false] at hr
      rcases hr with rfl | rfl | rfl
      · exact HW.out
      · exact HY.out
      · exact HG.out, by
      intro b hs
      simp only [List.mem_cons, List.not_mem_nil, or_false] at hs
      rcases hs with rfl | rfl
      · exact HYB.out
      · exact HGB.out, by
      intro v hv
      simp only [List.mem_cons, List.not_mem_nil, or_false] at hv
      rcases hv with rfl | rfl | rfl | rfl | rfl | rfl | rfl | rfl
      · exact v0c0
      · exact v0c1
      · exact v1c0
      · exact v1c1
      · exact v2c0
      · exact v2c1
      · exact v3c0
      · exact v3c1⟩ (drew_below' _))
    clear v0c0 v0c1 v1c0 v1c1 v2c0 v2c1 v3c0 v3c1 v0z v1z v2z v3z
    have v0c0 := HS.out.vars (w.heap.size, 0, .slice a n C) (by simp)
    have v0c1 := HS.out.vars (w.heap.size, 1, .int .i64 t) (by simp)
    have v1c0 := HS.out.vars (w3.heap.size, 0, .slice a0 m c0') (by simp)
    have v1c1 := HS.out.vars (w3.heap.size, 1, .int .i64 T) (by simp)
    have v2c0 := HS.out.vars (w4.heap.size, 0, .slice (some ⟨g2, 0, none⟩) n n) (by simp)
    have v2c1 := HS.out.vars (w4.heap.size, 1, .int .i64 t) (by simp)
    have v3c0 := HS.out.vars (w5.heap.size, 0, .slice a5 m c5) (by simp)
    have v3c1 := HS.out.vars (w5.heap.size, 1, .int .i64 T) (by simp)
    go_region_held3 (fun w' => w'.cell? ⟨w.heap.size, 0, none⟩ = some (.slice a n C) ∧ w'.cell? ⟨w.heap.size, 1, none⟩ = some (.int .i64 t) ∧ w'.cell? ⟨w3.heap.size, 0, none⟩ = some (.slice a0 m c0') ∧ w'.cell? ⟨w3.heap.size, 1, none⟩ = some (.int .i64 T) ∧ w'.cell? ⟨w4.heap.size, 0, none⟩ = some (.slice (some ⟨g2, 0, none⟩) n n) ∧ w'.cell? ⟨w4.heap.size, 1, none⟩ = some (.int .i64 t) ∧ w'.cell? ⟨w5.heap.size, 0, none⟩ = some (.slice a5 m c5) ∧ w'.cell? ⟨w5.heap.size, 1, none⟩ = some (.int .i64 T)) (go_keep)
      (first
        | (go_at_call 9
           refine (HT.out _ HS.out.bel).mono ?_
           rintro e w7 ⟨gu, rfl, hu, _, hb⟩
           have HU := Lib.hid hu
           have HS := Lib.hid (HS.out.below hb)
           clear v0c0 v0c1 v1c0 v1c1 v2c0 v2c1 v3c0 v3c1
           have v0c0 := HS.out.vars (w.heap.size, 0, .slice a n C) (by simp)
           have v0c1 := HS.out.vars (w.heap.size, 1, .int .i64 t) (by simp)
           have v1c0 := HS.out.vars (w3.heap.size, 0, .slice a0 m c0') (by simp)
           have v1c1 := HS.out.vars (w3.heap.size, 1, .int .i64 T) (by simp)
           have v2c0 := HS.out.vars (w4.heap.size, 0, .slice (some ⟨g2, 0, none⟩) n n) (by simp)
           have v2c1 := HS.out.vars (w4.heap.size, 1, .int .i64 t) (by simp)
           have v3c0 := HS.out.vars (w5.heap.size, 0, .slice a5 m c5) (by simp)
           have v3c1 := HS.out.vars (w5.heap.size, 1, .int .i64 T) (by simp)
           clear hb hu)
        | (go_at_call 11
           refine (HE.out g2 gu _ (HS.out.rows (some ⟨g2, 0, none⟩, l) (by simp)) HU.out).mono ?_
           rintro e w8 ⟨rfl, hb⟩
           have HS := Lib.hid (HS.out.below hb)
           clear v0c0 v0c1 v1c0 v1c1 v2c0 v2c1 v3c0 v3c1
           have v0c0 := HS.out.vars (w.heap.size, 0, .slice a n C) (by simp)
           have v0c1 := HS.out.vars (w.heap.size, 1, .int .i64 t) (by simp)
           have v1c0 := HS.out.vars (w3.heap.size, 0, .slice a0 m c0') (by simp)
           have v1c1 := HS.out.vars (w3.heap.size, 1, .int .i64 T) (by simp)
           have v2c0 := HS.out.vars (w4.heap.size, 0, .slice (some ⟨g2, 0, none⟩) n n) (by simp)
           have v2c1 := HS.out.vars (w4.heap.size, 1, .int .i64 t) (by simp)
           have v3c0 := HS.out.vars (w5.heap.size, 0, .slice a5 m c5) (by simp)
           have v3c1 := HS.out.vars (w5.heap.size, 1, .int .i64 T) (by simp)
           clear hb))
    all_goals
      have HX8 := Lib.hid HS.out.bel
      have HW := Lib.hid (HS.out.rows (a0, L) (by simp))
      have HY := Lib.hid (HS.out.rows (some ⟨g2, 0, none⟩, l) (by simp))
      have HG := Lib.hid (HS.out.rows (a5, L) (by simp))
      have HYB := Lib.hid (HS.out.blks (w3.heap.size + 1, some ⟨g2, 0, none⟩, n) (by simp))
      have HGB := Lib.hid (HS.out.blks (w4.heap.size + 1, a5, m) (by simp))
      have v0z := blk_lt v0c0
      have v1z := blk_lt v1c0
      have v2z := blk_lt v2c0
      have v3z := blk_lt v3c0
      clear HS HU
      have hp1 : ¬ ((1 + n : Nat) : Int) < 0 := by omega
      have hp2 : ¬ ((1 + m : Nat) : Int) < 0 := by omega
      have HC := Lib.hid (HKM.out g2 _ (w3.heap.size + 1) HYB.out)
      go_wp2_with fail
      refine HC.out.mono ?_
      clear HC
      rintro e w9 ⟨rfl, hr, hg⟩
      have HX9 := Lib.hid (HX8.out.grown hg HX8.out.size (fun j hj => by have := HYB.out.lt j hj; have := U0.out; have := T2.out; have := T3.out; have := U1.out; have := U2.out; have := U3.out; omega))
      have ne : some (w.heap.size) ≠ blkN (some ⟨g2, 0, none⟩) n := fun e => by have := HYB.out.lt _ e.symm; have := HYL.out _ e.symm; have := U0.out; have := T2.out; have := T3.out; have := U1.out; have := U2.out; have := U3.out; omega
      have v0c0 := (hg.cell_far ⟨w.heap.size, 0, none⟩ v0z ne).trans v0c0
      have v0c1 := (hg.cell_far ⟨w.heap.size, 1, none⟩ v0z ne).trans v0c1
      have v0z := Nat.lt_of_lt_of_le v0z hg.size
      clear ne
      have ne : some (w3.heap.size) ≠ blkN (some ⟨g2, 0, none⟩) n := fun e => by have := HYB.out.lt _ e.symm; have := HYL.out _ e.symm; have := U0.out; have := T2.out; have := T3.out; have := U1.out; have := U2.out; have := U3.out; omega
      have v1c0 := (hg.cell_far ⟨w3.heap.size, 0, none⟩ v1z ne).trans v1c0
      have v1c1 := (hg.cell_far ⟨w3.heap.size, 1, none⟩ v1z ne).trans v1c1
      have v1z := Nat.lt_of_lt_of_le v1z hg.size
      clear ne
      have ne : some (w4.heap.size) ≠ blkN (some ⟨g2, 0, none⟩) n := fun e => by have := HYB.out.lt _ e.symm; have := HYL.out _ e.symm; have := U0.out; have := T2.out; have := T3.out; have := U1.out; have := U2.out; have := U3.out; omega
      have v2c0 := (hg.cell_far ⟨w4.heap.size, 0, none⟩ v2z ne).trans v2c0
      have v2c1 := (hg.cell_far ⟨w4.heap.size, 1, none⟩ v2z ne).trans v2c1
      have v2z := Nat.lt_of_lt_of_le v2z hg.size
      clear ne
      have ne : some (w5.heap.size) ≠ blkN (some ⟨g2, 0, none⟩) n := fun e => by have := HYB.out.lt _ e.symm; have := HYL.out _ e.symm; have := U0.out; have := T2.out; have := T3.out; have := U1.out; have := U2.out; have := U3.out; omega
      have v3c0 := (hg.cell_far ⟨w5.heap.size, 0, none⟩ v3z ne).trans v3c0
      have v3c1 := (hg.cell_far ⟨w5.heap.size, 1, none⟩ v3z ne).trans v3c1
      have v3z := Nat.lt_of_lt_of_le v3z hg.size
      clear ne
      have HW := Lib.hid (SRow.off HW.out hg (fun x e1 e2 => by have := HWL.out x (by rw [HMM.out]; exact e1); have := HYB.out.lt x e2; have := HYL.out x e2; have := U0.out; have := T2.out; have := T3.out; have := U1.out; have := U2.out; have := U3.out; omega))
      have HG := Lib.hid (SRow.off HG.out hg (fun x e1 e2 => by have := HGB.out.lt x (by rw [HMM.out]; exact e1); have := HYB.out.lt x e2; have := HYL.out x e2; have := U0.out; have := T2.out; have := T3.out; have := U1.out; have := U2.out; have := U3.out; omega))
      have HGB := Lib.hid (SBlk.off HGB.out hg (fun x e1 e2 => by have := HGB.out.lt x e1; have := HYB.out.lt x e2; have := HYL.out x e2; have := U0.out; have := T2.out; have := T3.out; have := U1.out; have := U2.out; have := U3.out; omega))
      have HYM := Lib.hid hr
      clear hr hg
      clear HYB HYL HY HYM
      have HC := Lib.hid (HE2.out a5 a0 c5 c0' _ HG.out HW.out)
      go_wp2_with fail
      refine HC.out.mono ?_
      clear HC
      rintro e w10 ⟨rfl, hb⟩
      have HX10 := Lib.hid (bthen HX9.out hb HX9.out.size)
      have T10 := Lib.hid hb.size
      obtain ⟨r, _⟩ := keepC hb (g := w.heap.size) v0z
      have v0c0 := (r 0).trans v0c0
      have v0c1 := (r 1).trans v0c1
      have v0z := Nat.lt_of_lt_of_le v0z hb.size
      clear r
      obtain ⟨r, _⟩ := keepC hb (g := w3.heap.size) v1z
      have v1c0 := (r 0).trans v1c0
      have v1c1 := (r 1).trans v1c1
      have v1z := Nat.lt_of_lt_of_le v1z hb.size
      clear r
      obtain ⟨r, _⟩ := keepC hb (g := w4.heap.size) v2z
      have v2c0 := (r 0).trans v2c0
      have v2c1 := (r 1).trans v2c1
      have v2z := Nat.lt_of_lt_of_le v2z hb.size
      clear r
      obtain ⟨r, _⟩ := keepC hb (g := w5.heap.size) v3z
      have v3c0 := (r 0).trans v3c0
      have v3c1 := (r 1).trans v3c1
      have v3z := Nat.lt_of_lt_of_le v3z hb.size
      clear r
      have HW := Lib.hid (HW.out.below hb)
      have HG := Lib.hid (HG.out.below hb)
      have HGB := Lib.hid (HGB.out.below hb)
      clear hb 
      have HC := Lib.hid (HK2.out a5 c5 _ (w4.heap.size + 1) HGB.out)
      go_wp2_with fail
      refine HC.out.mono ?_
      clear HC
      rintro e w11 ⟨rfl, hr, hg⟩
      have HX11 := Lib.hid (HX10.out.grown hg HX10.out.size (fun j hj => by have := HGB.out.lt j hj; have := U0.out; have := T2.out; have := T3.out; have := U1.out; have := U2.out; have := U3.out; omega))
      have ne : some (w.heap.size) ≠ blkN a5 m := fun e => by have := HGB.out.lt _ e.symm; have := HGL.out _ e.symm; have := U0.out; have := T2.out; have := T3.out; have := U1.out; have := U2.out; have := U3.out; omega
      have v0c0 := (hg.cell_far ⟨w.heap.size, 0, none⟩ v0z ne).trans v0c0
      have v0c1 := (hg.cell_far ⟨w.heap.size, 1, none⟩ v0z ne).trans v0c1
      have v0z := Nat.lt_of_lt_of_le v0z hg.size
      clear ne
      have ne : some (w3.heap.size) ≠ blkN a5 m := fun e => by have := HGB.out.lt _ e.symm; have := HGL.out _ e.symm; have := U0.out; have := T2.out; have := T3.out; have := U1.out; have := U2.out; have := U3.out; omega
      have v1c0 := (hg.cell_far ⟨w3.heap.size, 0, none⟩ v1z ne).trans v1c0
      have v1c1 := (hg.cell_far ⟨w3.heap.size, 1, none⟩ v1z ne).trans v1c1
      have v1z := Nat.lt_of_lt_of_le v1z hg.size
      clear ne
      have ne : some (w4.heap.size) ≠ blkN a5 m := fun e => by have := HGB.out.lt _ e.symm; have := HGL.out _ e.symm; have := U0.out; have := T2.out; have := T3.out; have := U1.out; have := U2.out; have := U3.out; omega
      have v2c0 := (hg.cell_far ⟨w4.heap.size, 0, none⟩ v2z ne).trans v2c0
      have v2c1 := (hg.cell_far ⟨w4.heap.size, 1, none⟩ v2z ne).trans v2c1
      have v2z := Nat.lt_of_lt_of_le v2z hg.size
      clear ne
      have ne : some (w5.heap.size) ≠ blkN a5 m := fun e => by have := HGB.out.lt _ e.symm; have := HGL.out _ e.symm; have := U0.out; have := T2.out; have := T3.out; have := U1.out; have := U2.out; have := U3.out; omega
      have v3c0 := (hg.cell_far ⟨w5.heap.size, 0, none⟩ v3z ne).trans v3c0
      have v3c1 := (hg.cell_far ⟨w5.heap.size, 1, none⟩ v3z ne).trans v3c1
      have v3z := Nat.lt_of_lt_of_le v3z hg.size
      clear ne
      have HW := Lib.hid (SRow.off HW.out hg (fun x e1 e2 => by have := HWL.out x (by rw [HMM.out]; exact e1); have := HGB.out.lt x e2; have := HGL.out x e2; have := U0.out; have := T2.out; have := T3.out; have := U1.out; have := U2.out; have := U3.out; omega))
      have HGM := Lib.hid hr
      clear hr hg
      clear HG HGB HGL
      have HC := Lib.hid (HH.out a5 c5 _ HGM.out)
      go_wp2_with fail
      refine HC.out.mono ?_
      clear HC
      rintro e w12 ⟨rfl, hb⟩
      have HX12 := Lib.hid (bthen HX11.out hb HX11.out.size)
      have T12 := Lib.hid hb.size
      obtain ⟨r, _⟩ := keepC hb (g := w.heap.size) v0z
      have v0c0 := (r 0).trans v0c0
      have v0c1 := (r 1).trans v0c1
      have v0z := Nat.lt_of_lt_of_le v0z hb.size
      clear r
      obtain ⟨r, _⟩ := keepC hb (g := w3.heap.size) v1z
      have v1c0 := (r 0).trans v1c0
      have v1c1 := (r 1).trans v1c1
      have v1z := Nat.lt_of_lt_of_le v1z hb.size
      clear r
      obtain ⟨r, _⟩ := keepC hb (g := w4.heap.size) v2z
      have v2c0 := (r 0).trans v2c0
      have v2c1 := (r 1).trans v2c1
      have v2z := Nat.lt_of_lt_of_le v2z hb.size
      clear r
      obtain ⟨r, _⟩ := keepC hb (g := w5.heap.size) v3z
      have v3c0 := (r 0).trans v3c0
      have v3c1 := (r 1).trans v3c1
      have v3z := Nat.lt_of_lt_of_le v3z hb.size
      clear r
      have HW := Lib.hid (HW.out.below hb)
      have HGM := Lib.hid (HGM.out.below hb)
      clear hb 
      have HC := Lib.hid (HT.out _ HX12.out)
      go_wp2_with fail
      refine HC.out.mono ?_
      clear HC
      rintro e w13 ⟨g3, rfl, hr3, _, hb⟩
      have HX13 := Lib.hid (bthen HX12.out hb HX12.out.size)
      have T13 := Lib.hid hb.size
      obtain ⟨r, _⟩ := keepC hb (g := w.heap.size) v0z
      have v0c0 := (r 0).trans v0c0
      have v0c1 := (r 1).trans v0c1
      have v0z := Nat.lt_of_lt_of_le v0z hb.size
      clear r
      obtain ⟨r, _⟩ := keepC hb (g := w3.heap.size) v1z
      have v1c0 := (r 0).trans v1c0
      have v1c1 := (r 1).trans v1c1
      have v1z := Nat.lt_of_lt_of_le v1z hb.size
      clear r
      obtain ⟨r, _⟩ := keepC hb (g := w4.heap.size) v2z
      have v2c0 := (r 0).trans v2c0
      have v2c1 := (r 1).trans v2c1
      have v2z := Nat.lt_of_lt_of_le v2z hb.size
      clear r
      obtain ⟨r, _⟩ := keepC hb (g := w5.heap.size) v3z
      have v3c0 := (r 0).trans v3c0
      have v3c1 := (r 1).trans v3c1
      have v3z := Nat.lt_of_lt_of_le v3z hb.size
      clear r
      have HW := Lib.hid (HW.out.below hb)
      have HGM := Lib.hid (HGM.out.below hb)
      have HR3 := Lib.hid hr3
      clear hb hr3
      have HC := Lib.hid (HP.out g3 _ HR3.out)
      go_wp2_with fail
      refine HC.out.mono ?_
      clear HC
      rintro e w14 ⟨a6, c6, rfl, hi, _, hb⟩
      have HX14 := Lib.hid (bthen HX13.out hb HX13.out.size)
      have T14 := Lib.hid hb.size
      obtain ⟨r, _⟩ := keepC hb (g := w.heap.size) v0z
      have v0c0 := (r 0).trans v0c0
      have v0c1 := (r 1).trans v0c1
      have v0z := Nat.lt_of_lt_of_le v0z hb.size
      clear r
      obtain ⟨r, _⟩ := keepC hb (g := w3.heap.size) v1z
      have v1c0 := (r 0).trans v1c0
      have v1c1 := (r 1).trans v1c1
      have v1z := Nat.lt_of_lt_of_le v1z hb.size
      clear r
      obtain ⟨r, _⟩ := keepC hb (g := w4.heap.size) v2z
      have v2c0 := (r 0).trans v2c0
      have v2c1 := (r 1).trans v2c1
      have v2z := Nat.lt_of_lt_of_le v2z hb.size
      clear r
      obtain ⟨r, _⟩ := keepC hb (g := w5.heap.size) v3z
      have v3c0 := (r 0).trans v3c0
      have v3c1 := (r 1).trans v3c1
      have v3z := Nat.lt_of_lt_of_le v3z hb.size
      clear r
      have HW := Lib.hid (HW.out.below hb)
      have HGM := Lib.hid (HGM.out.below hb)
      have HI := Lib.hid hi
      clear hb hi
      have HA := Lib.hid ((Below.refl _ w14).alloc (Nat.le_refl _) (.cells #[.slice a6 m c6, .int .i64 T] 27))
      have HC := Lib.hid (HE2.out a6 a0 c6 c0' _ (HI.out.below HA.out) (HW.out.below HA.out))
      go_wp2_with fail
      refine HC.out.mono ?_
      clear HC
      rintro e w15 ⟨rfl, hb⟩
      have hq := HX14.out.size
      have HX15 := Lib.hid (bthen (HX14.out.alloc HX14.out.size (.cells #[.slice a6 m c6, .int .i64 T] 27)) hb (by first | (simp; done) | (simp; omega)))
      clear hq
      have T15 := Lib.hid (Nat.le_trans HA.out.size hb.size)
      obtain ⟨r, _⟩ := keepC hb (g := w.heap.size) (by simp; omega)
      have v0c0 := (r 0).trans ((HA.out.cell (p := ⟨w.heap.size, 0, none⟩) v0z).trans v0c0)
      have v0c1 := (r 1).trans ((HA.out.cell (p := ⟨w.heap.size, 1, none⟩) v0z).trans v0c1)
      have v0z := Nat.lt_of_lt_of_le v0z (Nat.le_trans HA.out.size hb.size)
      clear r
      obtain ⟨r, _⟩ := keepC hb (g := w3.heap.size) (by simp; omega)
      have v1c0 := (r 0).trans ((HA.out.cell (p := ⟨w3.heap.size, 0, none⟩) v1z).trans v1c0)
      have v1c1 := (r 1).trans ((HA.out.cell (p := ⟨w3.heap.size, 1, none⟩) v1z).trans v1c1)
      have v1z := Nat.lt_of_lt_of_le v1z (Nat.le_trans HA.out.size hb.size)
      clear r
      obtain ⟨r, _⟩ := keepC hb (g := w4.heap.size) (by simp; omega)
      have v2c0 := (r 0).trans ((HA.out.cell (p := ⟨w4.heap.size, 0, none⟩) v2z).trans v2c0)
      have v2c1 := (r 1).trans ((HA.out.cell (p := ⟨w4.heap.size, 1, none⟩) v2z).trans v2c1)
      have v2z := Nat.lt_of_lt_of_le v2z (Nat.le_trans HA.out.size hb.size)
      clear r
      obtain ⟨r, _⟩ := keepC hb (g := w5.heap.size) (by simp; omega)
      have v3c0 := (r 0).trans ((HA.out.cell (p := ⟨w5.heap.size, 0, none⟩) v3z).trans v3c0)
      have v3c1 := (r 1).trans ((HA.out.cell (p := ⟨w5.heap.size, 1, none⟩) v3z).trans v3c1)
      have v3z := Nat.lt_of_lt_of_le v3z (Nat.le_trans HA.out.size hb.size)
      clear r
      obtain ⟨r, _⟩ := keepC hb (g := w14.heap.size) (by simp)
      have v4c0 : w15.cell? ⟨w14.heap.size, 0, none⟩ = some (.slice a6 m c6) := by rw [r 0]; simp [go_sem]
      have v4c1 : w15.cell? ⟨w14.heap.size, 1, none⟩ = some (.int .i64 T) := by rw [r 1]; simp [go_sem]
      have v4z : w14.heap.size < w15.heap.size := by have := hb.size; simp at this; omega
      clear r
      have U4 := Lib.hid v4z
      have HW := Lib.hid ((HW.out.below HA.out).below hb)
      have HGM := Lib.hid ((HGM.out.below HA.out).below hb)
      have HI := Lib.hid ((HI.out.below HA.out).below hb)
      clear HA
      clear hb 
      have HC := Lib.hid (HH.out a5 c5 _ HGM.out)
      go_wp2_with fail
      refine HC.out.mono ?_
      clear HC
      rintro e w16 ⟨rfl, hb⟩
      have HX16 := Lib.hid (bthen HX15.out hb HX15.out.size)
      have T16 := Lib.hid hb.size
      obtain ⟨r, _⟩ := keepC hb (g := w.heap.size) v0z
      have v0c0 := (r 0).trans v0c0
      have v0c1 := (r 1).trans v0c1
      have v0z := Nat.lt_of_lt_of_le v0z hb.size
      clear r
      obtain ⟨r, _⟩ := keepC hb (g := w3.heap.size) v1z
      have v1c0 := (r 0).trans v1c0
      have v1c1 := (r 1).trans v1c1
      have v1z := Nat.lt_of_lt_of_le v1z hb.size
      clear r
      obtain ⟨r, _⟩ := keepC hb (g := w4.heap.size) v2z
      have v2c0 := (r 0).trans v2c0
      have v2c1 := (r 1).trans v2c1
      have v2z := Nat.lt_of_lt_of_le v2z hb.size
      clear r
      obtain ⟨r, _⟩ := keepC hb (g := w5.heap.size) v3z
      have v3c0 := (r 0).trans v3c0
      have v3c1 := (r 1).trans v3c1
      have v3z := Nat.lt_of_lt_of_le v3z hb.size
      clear r
      obtain ⟨r, _⟩ := keepC hb (g := w14.heap.size) v4z
      have v4c0 := (r 0).trans v4c0
      have v4c1 := (r 1).trans v4c1
      have v4z := Nat.lt_of_lt_of_le v4z hb.size
      clear r
      have HW := Lib.hid (HW.out.below hb)
      have HGM := Lib.hid (HGM.out.below hb)
      have HI := Lib.hid (HI.out.below hb)
      clear hb 
      go_wp2
      go_ret
      exact ⟨rfl, HX16.out⟩
theorem i64_of_wf {t : Int} (h : (Lit.int .i64 t).wf = true) : -9223372036854775808 ≤ t ∧ t ≤ 9223372036854775807 := by
  simp only [Lit.wf, IntKind.min, IntKind.max, IntKind.signed, IntKind.bits, Bool.and_eq_true, decide_eq_true_eq] at h
  obtain ⟨h1, h2⟩ := h
  simp at h1 h2
  exact ⟨h1, by omega⟩
theorem walkTurn_of (a : Option Addr) (n C : Nat) (l : List ByteArray) (t : Int) (ht : (Lit.int .i64 t).wf = true) (w : World) (s : IsTS w a n C l)
    (HI : ∀ g W, l.length ≤ 1048576 → (∀ s ∈ l, s.size ≤ 1048576) → SRow W (some ⟨g, 0, none⟩) l →
      Calls Try.prog 15 #[kV (some ⟨g, 0, none⟩) l.length l.length t] W fun e w' => ∃ a' c', e = .returned (kV a' l.length c' (specTurnV l t)) ∧ SRow w' a' l ∧ SBlk W.heap.size w' a' l.length ∧ Below W.heap.size W w') :
    Calls Try.prog 5 #[kV a n C t] w fun e w' => e = .returned (.bool true) ∧ Below w.heap.size w w' :=
  walkTurn_gen a n C l t l (specTurnV l t) (fun h => h) w s (fun g W hn hl h => specTurn_any (some ⟨g, 0, none⟩) l.length l t (fun e => by cases e) hn hl (i64_of_wf ht) W h) HI
end Go.Proofs.Ytjjabfcdhknigaa.kill
