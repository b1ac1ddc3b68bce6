/-
  The program's table of what two texts have in common: an array of arrays. For right texts.
-/
import Derived.Test.YthdnhopkkgdclaaTable
import Derived.Deep.WholeRow
namespace Go.Proofs.Ythdnhopkkgdclaa.table
open Go.ChangeShapes Go.WideShapes Go.ChangeAt Go.RowKit
theorem zero58 : Try.zeroCells57 = Array.replicate 3721 (.int .i64 0) := by kernel_rfl
/-- the cells of a table of 61 rows of 61 numbers -/
structure TabC (F : Nat → Nat → Nat) (cs : Array Value) : Prop where
  size : cs.size = 3721
  at_ : ∀ i j, i ≤ 60 → j ≤ 60 → cs[i * 61 + j]? = some (.int .i64 (F i j : Nat))
  one : cs.all (·.oneCell') = true
theorem TabC.zero : TabC (fun _ _ => 0) Try.zeroCells57 where
  size := Try.zeroCells57_size
  at_ i j hi hj := by rw [zero58, Array.getElem?_replicate, if_pos (by omega)]; rfl
  one := by rw [zero58]; exact Array.all_eq_true_iff_forall_mem.2 (fun v hv => by rw [(Array.mem_replicate.1 hv).2]; rfl)
theorem TabC.set {F : Nat → Nat → Nat} {cs : Array Value} (h : TabC F cs) {i j : Nat} (hi : i ≤ 60) (hj : j ≤ 60) (z : Nat) :
    TabC (fun i' j' => if i' = i ∧ j' = j then z else F i' j') (cs.setIfInBounds (i * 61 + j) (.int .i64 (z : Nat))) where
  size := by rw [Array.size_setIfInBounds, h.size]
  at_ i' j' hi' hj' := by
    rw [Array.getElem?_setIfInBounds]
    by_cases e : i' = i ∧ j' = j
    · obtain ⟨rfl, rfl⟩ := e
      rw [if_pos rfl, if_pos (by rw [h.size]; omega), if_pos ⟨rfl, rfl⟩]
    · rw [if_neg (by omega), if_neg e]; exact h.at_ i' j' hi' hj'
  one := by
    apply Array.all_eq_true_iff_forall_mem.2
    intro v hv
    rcases Array.mem_or_eq_of_mem_setIfInBounds hv with h1 | h1
    · exact Array.all_eq_true_iff_forall_mem.1 h.one v h1
    · rw [h1]; rfl
theorem TabC.congr {F G : Nat → Nat → Nat} {cs : Array Value} (h : TabC F cs) (e : ∀ i j, i ≤ 60 → j ≤ 60 → F i j = G i j) : TabC G cs where
  size := h.size
  at_ i j hi hj := by rw [← e i j hi hj]; exact h.at_ i j hi hj
  one := h.one
/-- the table in the call's own memory -/
structure TabW (w : World) (F : Nat → Nat → Nat) (w' : World) : Prop where
  row : ∃ cs, w'.heap[w.heap.size + 1]? = some (.cells cs 57 (0, 0)) ∧ TabC F cs
  res : w'.heap[w.heap.size]? = some (.cells Try.zeroCells57 57 (0, 0))
  bel : Below w.heap.size w w'
theorem TabW.cell {w : World} {F : Nat → Nat → Nat} {w' : World} (h : TabW w F w') (i j : Nat) (hi : i ≤ 60) (hj : j ≤ 60) : w'.cell? ⟨w.heap.size + 1, i * 61 + j, none⟩ = some (.int .i64 (F i j : Nat)) := by
  obtain ⟨cs, h1, h2⟩ := h.row
  rw [cell_of_row _ _ _ _ _ _ h1]; exact h2.at_ i j hi hj
theorem TabW.frz {w : World} {F : Nat → Nat → Nat} {w' : World} (h : TabW w F w') (o : Nat) : w'.frozen? ⟨w.heap.size + 1, o, none⟩ = false := by
  obtain ⟨cs, h1, _⟩ := h.row
  exact frozen_of_row _ _ _ _ _ h1
theorem TabW.drew {w : World} {F : Nat → Nat → Nat} {w' : World} (h : TabW w F w') : TabW w F w'.drew := ⟨h.row, h.res, h.bel.drew⟩
theorem TabW.set {w : World} {F : Nat → Nat → Nat} {w' : World} (h : TabW w F w') {i j : Nat} (hi : i ≤ 60) (hj : j ≤ 60) (z : Nat) :
    TabW w (fun i' j' => if i' = i ∧ j' = j then z else F i' j') (w'.setCell ⟨w.heap.size + 1, i * 61 + j, none⟩ (.int .i64 (z : Nat))) where
  row := by
    obtain ⟨cs, h1, h2⟩ := h.row
    exact ⟨_, heap_setCell_same _ _ _ _ _ _ h1, h2.set hi hj z⟩
  res := by rw [heap_setCell_other _ _ _ _ (by simp)]; exact h.res
  bel := h.bel.setCell (p := ⟨w.heap.size + 1, i * 61 + j, none⟩) (by simp) _
theorem TabW.congr {w : World} {F G : Nat → Nat → Nat} {w' : World} (h : TabW w F w') (e : ∀ i j, i ≤ 60 → j ≤ 60 → F i j = G i j) : TabW w G w' := by
  obtain ⟨cs, h1, h2⟩ := h.row
  exact ⟨⟨cs, h1, h2.congr e⟩, h.res, h.bel⟩
theorem TabW.start (w : World) : TabW w (fun _ _ => 0) ((w.alloc (.cells Try.zeroCells57 57)).alloc (.cells Try.zeroCells57 57)) where
  row := ⟨_, heap_alloc2_new w _ _, TabC.zero⟩
  res := heap_alloc2_old w _ _
  bel := ((Below.refl _ w).alloc (Nat.le_refl _) _).alloc (by simp) _
set_option maxHeartbeats 4000000 in
theorem commons_any (a b : ByteArray) (ha : a.size ≤ 60) (hb : b.size ≤ 60) (w : World) :
    Calls Try.prog 32 #[.string a, .string b] w fun e w' => ∃ cs, e = .returned (.agg cs) ∧ TabC (tab a b) cs ∧ Below w.heap.size w w' := by
  go_enter Try.func32, Try.ntmps32
  go_wp2
  go_loopw [6] (fun s wr => ∃ (p : Nat) (F : Nat → Nat → Nat), p ≤ a.size ∧ s = .int .i64 ((p : Int) - 1) ∧ TabW w F wr ∧ (∀ i k, p ≤ i → F i k = tab a b i k) ∧ (∀ i k, i < p → F i k = 0)) (fun s _ => (intOf s + 1).toNat)
  case atStart => exact ⟨a.size, fun _ _ => 0, Nat.le_refl _, rfl, TabW.start w, fun i k h1 => (tab_endA a b i k h1).symm, fun _ _ _ => rfl⟩
  case round =>
    obtain ⟨p, F, hp, rfl, hM1, hF, hF0⟩ := hrel
    rename World => w1
    have HM1 := Lib.hid hM1
    have HF := Lib.hid hF
    have HF0 := Lib.hid hF0
    clear hM1 hF hF0
    by_cases hp0 : p = 0
    · subst hp0
      obtain ⟨cs, r1, r2⟩ := HM1.out.row
      have r3 := HM1.out.res
      have hinf : (Try.prog.info? 57).map (·.size) = some cs.size := by rw [r2.size]; kernel_rfl
      have hinf0 : Try.zeroCells57.size = cs.size := by rw [r2.size, Try.zeroCells57_size]
      have hbel := HM1.out.bel
      go_wp2_with (first
        | (refine wpList_load_row rfl 57 _ rfl (w.heap.size + 1) rfl 57 cs (0, 0) _ r1 Try.underlying57 rfl hinf ?_)
        | (refine wpList_store_row rfl 57 _ _ rfl w.heap.size cs rfl rfl 57 _ r3 hinf hinf0 r2.one ?_))
      have hcong : TabC (tab a b) cs := r2.congr fun i k _ _ => HF.out i k (Nat.zero_le _)
      refine bodyPost_ret (v := .agg cs) ?_ rfl ⟨cs, rfl, hcong, below_setRow hbel (Nat.le_refl _) cs⟩
      exact results_cell_row Try.results32 _ _ w.heap.size 57 cs (0, 0) _ rfl (setRow_heap _ _ _ _ _ _ r3) Try.underlying57 rfl hinf
    · obtain ⟨i, rfl⟩ : ∃ i, p = i + 1 := ⟨p - 1, by omega⟩
      have e7 : ((i + 1 : Nat) : Int) - 1 = (i : Int) := by omega
      rw [e7]
      clear e7 hp0
      go_wp2
      go_loopw [7] (fun s wr => ∃ (q : Nat) (F : Nat → Nat → Nat), q ≤ b.size ∧ s = .int .i64 ((q : Int) - 1) ∧ TabW w F wr ∧ (∀ i' k, i + 1 ≤ i' → F i' k = tab a b i' k) ∧ (∀ k, q ≤ k → F i k = tab a b i k) ∧ (∀ i' k, i' < i → F i' k = 0)) (fun s _ => (intOf s + 1).toNat)
      case atStart => exact ⟨b.size, F, Nat.le_refl _, rfl, HM1.out, HF.out, fun k h1 => by rw [HF0.out i k (by omega), tab_endB a b i k h1], fun i' k h => HF0.out i' k (by omega)⟩
      case round =>
        obtain ⟨q, F1, hq, rfl, hM2, hA, hB, hZ⟩ := hrel
        rename World => w2
        have HM2 := Lib.hid hM2
        have HA := Lib.hid hA
        have HBk := Lib.hid hB
        have HZ := Lib.hid hZ
        clear hM2 hA hB hZ HM1 HF HF0
        by_cases hq0 : q = 0
        · subst hq0
          go_wp2
          go_roundw
          case rel => exact ⟨i, F1, by omega, by go_num, HM2.out, fun i' k h1 => by
            by_cases e : i' = i
            · subst e; exact HBk.out k (Nat.zero_le _)
            · exact HA.out i' k (by omega), fun i' k h => HZ.out i' k h⟩
          case measure => simp [intOf]
        · obtain ⟨k, rfl⟩ : ∃ k, q = k + 1 := ⟨q - 1, by omega⟩
          have e8 : ((k + 1 : Nat) : Int) - 1 = (k : Int) := by omega
          rw [e8]
          clear e8 hq0
          have n1 := HM2.out.cell (i + 1) k (by omega) (by omega)
          have n2 := HM2.out.cell i (k + 1) (by omega) (by omega)
          have n3 := HM2.out.cell (i + 1) (k + 1) (by omega) (by omega)
          have n0 := HM2.out.cell i k (by omega) (by omega)
          have f0 := HM2.out.frz (i * 61 + k)
          rw [HA.out (i + 1) k (Nat.le_refl _)] at n1
          rw [HBk.out (k + 1) (Nat.le_refl _)] at n2
          rw [HA.out (i + 1) (k + 1) (Nat.le_refl _)] at n3
          have t1 := tab_le a b (i + 1) k
          have t2 := tab_le a b i (k + 1)
          have t3 := tab_le a b (i + 1) (k + 1)
          obtain ⟨x1, hx1⟩ : ∃ x, x = tab a b (i + 1) k := ⟨_, rfl⟩
          obtain ⟨x2, hx2⟩ : ∃ x, x = tab a b i (k + 1) := ⟨_, rfl⟩
          obtain ⟨x3, hx3⟩ : ∃ x, x = tab a b (i + 1) (k + 1) := ⟨_, rfl⟩
          rw [← hx1] at n1 t1
          rw [← hx2] at n2 t2
          rw [← hx3] at n3 t3
          have HX1 := Lib.hid hx1
          have HX2 := Lib.hid hx2
          have HX3 := Lib.hid hx3
          clear hx1 hx2 hx3
          have b1 : (0 : Int) ≤ (i : Int) + 1 := by omega
          have b2 : (i : Int) + 1 < 61 := by omega
          have b3 : IntKind.i64.wrap ((i : Int) + 1) = (i : Int) + 1 := IntWalk.i64_in _ (by omega)
          have b4 : ((i : Int) + 1).toNat = i + 1 := by omega
          have b5 : (i : Int) < 61 := by omega
          have c1 : (0 : Int) ≤ (k : Int) + 1 := by omega
          have c2 : (k : Int) + 1 < 61 := by omega
          have c3 : IntKind.i64.wrap ((k : Int) + 1) = (k : Int) + 1 := IntWalk.i64_in _ (by omega)
          have c4 : ((k : Int) + 1).toNat = k + 1 := by omega
          have c5 : (k : Int) < 61 := by omega
          have hia : i < a.size := by omega
          have hkb : k < b.size := by omega
          have hst := tab_step a b i k hia hkb
          have HST := Lib.hid hst
          clear hst
          have s1 : ∀ (W : World) (v : Value), (W.setCell ⟨w.heap.size + 1, i * 61 + k, none⟩ v).cell? ⟨w.heap.size + 1, (i + 1) * 61 + (k + 1), none⟩ = W.cell? ⟨w.heap.size + 1, (i + 1) * 61 + (k + 1), none⟩ := fun W v => set_other (fun x => by injection x; omega)
          have s2 : ∀ (W : World) (v : Value), (W.setCell ⟨w.heap.size + 1, i * 61 + k, none⟩ v).cell? ⟨w.heap.size + 1, (i + 1) * 61 + k, none⟩ = W.cell? ⟨w.heap.size + 1, (i + 1) * 61 + k, none⟩ := fun W v => set_other (fun x => by injection x; omega)
          have s3 : ∀ (W : World) (v : Value), (W.setCell ⟨w.heap.size + 1, i * 61 + k, none⟩ v).cell? ⟨w.heap.size + 1, i * 61 + (k + 1), none⟩ = W.cell? ⟨w.heap.size + 1, i * 61 + (k + 1), none⟩ := fun W v => set_other (fun x => by injection x; omega)
          by_cases he : a[i].toNat = b[k].toNat
          · have ee : ((a[i].toNat : Int) == (b[k].toNat : Int)) = true := by simp [he]
            have HFIN := Lib.hid (show tab a b i k = x3 + 1 by rw [HST.out, if_pos he, HX3.out])
            clear he
            go_wp2
            go_region
            go_wp2
            have w3 : IntKind.i64.wrap ((x3 : Int) + 1) = (x3 : Int) + 1 := IntWalk.i64_in _ (by omega)
            go_region_held3 (fun w' => w'.cell? ⟨w.heap.size + 1, (i + 1) * 61 + (k + 1), none⟩ = some (.int .i64 (x3 : Nat))) (go_keep) (fail)
            have hM3 := (HM2.out.set (show i ≤ 60 by omega) (show k ≤ 60 by omega) (x3 + 1)).drew.drew
            obtain ⟨F2, hF2⟩ : ∃ F2 : Nat → Nat → Nat, F2 = fun i' k' => if i' = i ∧ k' = k then x3 + 1 else F1 i' k' := ⟨_, rfl⟩
            have E2A := Lib.hid (show F2 i k = x3 + 1 by rw [hF2]; exact if_pos ⟨rfl, rfl⟩)
            have E2B := Lib.hid (show ∀ i' k', ¬ (i' = i ∧ k' = k) → F2 i' k' = F1 i' k' from fun _ _ h => by rw [hF2]; exact if_neg h)
            rw [← hF2, show (((x3 + 1 : Nat) : Nat) : Int) = (x3 : Int) + 1 from rfl] at hM3
            clear hF2
            have HM3 := Lib.hid hM3
            clear hM3
            go_wp2
            go_roundw
            case rel => exact ⟨k, F2, by omega, by go_num, HM3.out, fun i' k' h1 => by
                rw [E2B.out _ _ (by omega)]; exact HA.out i' k' h1, fun k' h1 => by
                by_cases e : k' = k
                · subst e; rw [E2A.out, HFIN.out]
                · rw [E2B.out _ _ (by omega)]; exact HBk.out k' (by omega), fun i' k' h => by
                rw [E2B.out _ _ (by omega)]; exact HZ.out i' k' h⟩
            case measure => simp [intOf]
          · have ee : ((a[i].toNat : Int) == (b[k].toNat : Int)) = false := by simp; omega
            have HFIN := Lib.hid (show tab a b i k = max x1 x2 by rw [HST.out, if_neg he, HX1.out, HX2.out])
            clear he
            go_wp2
            go_region
            go_wp2
            go_region_held3 (fun w' => w'.cell? ⟨w.heap.size + 1, (i + 1) * 61 + k, none⟩ = some (.int .i64 (x1 : Nat)) ∧ w'.cell? ⟨w.heap.size + 1, i * 61 + (k + 1), none⟩ = some (.int .i64 (x2 : Nat))) (go_keep) (fail)
            have hM3 := (HM2.out.set (show i ≤ 60 by omega) (show k ≤ 60 by omega) (max x1 x2)).drew.drew
            obtain ⟨F2, hF2⟩ : ∃ F2 : Nat → Nat → Nat, F2 = fun i' k' => if i' = i ∧ k' = k then max x1 x2 else F1 i' k' := ⟨_, rfl⟩
            have E2A := Lib.hid (show F2 i k = max x1 x2 by rw [hF2]; exact if_pos ⟨rfl, rfl⟩)
            have E2B := Lib.hid (show ∀ i' k', ¬ (i' = i ∧ k' = k) → F2 i' k' = F1 i' k' from fun _ _ h => by rw [hF2]; exact if_neg h)
            rw [← hF2, show (((max x1 x2 : Nat) : Nat) : Int) = (if x1 < x2 then (x2 : Int) else (x1 : Int)) from by split <;> omega] at hM3
            clear hF2
            have HM3 := Lib.hid hM3
            clear hM3
            go_wp2
            go_roundw
            case rel => exact ⟨k, F2, by omega, by go_num, HM3.out, fun i' k' h1 => by
                rw [E2B.out _ _ (by omega)]; exact HA.out i' k' h1, fun k' h1 => by
                by_cases e : k' = k
                · subst e; rw [E2A.out, HFIN.out]
                · rw [E2B.out _ _ (by omega)]; exact HBk.out k' (by omega), fun i' k' h => by
                rw [E2B.out _ _ (by omega)]; exact HZ.out i' k' h⟩
            case measure => simp [intOf]
end Go.Proofs.Ythdnhopkkgdclaa.table
