/-
  The program's iterator of runs: what it owes to the loop that it feeds. For right texts.
-/
import Derived.Test.YthdnhopkkgdclaaRun
import Derived.Test.YthdnhopkkgdclaaBuild
import Derived.Test.YthdnhopkkgdclaaRange
import Derived.Deep.RegionHeld3
namespace Go.Proofs.Ythdnhopkkgdclaa.table
open Go.ChangeShapes Go.WideShapes Go.ChangeAt Go.RowKit
open Go.Proofs.Ythdnhopkkgdclaa.put Go.Proofs.Ythdnhopkkgdclaa.range
attribute [local go_sem] Oper.semAt_some
theorem at_sum {A B f : Nat} {k : Int} {i j n : Nat} (hi : i ≤ A) (hj : j ≤ B) (hx : atI k i n ≤ A) (hy : atJ k j n ≤ B) (hf : A + B ≤ i + j + f) :
    n ≤ f ∧ n + i + j ≤ atI k i n + atJ k j n := by
  unfold atI atJ at *
  by_cases h3 : k = 3
  · subst h3
    simp at *
    omega
  · by_cases h2 : k = 2
    · subst h2
      simp at *
      omega
    · simp [h3, h2] at *
      omega
theorem at_less {A B : Nat} {k : Int} {i j n : Nat} (hn : 1 ≤ n) (hx : atI k i n ≤ A) (hy : atJ k j n ≤ B) : (A - atI k i n) + (B - atJ k j n) < (A - i) + (B - j) := by
  unfold atI atJ at *
  by_cases h3 : k = 3
  · subst h3
    simp at *
    omega
  · by_cases h2 : k = 2
    · subst h2
      simp at *
      omega
    · simp [h3, h2] at *
      omega
def encR (d : Run) : Array Value := #[.agg #[.int .i64 d.1, .string d.2]]
set_option maxHeartbeats 4000000 in
set_option maxRecDepth 100000 in
theorem runs_comes (a b : ByteArray) (ha : a.size ≤ 60) (hb : b.size ≤ 60) (n : Nat) (h1 : 1 ≤ n) (gA gB : Nat) (w0 : World) (hA : w0.cell? ⟨gA, 0, none⟩ = some (.string a)) (hB : w0.cell? ⟨gB, 0, none⟩ = some (.string b)) :
    IterComes n Try.prog 51 #[.pointer (some ⟨gA, 0, none⟩), .pointer (some ⟨gB, 0, none⟩)] encR 86 (fun s => s = diffL a b) 121 w0 := by
  intro l J W hW hturn hstart hY
  have cA : W.cell? ⟨gA, 0, none⟩ = some (.string a) := (hW.cell (p := ⟨gA, 0, none⟩) (blk_lt hA)).trans hA
  have cB : W.cell? ⟨gB, 0, none⟩ = some (.string b) := (hW.cell (p := ⟨gB, 0, none⟩) (blk_lt hB)).trans hB
  have HT := Lib.hid hturn
  have HS := Lib.hid hstart
  have HY := Lib.hid hY
  clear hturn hstart hY hA hB hW
  show CallsIn Fence.wide n Try.prog 51 #[.func (.yield l) #[] #[], .pointer (some ⟨gA, 0, none⟩), .pointer (some ⟨gB, 0, none⟩)] W _
  refine callsIn_of_wp Try.func51 rfl trivial ?_ rfl
  simp only [Try.ntmps51, List.size_toArray, List.length_cons, List.length_nil, Nat.reduceAdd, Nat.reduceSub, Array.replicate_succ, Array.replicate_zero, List.push_toArray, List.append_toArray, List.nil_append, List.cons_append]
  refine wpIn_wide.2 ?_
  go_wp2_with fail
  have lA := blk_lt cA
  have lB := blk_lt cB
  have hinf : ∀ R : Array Value, R.size = 3725 → (Try.prog.info? 86).map (·.size) = some R.size := fun R h => by rw [h]; kernel_rfl
  have hold : ∀ R : Array Value, R.size = 3725 → Try.zeroCells86.size = R.size := fun R h => by rw [h, Try.zeroCells86_size]
  refine wp_region_held_drew (S := fun w' => w'.cell? ⟨gA, 0, none⟩ = some (.string a) ∧ w'.cell? ⟨gB, 0, none⟩ = some (.string b)) (by kernel_rfl) ⟨cA, cB⟩ (fun hHeld => ?_)
  refine wpAnyH_take (i := 0) (v := .string a) rfl (by kernel_rfl) (by kernel_rfl) (by kernel_rfl) (fun _ _ _ h => h) (Or.inl ⟨by rfl, ?_⟩) (by assumption) ?_
  · rintro w ⟨q1, q2⟩
    go_simp
  simp only [Act.put, List.setIfInBounds_toArray]
  refine wpAnyH_take (i := 1) (v := .string b) rfl (by kernel_rfl) (by kernel_rfl) (by kernel_rfl) (fun _ _ _ h => h) (Or.inl ⟨by rfl, ?_⟩) (by assumption) ?_
  · rintro w ⟨q1, q2⟩
    go_simp
  simp only [Act.put]
  refine wpAnyH_take (i := 2) (v := .string a) rfl (by kernel_rfl) (by kernel_rfl) (by kernel_rfl) (fun _ _ _ h => h) (Or.inl ⟨by rfl, ?_⟩) (by assumption) ?_
  · rintro w ⟨q1, q2⟩
    go_simp
  simp only [Act.put]
  refine wpAnyH_take (i := 3) (v := .string b) rfl (by kernel_rfl) (by kernel_rfl) (by kernel_rfl) (fun _ _ _ h => h) (Or.inl ⟨by rfl, ?_⟩) (by assumption) ?_
  · rintro w ⟨q1, q2⟩
    go_simp
  simp only [Act.put]
  refine wpAnyH_ready (rs := [4, 6]) (by kernel_rfl) (by simp) ?_
  refine AllReadyH.cons rfl (fun K hK => ?_) ?_
  · go_simp
    refine (commons_any a b ha hb _).mono ?_
    rintro e w3 ⟨cs, rfl, hT, hb3⟩
    have kA : w3.cell? ⟨gA, 0, none⟩ = some (.string a) := (hb3.cell (p := ⟨gA, 0, none⟩) lA).trans cA
    have kB : w3.cell? ⟨gB, 0, none⟩ = some (.string b) := (hb3.cell (p := ⟨gB, 0, none⟩) lB).trans cB
    have hbl := build_any a b cs hT.size
    obtain ⟨hwc, hone⟩ := build_walk a b cs hT
    obtain ⟨R, hR⟩ : ∃ R, R = layAt 4 cs ((Try.zeroCells86.setIfInBounds 0 (.string a)).setIfInBounds 1 (.string b)) := ⟨_, rfl⟩
    rw [← hR] at hbl hwc hone
    clear hR
    refine hK.out _ _ ⟨kA, kB⟩ (fun hHeld => ?_)
    clear hK K
    refine wpAnyH_take (i := 5) (oi := { dst := some 11, op := .build 86 #[(0, .tmp 6), (1, .tmp 7), (4, .tmp 10)], type := _, pos := _, after := _, guard := none }) (v := .agg R) rfl (by kernel_rfl) (by kernel_rfl) (by kernel_rfl) (fun _ _ _ h => h) (Or.inl ⟨by rfl, ?_⟩) (by assumption) ?_
    · intro w _
      unfold execOp
      dsimp only [Act.eval]
      rw [List.map_toArray]
      show ((Instr.build 86 #[(0, .string a), (1, .string b), (4, .agg cs)]) >>= fun x => pure (Next.value x)).run Try.prog w = _
      rw [Sem.run_bind, hbl]
      rfl
    simp only [Act.put, List.setIfInBounds_toArray, List.set_cons_succ]
    refine wpAnyH_ready (rs := [6]) (by kernel_rfl) (by simp) ?_
    refine AllReadyH.cons rfl (fun K hK => ?_) AllReadyH.nil
    go_simp
    have hal := (Below.refl w3.heap.size w3).alloc (Nat.le_refl _) (.cells Try.zeroCells86 86)
    refine hK.out _ _ ⟨(hal.cell (p := ⟨gA, 0, none⟩) (blk_lt kA)).trans kA, (hal.cell (p := ⟨gB, 0, none⟩) (blk_lt kB)).trans kB⟩ (fun hHeld => ?_)
    clear hK K
    refine wpAnyH_ready (rs := [7]) (by kernel_rfl) (by simp) ?_
    refine AllReadyH.cons (o := { dst := none, op := .store 86 (.tmp 4) (.tmp 11), type := _, pos := _, after := _, guard := none }) rfl (fun K hK => ?_) AllReadyH.nil
    rw [if_pos (by rfl)]
    refine wp_store_row 86 _ _ rfl w3.heap.size R rfl rfl 86 _ (heap_alloc_new w3 _) (hinf R hwc.size) (hold R hwc.size) hone ?_
    rw [World.setRow_alloc_new]
    have hal2 := (Below.refl w3.heap.size w3).alloc (Nat.le_refl _) (.cells R 86)
    refine hK.out _ _ ⟨(hal2.cell (p := ⟨gA, 0, none⟩) (blk_lt kA)).trans kA, (hal2.cell (p := ⟨gB, 0, none⟩) (blk_lt kB)).trans kB⟩ (fun hHeld => ?_)
    clear hK K
    refine wpAnyH_done (by kernel_rfl) ?_ _
    have hbel : Below W.heap.size W w3 := ⟨hb3.os, hb3.tape, hb3.output, hb3.size, hb3.block⟩
    have hWk : WalkW a b w3.heap.size 0 0 (w3.alloc (.cells R 86)) := ⟨R, heap_alloc_new w3 _, hwc⟩
    have hcW : W.heap.size ≤ w3.heap.size := hbel.size
    have hB2 : Below W.heap.size W (w3.alloc (.cells R 86)) := hbel.alloc hcW _
    obtain ⟨c, hc⟩ : ∃ c, c = w3.heap.size := ⟨_, rfl⟩
    obtain ⟨W2, hW2⟩ : ∃ W2, W2 = w3.alloc (.cells R 86) := ⟨_, rfl⟩
    rw [← hW2] at hWk hB2 ⊢
    rw [← hc] at hWk hcW ⊢
    clear hc hW2 hal hal2 hbel hb3 kA kB hT hwc hone hbl hinf hold hHeld lA lB
    have hown : OwnB 86 c W2 := by obtain ⟨cs, h, _⟩ := hWk; exact ⟨cs, h⟩
    go_wp2_with fail
    refine (next_any a b ha hb c 0 0 (Nat.zero_le _) (Nat.zero_le _) _ hWk).mono ?_
    rintro e w4 ⟨rfl, hb4⟩
    have hW4 := hWk.below hb4
    have hown4 : OwnB 86 c w4 := by obtain ⟨cs, h, _⟩ := hW4; exact ⟨cs, h⟩
    have HJ := Lib.hid (HS.out c w4 hcW hown4 (bthen hB2 hb4 hB2.size))
    have HW4 := Lib.hid hW4
    clear hWk hown hown4 hW4 hb4 hB2 HS
    go_wp2
    refine (wpIn_wide (n := n)).1 ?_
    gi_loopw [5] (fun kd wr => ∃ (i j f : Nat) (pre : List Run), kd = .int .i64 (kindAt a b i j) ∧ i ≤ a.size ∧ j ≤ b.size ∧ J c pre wr ∧ WalkW a b c i j wr ∧ a.size + b.size ≤ i + j + f ∧ diffR a b f i j pre = diffL a b ∧ LastNe pre (kindAt a b i j) ∧ pre.length ≤ i + j) (fun _ wr => leftW a b c wr)
    case atStart => exact ⟨0, 0, a.size + b.size, [], rfl, Nat.zero_le _, Nat.zero_le _, HJ.out, HW4.out, by omega, rfl, LastNe.nil _, Nat.le_refl _⟩
    case round =>
      obtain ⟨i, j, f, pre, rfl, hi, hj, hJ, hW, hf, hd, hl, hpl⟩ := hrel
      rename World => wr
      have HJ := Lib.hid hJ
      have HW := Lib.hid hW
      have HD := Lib.hid hd
      have HL := Lib.hid hl
      have hlw := leftW_eq hW
      clear hJ hW hd hl HW4
      by_cases hk0 : kindAt a b i j = 0
      · have HE := Lib.hid (show pre = diffL a b by
          rw [← HD.out]
          have : ¬ i < a.size ∧ ¬ j < b.size := by
            unfold kindAt at hk0
            split at hk0
            · assumption
            · split at hk0
              · cases hk0
              · split at hk0 <;> cases hk0
          rw [diffR_end _ _ _ _ _ _ this.1 this.2])
        rw [hk0]
        gi_wp2
        go_end0
        exact ⟨⟨_, rfl⟩, c, pre, hcW, HE.out, HJ.out⟩
      · obtain ⟨k, hk⟩ : ∃ k, k = kindAt a b i j := ⟨_, rfl⟩
        rw [← hk] at hk0 ⊢
        have hkb : (k != 0) = true := by simpa using hk0
        have HK := Lib.hid hk.symm
        clear hk
        gi_wp2_with (first
          | (refine ⟨trivial, ?_⟩
             gi_at_call 53
             refine (callsIn_wide.2 (run_any a b ha hb c i j hi hj k HK.out hk0 _ HW.out)).mono ?_
             rintro e w5 ⟨n1, hn1, hall, hnx, hx, hy, rfl, hw5, hg5⟩
             have HJ5 := HT.out c pre wr w5 hcW HJ.out hg5 (by obtain ⟨cs, h, _⟩ := hw5; exact ⟨cs, h⟩)
             have hlen : pre.length < 121 := by omega
             obtain ⟨fn, tmps, assign, body, hyy, hR⟩ := HY.out c pre (k, runT a b k i j n1) w5 hcW (by obtain ⟨cs, h, _⟩ := hw5; exact ⟨cs, h⟩) HJ5 hlen
             dsimp only [encR] at hyy))
        refine hR.mono ?_
        rintro e w6 ⟨rfl, hJ6, hz6, hc6⟩
        have hW6 : WalkW a b c (atI k i n1) (atJ k j n1) w6 := by obtain ⟨cs, h, h'⟩ := hw5; exact ⟨cs, hc6.trans h, h'⟩
        clear hyy hR
        gi_wp2_with (first
          | (refine ⟨trivial, ?_⟩
             gi_at_call 52
             refine (callsIn_wide.2 (next_any a b ha hb c _ _ hx hy _ hW6)).mono ?_
             rintro e w7 ⟨rfl, hb7⟩
             have hW7 := hW6.below hb7
             have HJ7 := HT.out c _ w6 w7 hcW hJ6 (grown_below hb7) (by obtain ⟨cs, h, _⟩ := hW7; exact ⟨cs, h⟩)))
        obtain ⟨hnf, hsum⟩ := at_sum hi hj hx hy hf
        obtain ⟨f', rfl⟩ : ∃ f', f = f' + n1 := ⟨f - n1, by omega⟩
        refine ⟨⟨atI k i n1, atJ k j n1, f', pre ++ [(k, runT a b k i j n1)], rfl, hx, hy, HJ7, hW7, by omega, ?_, LastNe.snoc (fun e => hnx e.symm), ?_⟩, ?_⟩
        · rw [← run_more a b k i j hk0 pre (by have := HL.out; rw [HK.out] at this; exact this) n1 f' hn1 hall]
          exact HD.out
        · rw [List.length_append]
          simp only [List.length_cons, List.length_nil]
          omega
        · rw [hlw, leftW_eq hW7]
          exact at_less hn1 hx hy
  refine AllReadyH.cons rfl (fun K hK => ?_) AllReadyH.nil
  · go_simp
    have hal := (Below.refl W.heap.size W).alloc (Nat.le_refl _) (.cells Try.zeroCells86 86)
    refine hK.out _ _ ⟨(hal.cell (p := ⟨gA, 0, none⟩) lA).trans cA, (hal.cell (p := ⟨gB, 0, none⟩) lB).trans cB⟩ (fun hHeld => ?_)
    clear hK K
    refine wpAnyH_ready (rs := [4]) (by kernel_rfl) (by simp) ?_
    refine AllReadyH.cons rfl (fun K hK => ?_) AllReadyH.nil
    go_simp
    refine (commons_any a b ha hb _).mono ?_
    rintro e w3 ⟨cs, rfl, hT, hb3⟩
    have hb3' : Below (W.heap.size + 1) (W.alloc (.cells Try.zeroCells86 86)) w3 := ⟨hb3.os, hb3.tape, hb3.output, hb3.size, fun k hk => hb3.block k (by show k < (W.alloc (.cells Try.zeroCells86 86)).heap.size; simp; omega)⟩
    have hal3 : Below W.heap.size W w3 := hal.trans (hb3'.mono (Nat.le_succ _))
    have kA : w3.cell? ⟨gA, 0, none⟩ = some (.string a) := (hal3.cell (p := ⟨gA, 0, none⟩) lA).trans cA
    have kB : w3.cell? ⟨gB, 0, none⟩ = some (.string b) := (hal3.cell (p := ⟨gB, 0, none⟩) lB).trans cB
    have hrow : w3.heap[W.heap.size]? = some (.cells Try.zeroCells86 86 (0, 0)) := (hb3'.block W.heap.size (Nat.lt_succ_self _)).trans (heap_alloc_new W _)
    have hbl := build_any a b cs hT.size
    obtain ⟨hwc, hone⟩ := build_walk a b cs hT
    obtain ⟨R, hR⟩ : ∃ R, R = layAt 4 cs ((Try.zeroCells86.setIfInBounds 0 (.string a)).setIfInBounds 1 (.string b)) := ⟨_, rfl⟩
    rw [← hR] at hbl hwc hone
    clear hR
    refine hK.out _ _ ⟨kA, kB⟩ (fun hHeld => ?_)
    clear hK K
    refine wpAnyH_take (i := 5) (oi := { dst := some 11, op := .build 86 #[(0, .tmp 6), (1, .tmp 7), (4, .tmp 10)], type := _, pos := _, after := _, guard := none }) (v := .agg R) rfl (by kernel_rfl) (by kernel_rfl) (by kernel_rfl) (fun _ _ _ h => h) (Or.inl ⟨by rfl, ?_⟩) (by assumption) ?_
    · intro w _
      unfold execOp
      dsimp only [Act.eval]
      rw [List.map_toArray]
      show ((Instr.build 86 #[(0, .string a), (1, .string b), (4, .agg cs)]) >>= fun x => pure (Next.value x)).run Try.prog w = _
      rw [Sem.run_bind, hbl]
      rfl
    simp only [Act.put, List.setIfInBounds_toArray, List.set_cons_succ]
    refine wpAnyH_ready (rs := [7]) (by kernel_rfl) (by simp) ?_
    refine AllReadyH.cons (o := { dst := none, op := .store 86 (.tmp 4) (.tmp 11), type := _, pos := _, after := _, guard := none }) rfl (fun K hK => ?_) AllReadyH.nil
    rw [if_pos (by rfl)]
    refine wp_store_row 86 _ _ rfl W.heap.size R rfl rfl 86 _ hrow (hinf R hwc.size) (hold R hwc.size) hone ?_
    have hal4 : Below W.heap.size W (w3.setRow W.heap.size R) := below_setRow hal3 (Nat.le_refl _) R
    refine hK.out _ _ ⟨(hal4.cell (p := ⟨gA, 0, none⟩) lA).trans cA, (hal4.cell (p := ⟨gB, 0, none⟩) lB).trans cB⟩ (fun hHeld => ?_)
    clear hK K
    refine wpAnyH_done (by kernel_rfl) ?_ _
    have hWk : WalkW a b W.heap.size 0 0 (w3.setRow W.heap.size R) := ⟨R, setRow_heap _ _ _ _ _ _ hrow, hwc⟩
    have hB2 := hal4
    obtain ⟨c, hc⟩ : ∃ c, c = W.heap.size := ⟨_, rfl⟩
    obtain ⟨W2, hW2⟩ : ∃ W2, W2 = w3.setRow W.heap.size R := ⟨_, rfl⟩
    rw [← hW2] at hWk hB2 ⊢
    have hcW : W.heap.size ≤ c := by rw [hc]; exact Nat.le_refl _
    rw [← hc] at hWk ⊢
    clear hc hW2 hal hal3 hal4 hb3 hb3' kA kB hT hwc hone hbl hinf hold hHeld lA lB hrow
    have hown : OwnB 86 c W2 := by obtain ⟨cs, h, _⟩ := hWk; exact ⟨cs, h⟩
    go_wp2_with fail
    refine (next_any a b ha hb c 0 0 (Nat.zero_le _) (Nat.zero_le _) _ hWk).mono ?_
    rintro e w4 ⟨rfl, hb4⟩
    have hW4 := hWk.below hb4
    have hown4 : OwnB 86 c w4 := by obtain ⟨cs, h, _⟩ := hW4; exact ⟨cs, h⟩
    have HJ := Lib.hid (HS.out c w4 hcW hown4 (bthen hB2 hb4 hB2.size))
    have HW4 := Lib.hid hW4
    clear hWk hown hown4 hW4 hb4 hB2 HS
    go_wp2
    refine (wpIn_wide (n := n)).1 ?_
    gi_loopw [5] (fun kd wr => ∃ (i j f : Nat) (pre : List Run), kd = .int .i64 (kindAt a b i j) ∧ i ≤ a.size ∧ j ≤ b.size ∧ J c pre wr ∧ WalkW a b c i j wr ∧ a.size + b.size ≤ i + j + f ∧ diffR a b f i j pre = diffL a b ∧ LastNe pre (kindAt a b i j) ∧ pre.length ≤ i + j) (fun _ wr => leftW a b c wr)
    case atStart => exact ⟨0, 0, a.size + b.size, [], rfl, Nat.zero_le _, Nat.zero_le _, HJ.out, HW4.out, by omega, rfl, LastNe.nil _, Nat.le_refl _⟩
    case round =>
      obtain ⟨i, j, f, pre, rfl, hi, hj, hJ, hW, hf, hd, hl, hpl⟩ := hrel
      rename World => wr
      have HJ := Lib.hid hJ
      have HW := Lib.hid hW
      have HD := Lib.hid hd
      have HL := Lib.hid hl
      have hlw := leftW_eq hW
      clear hJ hW hd hl HW4
      by_cases hk0 : kindAt a b i j = 0
      · have HE := Lib.hid (show pre = diffL a b by
          rw [← HD.out]
          have : ¬ i < a.size ∧ ¬ j < b.size := by
            unfold kindAt at hk0
            split at hk0
            · assumption
            · split at hk0
              · cases hk0
              · split at hk0 <;> cases hk0
          rw [diffR_end _ _ _ _ _ _ this.1 this.2])
        rw [hk0]
        gi_wp2
        go_end0
        exact ⟨⟨_, rfl⟩, c, pre, hcW, HE.out, HJ.out⟩
      · obtain ⟨k, hk⟩ : ∃ k, k = kindAt a b i j := ⟨_, rfl⟩
        rw [← hk] at hk0 ⊢
        have hkb : (k != 0) = true := by simpa using hk0
        have HK := Lib.hid hk.symm
        clear hk
        gi_wp2_with (first
          | (refine ⟨trivial, ?_⟩
             gi_at_call 53
             refine (callsIn_wide.2 (run_any a b ha hb c i j hi hj k HK.out hk0 _ HW.out)).mono ?_
             rintro e w5 ⟨n1, hn1, hall, hnx, hx, hy, rfl, hw5, hg5⟩
             have HJ5 := HT.out c pre wr w5 hcW HJ.out hg5 (by obtain ⟨cs, h, _⟩ := hw5; exact ⟨cs, h⟩)
             have hlen : pre.length < 121 := by omega
             obtain ⟨fn, tmps, assign, body, hyy, hR⟩ := HY.out c pre (k, runT a b k i j n1) w5 hcW (by obtain ⟨cs, h, _⟩ := hw5; exact ⟨cs, h⟩) HJ5 hlen
             dsimp only [encR] at hyy))
        refine hR.mono ?_
        rintro e w6 ⟨rfl, hJ6, hz6, hc6⟩
        have hW6 : WalkW a b c (atI k i n1) (atJ k j n1) w6 := by obtain ⟨cs, h, h'⟩ := hw5; exact ⟨cs, hc6.trans h, h'⟩
        clear hyy hR
        gi_wp2_with (first
          | (refine ⟨trivial, ?_⟩
             gi_at_call 52
             refine (callsIn_wide.2 (next_any a b ha hb c _ _ hx hy _ hW6)).mono ?_
             rintro e w7 ⟨rfl, hb7⟩
             have hW7 := hW6.below hb7
             have HJ7 := HT.out c _ w6 w7 hcW hJ6 (grown_below hb7) (by obtain ⟨cs, h, _⟩ := hW7; exact ⟨cs, h⟩)))
        obtain ⟨hnf, hsum⟩ := at_sum hi hj hx hy hf
        obtain ⟨f', rfl⟩ : ∃ f', f = f' + n1 := ⟨f - n1, by omega⟩
        refine ⟨⟨atI k i n1, atJ k j n1, f', pre ++ [(k, runT a b k i j n1)], rfl, hx, hy, HJ7, hW7, by omega, ?_, LastNe.snoc (fun e => hnx e.symm), ?_⟩, ?_⟩
        · rw [← run_more a b k i j hk0 pre (by have := HL.out; rw [HK.out] at this; exact this) n1 f' hn1 hall]
          exact HD.out
        · rw [List.length_append]
          simp only [List.length_cons, List.length_nil]
          omega
        · rw [hlw, leftW_eq hW7]
          exact at_less hn1 hx hy
end Go.Proofs.Ythdnhopkkgdclaa.table
