/-
  The model's table of what two texts have in common: rows of rows in memory. For right texts.
-/
import Derived.Test.YthdnhopkkgdclaaLine
import Derived.Deep.RegionHeld3
import Derived.BigQuiet
namespace Go.Proofs.Ythdnhopkkgdclaa.table
open Go.ChangeShapes Go.WideShapes Go.ChangeAt Go.RowKit
theorem heap_lt {w : World} {g : Nat} {o : Obj} (h : w.heap[g]? = some o) : g < w.heap.size := by
  rcases Nat.lt_or_ge g w.heap.size with h' | h'
  · exact h'
  · rw [Array.getElem?_eq_none h'] at h; cases h
def zrow (m : Nat) : Array Value := (List.replicate (m + 1) (Value.int .i64 0)).toArray
theorem zrow_size (m : Nat) : (zrow m).size = m + 1 := by simp [zrow]
theorem zrow_at (m k : Nat) (h : k ≤ m) : (zrow m)[k]? = some (.int .i64 0) := by
  rw [zrow, List.getElem?_toArray, List.getElem?_replicate, if_pos (by omega)]
abbrev rowV (m : Nat) (g : Nat) : Value := .slice (some ⟨g, 0, none⟩) (m + 1) (m + 1)
/-- i rows laid, of noughts -/
structure T1 (w : World) (m : Nat) (w' : World) (v : Value) (i : Nat) (G : Nat → Nat) : Prop where
  own : w'.ownsRow w.heap.size 62 1 v i ((List.range i).map fun j => rowV m (G j))
  row : ∀ j, j < i → w'.heap[G j]? = some (.cells (zrow m) 2 (0, 0)) ∧ w.heap.size ≤ G j
  inc : ∀ j k, j < k → k < i → G j < G k
  bel : Below w.heap.size w w'
theorem infoS : (Try.prog.info? 62).map (fun i => (i.zero, i.size, i.bytes)) = some (some (.slice none 0 0), 1, 24) := by kernel_rfl
theorem info64 : (Try.prog.info? 2).map (fun i => (i.zero, i.size, i.bytes)) = some (some (.int .i64 0), 1, 8) := by kernel_rfl
theorem make_row (m : Nat) (hm : m ≤ 60) (W : World) : (Instr.makeSlice 62 (.int .i64 ((m : Int) + 1)) (.int .i64 ((m : Int) + 1))).run Try.prog W = .ok (rowV m W.heap.size) (W.alloc (.cells (zrow m) 2)) := by
  obtain ⟨i0, hi, hz0, hz1, hz2⟩ := info_parts info64
  have h := run_make (P := Try.prog) W 62 2 i0 (.int .i64 0) Try.underlying62 hi hz0 .i64 .i64 ((m : Int) + 1) ((m : Int) + 1) (by omega) (by omega) (by rw [hz2]; omega) (by omega)
  have e : madeCells (Value.int .i64 0).cells (((m : Int) + 1).toNat * i0.size) = zrow m := by
    rw [hz1, Nat.mul_one, show ((m : Int) + 1).toNat = m + 1 from by omega]
    apply Array.ext'
    exact toList_madeCells_one _ _
  rw [e, show ((m : Int) + 1).toNat = m + 1 from by omega] at h
  exact h
/-- another row behind the i: the temporary list of one is the last block of the world W -/
theorem T1.more {w : World} {m : Nat} {w' : World} {v : Value} {i : Nat} {G : Nat → Nat} (h : T1 w m w' v i G) {w1 : World} {v' : Value} (o : Obj)
    (hown : w1.ownsRow w.heap.size 62 1 v' (i + 1) (((List.range i).map fun j => rowV m (G j)) ++ [rowV m w'.heap.size]))
    (hgrow : ((w'.alloc (.cells (zrow m) 2)).alloc o).grownBy w1 v.ownBlock) :
    ∃ G', T1 w m w1 v' (i + 1) G' := by
  have hG : ∀ j, j < i → G j < w'.heap.size := fun j hj => heap_lt (h.row j hj).1
  have hne : ∀ j, j < i → some (G j) ≠ v.ownBlock := by
    intro j hj e
    rcases h.own.2 with ⟨rfl, _⟩ | ⟨g, cap, cur, rfl, _, hg, _⟩
    · cases e
    · simp only [Value.ownBlock, Option.some.injEq] at e
      rw [← e, (h.row j hj).1] at hg
      simp only [Option.some.injEq, Obj.cells.injEq] at hg
      exact absurd hg.2.1 (by decide)
  have hnew : some w'.heap.size ≠ v.ownBlock := fun e => by have := (h.own.lt _ e.symm).2; omega
  refine ⟨fun j => if j < i then G j else w'.heap.size, ?_, fun j hj => ?_, fun j k hjk hk => ?_, ?_⟩
  · have e : (List.range (i + 1)).map (fun j => rowV m (if j < i then G j else w'.heap.size)) = ((List.range i).map fun j => rowV m (G j)) ++ [rowV m w'.heap.size] := by
      rw [List.range_succ, List.map_append]
      congr 1
      · apply List.map_congr_left
        intro j hj
        rw [if_pos (List.mem_range.1 hj)]
      · simp
    rw [e]; exact hown
  · by_cases hj' : j < i
    · rw [if_pos hj']
      refine ⟨?_, (h.row j hj').2⟩
      rw [hgrow.block _ (by have := hG j hj'; simp; omega) (hne j hj')]
      rw [Below.heap_alloc _ _ _ (by have := hG j hj'; simp; omega), Below.heap_alloc _ _ _ (hG j hj')]
      exact (h.row j hj').1
    · rw [if_neg hj']
      refine ⟨?_, h.bel.size⟩
      rw [hgrow.block _ (by simp; omega) hnew, Below.heap_alloc _ _ _ (by simp)]
      exact heap_alloc_new w' _
  · by_cases hk' : k < i
    · rw [if_pos (by omega), if_pos hk']; exact h.inc j k hjk hk'
    · rw [if_pos (by omega), if_neg hk']; exact hG j (by omega)
  · exact ((h.bel.alloc h.bel.size _).alloc (by have := h.bel.size; simp; omega) _).grown hgrow (by have := h.bel.size; simp; omega) (fun k hk => (h.own.lt k hk).1)
/-- how many bytes can be left of both, at most -/
def lcsL : List UInt8 → List UInt8 → Nat
  | [], _ => 0
  | _ :: _, [] => 0
  | x :: xs, y :: ys => if x = y then lcsL xs ys + 1 else max (lcsL xs (y :: ys)) (lcsL (x :: xs) ys)
termination_by l r => l.length + r.length
theorem lcsL_nil (l : List UInt8) : lcsL l [] = 0 := by cases l <;> simp [lcsL]
theorem lcsL_cons (x y : UInt8) (xs ys : List UInt8) : lcsL (x :: xs) (y :: ys) = if x = y then lcsL xs ys + 1 else max (lcsL xs (y :: ys)) (lcsL (x :: xs) ys) := by rw [lcsL]
theorem lcsL_le : ∀ (n : Nat) (l r : List UInt8), l.length + r.length ≤ n → lcsL l r ≤ l.length := by
  intro n
  induction n with
  | zero =>
    intro l r h
    have : l = [] := List.eq_nil_of_length_eq_zero (by omega)
    subst this; simp [lcsL]
  | succ n ih =>
    intro l r h
    match l, r with
    | [], _ => simp [lcsL]
    | _ :: _, [] => simp [lcsL_nil]
    | x :: xs, y :: ys =>
      rw [lcsL_cons]
      simp only [List.length_cons] at h ⊢
      split
      · have := ih xs ys (by omega); omega
      · have h1 := ih xs (y :: ys) (by simp; omega)
        have h2 := ih (x :: xs) ys (by simp; omega)
        simp only [List.length_cons] at h2
        omega
def tab (a b : ByteArray) (i k : Nat) : Nat := lcsL (a.data.toList.drop i) (b.data.toList.drop k)
theorem tab_le (a b : ByteArray) (i k : Nat) : tab a b i k ≤ a.size := by
  have h := lcsL_le _ (a.data.toList.drop i) (b.data.toList.drop k) (Nat.le_refl _)
  have hl : a.data.toList.length = a.size := rfl
  rw [List.length_drop, hl] at h
  exact Nat.le_trans h (Nat.sub_le _ _)
theorem tab_endA (a b : ByteArray) (i k : Nat) (h : a.size ≤ i) : tab a b i k = 0 := by
  have hl : a.data.toList.length = a.size := rfl
  rw [tab, List.drop_of_length_le (by omega)]; simp [lcsL]
theorem tab_endB (a b : ByteArray) (i k : Nat) (h : b.size ≤ k) : tab a b i k = 0 := by
  have hl : b.data.toList.length = b.size := rfl
  rw [tab, List.drop_of_length_le (l := b.data.toList) (by omega), lcsL_nil]
theorem tab_step (a b : ByteArray) (i k : Nat) (hi : i < a.size) (hk : k < b.size) :
    tab a b i k = if a[i].toNat = b[k].toNat then tab a b (i + 1) (k + 1) + 1 else max (tab a b (i + 1) k) (tab a b i (k + 1)) := by
  have e1 : a.data.toList.drop i = a[i] :: a.data.toList.drop (i + 1) := List.drop_eq_getElem_cons (by exact hi)
  have e2 : b.data.toList.drop k = b[k] :: b.data.toList.drop (k + 1) := List.drop_eq_getElem_cons (by exact hk)
  unfold tab
  rw [e1, e2, lcsL_cons]
  simp only [UInt8.toNat_inj]
/-- the table in memory: its rows' blocks G, what stands in them F -/
structure MT (w : World) (n m o : Nat) (G : Nat → Nat) (F : Nat → Nat → Nat) (w' : World) : Prop where
  out : ∀ i, i ≤ n → w'.cell? ⟨o, i, none⟩ = some (.slice (some ⟨G i, 0, none⟩) (m + 1) (m + 1))
  inn : ∀ i k, i ≤ n → k ≤ m → w'.cell? ⟨G i, k, none⟩ = some (.int .i64 (F i k : Nat))
  frz : ∀ i k, i ≤ n → k ≤ m → w'.frozen? ⟨G i, k, none⟩ = false
  ne : ∀ i, i ≤ n → G i ≠ o
  inj : ∀ i j, i ≤ n → j ≤ n → G i = G j → i = j
  low : ∀ i, i ≤ n → w.heap.size ≤ G i
  bel : Below w.heap.size w w'
theorem MT.set {w : World} {n m o : Nat} {G : Nat → Nat} {F : Nat → Nat → Nat} {w' : World} (h : MT w n m o G F w') {i k : Nat} (hi : i ≤ n) (hk : k ≤ m) (z : Nat) :
    MT w n m o G (fun i' k' => if i' = i ∧ k' = k then z else F i' k') (w'.setCell ⟨G i, k, none⟩ (.int .i64 (z : Nat))) where
  out j hj := by rw [set_other (fun e => h.ne i hi (by injection e))]; exact h.out j hj
  inn j c hj hc := by
    by_cases e : j = i ∧ c = k
    · obtain ⟨rfl, rfl⟩ := e
      rw [if_pos ⟨rfl, rfl⟩]; exact set_same (h.inn _ _ hj hc)
    · rw [if_neg e, set_other (fun x => e (by injection x with x1 x2; exact ⟨h.inj j i hj hi x1.symm, x2.symm⟩))]; exact h.inn j c hj hc
  frz j c hj hc := by rw [World.frozen?_setCell]; exact h.frz j c hj hc
  ne := h.ne
  inj := h.inj
  low := h.low
  bel := h.bel.setCell (p := ⟨G i, k, none⟩) (h.low i hi) _
theorem MT.drew {w : World} {n m o : Nat} {G : Nat → Nat} {F : Nat → Nat → Nat} {w' : World} (h : MT w n m o G F w') : MT w n m o G F w'.drew :=
  ⟨h.out, h.inn, h.frz, h.ne, h.inj, h.low, h.bel.drew⟩
theorem MT.congr {w : World} {n m o : Nat} {G : Nat → Nat} {F F' : Nat → Nat → Nat} {w' : World} (h : MT w n m o G F w') (e : ∀ i k, i ≤ n → k ≤ m → F i k = F' i k) : MT w n m o G F' w' :=
  ⟨h.out, fun i k hi hk => by rw [← e i k hi hk]; exact h.inn i k hi hk, h.frz, h.ne, h.inj, h.low, h.bel⟩
theorem MT.draws {w : World} {n m o : Nat} {G : Nat → Nat} {F : Nat → Nat → Nat} {w' : World} (h : MT w n m o G F w') (q : Nat) : MT w n m o G F (w'.drewN q) :=
  ⟨h.out, h.inn, h.frz, h.ne, h.inj, h.low, h.bel.trans ⟨rfl, rfl, rfl, Nat.le_refl _, fun _ _ => rfl⟩⟩
theorem MT.of {w : World} {n m : Nat} {w' : World} {v : Value} {G : Nat → Nat} (h : T1 w m w' v (n + 1) G) :
    ∃ o cap, v = .slice (some ⟨o, 0, none⟩) (n + 1) cap ∧ w.heap.size ≤ o ∧ MT w n m o G (fun _ _ => 0) w' := by
  rcases h.own.2 with ⟨_, h0⟩ | ⟨o, cap, cur, rfl, hlow, hheap, hle, _, hcur, htake⟩
  · omega
  · refine ⟨o, cap, rfl, hlow, fun i hi => ?_, fun i k hi hk => ?_, fun i k hi hk => ?_, fun i hi e => ?_, fun i j hi hj e => ?_, fun i hi => (h.row i (by omega)).2, h.bel⟩
    · rw [h.own.cellAt i (by omega), List.getElem?_map, List.getElem?_range (by omega)]; rfl
    · simp [World.cell?, (h.row i (by omega)).1, zrow_at m k hk]
    · simp [World.frozen?, (h.row i (by omega)).1]
    · rw [← e, (h.row i (by omega)).1] at hheap
      simp only [Option.some.injEq, Obj.cells.injEq] at hheap
      exact absurd hheap.2.1 (by decide)
    · rcases Nat.lt_trichotomy i j with x | x | x
      · have := h.inc i j x (by omega); omega
      · exact x
      · have := h.inc j i x (by omega); omega
theorem max_any (x y : Int) (w : World) :
    Calls Try.prog 57 #[.int .i64 x, .int .i64 y] w fun e w' => e = .returned (.int .i64 (if y < x then x else y)) ∧ w = w' := by
  by_cases h : y < x
  · rw [if_pos h]
    go_enter Try.func57, Try.ntmps57
    go_wp2
    go_ret
    exact ⟨rfl, rfl⟩
  · rw [if_neg h]
    go_enter Try.func57, Try.ntmps57
    go_wp2
    go_ret
    exact ⟨rfl, rfl⟩
set_option maxHeartbeats 2000000 in
theorem table_any (a b : ByteArray) (ha : a.size ≤ 60) (hb : b.size ≤ 60) (w : World) :
    Calls Try.prog 37 #[.string a, .string b] w fun e w' => ∃ o cap G, e = .returned (.slice (some ⟨o, 0, none⟩) (a.size + 1) cap) ∧ MT w a.size b.size o G (tab a b) w' := by
  obtain ⟨i0, hi, hz0, hz1, hz2⟩ := info_parts infoS
  have hmk : ∀ W : World, (Instr.makeSlice 62 (.int .i64 ((b.size : Int) + 1)) (.int .i64 ((b.size : Int) + 1))).run Try.prog W = .ok (.slice (some ⟨W.heap.size, 0, none⟩) (b.size + 1) (b.size + 1)) (W.alloc (.cells (zrow b.size) 2)) := make_row b.size hb
  go_enter Try.func37, Try.ntmps37
  go_wp2
  go_loopw [5, 6] (fun v s wr => ∃ (i : Nat) (G : Nat → Nat), i ≤ a.size + 1 ∧ s = .int .i64 i ∧ T1 w b.size wr v i G) (fun _ s _ => a.size + 1 - (intOf s).toNat)
  case atStart => exact ⟨0, fun _ => 0, by omega, rfl, World.ownsRow_lit w #[] 0 (Nat.le_refl _) (by decide) rfl, fun j hj => absurd hj (by omega), fun j k _ hk => absurd hk (by omega), (Below.refl _ _).alloc (Nat.le_refl _) _⟩
  case round =>
    obtain ⟨i, G, hle, rfl, hT⟩ := hrel
    rename World => wr
    have HT := Lib.hid hT
    have hown := hT.own
    have hsz := hT.bel.size
    clear hT
    by_cases hlt : i ≤ a.size
    · go_wp2_with (first
      | (at_builtin; refine wpList_append_own _ rfl _ _ 63 rfl w.heap.size 62 i0 (.slice none 0 0) 1 24 Try.underlying63 hi hz0 hz1 hz2 rfl (by decide) _ _ _ rfl ((hown.alloc _).alloc _) ⟨wr.heap.size + 1, 0, none⟩ 1 1 [.slice (some ⟨wr.heap.size, 0, none⟩) (b.size + 1) (b.size + 1)] rfl rfl ?c1 ?c2 ?c3 ?c4 ?c5 ?_))
      case c1 =>
        intro j u hj
        match j, hj with
        | 0, hj => simp at hj; subst hj; simp [Addr.add]
      case c2 => intro u hu; simp at hu; subst hu; rfl
      case c3 => unfold maxLen; omega
      case c4 => omega
      case c5 => simp; omega
      intro v' w1 hown' hgrow _
      obtain ⟨G', hT'⟩ := HT.out.more _ hown' hgrow
      have HT' := Lib.hid hT'
      clear hown' hgrow hown hT'
      go_wp2
      go_roundw
      case rel => exact ⟨i + 1, G', by omega, by go_num, HT'.out⟩
      case measure => simp [intOf]; omega
    · obtain rfl : i = a.size + 1 := by omega
      obtain ⟨o, cap, rfl, hlow, hM⟩ := MT.of HT.out
      have HM := Lib.hid hM
      clear hown hM HT hmk hi hz0 hz1 hz2
      have ecast : ((a.size + 1 : Nat) : Int) = (a.size : Int) + 1 := by omega
      rw [ecast]
      clear ecast
      go_wp2
      go_loopw [7] (fun s wr => ∃ (p : Nat) (F : Nat → Nat → Nat), p ≤ a.size ∧ s = .int .i64 ((p : Int) - 1) ∧ MT w a.size b.size o G F wr ∧ (∀ i k, p ≤ i → i ≤ a.size → k ≤ b.size → F i k = tab a b i k) ∧ (∀ i k, i < p → F i k = 0)) (fun s _ => (intOf s + 1).toNat)
      case atStart => exact ⟨a.size, fun _ _ => 0, Nat.le_refl _, rfl, HM.out, fun i k h1 _ _ => (tab_endA a b i k h1).symm, fun _ _ _ => rfl⟩
      case round =>
        obtain ⟨p, F, hp, rfl, hM1, hF, hF0⟩ := hrel
        rename World => w1
        have HM1 := Lib.hid hM1
        have HF := Lib.hid hF
        have HF0 := Lib.hid hF0
        clear hM1 hF hF0 HM
        by_cases hp0 : p = 0
        · subst hp0
          go_wp2
          go_ret
          exact ⟨o, cap, G, rfl, HM1.out.congr fun i k hi hk => HF.out i k (Nat.zero_le _) hi hk⟩
        · obtain ⟨i, rfl⟩ : ∃ i, p = i + 1 := ⟨p - 1, by omega⟩
          have e7 : ((i + 1 : Nat) : Int) - 1 = (i : Int) := by omega
          rw [e7]
          clear e7 hp0
          go_wp2
          go_loopw [8] (fun s wr => ∃ (q : Nat) (F : Nat → Nat → Nat), q ≤ b.size ∧ s = .int .i64 ((q : Int) - 1) ∧ MT w a.size b.size o G F wr ∧ (∀ i' k, i + 1 ≤ i' → i' ≤ a.size → k ≤ b.size → F i' k = tab a b i' k) ∧ (∀ k, q ≤ k → k ≤ b.size → F i k = tab a b i k) ∧ (∀ i' k, i' < i → F i' k = 0)) (fun s _ => (intOf s + 1).toNat)
          case atStart => exact ⟨b.size, F, Nat.le_refl _, rfl, HM1.out, HF.out, fun k h1 h2 => by rw [HF0.out i k (by omega), tab_endB a b i k h1], fun i' k h => HF0.out i' k (by omega)⟩
          case round =>
            obtain ⟨q, F1, hq, rfl, hM2, hA, hB, hZ⟩ := hrel
            rename World => w2
            have HM2 := Lib.hid hM2
            have HA := Lib.hid hA
            have HBk := Lib.hid hB
            have HZ := Lib.hid hZ
            clear hM2 hA hB hZ HM1 HF HF0
            by_cases hq0 : q = 0
            · subst hq0
              go_wp2
              go_roundw
              case rel => exact ⟨i, F1, by omega, by go_num, HM2.out, fun i' k h1 h2 h3 => by
                by_cases e : i' = i
                · subst e; exact HBk.out k (Nat.zero_le _) h3
                · exact HA.out i' k (by omega) h2 h3, fun i' k h => HZ.out i' k h⟩
              case measure => simp [intOf]
            · obtain ⟨k, rfl⟩ : ∃ k, q = k + 1 := ⟨q - 1, by omega⟩
              have e8 : ((k + 1 : Nat) : Int) - 1 = (k : Int) := by omega
              rw [e8]
              clear e8 hq0
              have o1 := HM2.out.out i (by omega)
              have o2 := HM2.out.out (i + 1) hp
              have n1 := HM2.out.inn (i + 1) k hp (by omega)
              have n2 := HM2.out.inn i (k + 1) (by omega) hq
              have f1 := HM2.out.frz i k (by omega) (by omega)
              have n0 := HM2.out.inn i k (by omega) (by omega)
              have g1 := HM2.out.ne i (by omega)
              have g2 : G (i + 1) ≠ G i := fun e => by have := HM2.out.inj (i + 1) i hp (by omega) e; omega
              rw [HA.out (i + 1) k (Nat.le_refl _) hp (by omega)] at n1
              rw [HBk.out (k + 1) (Nat.le_refl _) hq] at n2
              have t1 := tab_le a b (i + 1) k
              have t2 := tab_le a b i (k + 1)
              have t3 := tab_le a b (i + 1) (k + 1)
              obtain ⟨x1, hx1⟩ : ∃ x, x = tab a b (i + 1) k := ⟨_, rfl⟩
              obtain ⟨x2, hx2⟩ : ∃ x, x = tab a b i (k + 1) := ⟨_, rfl⟩
              obtain ⟨x3, hx3⟩ : ∃ x, x = tab a b (i + 1) (k + 1) := ⟨_, rfl⟩
              obtain ⟨ga, hga⟩ : ∃ g, g = G i := ⟨_, rfl⟩
              obtain ⟨gb, hgb⟩ : ∃ g, g = G (i + 1) := ⟨_, rfl⟩
              rw [← hx1] at n1 t1
              rw [← hx2] at n2 t2
              rw [← hx3] at t3
              rw [← hga] at o1 n2 f1 n0 g1 g2
              rw [← hgb] at o2 n1 g2
              have HX1 := Lib.hid hx1
              have HX2 := Lib.hid hx2
              have HX3 := Lib.hid hx3
              have HGA := Lib.hid hga
              have HGB := Lib.hid hgb
              have hmx : ((if (x2 : Int) < (x1 : Int) then (x1 : Int) else (x2 : Int))) = ((max x1 x2 : Nat) : Int) := by
                split <;> omega
              have HMX := Lib.hid hmx
              clear hx1 hx2 hx3 hga hgb hmx
              have b1 : (0 : Int) ≤ (i : Int) + 1 := by omega
              have b2 : (i : Int) + 1 < (a.size : Int) + 1 := by omega
              have b3 : IntKind.i64.wrap ((i : Int) + 1) = (i : Int) + 1 := IntWalk.i64_in _ (by omega)
              have b4 : ((i : Int) + 1).toNat = i + 1 := by omega
              have c1 : (0 : Int) ≤ (k : Int) + 1 := by omega
              have c2 : (k : Int) + 1 < (b.size : Int) + 1 := by omega
              have c3 : IntKind.i64.wrap ((k : Int) + 1) = (k : Int) + 1 := IntWalk.i64_in _ (by omega)
              have c4 : ((k : Int) + 1).toNat = k + 1 := by omega
              have s1 : ∀ (W : World) (v : Value) (j : Nat), (W.setCell ⟨ga, k, none⟩ v).cell? ⟨o, j, none⟩ = W.cell? ⟨o, j, none⟩ := fun W v j => set_other (fun x => g1 (by injection x))
              have s2 : ∀ (W : World) (v : Value) (j : Nat), (W.setCell ⟨ga, k, none⟩ v).cell? ⟨gb, j, none⟩ = W.cell? ⟨gb, j, none⟩ := fun W v j => set_other (fun x => g2 (by injection x with x1 x2; exact x1.symm))
              have s3 : ∀ (W : World) (v : Value), (W.setCell ⟨ga, k, none⟩ v).cell? ⟨ga, k + 1, none⟩ = W.cell? ⟨ga, k + 1, none⟩ := fun W v => set_other (fun x => by injection x; omega)
              have d1 : (i : Int) < (a.size : Int) + 1 := by omega
              have d2 : (k : Int) < (b.size : Int) + 1 := by omega
              go_wp2
              go_region_held3 (fun w' => (w'.cell? ⟨o, i, none⟩ = some (.slice (some ⟨ga, 0, none⟩) (b.size + 1) (b.size + 1)) ∧ w'.cell? ⟨o, i + 1, none⟩ = some (.slice (some ⟨gb, 0, none⟩) (b.size + 1) (b.size + 1))) ∧ (w'.cell? ⟨gb, k, none⟩ = some (.int .i64 (x1 : Nat)) ∧ w'.cell? ⟨ga, k + 1, none⟩ = some (.int .i64 (x2 : Nat)))) (go_keep)
                (first | (go_at_call 57; refine (max_any _ _ _).mono ?_; rintro e wx ⟨rfl, rfl⟩; rw [HMX.out]))
              have hM3 := (HM2.out.set (show i ≤ a.size by omega) (show k ≤ b.size by omega) (max x1 x2)).drew
              rw [← HGA.out] at hM3
              obtain ⟨F2, hF2⟩ : ∃ F2 : Nat → Nat → Nat, F2 = fun i' k' => if i' = i ∧ k' = k then max x1 x2 else F1 i' k' := ⟨_, rfl⟩
              have e2a : F2 i k = max x1 x2 := by rw [hF2]; exact if_pos ⟨rfl, rfl⟩
              have e2b : ∀ i' k', ¬ (i' = i ∧ k' = k) → F2 i' k' = F1 i' k' := fun _ _ h => by rw [hF2]; exact if_neg h
              rw [← hF2] at hM3
              have E2A := Lib.hid e2a
              have E2B := Lib.hid e2b
              clear e2a e2b hF2
              obtain ⟨W3, hW3⟩ : ∃ W, W = (w2.setCell ⟨ga, k, none⟩ (.int .i64 ((max x1 x2 : Nat) : Int))).drew := ⟨_, rfl⟩
              rw [← hW3] at hM3
              rw [← hW3]
              have HM3 := Lib.hid hM3
              have o3 := hM3.out i (by omega)
              have o4 := hM3.out (i + 1) hp
              have n3 := hM3.inn (i + 1) (k + 1) hp hq
              have n4 := hM3.inn i k (by omega) (by omega)
              have f3 := hM3.frz i k (by omega) (by omega)
              rw [E2B.out _ _ (by omega), HA.out (i + 1) (k + 1) (Nat.le_refl _) hp hq, ← HX3.out, ← HGB.out] at n3
              rw [← HGA.out] at o3 n4 f3
              rw [← HGB.out] at o4
              clear hM3 hW3 o1 o2 n1 n2 n0 f1
              have hia : i < a.size := by omega
              have hkb : k < b.size := by omega
              have hst := tab_step a b i k hia hkb
              have HST := Lib.hid hst
              clear hst
              by_cases he : a[i].toNat = b[k].toNat
              · have ee : ((a[i].toNat : Int) == (b[k].toNat : Int)) = true := by simp [he]
                have HFIN := Lib.hid (show tab a b i k = x3 + 1 by rw [HST.out, if_pos he, HX3.out])
                clear he
                go_wp2
                go_region
                go_wp2
                have w3 : IntKind.i64.wrap ((x3 : Int) + 1) = (x3 : Int) + 1 := IntWalk.i64_in _ (by omega)
                go_region_held3 (fun w' => (w'.cell? ⟨o, i, none⟩ = some (.slice (some ⟨ga, 0, none⟩) (b.size + 1) (b.size + 1)) ∧ w'.cell? ⟨o, i + 1, none⟩ = some (.slice (some ⟨gb, 0, none⟩) (b.size + 1) (b.size + 1))) ∧ w'.cell? ⟨gb, k + 1, none⟩ = some (.int .i64 (x3 : Nat))) (go_keep)
                  (fail)
                have hM4 := HM3.out.drew.drew.set (show i ≤ a.size by omega) (show k ≤ b.size by omega) (x3 + 1)
                rw [← HGA.out] at hM4
                obtain ⟨F3, hF3⟩ : ∃ F3 : Nat → Nat → Nat, F3 = fun i' k' => if i' = i ∧ k' = k then x3 + 1 else F2 i' k' := ⟨_, rfl⟩
                have e3a : F3 i k = x3 + 1 := by rw [hF3]; exact if_pos ⟨rfl, rfl⟩
                have e3b : ∀ i' k', ¬ (i' = i ∧ k' = k) → F3 i' k' = F1 i' k' := fun _ _ h => by rw [hF3, ← E2B.out _ _ h]; exact if_neg h
                rw [← hF3] at hM4
                have HM4 := Lib.hid hM4
                have E3A := Lib.hid e3a
                have E3B := Lib.hid e3b
                clear e3a e3b hF3 hM4
                go_wp2
                go_roundw
                case rel => exact ⟨k, F3, by omega, by go_num, HM4.out, fun i' k' h1 h2 h3 => by
                    rw [E3B.out _ _ (by omega)]; exact HA.out i' k' h1 h2 h3, fun k' h1 h2 => by
                    by_cases e : k' = k
                    · subst e; rw [E3A.out, HFIN.out]
                    · rw [E3B.out _ _ (by omega)]; exact HBk.out k' (by omega) h2, fun i' k' h => by
                    rw [E3B.out _ _ (by omega)]; exact HZ.out i' k' h⟩
                case measure => simp [intOf]
              · have ee : ((a[i].toNat : Int) == (b[k].toNat : Int)) = false := by simp; omega
                have HFIN := Lib.hid (show tab a b i k = max x1 x2 by rw [HST.out, if_neg he, HX1.out, HX2.out])
                clear he
                go_wp2
                go_region
                go_wp2
                go_roundw
                case rel => exact ⟨k, F2, by omega, by go_num, HM3.out.drew, fun i' k' h1 h2 h3 => by
                    rw [E2B.out _ _ (by omega)]; exact HA.out i' k' h1 h2 h3, fun k' h1 h2 => by
                    by_cases e : k' = k
                    · subst e; rw [E2A.out, HFIN.out]
                    · rw [E2B.out _ _ (by omega)]; exact HBk.out k' (by omega) h2, fun i' k' h => by
                    rw [E2B.out _ _ (by omega)]; exact HZ.out i' k' h⟩
                case measure => simp [intOf]
end Go.Proofs.Ythdnhopkkgdclaa.table
