/-
  A walk is built: two texts, the table, both places at the beginning.
-/
import Derived.Test.YthdnhopkkgdclaaWalk
namespace Go.Proofs.Ythdnhopkkgdclaa.table
open Go.ChangeShapes Go.WideShapes Go.ChangeAt Go.RowKit
/-- a row laid over another one, from o on -/
def layAt (o : Nat) (vs : Array Value) (cells : Array Value) : Array Value := vs.zipIdx.foldl (fun cs (c, j) => cs.setIfInBounds (o + j) c) cells
theorem layL (o : Nat) : ∀ (l : List Value) (k : Nat) (cells : Array Value),
    ((l.zipIdx k).foldl (fun (cs : Array Value) (p : Value × Nat) => cs.setIfInBounds (o + p.2) p.1) cells).size = cells.size ∧
    ∀ m, ((l.zipIdx k).foldl (fun (cs : Array Value) (p : Value × Nat) => cs.setIfInBounds (o + p.2) p.1) cells)[m]? =
      if o + k ≤ m ∧ m < o + k + l.length ∧ m < cells.size then l[m - (o + k)]? else cells[m]?
  | [], k, cells => by
    refine ⟨rfl, fun m => ?_⟩
    rw [if_neg (by simp; omega)]; rfl
  | v :: l, k, cells => by
    rw [List.zipIdx_cons, List.foldl_cons]
    obtain ⟨h1, h2⟩ := layL o l (k + 1) (cells.setIfInBounds (o + k) v)
    refine ⟨by rw [h1, Array.size_setIfInBounds], fun m => ?_⟩
    rw [h2 m, Array.size_setIfInBounds, Array.getElem?_setIfInBounds]
    by_cases e : o + k = m
    · subst e
      by_cases hs : o + k < cells.size
      · rw [if_neg (by omega), if_pos rfl, if_pos hs, if_pos (by simp only [List.length_cons]; omega)]
        simp
      · rw [if_neg (by omega), if_pos rfl, if_neg hs, if_neg (by omega)]
        rw [Array.getElem?_eq_none (by omega)]
    · rw [if_neg e]
      by_cases c : o + (k + 1) ≤ m ∧ m < o + (k + 1) + l.length ∧ m < cells.size
      · rw [if_pos c, if_pos (by simp only [List.length_cons]; omega)]
        obtain ⟨d, hd⟩ : ∃ d, m = o + (k + 1) + d := ⟨m - (o + (k + 1)), by omega⟩
        subst hd
        rw [show o + (k + 1) + d - (o + (k + 1)) = d from by omega, show o + (k + 1) + d - (o + k) = d + 1 from by omega]
        rfl
      · rw [if_neg c, if_neg (by simp only [List.length_cons]; omega)]
theorem layAt_size (o : Nat) (vs cells : Array Value) : (layAt o vs cells).size = cells.size := by
  unfold layAt
  rw [← Array.foldl_toList, Array.toList_zipIdx]
  exact (layL o vs.toList 0 cells).1
theorem layAt_at (o : Nat) (vs cells : Array Value) (m : Nat) : (layAt o vs cells)[m]? = if o ≤ m ∧ m < o + vs.size ∧ m < cells.size then vs[m - o]? else cells[m]? := by
  unfold layAt
  rw [← Array.foldl_toList, Array.toList_zipIdx]
  have h := (layL o vs.toList 0 cells).2 m
  simp only [Nat.add_zero, Array.length_toList, Array.getElem?_toList] at h
  exact h
theorem build_any (a b : ByteArray) (cs : Array Value) (hs : cs.size = 3721) (W : World) :
    (Instr.build 86 #[(0, .string a), (1, .string b), (4, .agg cs)]).run Try.prog W =
      .ok (.agg (layAt 4 cs ((Try.zeroCells86.setIfInBounds 0 (.string a)).setIfInBounds 1 (.string b)))) W := by
  unfold Instr.build
  simp only [Sem.run_bind, Try.zeroValue86, Result.andThen, Try.runUnderlying86]
  have hm : ∀ (f : Field → Sem (Nat × Nat)) (a0 a1 a2 a3 a4 : Field) (v0 v1 v2 v3 v4 : Nat × Nat), (f a0).run Try.prog W = .ok v0 W → (f a1).run Try.prog W = .ok v1 W → (f a2).run Try.prog W = .ok v2 W → (f a3).run Try.prog W = .ok v3 W → (f a4).run Try.prog W = .ok v4 W →
      (Array.mapM f #[a0, a1, a2, a3, a4]).run Try.prog W = .ok #[v0, v1, v2, v3, v4] W := fun f a0 a1 a2 a3 a4 v0 v1 v2 v3 v4 h0 h1 h2 h3 h4 => by
    rw [List.mapM_toArray]
    simp [List.mapM_cons, Sem.run_bind, h0, h1, h2, h3, h4, go_sem]
  rw [hm _ _ _ _ _ _ (0, 1) (1, 1) (2, 1) (3, 1) (4, 3721) (by kernel_rfl) (by kernel_rfl) (by kernel_rfl) (by kernel_rfl) (by kernel_rfl)]
  have hz : Try.zeroCells86.size = 3725 := Try.zeroCells86_size
  have hf : Instr.fill (fun x => (#[(0, 1), (1, 1), (2, 1), (3, 1), (4, 3721)] : Array (Nat × Nat))[x]?) (Value.agg Try.zeroCells86).cells [(0, Value.string a), (1, Value.string b), (4, Value.agg cs)] =
      some (layAt 4 cs ((Try.zeroCells86.setIfInBounds 0 (.string a)).setIfInBounds 1 (.string b))) := by
    simp [Instr.fill, Value.cells, hz, hs, layAt]
  simp only [hf, Sem.run_pure]
theorem build_walk (a b : ByteArray) (cs : Array Value) (h : TabC (tab a b) cs) :
    WalkC a b 0 0 (layAt 4 cs ((Try.zeroCells86.setIfInBounds 0 (.string a)).setIfInBounds 1 (.string b))) ∧
    (layAt 4 cs ((Try.zeroCells86.setIfInBounds 0 (.string a)).setIfInBounds 1 (.string b))).all (·.oneCell') = true := by
  have hz : Try.zeroCells86.size = 3725 := Try.zeroCells86_size
  obtain ⟨Z, hZ⟩ : ∃ Z, Z = (Try.zeroCells86.setIfInBounds 0 (.string a)).setIfInBounds 1 (.string b) := ⟨_, rfl⟩
  have hZs : Z.size = 3725 := by rw [hZ, Array.size_setIfInBounds, Array.size_setIfInBounds, hz]
  have z0 : Z[0]? = some (.string a) := by rw [hZ, Array.getElem?_setIfInBounds_ne (by omega), Array.getElem?_setIfInBounds_self, if_pos (by omega)]
  have z1 : Z[1]? = some (.string b) := by rw [hZ, Array.getElem?_setIfInBounds_self, if_pos (by rw [Array.size_setIfInBounds]; omega)]
  have z2 : Z[2]? = some (.int .i64 0) := by rw [hZ, Array.getElem?_setIfInBounds_ne (by omega), Array.getElem?_setIfInBounds_ne (by omega)]; exact zero87_2
  have z3 : Z[3]? = some (.int .i64 0) := by rw [hZ, Array.getElem?_setIfInBounds_ne (by omega), Array.getElem?_setIfInBounds_ne (by omega)]; exact zero87_3
  rw [← hZ]
  have at_ := layAt_at 4 cs Z
  refine ⟨⟨by rw [layAt_size]; exact hZs, by rw [at_, if_neg (by omega)]; exact z0, by rw [at_, if_neg (by omega)]; exact z1, by rw [at_, if_neg (by omega)]; exact z2, by rw [at_, if_neg (by omega)]; exact z3, fun x y hx hy => ?_⟩, ?_⟩
  · rw [at_, if_pos (by rw [h.size, hZs]; omega), show 4 + x * 61 + y - 4 = x * 61 + y from by omega]
    exact h.at_ x y hx hy
  · apply Array.all_eq_true_iff_forall_mem.2
    intro v hv
    obtain ⟨m, hm⟩ := Array.getElem?_of_mem hv
    have hml : m < 3725 := by
      rcases Nat.lt_or_ge m 3725 with h' | h'
      · exact h'
      · rw [Array.getElem?_eq_none (by rw [layAt_size, hZs]; exact h')] at hm; cases hm
    rw [at_] at hm
    split at hm
    · exact Array.all_eq_true_iff_forall_mem.1 h.one v (Array.mem_of_getElem? hm)
    · rename_i hc
      rw [h.size, hZs] at hc
      have h4 : m = 0 ∨ m = 1 ∨ m = 2 ∨ m = 3 := by omega
      rcases h4 with rfl | rfl | rfl | rfl
      · rw [z0] at hm; injection hm with hm; rw [← hm]; rfl
      · rw [z1] at hm; injection hm with hm; rw [← hm]; rfl
      · rw [z2] at hm; injection hm with hm; rw [← hm]; rfl
      · rw [z3] at hm; injection hm with hm; rw [← hm]; rfl
end Go.Proofs.Ythdnhopkkgdclaa.table
