/-
  The model's Kills: right ones, a copy, putting in, the top, turning. For every such value.
-/
import Derived.Test.YtbkhahjlpncaiaaKillHarness
import Derived.Test.YtbkhahjlpncaiaaLineRight
import Derived.Laws.AppendOwnNone
import Derived.Deep.AppendLies
namespace Go.Proofs.Ytbkhahjlpncaiaa.kill
open Go.ChangeShapes Go.WideShapes Go.ChangeAt Go.RowKit
open Go.Proofs.Ytbkhahjlpncaiaa.strs Go.Proofs.Ytbkhahjlpncaiaa.line
/-- an append in a region that draws, its run known -/
theorem step_append_run {P : Program} {w : World} {ops : Array Oper} {o : Oper} {a : Act} {K : Act → World → Prop} {Q : Exit → Act → World → Prop} {E : Prop} (hgd : o.guard = none) (s x : Operand) (t : TypeId)
    (ho : o.op = .call { callee := .builtin .append, args := #[s, x], argTypes := #[t, t] }) (v xv : Value) (hs : a.eval s = v) (hx : a.eval x = xv) (v' : Value) (w' : World)
    (hrun : (Builtin.append_ #[t, t] o.type #[v, xv]).run P w = .ok v' w') (h : K (a.put o.dst v') w') : if Region.wanted o (yielded ops a.tmps) = true then Oper.wp P o a w K Q else E := by
  have hw : Region.wanted o (yielded ops a.tmps) = true := by simp [Region.wanted, hgd]
  rw [if_pos hw]
  unfold Oper.wp execOp
  simp only [ho, resolve, invoke, builtin, Sem.run_bind, Sem.run_pure, Result.andThen_ok, List.map_toArray, List.map_cons, List.map_nil, hs, hx, hrun]
  exact h
set_option maxRecDepth 4000 in
theorem append_copy (W : World) (base B : Nat) (hB : W.heap[B]? = some (.cells #[] 9 (0, 0))) (hb : base ≤ B) (a : Option Addr) (C : Nat) (l : List ByteArray) (h : SRow W a l) (hz : a = none → C = 0 ∧ l = []) (hn : l.length ≤ 1048576) (ty : TypeId) :
    ∃ v' W', (Builtin.append_ #[23, 23] ty #[.slice (some ⟨B, 0, none⟩) 0 0, .slice a l.length C]).run Try.prog W = .ok v' W' ∧ W'.ownsRow base 9 1 v' l.length (l.map Value.string) ∧ W.grownBy W' (some B) := by
  obtain ⟨i0, hi, hz0, hz1, hz2⟩ := info_parts infoS
  have hBl : B < W.heap.size := (Array.getElem?_eq_some_iff.1 hB).1
  have hown : W.ownsRow base 9 1 (.slice (some ⟨B, 0, none⟩) 0 0) 0 [] := ⟨rfl, .inr ⟨B, 0, #[], rfl, hb, hB, Nat.le_refl _, Nat.zero_le _, rfl, rfl⟩⟩
  cases a with
  | none =>
    obtain ⟨rfl, rfl⟩ := hz rfl
    exact ⟨_, W, run_append_owned_none (P := Try.prog) (w := W) base 23 ty 9 i0 1 Try.underlying23 hi _ 0 [] hown, hown, grown_refl _ _⟩
  | some ad =>
    obtain ⟨v', W', hr, h2, h3, _⟩ := run_append_own (P := Try.prog) (w := W) base 23 ty 9 i0 (.string ⟨#[]⟩) 1 16 Try.underlying23 hi hz0 hz1 hz2 rfl (by decide) (.slice (some ⟨B, 0, none⟩) 0 0) 0 [] hown ad l.length C (l.map Value.string) (by simp)
      (fun j u hj => by
        rw [List.getElem?_map] at hj
        by_cases hjl : j < l.length
        · obtain ⟨g, o, e, hc⟩ := h.at hjl
          injection e with e
          subst e
          rw [add_plain rfl, hc]
          rw [List.getElem?_eq_getElem hjl] at hj
          simpa using hj
        · rw [List.getElem?_eq_none (by omega)] at hj
          cases hj)
      (fun u hu => by
        obtain ⟨s, _, rfl⟩ := List.mem_map.1 hu
        rfl) (by unfold maxLen; omega) (by omega) (by omega)
    rw [Nat.zero_add] at h2
    exact ⟨v', W', hr, by simpa using h2, h3⟩
theorem own_open {base : Nat} {w : World} {v : Value} {l : List ByteArray} (h : w.ownsRow base 9 1 v l.length (l.map Value.string)) : ∃ a c, v = .slice a l.length c ∧ l.length ≤ c ∧ (a = none → c = 0 ∧ l = []) ∧ SRow w a l ∧ SBlk base w a l.length := by
  have h0 := h
  obtain ⟨h1, ⟨rfl, hn⟩ | ⟨g, cap, cur, rfl, h2, h3, h4, h5, h6, h7⟩⟩ := h
  · have hl : l = [] := List.eq_nil_of_length_eq_zero hn
    subst hl
    exact ⟨none, 0, rfl, Nat.le_refl _, fun _ => ⟨rfl, rfl⟩, SRow.nil _ _, fun e => absurd rfl e⟩
  · refine ⟨_, _, rfl, h4, (fun e => by cases e), ⟨fun _ => ⟨g, 0, rfl, fun i hi => ?_⟩⟩, fun _ => ⟨g, 0, rfl, h2, cur, h3, by omega⟩⟩
    rw [h0.cellAt (0 + i) (by omega), Nat.zero_add, List.getElem?_map, List.getElem?_eq_getElem hi]; rfl
theorem own_set {w : World} {base b k : Nat} {e : TypeId} {size n : Nat} {v u : Value} {xs : List Value} (h : w.ownsRow base e size v n xs) (hb : b < base) : (w.setCell ⟨b, k, none⟩ u).ownsRow base e size v n xs :=
  h.kept (grown_set w b k u) (by
    cases hv : v.ownBlock with
    | none => exact .inl rfl
    | some g =>
      have := (h.lt g hv).1
      exact .inr (by simp; omega))
theorem own_lo {w : World} {b b' : Nat} {e : TypeId} {size n : Nat} {v : Value} {xs : List Value} (h : w.ownsRow b e size v n xs) (hle : b' ≤ b) : w.ownsRow b' e size v n xs := by
  obtain ⟨h1, h2 | ⟨g, cap, cur, h3, h4, h5⟩⟩ := h
  · exact ⟨h1, .inl h2⟩
  · exact ⟨h1, .inr ⟨g, cap, cur, h3, Nat.le_trans hle h4, h5⟩⟩
theorem own_later {w w' : World} {base : Nat} {e : TypeId} {size n : Nat} {v : Value} {xs : List Value} (h : w.ownsRow base e size v n xs) (hb : Below w.heap.size w w') : w'.ownsRow base e size v n xs := by
  refine h.kept (grown_below (r := none) hb) ?_
  cases hv : v.ownBlock with
  | none => exact .inl rfl
  | some g => exact .inr (by simp)
set_option maxHeartbeats 1600000 in
theorem copy_any (a : Option Addr) (C : Nat) (l : List ByteArray) (t : Int) (hz : a = none → C = 0 ∧ l = []) (hn : l.length ≤ 1048576) (w : World) (h : SRow w a l) :
    Calls Try.prog 60 #[kV a l.length C t] w fun e w' => ∃ a' c', e = .returned (kV a' l.length c' t) ∧ w'.ownsRow w.heap.size 9 1 (.slice a' l.length c') l.length (l.map Value.string) ∧ Below w.heap.size w w' := by
  have hal := (((Below.refl _ w).alloc (Nat.le_refl _) (.cells #[.slice a l.length C, .int .i64 t] 25)).alloc (by simp) (.cells #[.slice none 0 0, .int .i64 0] 25)).alloc (by simp; omega) (.cells #[] 9)
  obtain ⟨v', W', hrun, hown, hgr⟩ := append_copy ((((w.alloc (.cells #[.slice a l.length C, .int .i64 t] 25)).alloc (.cells #[.slice none 0 0, .int .i64 0] 25)).alloc (.cells #[] 9)).drew) (w.heap.size + 1 + 1) (w.heap.size + 1 + 1)
    (by
      have h3 := heap_alloc_new ((w.alloc (.cells #[.slice a l.length C, .int .i64 t] 25)).alloc (.cells #[.slice none 0 0, .int .i64 0] 25)) (.cells #[] 9)
      rw [show ((w.alloc (.cells #[.slice a l.length C, .int .i64 t] 25)).alloc (.cells #[.slice none 0 0, .int .i64 0] 25)).heap.size = w.heap.size + 1 + 1 by simp] at h3
      exact h3)
    (by omega) a C l (h.below hal.drew) hz hn 23
  obtain ⟨a', c', rfl, o1, o2, o3, o4⟩ := own_open hown
  have HO := Lib.hid (show W'.ownsRow (w.heap.size + 1 + 1) 9 1 (.slice a' l.length c') l.length (l.map Value.string) from hown)
  obtain ⟨n, hn'⟩ : ∃ n, n = l.length := ⟨_, rfl⟩
  have HN := Lib.hid hn'
  rw [← hn'] at hrun hal hgr HO ⊢
  have HB := Lib.hid hal
  have HG := Lib.hid hgr
  have far : ∀ b o v, b < w.heap.size + 1 + 1 → (((w.alloc (.cells #[.slice a n C, .int .i64 t] 25)).alloc (.cells #[.slice none 0 0, .int .i64 0] 25)).alloc (.cells #[] 9)).cell? ⟨b, o, none⟩ = some v → W'.cell? ⟨b, o, none⟩ = some v := fun b o v hb hc => hgr.cell (a := ⟨b, o, none⟩) hc (by simp; omega)
  have d0 : W'.cell? ⟨w.heap.size, 1, none⟩ = some (.int .i64 t) := far _ _ _ (by omega) (by simp [go_sem])
  have d1 : W'.cell? ⟨w.heap.size + 1, 0, none⟩ = some (.slice none 0 0) := far _ _ _ (by omega) (by simp [go_sem])
  have d2 : W'.cell? ⟨w.heap.size + 1, 1, none⟩ = some (.int .i64 0) := far _ _ _ (by omega) (by simp [go_sem])
  have farf : ∀ o, W'.frozen? ⟨w.heap.size + 1, o, none⟩ = false := fun o => by
    rw [World.frozen?_of_block (a := ⟨w.heap.size + 1, o, none⟩) (hgr.block (w.heap.size + 1) (by simp [World.drew]) (by simp))]
    simp [go_sem]
  have f0 := farf 0
  have f1 := farf 1
  have HRUN := Lib.hid hrun
  unfold kV
  clear h hz hn hn' hal hown hgr o1 o2 o3 o4 far farf hrun
  go_enter Try.func60, Try.ntmps60
  go_wp2
  go_region_law (first | (refine step_append_run rfl _ _ _ rfl _ _ rfl rfl _ _ HRUN.out ?_))
  all_goals
    go_wp2
    have h0 := HO.out
    exact bodyPost_ret (v := .agg #[.slice a' n c', .int .i64 t]) (by simp [results, Try.results60, go_sem, d1, d2]) rfl ⟨a', c', rfl, own_lo ((own_set (own_set h0 (by omega)) (by omega))) (by omega),
      ((HB.out.drew.grown HG.out (by simp [World.drew]; omega) (fun j hj => by cases hj; omega)).setCell (p := ⟨w.heap.size + 1, 0, none⟩) (show w.heap.size ≤ w.heap.size + 1 by omega) _).setCell (p := ⟨w.heap.size + 1, 1, none⟩) (show w.heap.size ≤ w.heap.size + 1 by omega) _⟩
end Go.Proofs.Ytbkhahjlpncaiaa.kill
