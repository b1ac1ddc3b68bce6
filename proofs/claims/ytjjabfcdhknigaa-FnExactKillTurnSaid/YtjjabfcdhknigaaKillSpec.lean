/-
  The model's Kills: right ones, a copy, putting in, the top, turning. For every such value.
-/
import Derived.Test.YtjjabfcdhknigaaKillHarness
import Derived.Test.YtjjabfcdhknigaaLineRight
import Derived.Test.YtjjabfcdhknigaaRowOwn
import Derived.Laws.AppendOwnNone
import Derived.Deep.AppendLies
namespace Go.Proofs.Ytjjabfcdhknigaa.kill
open Go.ChangeShapes Go.WideShapes Go.ChangeAt Go.RowKit
open Go.Proofs.Ytjjabfcdhknigaa.strs Go.Proofs.Ytjjabfcdhknigaa.line
set_option maxHeartbeats 1600000 in
theorem copy_any0 (a : Option Addr) (C : Nat) (l : List ByteArray) (t : Int) (hn : l.length ≤ 1048576) (w : World) (h : SRow w a l) :
    Calls Try.prog 33 #[kV a l.length C t] w fun e w' => ∃ a' c', e = .returned (kV a' l.length c' t) ∧ w'.ownsRow w.heap.size 9 1 (.slice a' l.length c') l.length (l.map Value.string) ∧ Below w.heap.size w w' := by
  have hal := (((Below.refl _ w).alloc (Nat.le_refl _) (.cells #[.slice a l.length C, .int .i64 t] 27)).alloc (by simp) (.cells #[.slice none 0 0, .int .i64 0] 27)).alloc (by simp; omega) (.cells #[] 9)
  obtain ⟨v', W', hrun, hown, hgr⟩ := append_copy0 ((((w.alloc (.cells #[.slice a l.length C, .int .i64 t] 27)).alloc (.cells #[.slice none 0 0, .int .i64 0] 27)).alloc (.cells #[] 9)).drew) (w.heap.size + 1 + 1) (w.heap.size + 1 + 1)
    (by
      have h3 := heap_alloc_new ((w.alloc (.cells #[.slice a l.length C, .int .i64 t] 27)).alloc (.cells #[.slice none 0 0, .int .i64 0] 27)) (.cells #[] 9)
      rw [show ((w.alloc (.cells #[.slice a l.length C, .int .i64 t] 27)).alloc (.cells #[.slice none 0 0, .int .i64 0] 27)).heap.size = w.heap.size + 1 + 1 by simp] at h3
      exact h3)
    (by omega) a C l (h.below hal.drew) hn 22
  obtain ⟨a', c', rfl, o1, o2, o3, o4⟩ := own_open hown
  have HO := Lib.hid (show W'.ownsRow (w.heap.size + 1 + 1) 9 1 (.slice a' l.length c') l.length (l.map Value.string) from hown)
  obtain ⟨n, hn'⟩ : ∃ n, n = l.length := ⟨_, rfl⟩
  have HN := Lib.hid hn'
  rw [← hn'] at hrun hal hgr HO ⊢
  have HB := Lib.hid hal
  have HG := Lib.hid hgr
  have far : ∀ b o v, b < w.heap.size + 1 + 1 → (((w.alloc (.cells #[.slice a n C, .int .i64 t] 27)).alloc (.cells #[.slice none 0 0, .int .i64 0] 27)).alloc (.cells #[] 9)).cell? ⟨b, o, none⟩ = some v → W'.cell? ⟨b, o, none⟩ = some v := fun b o v hb hc => hgr.cell (a := ⟨b, o, none⟩) hc (by simp; omega)
  have d0 : W'.cell? ⟨w.heap.size, 1, none⟩ = some (.int .i64 t) := far _ _ _ (by omega) (by simp [go_sem])
  have d1 : W'.cell? ⟨w.heap.size + 1, 0, none⟩ = some (.slice none 0 0) := far _ _ _ (by omega) (by simp [go_sem])
  have d2 : W'.cell? ⟨w.heap.size + 1, 1, none⟩ = some (.int .i64 0) := far _ _ _ (by omega) (by simp [go_sem])
  have farf : ∀ o, W'.frozen? ⟨w.heap.size + 1, o, none⟩ = false := fun o => by
    rw [World.frozen?_of_block (a := ⟨w.heap.size + 1, o, none⟩) (hgr.block (w.heap.size + 1) (by simp [World.drew]) (by simp))]
    simp [go_sem]
  have f0 := farf 0
  have f1 := farf 1
  have HRUN := Lib.hid hrun
  unfold kV
  clear h hn hn' hal hown hgr o1 o2 o3 o4 far farf hrun
  go_enter Try.func33, Try.ntmps33
  go_wp2
  go_region_law (first | (refine step_append_run rfl _ _ _ rfl _ _ rfl rfl _ _ HRUN.out ?_))
  all_goals
    go_wp2
    have h0 := HO.out
    exact bodyPost_ret (v := .agg #[.slice a' n c', .int .i64 t]) (by simp [results, Try.results33, go_sem, d1, d2]) rfl ⟨a', c', rfl, own_lo ((own_set (own_set h0 (by omega)) (by omega))) (by omega),
      ((HB.out.drew.grown HG.out (by simp [World.drew]; omega) (fun j hj => by cases hj; omega)).setCell (p := ⟨w.heap.size + 1, 0, none⟩) (show w.heap.size ≤ w.heap.size + 1 by omega) _).setCell (p := ⟨w.heap.size + 1, 1, none⟩) (show w.heap.size ≤ w.heap.size + 1 by omega) _⟩
theorem copy_any (a : Option Addr) (C : Nat) (l : List ByteArray) (t : Int) (_hz : a = none → C = 0 ∧ l = []) (hn : l.length ≤ 1048576) (w : World) (h : SRow w a l) :
    Calls Try.prog 33 #[kV a l.length C t] w fun e w' => ∃ a' c', e = .returned (kV a' l.length c' t) ∧ w'.ownsRow w.heap.size 9 1 (.slice a' l.length c') l.length (l.map Value.string) ∧ Below w.heap.size w w' :=
  copy_any0 a C l t hn w h
end Go.Proofs.Ytjjabfcdhknigaa.kill
