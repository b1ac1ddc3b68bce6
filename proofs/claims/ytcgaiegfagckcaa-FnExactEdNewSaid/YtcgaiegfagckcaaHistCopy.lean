/-
  The model's copy of a Hist. For every such value.
-/
import Derived.Test.YtcgaiegfagckcaaHistHarness
import Derived.Test.YtcgaiegfagckcaaRowOwn
namespace Go.Proofs.Ytcgaiegfagckcaa.hist
open Go.ChangeShapes Go.WideShapes Go.ChangeAt Go.RowKit
open Go.Proofs.Ytcgaiegfagckcaa.strs Go.Proofs.Ytcgaiegfagckcaa.line
open Go.Proofs.Ytcgaiegfagckcaa.kill (step_append_run append_copy own_open own_set own_lo own_later own_krN KR)
set_option maxHeartbeats 1600000 in
theorem copyH_any (a : Option Addr) (C : Nat) (l : List ByteArray) (t : Int) (k : ByteArray) (hz : a = none → C = 0 ∧ l = []) (hn : l.length ≤ 1048576) (w : World) (h : SRow w a l) :
    Calls Try.prog 38 #[hV a l.length C t k] w fun e w' => ∃ a' c', e = .returned (hV a' l.length c' t k) ∧ w'.ownsRow w.heap.size 9 1 (.slice a' l.length c') l.length (l.map Value.string) ∧ Below w.heap.size w w' := by
  have hal := (((Below.refl _ w).alloc (Nat.le_refl _) (.cells #[.slice a l.length C, .int .i64 t, .string k] 37)).alloc (by simp) (.cells #[.slice none 0 0, .int .i64 0, .string ⟨#[]⟩] 37)).alloc (by simp; omega) (.cells #[] 9)
  obtain ⟨v', W', hrun, hown, hgr⟩ := append_copy ((((w.alloc (.cells #[.slice a l.length C, .int .i64 t, .string k] 37)).alloc (.cells #[.slice none 0 0, .int .i64 0, .string ⟨#[]⟩] 37)).alloc (.cells #[] 9)).drew) (w.heap.size + 1 + 1) (w.heap.size + 1 + 1)
    (by
      have h3 := heap_alloc_new ((w.alloc (.cells #[.slice a l.length C, .int .i64 t, .string k] 37)).alloc (.cells #[.slice none 0 0, .int .i64 0, .string ⟨#[]⟩] 37)) (.cells #[] 9)
      rw [show ((w.alloc (.cells #[.slice a l.length C, .int .i64 t, .string k] 37)).alloc (.cells #[.slice none 0 0, .int .i64 0, .string ⟨#[]⟩] 37)).heap.size = w.heap.size + 1 + 1 by simp] at h3
      exact h3)
    (by omega) a C l (h.below hal.drew) hz hn 24
  obtain ⟨a', c', rfl, o1, o2, o3, o4⟩ := own_open hown
  have HO := Lib.hid (show W'.ownsRow (w.heap.size + 1 + 1) 9 1 (.slice a' l.length c') l.length (l.map Value.string) from hown)
  obtain ⟨n, hn'⟩ : ∃ n, n = l.length := ⟨_, rfl⟩
  have HN := Lib.hid hn'
  rw [← hn'] at hrun hal hgr HO ⊢
  have HB := Lib.hid hal
  have HG := Lib.hid hgr
  have far : ∀ b o v, b < w.heap.size + 1 + 1 → (((w.alloc (.cells #[.slice a n C, .int .i64 t, .string k] 37)).alloc (.cells #[.slice none 0 0, .int .i64 0, .string ⟨#[]⟩] 37)).alloc (.cells #[] 9)).cell? ⟨b, o, none⟩ = some v → W'.cell? ⟨b, o, none⟩ = some v := fun b o v hb hc => hgr.cell (a := ⟨b, o, none⟩) hc (by simp; omega)
  have d0 : W'.cell? ⟨w.heap.size, 1, none⟩ = some (.int .i64 t) := far _ _ _ (by omega) (by simp [go_sem])
  have d1 : W'.cell? ⟨w.heap.size + 1, 0, none⟩ = some (.slice none 0 0) := far _ _ _ (by omega) (by simp [go_sem])
  have d2 : W'.cell? ⟨w.heap.size + 1, 1, none⟩ = some (.int .i64 0) := far _ _ _ (by omega) (by simp [go_sem])
  have d3 : W'.cell? ⟨w.heap.size, 2, none⟩ = some (.string k) := far _ _ _ (by omega) (by simp [go_sem])
  have d4 : W'.cell? ⟨w.heap.size + 1, 2, none⟩ = some (.string ⟨#[]⟩) := far _ _ _ (by omega) (by simp [go_sem])
  have farf : ∀ o, W'.frozen? ⟨w.heap.size + 1, o, none⟩ = false := fun o => by
    rw [World.frozen?_of_block (a := ⟨w.heap.size + 1, o, none⟩) (hgr.block (w.heap.size + 1) (by simp [World.drew]) (by simp))]
    simp [go_sem]
  have f0 := farf 0
  have f1 := farf 1
  have f2 := farf 2
  have HRUN := Lib.hid hrun
  unfold hV
  clear h hz hn hn' hal hown hgr o1 o2 o3 o4 far farf hrun
  go_enter Try.func38, Try.ntmps38
  go_wp2
  go_region_law (first | (refine step_append_run rfl _ _ _ rfl _ _ rfl rfl _ _ HRUN.out ?_))
  all_goals
    go_wp2
    have h0 := HO.out
    exact bodyPost_ret (v := .agg #[.slice a' n c', .int .i64 t, .string k]) (by simp [results, Try.results38, go_sem, d1, d2, d4]) rfl ⟨a', c', rfl, own_lo (own_set (own_set (own_set h0 (by omega)) (by omega)) (by omega)) (by omega),
      (((HB.out.drew.grown HG.out (by simp [World.drew]; omega) (fun j hj => by cases hj; omega)).setCell (p := ⟨w.heap.size + 1, 0, none⟩) (show w.heap.size ≤ w.heap.size + 1 by omega) _).setCell (p := ⟨w.heap.size + 1, 1, none⟩) (show w.heap.size ≤ w.heap.size + 1 by omega) _).setCell (p := ⟨w.heap.size + 1, 2, none⟩) (show w.heap.size ≤ w.heap.size + 1 by omega) _⟩
end Go.Proofs.Ytcgaiegfagckcaa.hist
