/-
  A range over a function whose iterator keeps its state in a block of cells of its own: one law, for a loop whose body goes on in every round. For every program.
-/
import Derived.Test.YthdnhopkkgdclaaBase
import Derived.RangeFuncNested
import Derived.RangeFuncBound
import Derived.RangeFuncCalls
import Derived.RangeFuncLeaves
import Derived.Shelf.RegionOpen
import Derived.OwnWalkIn
import Derived.TacticsInMore
import Derived.LoopNIn
import Derived.LoopIn
import Derived.RangeFuncBox
namespace Go.Proofs.Ythdnhopkkgdclaa.range
open Go.ChangeShapes Go.WideShapes Go.ChangeAt Go.RowKit
/-- block c holds cells of type T -/
def OwnB (T : TypeId) (c : Nat) (W : World) : Prop := ∃ cs, W.heap[c]? = some (.cells cs T (0, 0))
/-- what the iterator owes: whatever holds of its block c and of what has come, and abides its own turns of c, holds at the end, of all -/
def IterComes {α : Type} (n : Nat) (P : Program) (gf : Nat) (lb : Array Value) (encs : α → Array Value) (T : TypeId) (S : List α → Prop) (N : Nat) (w : World) : Prop :=
  ∀ (l : Nat) (J : Nat → List α → World → Prop) (W : World), Below w.heap.size w W →
    (∀ c s A B, W.heap.size ≤ c → J c s A → A.grownBy B (some c) → OwnB T c B → J c s B) →
    (∀ c B, W.heap.size ≤ c → OwnB T c B → Below W.heap.size W B → J c [] B) →
    (∀ c pre x A, W.heap.size ≤ c → OwnB T c A → J c pre A → pre.length < N →
      YieldAt Fence.wide (n - 1) P l (encs x) A fun e B => e = .returned (.bool true) ∧ J c (pre ++ [x]) B ∧ A.heap.size ≤ B.heap.size ∧ B.heap[c]? = A.heap[c]?) →
    CallsIn Fence.wide n P gf (#[.func (.yield l) #[] #[]] ++ lb) W fun e B => (∃ v, e = .returned v) ∧ ∃ c s, W.heap.size ≤ c ∧ S s ∧ J c s B
/-- how a round's body ends -/
def roundEnd {α : Type} (I : Nat → List α → World → Prop) (c : Nat) (s : List α) (W : World) : Exit → Act → World → Prop
  | .normal, _, W' => KeepsOthers W W' ∧ W'.heap[c]? = W.heap[c]? ∧ I c s W'
  | _, _, _ => False
theorem rangeFunc_state {α : Type} {n : Nat} {P : Program} {g : Operand} {ps : Array Tmp} {assign body : Code} {Q : Exit → Act → World → Prop} {a : Act} {w : World} (h1 : 1 ≤ n)
    {gf : Nat} {lb : Array Value} (hg : a.eval g = .func (.func gf) #[] lb) (eg : ∀ args w, (callFunc gf args).run P w = .ok (.enter gf args) w)
    {encs : α → Array Value} (hps : ∀ x, (encs x).size = ps.size) {T : TypeId} {S : List α → Prop} {N : Nat} {w0 : World} (hb0 : Below w0.heap.size w0 w)
    (hiter : IterComes (n - 1) P gf lb encs T S N w0)
    (I : Nat → List α → World → Prop) (M : Nat → List α → Act → World → Prop)
    (hIturn : ∀ c s A B, w.heap.size ≤ c → I c s A → A.grownBy B (some c) → OwnB T c B → I c s B)
    (hIput : ∀ c s A l o o', w.heap.size ≤ l → A.heap[l]? = some o → o.isCells = false → I c s A → I c s (A.putObj l o'))
    (hMput : ∀ c s a1 A l o o', w.heap.size ≤ l → A.heap[l]? = some o → o.isCells = false → M c s a1 A → M c s a1 (A.putObj l o'))
    (h0 : ∀ c B, w.heap.size ≤ c → OwnB T c B → Below w.heap.size w B → I c [] B)
    (hassign : ∀ (l c : Nat) (pre : List α) (x : α) (W : World) (K : Act → World → Prop), w.heap.size ≤ c → OwnB T c W → I c pre W → pre.length < N →
      (∀ a1 W1, KeepsOthers W W1 → W1.heap[c]? = W.heap[c]? → M c (pre ++ [x]) a1 W1 → K a1 W1) →
      assign.wpIn (Fence.wide.inRound l) (n - 1 - 1) P (Exit.then K (fun _ _ _ => False)) { tmps := (ps.zip (encs x)).foldl (fun t (p, v) => t.setIfInBounds p v) a.tmps, defers := [] } W)
    (hbody : ∀ (l c : Nat) (s : List α) (a1 : Act) (W : World), w.heap.size ≤ c → OwnB T c W → M c s a1 W → body.wpIn (Fence.wide.inRound l) (n - 1 - 1) P (roundEnd I c s W) a1 W)
    (hdone : ∀ (D c : Nat) (s : List α) (W : World), w.heap.size ≤ D → w.heap.size ≤ c → S s → I c s W → W.heap[D]? = some (.deferred (some [])) → Q .normal { a with defers := { target := .collected D, args := #[] } :: a.defers } W) :
    (Code.rangeFunc g ps assign body).wpIn Fence.wide n P Q a w := by
  refine wpIn_rangeFunc fun fn hfn => ?_
  obtain ⟨rd, hrd⟩ : ∃ rd : Loop, rd = { state := .ready, pending := none, fn, tmps := a.tmps, params := ps, assign, body, defers := w.heap.size } := ⟨_, rfl⟩
  obtain ⟨W1, hW1⟩ : ∃ W1, W1 = (w.alloc (.deferred (some []))).alloc (.loop rd) := ⟨_, rfl⟩
  have hsz1 : W1.heap.size = w.heap.size + 2 := by rw [hW1]; simp
  have hL : W1.heap[w.heap.size + 1]? = some (.loop rd) := by
    rw [hW1]
    have := World.alloc_heap_new (w.alloc (.deferred (some []))) (.loop rd)
    rwa [World.size_alloc] at this
  have hD : W1.heap[w.heap.size]? = some (.deferred (some [])) := by
    rw [hW1]; exact (Below.heap_alloc _ _ _ (by simp)).trans (World.alloc_heap_new w _)
  have hb1 : Below w.heap.size w W1 := by rw [hW1]; exact ((Below.refl _ w).alloc (Nat.le_refl _) _).alloc (by simp) _
  have hstate : rd.state = .ready := by rw [hrd]
  have hpend : rd.pending = none := by rw [hrd]
  have hpar : rd.params = ps := by rw [hrd]
  have hcore : rd.fn = fn ∧ rd.tmps = a.tmps ∧ rd.assign = assign ∧ rd.body = body := by rw [hrd]; exact ⟨rfl, rfl, rfl, rfl⟩
  refine ⟨w.heap.size + 1, [{ target := .collected w.heap.size, args := #[] }], W1, { target := .fn (.func gf) lb, args := #[.func (.yield (w.heap.size + 1)) #[] #[]] }, W1, gf,
    #[.func (.yield (w.heap.size + 1)) #[] #[]] ++ lb, W1, ?_, ?_, ?_, ?_, fun _ => h1, ?_⟩
  · rw [hW1, hrd]; exact run_enterLoop_outer _ _ _ _ _
  · simp only [resolve, hg]
    simp [go_sem]
  · intro f' _; trivial
  · simp [invoke, go_sem, eg]
  · refine (hiter (w.heap.size + 1)
      (fun c s W => I c s W ∧ W.heap[w.heap.size + 1]? = some (.loop rd) ∧ W.heap[w.heap.size]? = some (.deferred (some [])))
      W1 (bthen hb0 hb1 hb0.size) ?turn ?start ?round).mono ?behind
    case turn =>
      rintro c s A B hc ⟨hi, hl, hk⟩ hgr hown
      have hlA := (Array.getElem?_eq_some_iff.1 hl).1
      exact ⟨hIturn c s A B (by omega) hi hgr hown, (hgr.block _ hlA (fun e => by injection e with e; omega)).trans hl, (hgr.block _ (by omega) (fun e => by injection e with e; omega)).trans hk⟩
    case start =>
      intro c B hc hown hb
      exact ⟨h0 c B (by omega) hown (bthen hb1 hb hb1.size), (hb.block _ (by omega)).trans hL, (hb.block _ (by omega)).trans hD⟩
    case round =>
      rintro c pre x A hc hown ⟨hi, hl, hk⟩ hlen
      have hlA := (Array.getElem?_eq_some_iff.1 hl).1
      have hy := run_yield (P := P) (args := encs x) hl (by rw [hpar]; exact hps x)
      rw [hpar, hcore.1, hcore.2.1, hcore.2.2.1, hcore.2.2.2] at hy
      refine ⟨fn, _, assign, body, hy, roundIn_of_wpIn hfn (hassign _ c pre x A _ (by omega) hown hi hlen ?_)⟩
      intro a1 A1 hk1 hc1 hm1
      have hl1 := hk1.same _ _ hl rfl
      have hd1 := hk1.same _ _ hk rfl
      have hl1A := (Array.getElem?_eq_some_iff.1 hl1).1
      refine ⟨_, run_beginRound hl1 hstate, ?_⟩
      obtain ⟨A2, hA2⟩ : ∃ A2, A2 = A1.putObj (w.heap.size + 1) (.loop { rd with state := .busy }) := ⟨_, rfl⟩
      rw [← hA2]
      have hl2 : A2.heap[w.heap.size + 1]? = some (.loop { rd with state := .busy }) := by rw [hA2]; exact World.putObj_heap_same hl1A
      have hd2 : A2.heap[w.heap.size]? = some (.deferred (some [])) := by rw [hA2]; exact (World.putObj_heap_other (by omega)).trans hd1
      have hc2 : A2.heap[c]? = A.heap[c]? := by rw [hA2]; exact (World.putObj_heap_other (by omega)).trans hc1
      have hs2 : A.heap.size ≤ A2.heap.size := by rw [hA2]; have := hk1.size; simpa [World.putObj] using this
      have hm2 : M c (pre ++ [x]) a1 A2 := by rw [hA2]; exact hMput c _ a1 A1 _ _ _ (by omega) hl1 rfl hm1
      have hown2 : OwnB T c A2 := by obtain ⟨cs, h⟩ := hown; exact ⟨cs, hc2.trans h⟩
      refine wpIn_mono (hbody _ c _ a1 A2 (by omega) hown2 hm2) ?_
      intro e a3 A3 hp
      cases e with
      | normal =>
        obtain ⟨hk3, hc3, hi3⟩ := hp
        have hl3 := hk3.same _ _ hl2 rfl
        have hd3 := hk3.same _ _ hd2 rfl
        have hl3A := (Array.getElem?_eq_some_iff.1 hl3).1
        refine ⟨_, _, run_endRound none hl3, rfl, ⟨hIput c _ A3 _ _ _ (by omega) hl3 rfl hi3, ?_, (World.putObj_heap_other (by omega)).trans hd3⟩, ?_, (World.putObj_heap_other (by omega)).trans (hc3.trans hc2)⟩
        · rw [World.putObj_heap_same hl3A]
          have : ({ ({ rd with state := .busy } : Loop) with state := if (none : Option Code).isNone = true then .ready else .done, pending := none } : Loop) = rd := by
            rw [hrd]; rfl
          rw [this]
        · have := hk3.size
          simp [World.putObj]; omega
      | ret => exact hp.elim
      | exit id => exact hp.elim
      | goto t => exact hp.elim
      | panic ch => exact hp.elim
      | outgrown => exact hp.elim
    case behind =>
      rintro e B ⟨⟨v, rfl⟩, c, s, hc, hS, hi, hl, hk⟩
      have hlB := (Array.getElem?_eq_some_iff.1 hl).1
      refine ⟨none, _, by rw [run_endLoop hl (by rw [hstate]; simp), hpend], ?_⟩
      exact hdone w.heap.size c s _ (Nat.le_refl _) (by omega) hS (hIput c s B _ _ _ (by omega) hl rfl hi) ((World.putObj_heap_other (by omega)).trans hk)
end Go.Proofs.Ythdnhopkkgdclaa.range
