/-
  A scope that is jumped about in by goto to more than one label: what holds at each jump, and a measure that each pass from a label lowers. Own work, over the kit's laws of one label.
-/
import Derived.ScopeJumps
import Derived.WalkMore
namespace Go.Proofs.YtgmbpohbjhaghaaDoor.scope_
open Go

/-- by a goto to label l: J l; else Q -/
def jumps (J : Nat → Act → World → Prop) (Q : Exit → Act → World → Prop) (e : Exit) (a : Act) (w : World) : Prop :=
  match e with
  | .goto l => J l a w
  | e => Q e a w
theorem jumps_goto {J : Nat → Act → World → Prop} {Q : Exit → Act → World → Prop} {l : Nat} {a : Act} {w : World} : jumps J Q (.goto l) a w = J l a w := rfl
theorem jumps_ret {J : Nat → Act → World → Prop} {Q : Exit → Act → World → Prop} {a : Act} {w : World} : jumps J Q .ret a w = Q .ret a w := rfl

section
variable {P : Program} {Q : Exit → Act → World → Prop} {c : Code} {J : Nat → Act → World → Prop} {μ : Nat → Act → World → Nat}

/-- what a goal 'c.wp P Q a w' says, over a frame and what is left to do -/
theorem labels_from (pass : ∀ l a w, J l a w → ∃ r, findLabel c l = some r ∧ r.wp P (jumps (fun l' a' w' => J l' a' w' ∧ μ l' a' w' < μ l a w) Q) a w)
    (b : Frame) (k : List Item) (cs : List Frame) : ∀ (n l : Nat) (a : Act) (w : World), μ l a w = n → J l a w →
    ∀ r, findLabel c l = some r → ∃ e a' w', Q e a' w' ∧ Arrives P (lone (b.at a (.code r :: .inScope c :: k)) cs w) b k cs e a' w' := by
  intro n
  induction n using Nat.strongRecOn with
  | _ n ih =>
    intro l a w hn hJ r hr
    obtain ⟨r', hr', hwp⟩ := pass l a w hJ
    obtain rfl : r' = r := Option.some.inj (hr'.symm.trans hr)
    obtain ⟨e, a1, w1, hq, harr⟩ := hwp b (.inScope c :: k) cs
    cases e with
    | normal => exact ⟨.normal, a1, w1, hq, Steps.trans harr (.one step_inScope)⟩
    | exit id => exact ⟨.exit id, a1, w1, hq, fun k' hk => harr k' (by simp [exitTo, hk])⟩
    | goto m =>
      obtain ⟨hJ', hlt⟩ := hq
      obtain ⟨r2, hr2, _⟩ := pass m a1 w1 hJ'
      have hg : gotoIn m (.inScope c :: k) = some (.code r2 :: .inScope c :: k) := by simp [gotoIn, hr2]
      obtain ⟨e2, a2, w2, hq2, harr2⟩ := ih _ (by omega) m a1 w1 rfl hJ' r2 hr2
      exact ⟨e2, a2, w2, hq2, .of_steps (harr _ hg) harr2⟩
    | ret => exact ⟨_, a1, w1, hq, harr⟩
    | panic ch => exact ⟨_, a1, w1, hq, harr⟩
    | outgrown => exact ⟨_, a1, w1, hq, harr⟩

theorem wp_labels {a : Act} {w : World} (J : Nat → Act → World → Prop) (μ : Nat → Act → World → Nat) (first : c.wp P (jumps J Q) a w)
    (pass : ∀ l a w, J l a w → ∃ r, findLabel c l = some r ∧ r.wp P (jumps (fun l' a' w' => J l' a' w' ∧ μ l' a' w' < μ l a w) Q) a w) :
    (Code.scope c).wp P Q a w := by
  intro b k cs
  obtain ⟨e, a1, w1, hq, harr⟩ := first b (.inScope c :: k) cs
  cases e with
  | normal => exact ⟨.normal, a1, w1, hq, .head step_scope (Steps.trans harr (.one step_inScope))⟩
  | exit id => exact ⟨.exit id, a1, w1, hq, fun k' hk => .head step_scope (harr k' (by simp [exitTo, hk]))⟩
  | goto m =>
    obtain ⟨r, hr, _⟩ := pass m a1 w1 hq
    have hg : gotoIn m (.inScope c :: k) = some (.code r :: .inScope c :: k) := by simp [gotoIn, hr]
    obtain ⟨e2, a2, w2, hq2, harr2⟩ := labels_from pass b k cs _ m a1 w1 rfl hq r hr
    exact ⟨e2, a2, w2, hq2, .of_steps (.head step_scope (harr _ hg)) harr2⟩
  | ret => exact ⟨_, a1, w1, hq, .of_steps (.one step_scope) harr⟩
  | panic ch => exact ⟨_, a1, w1, hq, .of_steps (.one step_scope) harr⟩
  | outgrown => exact ⟨_, a1, w1, hq, .of_steps (.one step_scope) harr⟩
end
/-- an array of n values, value by value -/
theorem arr_eq (t : Array Value) (n : Nat) (h : t.size = n) : t = ((List.range n).map fun k => t.getD k undef).toArray := by
  apply Array.ext'
  apply List.ext_getElem
  · simp [h]
  · intro i h1 h2
    simp at h1
    simp [Array.getD, h1]
/-- what lies in the scope behind a body's first region -/
def scopeOf : Option Code → Code
  | some (.seq _ (.scope c)) => c
  | _ => .skip
end Go.Proofs.YtgmbpohbjhaghaaDoor.scope_
