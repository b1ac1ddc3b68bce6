/-
  A list of texts of the call's own memory: append's run onto an empty one, and a row from any place of a block on, with its capacity.
-/
import Derived.Test.YtjjabfcdhknigaaTexts
import Derived.Test.YtjjabfcdhknigaaLine
import Derived.Laws.AppendOwnNone
import Derived.Deep.AppendLies
namespace Go.Proofs.Ytjjabfcdhknigaa.kill
open Go.ChangeShapes Go.WideShapes Go.ChangeAt Go.RowKit
open Go.Proofs.Ytjjabfcdhknigaa.strs Go.Proofs.Ytjjabfcdhknigaa.line
/-- an append in a region that draws, its run known -/
theorem step_append_run {P : Program} {w : World} {ops : Array Oper} {o : Oper} {a : Act} {K : Act → World → Prop} {Q : Exit → Act → World → Prop} {E : Prop} (hgd : o.guard = none) (s x : Operand) (t : TypeId)
    (ho : o.op = .call { callee := .builtin .append, args := #[s, x], argTypes := #[t, t] }) (v xv : Value) (hs : a.eval s = v) (hx : a.eval x = xv) (v' : Value) (w' : World)
    (hrun : (Builtin.append_ #[t, t] o.type #[v, xv]).run P w = .ok v' w') (h : K (a.put o.dst v') w') : if Region.wanted o (yielded ops a.tmps) = true then Oper.wp P o a w K Q else E := by
  have hw : Region.wanted o (yielded ops a.tmps) = true := by simp [Region.wanted, hgd]
  rw [if_pos hw]
  unfold Oper.wp execOp
  simp only [ho, resolve, invoke, builtin, Sem.run_bind, Sem.run_pure, Result.andThen_ok, List.map_toArray, List.map_cons, List.map_nil, hs, hx, hrun]
  exact h
set_option maxRecDepth 4000 in
theorem append_copy0 (W : World) (base B : Nat) (hB : W.heap[B]? = some (.cells #[] 9 (0, 0))) (hb : base ≤ B) (a : Option Addr) (C : Nat) (l : List ByteArray) (h : SRow W a l) (hn : l.length ≤ 1048576) (ty : TypeId) :
    ∃ v' W', (Builtin.append_ #[22, 22] ty #[.slice (some ⟨B, 0, none⟩) 0 0, .slice a l.length C]).run Try.prog W = .ok v' W' ∧ W'.ownsRow base 9 1 v' l.length (l.map Value.string) ∧ W.grownBy W' (some B) := by
  obtain ⟨i0, hi, hz0, hz1, hz2⟩ := info_parts infoS
  have hBl : B < W.heap.size := (Array.getElem?_eq_some_iff.1 hB).1
  have hown : W.ownsRow base 9 1 (.slice (some ⟨B, 0, none⟩) 0 0) 0 [] := ⟨rfl, .inr ⟨B, 0, #[], rfl, hb, hB, Nat.le_refl _, Nat.zero_le _, rfl, rfl⟩⟩
  cases a with
  | none =>
    obtain rfl : l = [] := h.none_nil
    exact ⟨_, W, append_owned_none (P := Try.prog) (w := W) base 22 ty 9 i0 1 _ Try.underlying22 hi _ 0 [] hown, hown, grown_refl _ _⟩
  | some ad =>
    obtain ⟨v', W', hr, h2, h3, _⟩ := run_append_own (P := Try.prog) (w := W) base 22 ty 9 i0 (.string ⟨#[]⟩) 1 16 Try.underlying22 hi hz0 hz1 hz2 rfl (by decide) (.slice (some ⟨B, 0, none⟩) 0 0) 0 [] hown ad l.length C (l.map Value.string) (by simp)
      (fun j u hj => by
        rw [List.getElem?_map] at hj
        by_cases hjl : j < l.length
        · obtain ⟨g, o, e, hc⟩ := h.at hjl
          injection e with e
          subst e
          rw [add_plain rfl, hc]
          rw [List.getElem?_eq_getElem hjl] at hj
          simpa using hj
        · rw [List.getElem?_eq_none (by omega)] at hj
          cases hj)
      (fun u hu => by
        obtain ⟨s, _, rfl⟩ := List.mem_map.1 hu
        rfl) (by unfold maxLen; omega) (by omega) (by omega)
    rw [Nat.zero_add] at h2
    exact ⟨v', W', hr, by simpa using h2, h3⟩
theorem append_copy (W : World) (base B : Nat) (hB : W.heap[B]? = some (.cells #[] 9 (0, 0))) (hb : base ≤ B) (a : Option Addr) (C : Nat) (l : List ByteArray) (h : SRow W a l) (_hz : a = none → C = 0 ∧ l = []) (hn : l.length ≤ 1048576) (ty : TypeId) :
    ∃ v' W', (Builtin.append_ #[22, 22] ty #[.slice (some ⟨B, 0, none⟩) 0 0, .slice a l.length C]).run Try.prog W = .ok v' W' ∧ W'.ownsRow base 9 1 v' l.length (l.map Value.string) ∧ W.grownBy W' (some B) :=
  append_copy0 W base B hB hb a C l h hn ty
theorem own_open {base : Nat} {w : World} {v : Value} {l : List ByteArray} (h : w.ownsRow base 9 1 v l.length (l.map Value.string)) : ∃ a c, v = .slice a l.length c ∧ l.length ≤ c ∧ (a = none → c = 0 ∧ l = []) ∧ SRow w a l ∧ SBlk base w a l.length := by
  have h0 := h
  obtain ⟨h1, ⟨rfl, hn⟩ | ⟨g, cap, cur, rfl, h2, h3, h4, h5, h6, h7⟩⟩ := h
  · have hl : l = [] := List.eq_nil_of_length_eq_zero hn
    subst hl
    exact ⟨none, 0, rfl, Nat.le_refl _, fun _ => ⟨rfl, rfl⟩, SRow.nil _ _, fun e => absurd rfl e⟩
  · refine ⟨_, _, rfl, h4, (fun e => by cases e), ⟨fun _ => ⟨g, 0, rfl, fun i hi => ?_⟩⟩, fun _ => ⟨g, 0, rfl, h2, cur, h3, by omega⟩⟩
    rw [h0.cellAt (0 + i) (by omega), Nat.zero_add, List.getElem?_map, List.getElem?_eq_getElem hi]; rfl
theorem own_set {w : World} {base b k : Nat} {e : TypeId} {size n : Nat} {v u : Value} {xs : List Value} (h : w.ownsRow base e size v n xs) (hb : b < base) : (w.setCell ⟨b, k, none⟩ u).ownsRow base e size v n xs :=
  h.kept (grown_set w b k u) (by
    cases hv : v.ownBlock with
    | none => exact .inl rfl
    | some g =>
      have := (h.lt g hv).1
      exact .inr (by simp; omega))
theorem own_lo {w : World} {b b' : Nat} {e : TypeId} {size n : Nat} {v : Value} {xs : List Value} (h : w.ownsRow b e size v n xs) (hle : b' ≤ b) : w.ownsRow b' e size v n xs := by
  obtain ⟨h1, h2 | ⟨g, cap, cur, h3, h4, h5⟩⟩ := h
  · exact ⟨h1, .inl h2⟩
  · exact ⟨h1, .inr ⟨g, cap, cur, h3, Nat.le_trans hle h4, h5⟩⟩
theorem own_later {w w' : World} {base : Nat} {e : TypeId} {size n : Nat} {v : Value} {xs : List Value} (h : w.ownsRow base e size v n xs) (hb : Below w.heap.size w w') : w'.ownsRow base e size v n xs := by
  refine h.kept (grown_below (r := none) hb) ?_
  cases hv : v.ownBlock with
  | none => exact .inl rfl
  | some g => exact .inr (by simp)
structure KR (base : Nat) (w : World) (a : Option Addr) (c : Nat) (l : List ByteArray) : Prop where
  le : l.length ≤ c
  max : c ≤ maxLen
  nil : a = none → c = 0 ∧ l = []
  it : a ≠ none → ∃ g o M, a = some ⟨g, o, none⟩ ∧ base ≤ g ∧ w.heap[g]? = some (.cells M 9 (0, 0)) ∧ o + c ≤ M.size ∧ ∀ i (h : i < l.length), M[o + i]? = some (.string l[i])
theorem KR.row {base : Nat} {w : World} {a : Option Addr} {c : Nat} {l : List ByteArray} (h : KR base w a c l) : SRow w a l := ⟨fun hl => by
  obtain ⟨g, o, M, e, _, h2, _, h4⟩ := h.it (fun e => hl (h.nil e).2)
  exact ⟨g, o, e, fun i hi => by simp [World.cell?, h2]; exact h4 i hi⟩⟩
theorem KR.blk {base : Nat} {w : World} {a : Option Addr} {c : Nat} {l : List ByteArray} (h : KR base w a c l) : SBlk base w a l.length := fun hl => by
  obtain ⟨g, o, M, e, h1, h2, h3, _⟩ := h.it (fun e => hl (by rw [(h.nil e).2]; rfl))
  exact ⟨g, o, e, h1, M, h2, by have := h.le; omega⟩
theorem KR.lo {base b' : Nat} {w : World} {a : Option Addr} {c : Nat} {l : List ByteArray} (h : KR base w a c l) (hle : b' ≤ base) : KR b' w a c l :=
  ⟨h.le, h.max, h.nil, fun e => by
    obtain ⟨g, o, M, e, h1, h2⟩ := h.it e
    exact ⟨g, o, M, e, Nat.le_trans hle h1, h2⟩⟩
theorem KR.kept {base : Nat} {w w' : World} {a : Option Addr} {c : Nat} {l : List ByteArray} {r : Option Nat} (h : KR base w a c l) (hg : w.grownBy w' r) (hne : ∀ b, r = some b → b < base) : KR base w' a c l :=
  ⟨h.le, h.max, h.nil, fun e => by
    obtain ⟨g, o, M, e, h1, h2, h3⟩ := h.it e
    refine ⟨g, o, M, e, h1, ?_, h3⟩
    rw [hg.block g (Array.getElem?_eq_some_iff.1 h2).1 (fun e2 => by have := hne g e2.symm; omega)]
    exact h2⟩
theorem KR.later {base : Nat} {w w' : World} {a : Option Addr} {c : Nat} {l : List ByteArray} (h : KR base w a c l) (hb : Below w.heap.size w w') : KR base w' a c l :=
  h.kept (grown_below (r := none) hb) (fun _ e => by cases e)
theorem KR.set {base : Nat} {w : World} {a : Option Addr} {c : Nat} {l : List ByteArray} (h : KR base w a c l) {b k : Nat} {v : Value} (hb : b < base) : KR base (w.setCell ⟨b, k, none⟩ v) a c l :=
  h.kept (grown_set w b k v) (fun _ e => by injection e with e; omega)
theorem KR.alloc {base : Nat} {w : World} {a : Option Addr} {c : Nat} {l : List ByteArray} (h : KR base w a c l) (o : Obj) : KR base (w.alloc o) a c l := h.later ((Below.refl _ w).alloc (Nat.le_refl _) o)
/-- a row of one's own, looked at -/
theorem own_form {base : Nat} {w : World} {v : Value} {l : List ByteArray} (h : w.ownsRow base 9 1 v l.length (l.map Value.string)) (hl : 0 < l.length) :
    ∃ g c M, v = .slice (some ⟨g, 0, none⟩) l.length c ∧ base ≤ g ∧ w.heap[g]? = some (.cells M 9 (0, 0)) ∧ l.length ≤ c ∧ c ≤ M.size ∧ c ≤ maxLen ∧ ∀ i (h : i < l.length), M[i]? = some (.string l[i]) := by
  have h0 := h
  obtain ⟨h1, ⟨rfl, hn⟩ | ⟨g, cap, cur, rfl, h2, h3, h4, h5, h6, h7⟩⟩ := h
  · omega
  · refine ⟨g, cap, cur, rfl, h2, h3, h4, by omega, h5, fun i hi => ?_⟩
    have h8 := h0.cellAt i (by omega)
    rw [List.getElem?_map, List.getElem?_eq_getElem hi] at h8
    simpa [World.cell?, h3] using h8
theorem own_kr {base : Nat} {w : World} {a : Option Addr} {c : Nat} {l : List ByteArray} (h : w.ownsRow base 9 1 (.slice a l.length c) l.length (l.map Value.string)) : KR base w a c l := by
  have h0 := h
  obtain ⟨h1, ⟨e, hn⟩ | ⟨g, cap, cur, e, h2, h3, h4, h5, h6, h7⟩⟩ := h
  · injection e with e1 e2 e3
    subst e1 e3
    have hl : l = [] := List.eq_nil_of_length_eq_zero hn
    subst hl
    exact ⟨Nat.le_refl _, Nat.zero_le _, fun _ => ⟨rfl, rfl⟩, fun e => absurd rfl e⟩
  · injection e with e1 e2 e3
    subst e1 e3
    refine ⟨h4, h5, (fun e => by cases e), fun _ => ⟨g, 0, cur, rfl, h2, h3, by omega, fun i hi => ?_⟩⟩
    rw [Nat.zero_add]
    have h8 := h0.cellAt i (by omega)
    rw [List.getElem?_map, List.getElem?_eq_getElem hi] at h8
    simpa [World.cell?, h3] using h8
/-- all but the first -/
theorem own_tail {base g c : Nat} {w : World} {l : List ByteArray} (h : w.ownsRow base 9 1 (.slice (some ⟨g, 0, none⟩) l.length c) l.length (l.map Value.string)) (hl : 0 < l.length) : KR base w (some ⟨g, 1, none⟩) (c - 1) (l.drop 1) := by
  obtain ⟨g', c', M, e, h1, h2, h3, h4, h5, h6⟩ := own_form h hl
  injection e with e1 e2 e3
  injection e1 with e1
  injection e1 with e1
  subst e1 e3
  refine ⟨by rw [List.length_drop]; omega, by omega, (fun e => by cases e), fun _ => ⟨g, 1, M, rfl, h1, h2, by omega, fun i hi => ?_⟩⟩
  rw [List.length_drop] at hi
  rw [h6 (1 + i) (by omega), List.getElem_drop]
/-- a text put into a row of one's own -/
theorem own_put {base g c k : Nat} {w : World} {l : List ByteArray} {s : ByteArray} (h : w.ownsRow base 9 1 (.slice (some ⟨g, 0, none⟩) l.length c) l.length (l.map Value.string)) :
    (w.setCell ⟨g, k, none⟩ (.string s)).ownsRow base 9 1 (.slice (some ⟨g, 0, none⟩) l.length c) l.length ((l.set k s).map Value.string) := by
  obtain ⟨h1, ⟨e, hn⟩ | ⟨g', cap, cur, e, h2, h3, h4, h5, h6, h7⟩⟩ := h
  · cases e
  · injection e with e1 e2 e3
    injection e1 with e1
    injection e1 with e1
    subst e1 e3
    refine ⟨by simp, .inr ⟨g, c, cur.setIfInBounds k (.string s), rfl, h2, bset h3 _, h4, h5, by simp [h6], ?_⟩⟩
    rw [Array.toList_setIfInBounds, List.map_set, List.take_set, h7]
theorem own_setg {base g c n b k : Nat} {w : World} {u : Value} {xs : List Value} (h : w.ownsRow base 9 1 (.slice (some ⟨g, 0, none⟩) n c) n xs) (hne : g ≠ b) : (w.setCell ⟨b, k, none⟩ u).ownsRow base 9 1 (.slice (some ⟨g, 0, none⟩) n c) n xs :=
  h.kept (grown_set w b k u) (.inr (by simpa [Value.ownBlock] using hne))
theorem own_putN {base g c k n : Nat} {w : World} {l : List ByteArray} {s : ByteArray} (hn : n = l.length) (h : w.ownsRow base 9 1 (.slice (some ⟨g, 0, none⟩) n c) n (l.map Value.string)) :
    (w.setCell ⟨g, k, none⟩ (.string s)).ownsRow base 9 1 (.slice (some ⟨g, 0, none⟩) n c) n ((l.set k s).map Value.string) := by
  subst hn
  exact own_put h
theorem own_tailN {base g c n : Nat} {w : World} {l : List ByteArray} (hn : n = l.length) (h : w.ownsRow base 9 1 (.slice (some ⟨g, 0, none⟩) n c) n (l.map Value.string)) (hl : 0 < n) : KR base w (some ⟨g, 1, none⟩) (c - 1) (l.drop 1) := by
  subst hn
  exact own_tail h hl
theorem own_krN {base c n : Nat} {w : World} {a : Option Addr} {l : List ByteArray} (hn : n = l.length) (h : w.ownsRow base 9 1 (.slice a n c) n (l.map Value.string)) : KR base w a c l := by
  subst hn
  exact own_kr h
theorem own_formN {base n : Nat} {w : World} {v : Value} {l : List ByteArray} (hn : n = l.length) (h : w.ownsRow base 9 1 v n (l.map Value.string)) (hl : 0 < n) :
    ∃ g c M, v = .slice (some ⟨g, 0, none⟩) n c ∧ base ≤ g ∧ w.heap[g]? = some (.cells M 9 (0, 0)) ∧ n ≤ c ∧ c ≤ M.size ∧ c ≤ maxLen ∧ ∀ i (h : i < l.length), M[i]? = some (.string l[i]) := by
  subst hn
  exact own_form h hl
end Go.Proofs.Ytjjabfcdhknigaa.kill
