/-
  Texts put behind a row of one's own that may lie in the midst of a block. For every such row.
-/
import Derived.Test.YtgmbpohbjhaghaaKillBehind
import Derived.Laws.IdiomCopy
namespace Go.Proofs.Ytgmbpohbjhaghaa.kill
open Go.ChangeShapes Go.WideShapes Go.ChangeAt Go.RowKit
open Go.Proofs.Ytgmbpohbjhaghaa.strs Go.Proofs.Ytgmbpohbjhaghaa.line
theorem grown_cells (b : Nat) : ∀ (vs : List Value) (o : Nat) (W : World), W.grownBy (W.setCells b o vs) (some b)
  | [], _, W => grown_refl W _
  | v :: r, o, W => grown_trans (grown_set W b o v) (grown_cells b r (o + 1) _)
theorem block_cells (b : Nat) {t : TypeId} {fr : Nat × Nat} : ∀ (vs : List Value) (o : Nat) (W : World) (M : Array Value), W.heap[b]? = some (.cells M t fr) → ∃ M' : Array Value, (W.setCells b o vs).heap[b]? = some (.cells M' t fr) ∧ M'.size = M.size
  | [], _, _, M, h => ⟨M, h, rfl⟩
  | v :: r, o, W, M, h => by
    obtain ⟨M', h1, h2⟩ := block_cells b r (o + 1) (W.setCell ⟨b, o, none⟩ v) _ (bset h v)
    exact ⟨M', h1, by rw [h2, Array.size_setIfInBounds]⟩
theorem cell_blk {W : World} {b i : Nat} {M : Array Value} {t : TypeId} {fr : Nat × Nat} (h : W.heap[b]? = some (.cells M t fr)) : W.cell? ⟨b, i, none⟩ = M[i]? := by
  simp [World.cell?, h]
theorem append_kr (W : World) (base : Nat) (a : Option Addr) (c : Nat) (l : List ByteArray) (h : KR base W a c l) (hbase : base ≤ W.heap.size) (B q : Nat) (xs : List ByteArray) (hx : ∀ i (hi : i < xs.length), W.cell? ⟨B, i, none⟩ = some (.string xs[i])) (hm : 0 < xs.length) (hsmall : l.length + xs.length ≤ 1048576) (ty : TypeId) :
    ∃ a' c' W', (Builtin.append_ #[23, 23] ty #[.slice a l.length c, .slice (some ⟨B, 0, none⟩) xs.length q]).run Try.prog W = .ok (.slice a' (l.length + xs.length) c') W' ∧ KR base W' a' c' (l ++ xs) ∧ W.grownBy W' (blockOf a) ∧ (∀ x, blockOf a = some x → base ≤ x) := by
  obtain ⟨i0, hi, hz0, hz1, hz2⟩ := info_parts infoS
  have hnews : ∀ j u, (xs.map Value.string)[j]? = some u → W.cell? ((⟨B, 0, none⟩ : Addr).add j) = some u := fun j u hj => by
    rw [List.getElem?_map] at hj
    by_cases hjl : j < xs.length
    · rw [List.getElem?_eq_getElem hjl] at hj
      simp at hj
      rw [add_plain rfl, Nat.zero_add, hx j hjl, hj]
    · rw [List.getElem?_eq_none (by omega)] at hj; cases hj
  have hone : ∀ u ∈ xs.map Value.string, u.oneCell' = true := fun u hu => by
    obtain ⟨s, _, rfl⟩ := List.mem_map.1 hu
    rfl
  have grow : ∀ v' W', W'.ownsRow base 9 1 v' (l.length + xs.length) ((l ++ xs).map Value.string) → ∃ a' c', v' = .slice a' (l.length + xs.length) c' ∧ KR base W' a' c' (l ++ xs) := fun v' W' ho => by
    rw [← List.length_append] at ho ⊢
    obtain ⟨a', c', rfl, _⟩ := own_open ho
    exact ⟨a', c', rfl, own_kr ho⟩
  cases a with
  | none =>
    obtain ⟨rfl, rfl⟩ := h.nil rfl
    obtain ⟨v', W', hr, h2, h3, _⟩ := run_append_own (P := Try.prog) W base 23 ty 9 i0 (.string ⟨#[]⟩) 1 16 Try.underlying23 hi hz0 hz1 hz2 rfl (by decide) (.slice none 0 0) 0 [] (World.ownsRow_nil W base 9 1) ⟨B, 0, none⟩ xs.length q (xs.map Value.string) (by simp) hnews hone (by unfold maxLen; simp at hsmall; omega) (by simp at hsmall; omega) hbase
    obtain ⟨a', c', rfl, hk⟩ := grow v' W' (by simpa using h2)
    exact ⟨a', c', W', hr, hk, h3, fun x e => by cases e⟩
  | some ad =>
    obtain ⟨g, o, M, e, hg, hM, hsz, hc⟩ := h.it (fun e => by cases e)
    injection e with e
    subst e
    have hgl := (Array.getElem?_eq_some_iff.1 hM).1
    have holds : ∀ j u, (l.map Value.string)[j]? = some u → W.cell? ((⟨g, o, none⟩ : Addr).add j) = some u := fun j u hj => by
      rw [List.getElem?_map] at hj
      by_cases hjl : j < l.length
      · rw [List.getElem?_eq_getElem hjl] at hj
        simp at hj
        rw [add_plain rfl, cell_blk hM, hc j hjl, hj]
      · rw [List.getElem?_eq_none (by omega)] at hj; cases hj
    by_cases hroom : l.length + xs.length ≤ c
    · have hcells : ∀ j, j < (xs.map Value.string).length → (W.cell? ⟨g, o + l.length * i0.size + j, none⟩).isSome = true := fun j hj => by
        rw [List.length_map] at hj
        rw [cell_blk hM, hz1, Array.getElem?_eq_getElem (by omega)]; rfl
      have hr := run_append_room_cells (P := Try.prog) W 23 ty 9 i0 Try.underlying23 hi g o l.length c ⟨B, 0, none⟩ xs.length q (xs.map Value.string) (by rw [hz1]; simp) hnews hone hroom hcells
        (fun j hj => by simp [World.frozen?, hM])
      rw [hz1, Nat.mul_one] at hr
      obtain ⟨M', hM', hs'⟩ := block_cells g (xs.map Value.string) (o + l.length) W M hM
      refine ⟨some ⟨g, o, none⟩, c, _, hr, ⟨by simpa using hroom, h.max, (fun e => by cases e), fun _ => ⟨g, o, M', rfl, hg, hM', by omega, fun i hi => ?_⟩⟩, grown_cells g _ _ W, fun x e => by injection e with e; subst e; exact hg⟩
      rw [← cell_blk hM']
      by_cases hil : i < l.length
      · rw [World.cell?_setCells_out g _ _ W ⟨g, o + i, none⟩ (fun _ _ => .inl (by simp; omega)), cell_blk hM, hc i hil, List.getElem_append_left hil]
      · rw [List.length_append] at hi
        have h1 := World.cell?_setCells_in g (xs.map Value.string) (o + l.length) W (fun j hj => by have := hcells j hj; rw [hz1, Nat.mul_one] at this; exact this) (i - l.length) (by simp; omega)
        rw [show o + l.length + (i - l.length) = o + i by omega] at h1
        rw [h1, List.getElem_append_right (by omega)]
        simp
    · obtain ⟨v', W', hr, h2, h3⟩ := run_append_arg_grows (P := Try.prog) W 23 ty 9 i0 (.string ⟨#[]⟩) 1 16 Try.underlying23 hi hz0 hz1 hz2 rfl (by decide) ⟨g, o, none⟩ l.length c (l.map Value.string) (by simp) holds ⟨B, 0, none⟩ xs.length q (xs.map Value.string) (by simp) hnews (by omega) (by unfold maxLen; omega) (by omega)
      obtain ⟨a', c', rfl, hk⟩ := grow v' W' (by rw [List.map_append]; exact own_lo h2 hbase)
      exact ⟨a', c', W', hr, hk, ⟨h3.os, h3.tape, h3.output, h3.size, fun k hk _ => h3.block k hk (by simp)⟩, fun x e => by injection e with e; subst e; exact hg⟩
end Go.Proofs.Ytgmbpohbjhaghaa.kill
