/-
  The lines of a text, as the model takes them apart. For every text of at most 8000 bytes.
-/
import Derived.Test.YtlhfgpcanfpnfaaDoorStreamMath
import Derived.Laws.AppendOwn
import Derived.Laws.Slices
namespace Go.Proofs.YtlhfgpcanfpnfaaDoor.frames
open Go.ChangeShapes Go.WideShapes Go.ChangeAt Go.RowKit Go.Deep
open Go.Proofs.YtlhfgpcanfpnfaaDoor.strs Go.Proofs.YtlhfgpcanfpnfaaDoor.frame Go.Proofs.YtlhfgpcanfpnfaaDoor.line
def splitR : List UInt8 → List (List UInt8)
  | [] => [[]]
  | x :: r => if x = 10 then [] :: splitR r else match splitR r with
    | p :: ps => (x :: p) :: ps
    | [] => [[x]]
theorem splitR_hit : ∀ {w : List UInt8} (r : List UInt8), (∀ x ∈ w, x ≠ 10) → splitR (w ++ 10 :: r) = w :: splitR r
  | [], r, _ => by simp [splitR]
  | x :: w, r, h => by
    have ih := splitR_hit (w := w) r (fun y hy => h y (List.mem_cons_of_mem _ hy))
    rw [List.cons_append, splitR, if_neg (h x List.mem_cons_self), ih]
theorem splitR_one : ∀ {w : List UInt8}, (∀ x ∈ w, x ≠ 10) → splitR w = [w]
  | [], _ => rfl
  | x :: w, h => by
    have ih := splitR_one (w := w) (fun y hy => h y (List.mem_cons_of_mem _ hy))
    rw [splitR, if_neg (h x List.mem_cons_self), ih]
theorem splitR_len : ∀ l : List UInt8, 1 ≤ (splitR l).length ∧ (splitR l).length ≤ l.length + 1
  | [] => ⟨Nat.le_refl _, Nat.le_refl _⟩
  | x :: r => by
    obtain ⟨h1, h2⟩ := splitR_len r
    rw [splitR]
    split
    · simp; omega
    · rcases hs : splitR r with _ | ⟨p, ps⟩
      · rw [hs] at h1; simp at h1
      · rw [hs] at h2; simp at h2 ⊢; omega
theorem splitR_mem : ∀ l : List UInt8, ∀ p ∈ splitR l, p.length ≤ l.length
  | [], p, h => by simp [splitR] at h; subst h; simp
  | x :: r, p, h => by
    have ih := splitR_mem r
    rw [splitR] at h
    split at h
    · rcases List.mem_cons.1 h with rfl | h
      · simp
      · have := ih p h; simp; omega
    · rcases hs : splitR r with _ | ⟨q, ps⟩
      · rw [hs] at h; simp at h; subst h; simp
      · rw [hs] at h
        rcases List.mem_cons.1 h with rfl | h
        · have := ih q (by rw [hs]; exact List.mem_cons_self); simp; omega
        · have := ih p (by rw [hs]; exact List.mem_cons_of_mem _ h); simp; omega
theorem splitR_str : ∀ {l : List FT}, (∀ f ∈ l, frF f = true) → splitR (strL l) = (l.map fun f => frL f.1 f.2.1 f.2.2) ++ [[]]
  | [], _ => rfl
  | f :: l, hr => by
    have ih := splitR_str (l := l) (fun g hg => hr g (List.mem_cons_of_mem _ hg))
    rw [strL_cons, splitR_hit _ (frL_lf (hr f List.mem_cons_self)), ih]
    rfl
def sCells (l : List ByteArray) : List Value := l.map fun s => .string s
/-- so far: these lines are taken off, from f on up to k there is no line feed -/
structure Sp (s : ByteArray) (L : List ByteArray) (f k : Nat) : Prop where
  le : f ≤ k
  text : (splitR s.data.toList).map bA = L ++ (splitR (s.data.toList.drop f)).map bA
  none : ∀ i (h : i < s.size), f ≤ i → i < k → s[i].toNat ≠ 10
theorem Sp.start (s : ByteArray) : Sp s [] 0 0 := ⟨Nat.le_refl _, by simp, fun i h h1 h2 => by omega⟩
theorem Sp.on {s : ByteArray} {L : List ByteArray} {f k : Nat} (h : Sp s L f k) (hk : k < s.size) (h10 : s[k].toNat ≠ 10) : Sp s L f (k + 1) :=
  ⟨by have := h.le; omega, h.text, fun i hi h1 h2 => by
    by_cases e : i = k
    · subst e; exact h10
    · exact h.none i hi h1 (by omega)⟩
theorem Sp.piece {s : ByteArray} {L : List ByteArray} {f k : Nat} (h : Sp s L f k) (hk : k ≤ s.size) : ∀ x ∈ (s.data.toList.drop f).take (k - f), x ≠ 10 := fun x hx e => by
  obtain ⟨i, hi, hx2⟩ := List.getElem_of_mem hx
  have hl : s.data.toList.length = s.size := rfl
  rw [List.length_take, List.length_drop] at hi
  have hle := h.le
  have hs : f + i < s.size := by omega
  rw [List.getElem_take, List.getElem_drop] at hx2
  have := h.none (f + i) hs (by omega) (by omega)
  have e2 : s[f + i] = x := by rw [← hx2]; simp; rfl
  rw [e2, e] at this
  exact this rfl
theorem Sp.cut {s : ByteArray} {L : List ByteArray} {f k : Nat} (h : Sp s L f k) (hk : k < s.size) (h10 : s[k].toNat = 10) : Sp s (L ++ [s.extract f k]) (k + 1) (k + 1) := by
  have hl : s.data.toList.length = s.size := rfl
  have hle := h.le
  have e0 : s[k] = 10 := UInt8.toNat_inj.1 (by rw [h10]; rfl)
  have e : s.data.toList.drop f = (s.data.toList.drop f).take (k - f) ++ 10 :: s.data.toList.drop (k + 1) := by
    conv => lhs; rw [← List.take_append_drop (k - f) (s.data.toList.drop f)]
    congr 1
    rw [List.drop_drop, show f + (k - f) = k by omega, List.drop_eq_getElem_cons (by omega)]
    have : s.data.toList[k]'(by omega) = s[k] := by simp; rfl
    rw [this, e0]
  refine ⟨Nat.le_refl _, ?_, fun i _ h1 h2 => by omega⟩
  rw [h.text, e, splitR_hit _ (h.piece (by omega)), List.map_cons, List.append_assoc, Lib.extract_eq]
  rfl
theorem Sp.done {s : ByteArray} {L : List ByteArray} {f : Nat} (h : Sp s L f s.size) : (splitR s.data.toList).map bA = L ++ [s.extract f s.size] := by
  have hl : s.data.toList.length = s.size := rfl
  have hp := h.piece (Nat.le_refl _)
  have e : (s.data.toList.drop f).take (s.size - f) = s.data.toList.drop f := List.take_of_length_le (by rw [List.length_drop]; omega)
  rw [e] at hp
  rw [h.text, splitR_one hp, Lib.extract_eq, e]
  rfl
theorem infoSt : (Tryd.prog.info? 9).map (fun i => (i.zero, i.size, i.bytes)) = some (some (.string ⟨#[]⟩), 1, 16) := by kernel_rfl
set_option maxRecDepth 30000 in
set_option maxHeartbeats 1600000 in
theorem split_any (s : ByteArray) (hs : s.size ≤ 8000) (w : World) :
    Calls Tryd.prog 20 #[.string s, .int .u8 10] w fun e w' => ∃ v, e = .returned v ∧ w'.ownsRow w.heap.size 9 1 v ((splitR s.data.toList).map bA).length (sCells ((splitR s.data.toList).map bA)) ∧ Below w.heap.size w w' := by
  obtain ⟨i0, hi, hz0, hz1, hz2⟩ := info_parts infoSt
  have HO0 := Lib.hid (show (w.alloc (.cells #[] 9)).ownsRow w.heap.size 9 1 (.slice (some ⟨w.heap.size, 0, none⟩) 0 0) 0 (sCells []) from World.ownsRow_lit w #[] 0 (Nat.le_refl _) (by decide) rfl)
  have HB0 := Lib.hid ((Below.refl _ w).alloc (Nat.le_refl _) (.cells #[] 9))
  go_enter Tryd.func20, Tryd.ntmps20
  go_wp2
  go_loopw [5, 6, 7] (fun ov fv iv wr => ∃ (L : List ByteArray) (f k : Nat), k ≤ s.size ∧ iv = .int .i64 k ∧ fv = .int .i64 f ∧ Sp s L f k ∧ L.length ≤ f ∧ wr.ownsRow w.heap.size 9 1 ov L.length (sCells L) ∧ Below w.heap.size w wr) (fun _ _ iv _ => s.size - (intOf iv).toNat)
  case atStart => exact ⟨[], 0, 0, Nat.zero_le _, rfl, rfl, Sp.start s, Nat.le_refl _, HO0.out, HB0.out⟩
  case round =>
    obtain ⟨L, f, k, hk, rfl, rfl, hsp, hlf, hown, hbel⟩ := hrel
    rename World => wr
    have HSP := Lib.hid hsp
    have HO := Lib.hid hown
    have HB := Lib.hid hbel
    have hfk := hsp.le
    have hzz := hbel.size
    obtain ⟨n, hn⟩ : ∃ n, n = L.length := ⟨_, rfl⟩
    have HNL := Lib.hid hn
    rw [← hn] at hlf
    have HO2 := Lib.hid (show wr.ownsRow w.heap.size 9 1 u5 n (sCells L) by rw [hn]; exact HO.out)
    clear hsp hown hbel hn HO HO0 HB0
    obtain ⟨X, hX⟩ : ∃ X, X = s.extract f k := ⟨_, rfl⟩
    have b1 : (0 : Int) ≤ (f : Int) := by omega
    have b2 : (f : Int) ≤ (k : Int) := by omega
    have b3 : (k : Int) ≤ (s.size : Int) := by omega
    have hsx : ∀ W : World, (Instr.slice 9 (.string s) (some (.int .i64 (f : Int))) (some (.int .i64 (k : Int))) none).run Tryd.prog W = .ok (.string X) W := fun W => by
      rw [run_slice_string (P := Tryd.prog) W 9 s .i64 .i64 (f : Int) (k : Int) Tryd.underlying9 (by omega) (by omega) (by omega), hX]; rfl
    by_cases hlt : k < s.size
    · by_cases h10 : s[k].toNat = 10
      · have HN := Lib.hid (HSP.out.cut hlt h10)
        rw [← hX] at HN
        clear hX
        have HO3 := Lib.hid (HO2.out.alloc (.cells #[.string X] 9))
        go_wp2_with (first | (at_builtin; refine wpList_append_own _ rfl _ _ 46 rfl w.heap.size 9 i0 (.string ⟨#[]⟩) 1 16 Tryd.underlying46 hi hz0 hz1 hz2 rfl (by decide) _ _ _ rfl HO3.out ⟨wr.heap.size, 0, none⟩ 1 1 [.string X] rfl rfl ?c1 ?c2 ?c3 ?c4 ?c5 ?_))
        case c1 =>
          intro j u hj
          match j, hj with
          | 0, hj => simp at hj; subst hj; simp [Addr.add]
        case c2 => intro u hu; simp at hu; subst hu; rfl
        case c3 => unfold maxLen; omega
        case c4 => omega
        case c5 => simp; omega
        intro v' w4 hown' hgrow _
        have HO5 := Lib.hid (show w4.ownsRow w.heap.size 9 1 v' (L ++ [X]).length (sCells (L ++ [X])) by
          rw [List.length_append, ← HNL.out]
          simpa [sCells] using hown')
        have HB4 := Lib.hid ((HB.out.alloc hzz (.cells #[.string X] 9)).grown hgrow (by simp; omega) (fun j hj => (HO3.out.lt j hj).1))
        clear hown' hgrow
        go_wp2
        go_roundw
        case rel => exact ⟨L ++ [X], k + 1, k + 1, by omega, by go_num, by go_num, HN.out, by rw [List.length_append, ← HNL.out]; simp; omega, HO5.out, HB4.out⟩
        case measure => simp [intOf]; omega
      · have HN := Lib.hid (HSP.out.on hlt h10)
        have HO5 := Lib.hid (show wr.ownsRow w.heap.size 9 1 u5 L.length (sCells L) by rw [← HNL.out]; exact HO2.out)
        have HLF := Lib.hid (show L.length ≤ f by rw [← HNL.out]; exact hlf)
        have h10' : (s[k].toNat == 10) = false := by simpa using h10
        clear hX hsx hlf HO2 b1 b2 b3 HSP X h10 hfk
        go_wp2
        go_roundw
        case rel => exact ⟨L, f, k + 1, by omega, by go_num, rfl, HN.out, HLF.out, HO5.out, HB.out⟩
        case measure => simp [intOf]; omega
    · obtain rfl : k = s.size := by omega
      have HD := Lib.hid HSP.out.done
      obtain ⟨Y, hY⟩ : ∃ Y, Y = s.extract f s.size := ⟨_, rfl⟩
      have hsy : ∀ W : World, (Instr.slice 9 (.string s) (some (.int .i64 (f : Int))) none none).run Tryd.prog W = .ok (.string Y) W := fun W => by
        rw [run_slice_string_l (P := Tryd.prog) W 9 (s := s) Tryd.underlying9 .i64 (f : Int) (by omega) (by omega), hY]; rfl
      rw [← hY] at HD
      have HO3 := Lib.hid (HO2.out.alloc (.cells #[.string Y] 9))
      clear hX hsx hY
      go_wp2_with (first | (at_builtin; refine wpList_append_own _ rfl _ _ 46 rfl w.heap.size 9 i0 (.string ⟨#[]⟩) 1 16 Tryd.underlying46 hi hz0 hz1 hz2 rfl (by decide) _ _ _ rfl HO3.out ⟨wr.heap.size, 0, none⟩ 1 1 [.string Y] rfl rfl ?c1 ?c2 ?c3 ?c4 ?c5 ?_))
      case c1 =>
        intro j u hj
        match j, hj with
        | 0, hj => simp at hj; subst hj; simp [Addr.add]
      case c2 => intro u hu; simp at hu; subst hu; rfl
      case c3 => unfold maxLen; omega
      case c4 => omega
      case c5 => simp; omega
      intro v' w4 hown' hgrow _
      have HO5 := Lib.hid (show w4.ownsRow w.heap.size 9 1 v' ((splitR s.data.toList).map bA).length (sCells ((splitR s.data.toList).map bA)) by
        rw [HD.out, List.length_append, ← HNL.out]
        simpa [sCells] using hown')
      have HB4 := Lib.hid ((HB.out.alloc hzz (.cells #[.string Y] 9)).grown hgrow (by simp; omega) (fun j hj => (HO3.out.lt j hj).1))
      clear hown' hgrow HD
      go_wp2
      go_ret
      exact ⟨_, rfl, HO5.out, HB4.out⟩
end Go.Proofs.YtlhfgpcanfpnfaaDoor.frames
