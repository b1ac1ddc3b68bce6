/-
  Draws: a text, and changes that may not be right. What comes is bounded; nothing else is said of it.
-/
import Derived.Test.YtbbmobebnflboaaDrawTwo
import Derived.Test.YtbbmobebnflboaaSource
import Derived.Test.YtbbmobebnflboaaDiffLaw
import Derived.Test.YtbbmobebnflboaaDiffImpl
namespace Go.Proofs.Ytbbmobebnflboaa.src
open Go.ChangeShapes Go.WideShapes Go.ChangeAt Go.RowKit
open Go.Proofs.Ytbbmobebnflboaa.put Go.Proofs.Ytbbmobebnflboaa.table Go.Proofs.Ytbbmobebnflboaa.diff Go.Proofs.Ytbbmobebnflboaa.line
theorem diffR_size (a b : ByteArray) : ∀ (f i k m : Nat) (ds : List Run), (∀ d ∈ ds, d.2.size ≤ m) → ∀ d ∈ diffR a b f i k ds, d.2.size ≤ m + f := by
  intro f
  induction f with
  | zero => intro i k m ds h d hd; exact h d hd
  | succ f ih =>
    intro i k m ds h d hd
    unfold diffR at hd
    split at hd
    · have := ih _ _ (m + 1) _ (putL_size ds 1 _ m h) d hd; omega
    · split at hd
      · have := ih _ _ (m + 1) _ (putL_size ds 2 _ m h) d hd; omega
      · split at hd
        · have := ih _ _ (m + 1) _ (putL_size ds 3 _ m h) d hd; omega
        · have := h d hd; omega
theorem diffV_size (a b : ByteArray) : ∀ d ∈ diffV a b, d.2.size ≤ 120 := by
  intro d hd
  unfold diffV at hd
  split at hd
  · rename_i h
    rw [Bool.and_eq_true] at h
    have h6 := (textB_ok h.1).1
    have h7 := (textB_ok h.2).1
    have := diffR_size a b (a.size + b.size) 0 0 0 [] (by simp) d hd
    omega
  · simp at hd
theorem atX_size {R : List Run} {B : Nat} (h : ∀ d ∈ R, d.2.size ≤ B) (i : Nat) (hi : i < R.length) : (atX R i).size ≤ B := by
  unfold atX
  rw [List.getElem?_eq_getElem hi]
  exact h _ (List.getElem_mem hi)
theorem rowSetK {w : World} {g n : Nat} {K : Nat → Int} {X : Nat → ByteArray} (h : RowD w g n K X) {i : Nat} (hi : i < n) (q : Int) : RowD (w.setCell ⟨g, i * 2, none⟩ (.int .i64 q)) g n (fun j => if j = i then q else K j) X where
  kind j hj := by
    by_cases e : j = i
    · subst e; rw [if_pos rfl]; exact set_same (h.kind _ hi)
    · rw [if_neg e, set_other (addr_ne (by omega))]; exact h.kind j hj
  text j hj := by rw [set_other (addr_ne (by omega))]; exact h.text j hj
theorem rowSetX {w : World} {g n : Nat} {K : Nat → Int} {X : Nat → ByteArray} (h : RowD w g n K X) {i : Nat} (hi : i < n) (q : ByteArray) : RowD (w.setCell ⟨g, i * 2 + 1, none⟩ (.string q)) g n K (fun j => if j = i then q else X j) where
  kind j hj := by rw [set_other (addr_ne (by omega))]; exact h.kind j hj
  text j hj := by
    by_cases e : j = i
    · subst e; rw [if_pos rfl]; exact set_same (h.text _ hi)
    · rw [if_neg e, set_other (addr_ne (by omega))]; exact h.text j hj
theorem cut1 (W : World) (b n C : Nat) (hn : 1 ≤ n) : (Instr.slice 25 (.slice (some ⟨b, 0, none⟩) n C) (some (.int .i64 1)) none none).run Try.prog W =
    .ok (.slice (some ⟨b, if C = 1 then 0 else 2, none⟩) (n - 1) (C - 1)) W := by
  have he : Try.prog.elem 25 = 55 := by kernel_rfl
  have hs : (sizeOf 55).run Try.prog W = .ok 2 W := by kernel_rfl
  rw [run_slice_l (P := Try.prog) W 25 _ n C (by kernel_rfl) .i64 (1 : Int) (by omega) (by omega), he, hs]
  simp only [Result.andThen, sliced, Option.map_some]
  by_cases h : C = 1
  · simp [h]
  · simp [h, Addr.add]
theorem cutRow {w : World} {b n C : Nat} {K : Nat → Int} {X : Nat → ByteArray} (h : RowD w b n K X) (hC : n ≤ C) (hn : 1 ≤ n) :
    RowO w b (if C = 1 then 0 else 2) (n - 1) (fun j => K (j + 1)) (fun j => X (j + 1)) where
  kind j hj := by
    rw [if_neg (by omega), show 2 + j * 2 = (j + 1) * 2 by omega]; exact h.kind (j + 1) (by omega)
  text j hj := by
    rw [if_neg (by omega), show 2 + j * 2 + 1 = (j + 1) * 2 + 1 by omega]; exact h.text (j + 1) (by omega)
theorem drew_own {N g : Nat} {a b c : World} (h : Drew N g a b) {k : Nat} (hg : b.grownBy c (some k)) (hN : N ≤ k) (hkg : k ≠ g) (hk : a.heap.size ≤ k) : Drew N g a c := by
  obtain ⟨⟨x, n, C, i, m, z, hs⟩, hgr⟩ := h
  refine ⟨⟨x, n, C, i, m, z, hs.grown hg (fun e => hkg (by injection e with e; exact e.symm)) (fun b' o' h0 e e2 => ?_)⟩, ?_⟩
  · injection e2 with e2
    obtain ⟨b2, o2, v2, e3, h4, _⟩ := hs.bytes 0 h0
    rw [e] at e3
    injection e3 with e3
    injection e3 with e3
    omega
  · exact ⟨hg.os.trans hgr.os, hg.tape.trans hgr.tape, hg.output.trans hgr.output, Nat.le_trans hgr.size hg.size, fun j hj hne => (hg.block j (Nat.lt_of_lt_of_le hj hgr.size) (fun e => by injection e with e; omega)).trans (hgr.block j hj hne)⟩
theorem own_cap {w : World} {base g n cap : Nat} {xs : List Value} (h : w.ownsRow base 55 2 (.slice (some ⟨g, 0, none⟩) n cap) n xs) : n ≤ cap := by
  rcases h.2 with ⟨h0, _⟩ | ⟨g', cap', cur, h1, _, _, h4, _⟩
  · cases h0
  · injection h1 with _ _ a3
    omega
set_option maxHeartbeats 4000000 in
set_option maxRecDepth 20000 in
theorem odd3_any (N g : Nat) (w : World) (h : Src N g w) (hN : N ≤ w.heap.size) :
    Calls Try.prog 35 #[.pointer (some ⟨g, 0, none⟩)] w fun e w' => ∃ (A : ByteArray) (b o n C : Nat) (K : Nat → Int) (X : Nat → ByteArray), e = .returned (.tuple #[.string A, .slice (some ⟨b, o, none⟩) n C]) ∧
      A.size ≤ 61 ∧ n ≤ 200 ∧ (∀ i, i < n → (X i).size ≤ 200) ∧ RowO w' b o n K X ∧ Drew N g w w' := by
  have hgl := h.lt
  go_enter Try.func35, Try.ntmps35
  go_wp2_with fail
  refine (two_any N g _ h hN).mono ?_
  rintro e w1 ⟨A, B, rfl, hA, hB, hd1⟩
  have hw1 := hd1.2.size
  have HD1 := Lib.hid hd1
  clear hd1 h
  go_wp2_with fail
  refine (specDiffOf_any A B (by unfold maxLen; omega) (by unfold maxLen; omega) _).mono ?_
  rintro e w2 ⟨b, C, rfl, ho, hb2⟩
  have hlen := diffV_len A B
  have hsz := diffV_size A B
  obtain ⟨R, hR⟩ : ∃ R, R = diffV A B := ⟨_, rfl⟩
  rw [← hR] at ho hlen hsz
  rw [← hR]
  have hbg : b ≠ g := by have := (own_blk ho).1; omega
  have hbN : N ≤ b := by have := (own_blk ho).1; omega
  have hbw : w.heap.size ≤ b := by have := (own_blk ho).1; omega
  have HX := Lib.hid (fun i hi => Nat.le_trans (atX_size hsz i hi) (by omega : 120 ≤ 200))
  have HD2 := Lib.hid (HD1.out.below hb2)
  have HO2 := Lib.hid ho
  have hw2 := hb2.size
  clear ho hb2 HD1 hR hsz
  go_wp2_with fail
  refine (one_any N g 6 (by omega) _ HD2.out.1).mono ?_
  rintro e w3 ⟨t, rfl, hd3⟩
  have HO3 := Lib.hid (HO2.out.kept hd3.2 (.inr (fun e => hbg (by injection e))))
  have HD3 := Lib.hid (HD2.out.trans hd3)
  have hw3 := hd3.2.size
  clear hd3 HO2 HD2
  have keepEnd : ∀ W : World, W.ownsRow w1.heap.size 55 2 (.slice (some ⟨b, 0, none⟩) R.length C) R.length (dCells R) → Drew N g w W → ∃ (A' : ByteArray) (b' o n C' : Nat) (K : Nat → Int) (X : Nat → ByteArray), Ending.returned (.tuple #[.string A, .slice (some ⟨b, 0, none⟩) R.length C]) = Ending.returned (.tuple #[.string A', .slice (some ⟨b', o, none⟩) n C']) ∧
      A'.size ≤ 61 ∧ n ≤ 200 ∧ (∀ i, i < n → (X i).size ≤ 200) ∧ RowO W b' o n K X ∧ Drew N g w W := fun W ho hd => ⟨A, b, 0, R.length, C, atK R, atX R, rfl, hA, by omega, HX.out, (own_row ho).o, hd⟩
  have HE := Lib.hid keepEnd
  clear keepEnd
  cases t
  · go_wp2
    go_ret2
    exact HE.out _ HO3.out HD3.out
  by_cases hR0 : R.length = 0
  · have d0 : ¬ (0 : Int) < (R.length : Int) := by omega
    clear hR0
    go_wp2
    go_ret2
    exact HE.out _ HO3.out HD3.out
  have d0 : (0 : Int) < (R.length : Int) := by omega
  go_wp2_with fail
  refine (n_in N g (R.length : Int) (by omega) (by omega) _ HD3.out.1).mono ?_
  rintro e w4 ⟨i, rfl, hi, hd4⟩
  have HO4 := Lib.hid (HO3.out.kept hd4.2 (.inr (fun e => hbg (by injection e))))
  have HD4 := Lib.hid (HD3.out.trans hd4)
  have hw4 := hd4.2.size
  clear hd4 HO3 HD3
  go_wp2_with fail
  refine (n_in N g 4 (by omega) (by omega) _ HD4.out.1).mono ?_
  rintro e w5 ⟨r, rfl, hr, hd5⟩
  have HO5 := Lib.hid (HO4.out.kept hd5.2 (.inr (fun e => hbg (by injection e))))
  have HD5 := Lib.hid (HD4.out.trans hd5)
  have hw5 := hd5.2.size
  clear hd5 HO4 HD4
  have hiR : i < R.length := by omega
  have hr4 : r = 0 ∨ r = 1 ∨ r = 2 ∨ r = 3 := by omega
  rcases hr4 with rfl | rfl | rfl | rfl
  · go_wp2_with fail
    refine (n_in N g 5 (by omega) (by omega) _ HD5.out.1).mono ?_
    rintro e w6 ⟨q, rfl, hq, hd6⟩
    have ho6 := HO5.out.kept hd6.2 (.inr (fun e => hbg (by injection e)))
    have HD6 := Lib.hid (HD5.out.trans hd6)
    have hrow := own_row ho6
    have hc := hrow.kind i hiR
    have hf : w6.frozen? ⟨b, i * 2, none⟩ = false := by obtain ⟨_, M, hM, _⟩ := own_blk ho6; exact frozen_of_row _ _ _ _ _ hM
    have HR6 := Lib.hid hrow
    clear ho6 hd6 hrow
    go_wp2
    go_ret2
    exact ⟨A, b, 0, R.length, C, _, atX R, rfl, hA, by omega, HX.out, (rowSetK HR6.out hiR (q : Nat)).o, HD6.out.set hbN hbg hbw⟩
  · have hB := ((Below.refl _ w5).alloc (Nat.le_refl _) (.cells #[.string ⟨#[]⟩, .string ⟨#[113]⟩, .string ⟨#[1]⟩] 9))
    have HB := Lib.hid (HD5.out.below hB)
    have hrow : (w5.alloc (.cells #[.string ⟨#[]⟩, .string ⟨#[113]⟩, .string ⟨#[1]⟩] 9)).heap[w5.heap.size]? = some (.cells #[.string ⟨#[]⟩, .string ⟨#[113]⟩, .string ⟨#[1]⟩] 9 (0, 0)) := heap_alloc_new w5 _
    have hstr : StrRow (#[Value.string ⟨#[]⟩, .string ⟨#[113]⟩, .string ⟨#[1]⟩] : Array Value).toList 1 := by
      intro v hv
      simp at hv
      rcases hv with rfl | rfl | rfl <;> exact ⟨_, rfl, by decide⟩
    have HRW := Lib.hid hrow
    have hg5 := HD5.out.1.lt
    clear hrow hB
    go_wp2_with fail
    refine (pick_any N g w5.heap.size 3 _ _ _ 1 (by omega) (by omega) rfl hstr (by omega) _ HB.out.1 HRW.out).mono ?_
    rintro e w6 ⟨q, rfl, hq, hd6⟩
    have ho6 := (HO5.out.alloc (.cells #[.string ⟨#[]⟩, .string ⟨#[113]⟩, .string ⟨#[1]⟩] 9)).kept hd6.2 (.inr (fun e => hbg (by injection e)))
    have HD6 := Lib.hid (HB.out.trans hd6)
    have hrow := own_row ho6
    have hc := hrow.text i hiR
    have hf : w6.frozen? ⟨b, i * 2 + 1, none⟩ = false := by obtain ⟨_, M, hM, _⟩ := own_blk ho6; exact frozen_of_row _ _ _ _ _ hM
    have HR6 := Lib.hid hrow
    clear ho6 hd6 hrow
    go_wp2
    go_ret2
    exact ⟨A, b, 0, R.length, C, atK R, _, rfl, hA, by omega, fun j hj => by
      by_cases e : j = i
      · rw [if_pos e]; omega
      · rw [if_neg e]; exact HX.out j hj, (rowSetX HR6.out hiR q).o, HD6.out.set hbN hbg hbw⟩
  · have hcap := own_cap HO5.out
    have hct := fun W => cut1 W b R.length C (by omega)
    obtain ⟨o, ho⟩ : ∃ o, o = if C = 1 then 0 else 2 := ⟨_, rfl⟩
    rw [← ho] at hct
    have HRO := Lib.hid (cutRow (own_row HO5.out) hcap (by omega))
    rw [← ho] at HRO
    clear ho
    go_wp2
    go_ret2
    exact ⟨A, b, o, R.length - 1, C - 1, _, _, rfl, hA, by omega, fun j hj => HX.out (j + 1) (by omega), HRO.out, HD5.out⟩
  · obtain ⟨i0, hi0, hz0, hz1, hz2⟩ := info_parts info5
    obtain ⟨iD, hiD, hzD0, hzD1, hzD2⟩ := info_parts put.infoD
    have hmk : ∀ W : World, (Instr.makeSlice 22 (.int .i64 61) (.int .i64 61)).run Try.prog W = .ok (.slice (some ⟨W.heap.size, 0, none⟩) 61 61) (W.alloc (.cells (rowOf [] 61) 5)) := fun W => by
      have h := run_make (P := Try.prog) W 22 5 i0 (.int .u8 0) Try.underlying22 hi0 hz0 .i64 .i64 61 61 (by omega) (by omega) (by rw [hz2]; omega) (by omega)
      have e : madeCells (Value.int .u8 0).cells ((61 : Int).toNat * i0.size) = rowOf [] 61 := by
        rw [hz1, Nat.mul_one, rowOf_nil]
        apply Array.ext'
        exact toList_madeCells_one _ _
      rw [e] at h
      exact h
    have hcv := conv_row (P := Try.prog) (w := w5.alloc (.cells (rowOf [] 61) 5)) (g := w5.heap.size) (cap := 61) 22 5 Try.underlying22 Try.underlying5 (List.replicate 61 0) (fun j hj => by
      rw [List.length_replicate] at hj
      rw [cell_of_row _ _ _ _ _ _ (heap_alloc_new w5 _), rowOf_nil, List.getElem?_toArray, zeros, List.getElem?_replicate, if_pos hj, List.getD_eq_getElem?_getD, List.getElem?_replicate, if_pos hj]
      rfl) 9 Try.underlying9
    rw [List.length_replicate] at hcv
    obtain ⟨Z, hZ⟩ : ∃ Z : ByteArray, Z = ⟨(List.replicate 61 (0 : UInt8)).toArray⟩ := ⟨_, rfl⟩
    rw [← hZ] at hcv
    have hZs : Z.size = 61 := by rw [hZ]; simp [ByteArray.size]
    clear hZ
    go_wp2_with (first | (at_builtin; refine wpList_append_own _ rfl _ _ 25 rfl w1.heap.size 55 iD (.agg #[.int .i64 0, .string ⟨#[]⟩]) 2 24 Try.underlying25 hiD hzD0 hzD1 hzD2 rfl (by decide) _ _ _ rfl ((HO5.out.alloc _).alloc _) ⟨w5.heap.size + 1, 0, none⟩ 1 1 [.int .i64 3, .string Z] rfl rfl ?c1 ?c2 ?c3 ?c4 ?c5 ?_))
    case c1 =>
      intro j u hj
      match j, hj with
      | 0, hj => simp at hj; subst hj; simp [Addr.add]
      | 1, hj => simp at hj; subst hj; simp [Addr.add]
    case c2 => intro u hu; simp at hu; rcases hu with rfl | rfl <;> rfl
    case c3 => unfold maxLen; omega
    case c4 => omega
    case c5 => simp; omega
    intro v' w6 hown' hgrow _
    have hlen' : (R ++ [((3 : Int), Z)]).length = R.length + 1 := by simp
    have hcells : dCells (R ++ [((3 : Int), Z)]) = dCells R ++ [.int .i64 3, .string Z] := by rw [dCells_append, dCells_one]
    rw [← hlen', ← hcells] at hown'
    have hal : Below w5.heap.size w5 ((w5.alloc (.cells (rowOf [] 61) 5)).alloc (.cells #[.int .i64 3, .string Z] 55)) := ((Below.refl _ w5).alloc (Nat.le_refl _) _).alloc (by simp) _
    have HD6 := Lib.hid (drew_own (HD5.out.below hal) hgrow hbN hbg hbw)
    have HX6 := Lib.hid (show ∀ j, j < (R ++ [((3 : Int), Z)]).length → (atX (R ++ [((3 : Int), Z)]) j).size ≤ 200 from fun j hj => by
      by_cases e : j < R.length
      · have := HX.out j e
        unfold atX at this ⊢
        rw [List.getElem?_append_left e]; exact this
      · have e2 : j = R.length := by omega
        unfold atX
        rw [e2, List.getElem?_append_right (Nat.le_refl _), Nat.sub_self]
        show Z.size ≤ 200
        omega)
    rcases hown'.2 with ⟨_, h0⟩ | ⟨b', C', _, rfl, _⟩
    · omega
    have HR6 := Lib.hid (own_row hown').o
    have hle : (R ++ [((3 : Int), Z)]).length ≤ 200 := by omega
    obtain ⟨R', hR'⟩ : ∃ R', R' = R ++ [((3 : Int), Z)] := ⟨_, rfl⟩
    rw [← hR'] at HR6 HX6 hle ⊢
    clear hown' hgrow hlen' hcells hal hR' HX
    go_wp2
    go_ret2
    exact ⟨A, b', 0, R'.length, C', atK R', atX R', rfl, hA, hle, HX6.out, HR6.out, HD6.out⟩
end Go.Proofs.Ytbbmobebnflboaa.src
