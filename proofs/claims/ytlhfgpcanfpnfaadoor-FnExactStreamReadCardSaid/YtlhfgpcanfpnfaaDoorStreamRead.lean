/-
  StreamRead of the program. For every text that the row reads; of the library's variables it asks what the row tells.
-/
import Derived.Test.YtlhfgpcanfpnfaaDoorStreamMath
import Derived.Test.YtlhfgpcanfpnfaaDoorReadImpl
import Derived.Laws.AppendOwn
namespace Go.Proofs.YtlhfgpcanfpnfaaDoor.frames
open Go.ChangeShapes Go.WideShapes Go.ChangeAt Go.RowKit Go.Deep
open Go.Proofs.YtlhfgpcanfpnfaaDoor.strs Go.Proofs.YtlhfgpcanfpnfaaDoor.frame Go.Proofs.YtlhfgpcanfpnfaaDoor.line Go.Proofs.YtlhfgpcanfpnfaaDoor.varb
def fCells (l : List FT) : List Value := l.flatMap fun f => [.int .i64 f.1, .int .i64 f.2.1, .string f.2.2]
theorem fCells_append (a b : List FT) : fCells (a ++ b) = fCells a ++ fCells b := by simp [fCells]
theorem fCells_one (f : FT) : fCells [f] = [.int .i64 f.1, .int .i64 f.2.1, .string f.2.2] := by simp [fCells]
theorem fCells_len (l : List FT) : (fCells l).length = l.length * 3 := by
  induction l with
  | nil => rfl
  | cons d r ih => simp [fCells] at ih ⊢; omega
theorem fCells_at (l : List FT) (i : Nat) (h : i < l.length) : (fCells l)[i * 3]? = some (.int .i64 l[i].1) ∧ (fCells l)[i * 3 + 1]? = some (.int .i64 l[i].2.1) ∧ (fCells l)[i * 3 + 2]? = some (.string l[i].2.2) := by
  induction l generalizing i with
  | nil => simp at h
  | cons d r ih =>
    cases i with
    | zero => simp [fCells]
    | succ i =>
      have e : fCells (d :: r) = [.int .i64 d.1, .int .i64 d.2.1, .string d.2.2] ++ fCells r := by simp [fCells]
      have hi := ih i (by simpa using h)
      rw [e, List.getElem?_append_right (by simp; omega), List.getElem?_append_right (by simp; omega), List.getElem?_append_right (by simp; omega)]
      have a0 : (i + 1) * 3 - [Value.int .i64 d.1, .int .i64 d.2.1, .string d.2.2].length = i * 3 := by simp; omega
      have a1 : (i + 1) * 3 + 1 - [Value.int .i64 d.1, .int .i64 d.2.1, .string d.2.2].length = i * 3 + 1 := by simp; omega
      have a2 : (i + 1) * 3 + 2 - [Value.int .i64 d.1, .int .i64 d.2.1, .string d.2.2].length = i * 3 + 2 := by simp; omega
      rw [a0, a1, a2]
      simpa using hi
/-- a row of one's own, as rows are spoken of -/
theorem own_row {w : World} {base : Nat} {v : Value} {l : List FT} (h : w.ownsRow base 23 3 v l.length (fCells l)) : ∃ a C, v = .slice a l.length C ∧ FRow w a l ∧ FBlk base w a l.length := by
  rcases h.2 with ⟨rfl, hn⟩ | ⟨g, cap, cur, rfl, h1, h2, h3, h4, h5, h6⟩
  · obtain rfl := List.eq_nil_of_length_eq_zero hn
    exact ⟨none, 0, rfl, FRow.nil _ _, fun h => absurd rfl h⟩
  · refine ⟨some ⟨g, 0, none⟩, cap, rfl, ⟨fun _ => ⟨g, 0, rfl, fun i hi => ?_⟩⟩, fun _ => ⟨g, 0, rfl, h1, cur, h2, ?_⟩⟩
    · obtain ⟨c0, c1, c2⟩ := fCells_at l i hi
      rw [Nat.zero_add]
      rw [h.cellAt (i * 3) (by omega), h.cellAt (i * 3 + 1) (by omega), h.cellAt (i * 3 + 2) (by omega)]
      exact ⟨c0, c1, c2⟩
    · omega
theorem row_set {w : World} {a : Option Addr} {l : List FT} {g o : Nat} (v : Value) (hR : FRow w a l) (hK : FBlk (g + 1) w a l.length) : FRow (w.setCell ⟨g, o, none⟩ v) a l ∧ FBlk (g + 1) (w.setCell ⟨g, o, none⟩ v) a l.length := by
  have hb : blkN (some ⟨g, 0, none⟩) 1 = some g := rfl
  have hg := grown_set w g o v
  rw [← hb] at hg
  have hne : ∀ x, blkN a l.length = some x → blkN (some ⟨g, 0, none⟩) 1 ≠ some x := fun x hx e => by
    have h1 := hK.lt x hx
    rw [hb] at e
    injection e with e
    omega
  exact ⟨hR.off hg hne, hK.off hg hne⟩
theorem own_alloc2 {w : World} {base : Nat} {e : TypeId} {size n : Nat} {v : Value} {xs : List Value} (h : w.ownsRow base e size v n xs) (o : Obj) : (w.alloc o).ownsRow base e size v n xs := h.alloc o
theorem infoFr : (Tryd.prog.info? 23).map (fun i => (i.zero, i.size, i.bytes)) = some (some (.agg #[.int .i64 0, .int .i64 0, .string ⟨#[]⟩]), 3, 32) := by kernel_rfl
set_option maxHeartbeats 3200000 in
theorem implStreamRd_any (s : ByteArray) (hs : s.size ≤ maxLen) (w : World) (h : Vars w) :
    Calls Tryd.prog 9 #[.string s] w fun e w' => ∃ a C, e = .returned (.agg #[.slice a (strRd s).1.length C, .int .i64 (strRd s).2]) ∧ FRow w' a (strRd s).1 ∧ FBlk w.heap.size w' a (strRd s).1.length ∧ Below w.heap.size w w' := by
  unfold maxLen at hs
  by_cases h8 : (8000 : Int) < s.size
  · have HV := Lib.hid (strRd_big (s := s) (by omega))
    rw [HV.out]
    go_enter Tryd.func9, Tryd.ntmps9
    go_wp2
    exact bodyPost_ret (v := .agg #[.slice none 0 0, .int .i64 2]) (by simp [results, Tryd.results9, go_sem]) rfl
      ⟨none, 0, rfl, FRow.nil _ _, fun h => absurd rfl h, by repeat (first | exact Below.refl _ w | refine Below.alloc ?_ (by simp; try omega) _)⟩
  obtain ⟨i0, hi, hz0, hz1, hz2⟩ := info_parts infoFr
  have h8' : s.size ≤ 8000 := by omega
  have HDone := Lib.hid (fun (L : List FT) (h : So s L []) => h.done (by omega))
  have HBad := Lib.hid (fun (L : List FT) (R : List UInt8) (h : So s L R) (hR : R ≠ []) hb => h.bad (by omega) hR hb)
  have hal := (Below.refl _ w).alloc (Nat.le_refl _) (.cells #[.slice none 0 0, .int .i64 0] 31)
  have HV0 := Lib.hid (h.below hal)
  have HW := Lib.hid h
  have HVB0 := Lib.hid (VarB.new w #[.slice none 0 0, .int .i64 0] 31)
  have HB0 := Lib.hid hal
  clear hal h
  go_enter Tryd.func9, Tryd.ntmps9
  go_wp2
  go_loopw [3, 4] (fun lv rv wr => ∃ (L : List FT) (r : ByteArray), So s L r.data.toList ∧ rv = .string r ∧ wr.ownsRow (w.heap.size + 1) 23 3 lv L.length (fCells L) ∧ VarB wr w.heap.size #[.slice none 0 0, .int .i64 0] 31 ∧ Vars wr ∧ Below w.heap.size w wr) (fun _ rv _ => (match rv with | .string r => r.size | _ => 0))
  case atStart => exact ⟨[], s, So.start s, rfl, World.ownsRow_nil _ _ _ _, HVB0.out, HV0.out, HB0.out⟩
  case round =>
    obtain ⟨L, r, hso, rfl, hown, hvb, hva, hbel⟩ := hrel
    rename World => wr
    have HSO := Lib.hid hso
    have HO := Lib.hid hown
    have HVB := Lib.hid hvb
    have HVA := Lib.hid hva
    have HB := Lib.hid hbel
    have hrs : r.size ≤ 8000 := Nat.le_trans hso.rest h8'
    have hzz := hvb.lt
    clear hso hown hvb hva hbel HV0 HVB0 HB0
    by_cases hr0 : r.size = 0
    · obtain rfl := size_nil hr0
      have HV := Lib.hid (HDone.out L HSO.out)
      obtain ⟨a, C, rfl, hrow, hblk⟩ := own_row HO.out
      have HR := Lib.hid hrow
      have HK := Lib.hid hblk
      have y0 := HVB.out.cell (i := 0) rfl
      have y1 := HVB.out.cell (i := 1) rfl
      have f0 := HVB.out.froz 0
      have f1 := HVB.out.froz 1
      clear hrow hblk
      have H1 := Lib.hid (row_set (o := 0) (.slice a L.length C) HR.out HK.out)
      have H2 := Lib.hid (row_set (o := 1) (.int .i64 0) H1.out.1 H1.out.2)
      go_wp2
      exact bodyPost_ret (v := .agg #[.slice a L.length C, .int .i64 0]) (by simp [results, Tryd.results9, go_sem, y0, y1]) rfl
        ⟨a, by rw [HV.out]; exact ⟨⟨C, rfl⟩, H2.out.1, H2.out.2.lo (by omega), by repeat (first | exact HB.out | refine Below.setCell (B := w.heap.size) (p := ⟨w.heap.size, _, none⟩) ?_ (Nat.le_refl _) _)⟩⟩
    have hem := empty_f (s := r) (by omega)
    have hR0 : r.data.toList ≠ [] := fun e => hr0 (by have h1 : r.data.toList.length = r.size := rfl; rw [e] at h1; simpa using h1.symm)
    have HCUT := Lib.hid (cut_any r 10 hrs)
    obtain ⟨x, hx⟩ : ∃ x, x = bA (cutA 10 r.data.toList).1 := ⟨_, rfl⟩
    obtain ⟨b, hb⟩ : ∃ b, b = bA (cutA 10 r.data.toList).2.1 := ⟨_, rfl⟩
    obtain ⟨c, hc⟩ : ∃ c, c = (cutA 10 r.data.toList).2.2 := ⟨_, rfl⟩
    have hxs : x.size ≤ 8000 := by
      have h1 := (cutA_len 10 r.data.toList).1
      rw [hx, bA_size]
      exact Nat.le_trans h1 hrs
    have HS := Lib.hid (fun w1 (h1 : Vars w1) => saidIn_any x hxs w1 h1)
    have HBD := Lib.hid (fun hh => HBad.out L _ HSO.out hR0 hh)
    have HST := Lib.hid (fun (f : FT) h1 h2 h3 => HSO.out.step (f := f) h1 h2 h3)
    rw [← hx, ← hc] at HBD HST
    rw [← hx, ← hb, ← hc] at HCUT
    have hbl : b.data.toList = (cutA 10 r.data.toList).2.1 := by rw [hb]; simp [bA]
    rw [← hbl] at HST
    have HLT := Lib.hid (fun (h : c = true) => (show b.size < r.size by
      have h1 := (cutA_true (c := 10) (l := r.data.toList) (by rw [← hc]; exact h)).1
      have h2 := congrArg List.length h1
      rw [List.length_append, List.length_cons, ← hbl] at h2
      have e1 : r.data.toList.length = r.size := rfl
      have e2 : b.data.toList.length = b.size := rfl
      omega))
    have HLEN := Lib.hid HSO.out.len
    obtain ⟨n, hn⟩ : ∃ n, n = L.length := ⟨_, rfl⟩
    have HNL := Lib.hid hn
    have hn4 : n ≤ 400 := by rw [hn]; exact HLEN.out
    obtain ⟨a, C, hu3, _, _⟩ := own_row HO.out
    rw [← hn] at hu3
    have HO2 := Lib.hid (show wr.ownsRow (w.heap.size + 1) 23 3 u3 n (fCells L) by rw [hn]; exact HO.out)
    clear HO
    subst hu3
    have y0 := HVB.out.cell (i := 0) rfl
    clear hx hb hc hbl hR0 hn
    cases hrd : readV x with
    | none =>
      have HV := Lib.hid (HBD.out (.inr (.inl hrd)))
      rw [hrd] at HS
      clear hrd HBD HST HLT
      cases c
      · skip
        go_wp2_with fail
        refine (HCUT.out _).mono ?_
        rintro e w1 ⟨rfl, hb⟩
        have HVA1 := Lib.hid (HVA.out.below hb)
        have HVB1 := Lib.hid (HVB.out.below hb)
        have HB1 := Lib.hid (bthen HB.out hb HB.out.size)
        have HO1 := Lib.hid (own_later HO2.out hb)
        clear hb
        go_wp2_with fail
        refine (HS.out _ HVA1.out).mono ?_
        rintro e w2 ⟨v, bb, rfl, rfl, hv, hb⟩
        have HVA2 := Lib.hid (HVA1.out.below hb)
        have HVB2 := Lib.hid (HVB1.out.below hb)
        have HB2 := Lib.hid (bthen HB1.out hb HB1.out.size)
        have HO2' := Lib.hid (own_later HO1.out hb)
        have l2 := HVB2.out.lt
        clear hb HVA1 HVB1 HB1 HO1
        clear hv
        have z0 := HVB2.out.cell (i := 0) rfl
        have z1 := HVB2.out.cell (i := 1) rfl
        have f0 := HVB2.out.froz 0
        have f1 := HVB2.out.froz 1
        go_wp2
        exact bodyPost_ret (v := .agg #[.slice none 0 0, .int .i64 3]) (by simp [results, Tryd.results9, go_sem, z0, z1]) rfl
          ⟨none, by rw [HV.out]; first
    | exact ⟨⟨0, rfl⟩, FRow.nil _ _, fun h => absurd rfl h, by repeat (first | exact HB2.out | refine Below.setCell (B := w.heap.size) (p := ⟨w.heap.size, _, none⟩) ?_ (Nat.le_refl _) _)⟩
    | exact ⟨0, rfl, FRow.nil _ _, fun h => absurd rfl h, by repeat (first | exact HB2.out | refine Below.setCell (B := w.heap.size) (p := ⟨w.heap.size, _, none⟩) ?_ (Nat.le_refl _) _)⟩⟩
      · skip
        go_wp2_with fail
        refine (HCUT.out _).mono ?_
        rintro e w1 ⟨rfl, hb⟩
        have HVA1 := Lib.hid (HVA.out.below hb)
        have HVB1 := Lib.hid (HVB.out.below hb)
        have HB1 := Lib.hid (bthen HB.out hb HB.out.size)
        have HO1 := Lib.hid (own_later HO2.out hb)
        clear hb
        go_wp2_with fail
        refine (HS.out _ HVA1.out).mono ?_
        rintro e w2 ⟨v, bb, rfl, rfl, hv, hb⟩
        have HVA2 := Lib.hid (HVA1.out.below hb)
        have HVB2 := Lib.hid (HVB1.out.below hb)
        have HB2 := Lib.hid (bthen HB1.out hb HB1.out.size)
        have HO2' := Lib.hid (own_later HO1.out hb)
        have l2 := HVB2.out.lt
        clear hb HVA1 HVB1 HB1 HO1
        clear hv
        have z0 := HVB2.out.cell (i := 0) rfl
        have z1 := HVB2.out.cell (i := 1) rfl
        have f0 := HVB2.out.froz 0
        have f1 := HVB2.out.froz 1
        go_wp2
        exact bodyPost_ret (v := .agg #[.slice none 0 0, .int .i64 3]) (by simp [results, Tryd.results9, go_sem, z0, z1]) rfl
          ⟨none, by rw [HV.out]; first
    | exact ⟨⟨0, rfl⟩, FRow.nil _ _, fun h => absurd rfl h, by repeat (first | exact HB2.out | refine Below.setCell (B := w.heap.size) (p := ⟨w.heap.size, _, none⟩) ?_ (Nat.le_refl _) _)⟩
    | exact ⟨0, rfl, FRow.nil _ _, fun h => absurd rfl h, by repeat (first | exact HB2.out | refine Below.setCell (B := w.heap.size) (p := ⟨w.heap.size, _, none⟩) ?_ (Nat.le_refl _) _)⟩⟩
    | some f =>
      have HFO := Lib.hid (frameOf_right (readV_some hrd).1)
      rw [hrd] at HS
      cases hcc : c
      · have HV := Lib.hid (HBD.out (.inl hcc))
        subst hcc
        clear hrd HBD HST HLT
        go_wp2_with fail
        refine (HCUT.out _).mono ?_
        rintro e w1 ⟨rfl, hb⟩
        have HVA1 := Lib.hid (HVA.out.below hb)
        have HVB1 := Lib.hid (HVB.out.below hb)
        have HB1 := Lib.hid (bthen HB.out hb HB.out.size)
        have HO1 := Lib.hid (own_later HO2.out hb)
        clear hb
        go_wp2_with fail
        refine (HS.out _ HVA1.out).mono ?_
        rintro e w2 ⟨v, bb, rfl, rfl, hv, hb⟩
        have HVA2 := Lib.hid (HVA1.out.below hb)
        have HVB2 := Lib.hid (HVB1.out.below hb)
        have HB2 := Lib.hid (bthen HB1.out hb HB1.out.size)
        have HO2' := Lib.hid (own_later HO1.out hb)
        have l2 := HVB2.out.lt
        clear hb HVA1 HVB1 HB1 HO1
        clear hv
        have z0 := HVB2.out.cell (i := 0) rfl
        have z1 := HVB2.out.cell (i := 1) rfl
        have f0 := HVB2.out.froz 0
        have f1 := HVB2.out.froz 1
        go_wp2
        exact bodyPost_ret (v := .agg #[.slice none 0 0, .int .i64 3]) (by simp [results, Tryd.results9, go_sem, z0, z1]) rfl
          ⟨none, by rw [HV.out]; first
    | exact ⟨⟨0, rfl⟩, FRow.nil _ _, fun h => absurd rfl h, by repeat (first | exact HB2.out | refine Below.setCell (B := w.heap.size) (p := ⟨w.heap.size, _, none⟩) ?_ (Nat.le_refl _) _)⟩
    | exact ⟨0, rfl, FRow.nil _ _, fun h => absurd rfl h, by repeat (first | exact HB2.out | refine Below.setCell (B := w.heap.size) (p := ⟨w.heap.size, _, none⟩) ?_ (Nat.le_refl _) _)⟩⟩
      · by_cases hn5 : n = 400
        · have HV := Lib.hid (HBD.out (.inr (.inr (by rw [← HNL.out]; exact hn5))))
          have hne : ((n : Int) == 400) = true := by simp; omega
          subst hcc
          clear hrd HBD HST HLT
          go_wp2_with fail
          refine (HCUT.out _).mono ?_
          rintro e w1 ⟨rfl, hb⟩
          have HVA1 := Lib.hid (HVA.out.below hb)
          have HVB1 := Lib.hid (HVB.out.below hb)
          have HB1 := Lib.hid (bthen HB.out hb HB.out.size)
          have HO1 := Lib.hid (own_later HO2.out hb)
          clear hb
          go_wp2_with fail
          refine (HS.out _ HVA1.out).mono ?_
          rintro e w2 ⟨v, bb, rfl, rfl, hv, hb⟩
          have HVA2 := Lib.hid (HVA1.out.below hb)
          have HVB2 := Lib.hid (HVB1.out.below hb)
          have HB2 := Lib.hid (bthen HB1.out hb HB1.out.size)
          have HO2' := Lib.hid (own_later HO1.out hb)
          have l2 := HVB2.out.lt
          clear hb HVA1 HVB1 HB1 HO1
          clear hv
          have z0 := HVB2.out.cell (i := 0) rfl
          have z1 := HVB2.out.cell (i := 1) rfl
          have f0 := HVB2.out.froz 0
          have f1 := HVB2.out.froz 1
          go_wp2
          exact bodyPost_ret (v := .agg #[.slice none 0 0, .int .i64 3]) (by simp [results, Tryd.results9, go_sem, z0, z1]) rfl
            ⟨none, by rw [HV.out]; first
    | exact ⟨⟨0, rfl⟩, FRow.nil _ _, fun h => absurd rfl h, by repeat (first | exact HB2.out | refine Below.setCell (B := w.heap.size) (p := ⟨w.heap.size, _, none⟩) ?_ (Nat.le_refl _) _)⟩
    | exact ⟨0, rfl, FRow.nil _ _, fun h => absurd rfl h, by repeat (first | exact HB2.out | refine Below.setCell (B := w.heap.size) (p := ⟨w.heap.size, _, none⟩) ?_ (Nat.le_refl _) _)⟩⟩
        · have HN := Lib.hid (HST.out f hcc hrd (by rw [← HNL.out]; omega))
          have HL2 := Lib.hid (HLT.out hcc)
          subst hcc
          have hne : ((n : Int) == 400) = false := by simp; omega
          clear hrd HBD HST HLT
          go_wp2_with fail
          refine (HCUT.out _).mono ?_
          rintro e w1 ⟨rfl, hb⟩
          have HVA1 := Lib.hid (HVA.out.below hb)
          have HVB1 := Lib.hid (HVB.out.below hb)
          have HB1 := Lib.hid (bthen HB.out hb HB.out.size)
          have HO1 := Lib.hid (own_later HO2.out hb)
          clear hb
          go_wp2_with fail
          refine (HS.out _ HVA1.out).mono ?_
          rintro e w2 ⟨v, bb, rfl, rfl, hv, hb⟩
          have HVA2 := Lib.hid (HVA1.out.below hb)
          have HVB2 := Lib.hid (HVB1.out.below hb)
          have HB2 := Lib.hid (bthen HB1.out hb HB1.out.size)
          have HO2' := Lib.hid (own_later HO1.out hb)
          have l2 := HVB2.out.lt
          clear hb HVA1 HVB1 HB1 HO1
          obtain rfl := hv f rfl
          obtain ⟨V, hV⟩ : ∃ V, V = sV f.1 f.2.1 f.2.2 := ⟨_, rfl⟩
          rw [← hV] at HFO ⊢
          clear hv hV
          go_wp2_with fail
          refine (HFO.out _).mono ?_
          rintro e w3 ⟨rfl, hb⟩
          have HVA3 := Lib.hid (HVA2.out.below hb)
          have HVB3 := Lib.hid (HVB2.out.below hb)
          have HB3 := Lib.hid (bthen HB2.out hb HB2.out.size)
          have HO3 := Lib.hid (own_later HO2'.out hb)
          have l3 := HVB3.out.lt
          clear hb HVA2 HVB2 HB2 HO2'
          have HO4 := Lib.hid (HO3.out.alloc (.cells #[.int .i64 f.1, .int .i64 f.2.1, .string f.2.2] 23))
          go_wp2_with (first | (at_builtin; refine wpList_append_own _ rfl _ _ 29 rfl (w.heap.size + 1) 23 i0 (.agg #[.int .i64 0, .int .i64 0, .string ⟨#[]⟩]) 3 32 Tryd.underlying29 hi hz0 hz1 hz2 rfl (by decide) _ _ _ rfl HO4.out ⟨w3.heap.size, 0, none⟩ 1 1 [.int .i64 f.1, .int .i64 f.2.1, .string f.2.2] rfl rfl ?c1 ?c2 ?c3 ?c4 ?c5 ?_))
          case c1 =>
            intro j u hj
            match j, hj with
            | 0, hj => simp at hj; subst hj; simp [Addr.add]
            | 1, hj => simp at hj; subst hj; simp [Addr.add]
            | 2, hj => simp at hj; subst hj; simp [Addr.add]
          case c2 => intro u hu; simp at hu; rcases hu with rfl | rfl | rfl <;> rfl
          case c3 => unfold maxLen; omega
          case c4 => omega
          case c5 => simp; omega
          intro v' w4 hown' hgrow _
          have HO5 := Lib.hid (show w4.ownsRow (w.heap.size + 1) 23 3 v' (L ++ [f]).length (fCells (L ++ [f])) by
            rw [fCells_append, fCells_one, List.length_append, ← HNL.out]
            exact hown')
          have HB4 := Lib.hid ((HB3.out.alloc HB3.out.size (.cells #[.int .i64 f.1, .int .i64 f.2.1, .string f.2.2] 23)).grown hgrow (by have := HB3.out.size; simp; omega) (fun j hj => by have := (HO4.out.lt j hj).1; omega))
          have HVB4 := Lib.hid ((HVB3.out.alloc (.cells #[.int .i64 f.1, .int .i64 f.2.1, .string f.2.2] 23)).grown hgrow (fun e => by have := (HO4.out.lt _ e).1; omega))
          have HVA4 := Lib.hid (HW.out.below HB4.out)
          clear hown' hgrow
          go_wp2
          go_roundw
          case rel => exact ⟨L ++ [f], b, HN.out, rfl, HO5.out, HVB4.out, HVA4.out, HB4.out⟩
          case measure => exact HL2.out
end Go.Proofs.YtlhfgpcanfpnfaaDoor.frames
