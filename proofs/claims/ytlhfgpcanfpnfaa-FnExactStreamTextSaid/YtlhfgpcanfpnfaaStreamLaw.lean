/-
  A list of frames in an argument, opened; the walk of StreamText's law. For every such list.
-/
import Derived.Test.YtlhfgpcanfpnfaaStreamImpl
import Derived.Test.YtlhfgpcanfpnfaaSpot
import Derived.Lib.SmallJoins
import Derived.Deep.Slices
namespace Go.Proofs.Ytlhfgpcanfpnfaa.frames
open Go.ChangeShapes Go.WideShapes Go.ChangeAt Go.RowKit Go.Deep Go.Joins
open Go.Proofs.Ytlhfgpcanfpnfaa.strs Go.Proofs.Ytlhfgpcanfpnfaa.frame
/-- nil, or a row of n frames -/
structure IsFS (w : World) (a : Option Addr) (n C : Nat) (l : List FT) : Prop where
  len : l.length = n
  max : n ≤ maxLen
  nil : a = none → C = 0 ∧ l = []
  row : FRow w a l
  sizes : ∀ s ∈ l, s.2.2.size ≤ maxLen
def intAt (w : World) (a : Addr) : Int := match w.cell? a with
  | some (.int _ z) => z
  | _ => 0
def strAt (w : World) (a : Addr) : ByteArray := match w.cell? a with
  | some (.string s) => s
  | _ => ByteArray.empty
theorem open_FS {H : Type} {enc : TypeId × Value → H} {P : Program} {w : World} {base : Nat} {spare : Nat → Bool} {held : Bool} {t e : TypeId} {f0 f1 f2 : Field} {c : Value} {d : DataW H} {p : List MemPlace}
    (ht : P.underlying t = some (.slice e)) (he : P.underlying e = some (.struct #[f0, f1, f2])) (hone : oneCellFields P #[f0, f1, f2] = true) (hC : P.cellsOf e = 3)
    (h0 : P.underlying f0.type = some (.int .i64)) (h1 : P.underlying f1.type = some (.int .i64)) (h2 : P.underlying f2.type = some .string) (hw : ∃ a n C, c = .slice a n C) (h : DataW.Trod enc P w base spare held t c d p) :
    ∃ a n C l, c = .slice a n C ∧ IsFS w a n C l := by
  obtain ⟨fuel, hf⟩ := h
  obtain ⟨a, n, C, rfl⟩ := hw
  refine ⟨a, n, C, ?_⟩
  rcases open_slice ht hf with ⟨hcs, _⟩ | ⟨x, len, cap, m, f, D, Pl, hcs, _, hl, hm, hmm, _, hi⟩
  · simp [Value.cells] at hcs
    obtain ⟨rfl, rfl, rfl⟩ := hcs
    exact ⟨[], rfl, rfl, Nat.zero_le _, fun _ => ⟨rfl, rfl⟩, FRow.nil _ _, fun s h => absurd h List.not_mem_nil⟩
  · simp [Value.cells] at hcs
    obtain ⟨rfl, rfl, rfl⟩ := hcs
    obtain ⟨o0, k0⟩ := hone_of hone 0 f0 rfl
    obtain ⟨o1, k1⟩ := hone_of hone 1 f1 rfl
    obtain ⟨o2, k2⟩ := hone_of hone 2 f2 rfl
    have part : ∀ i, i < n → ∃ q z s, w.cell? ((x.add (i * 3)).add 0) = some (.int .i64 q) ∧ w.cell? ((x.add (i * 3)).add 1) = some (.int .i64 z) ∧ w.cell? ((x.add (i * 3)).add 2) = some (.string s) ∧ s.size ≤ maxLen := by
      intro i hin
      have him : i < m := by rw [hmm]; split <;> omega
      obtain ⟨cs', hc, hr⟩ := hi i him
      rw [hC] at hc
      obtain ⟨_, hcl, hat⟩ := World.cells?_some hc
      obtain ⟨y0, y1, y2, f', _, _, t0, t1, t2⟩ := trod_struct3 he hr
      match cs', hcl with
      | [c0, c1, c2], _ =>
        rw [o0, k0] at t0
        rw [o1, k1] at t1
        rw [o2, k2] at t2
        obtain ⟨q, e0, _, _⟩ := DataW.trod_int h0 (show DataW.trod enc P w base spare held f' f0.type [c0] = some y0 by simpa using t0)
        obtain ⟨z, e1, _, _⟩ := DataW.trod_int h1 (show DataW.trod enc P w base spare held f' f1.type [c1] = some y1 by simpa using t1)
        obtain ⟨s, e2, _, ws⟩ := DataW.trod_string h2 (show DataW.trod enc P w base spare held f' f2.type [c2] = some y2 by simpa using t2)
        simp at e0 e1 e2
        subst e0 e1 e2
        exact ⟨q, z, s, hat 0 (by omega), hat 1 (by omega), hat 2 (by omega), ws⟩
    have hsp : 0 < n → x.spot = none := fun h => by
      obtain ⟨_, _, _, a0, _⟩ := part 0 h
      exact spot_none (show w.cell? x = some _ from a0)
    have key : ∀ i, i < n → ∃ q z s, w.cell? ⟨x.block, x.off + i * 3, none⟩ = some (.int .i64 q) ∧ w.cell? ⟨x.block, x.off + i * 3 + 1, none⟩ = some (.int .i64 z) ∧ w.cell? ⟨x.block, x.off + i * 3 + 2, none⟩ = some (.string s) ∧ s.size ≤ maxLen := by
      intro i hin
      obtain ⟨q, z, s, a0, a1, a2, ws⟩ := part i hin
      have hs := hsp (by omega)
      rw [add_plain hs, add_plain rfl] at a0 a1 a2
      exact ⟨q, z, s, a0, a1, a2, ws⟩
    refine ⟨(List.range n).map fun i => (intAt w ⟨x.block, x.off + i * 3, none⟩, intAt w ⟨x.block, x.off + i * 3 + 1, none⟩, strAt w ⟨x.block, x.off + i * 3 + 2, none⟩), rfl, by simp, by omega, (fun e => by cases e), ⟨fun hl => ?_⟩, fun s hs => ?_⟩
    · have hpos : 0 < n := by
        rcases Nat.eq_zero_or_pos n with h | h
        · subst h; exact absurd rfl hl
        · exact h
      have hx := hsp hpos
      obtain ⟨b, o, sp⟩ := x
      obtain rfl : sp = none := hx
      refine ⟨b, o, rfl, fun i hi => ?_⟩
      have hin : i < n := by simpa using hi
      obtain ⟨q, z, s, a0, a1, a2, _⟩ := key i hin
      simp only [List.getElem_map, List.getElem_range, strAt, intAt, a0, a1, a2, and_self]
    · obtain ⟨i, hi, rfl⟩ := List.mem_map.1 hs
      obtain ⟨q, z, s, _, _, a2, ws⟩ := key i (by simpa using hi)
      simp only [strAt, a2]
      exact ws
theorem sum_mem {l : List ByteArray} {s : ByteArray} (h : s ∈ l) : s.size ≤ sumTo l l.length := by
  obtain ⟨i, hi, rfl⟩ := List.getElem_of_mem h
  have h1 := sumTo_mono l (i + 1) l.length (by omega)
  have h2 : sumTo l (i + 1) = sumTo l i + (l[i]?.getD ⟨#[]⟩).size := rfl
  rw [List.getElem?_eq_getElem hi] at h2
  simp at h2
  omega
theorem szF_or (l : List FT) : szL l 1048576 = -1 ∨ (0 ≤ szL l 1048576 ∧ l.length ≤ 1048576 ∧ ∀ s ∈ l, s.2.2.size ≤ 1048576) := by
  have hlen : (txt l).length = l.length := by simp [txt]
  unfold szL szV
  split
  · exact .inl rfl
  · refine .inr ⟨by omega, ?_, fun s hs => ?_⟩
    · omega
    · have := sum_mem (List.mem_map_of_mem (f := fun f : FT => f.2.2) hs)
      unfold txt at *
      omega
theorem toF_g (a : Option Addr) (C : Nat) (l : List FT) (hn : l.length ≤ 1048576) (w : World) (h : FRow w a l) :
    Calls Try.prog 14 #[.slice a l.length C] w fun e w' => ∃ g, e = .returned (.slice (some ⟨g, 0, none⟩) l.length l.length) ∧ FRow w' (some ⟨g, 0, none⟩) l ∧ FBlk w.heap.size w' (some ⟨g, 0, none⟩) l.length ∧ Below w.heap.size w w' :=
  (toFrameS_any a C l hn w h).mono fun _ _ ⟨e1, e2, e3, e4, _⟩ => ⟨_, e1, e2, e3, e4⟩
set_option maxHeartbeats 1600000 in
theorem walkST (a : Option Addr) (n C : Nat) (l : List FT) (w : World) (s : IsFS w a n C l) :
    Calls Try.prog 5 #[.slice a n C] w fun e w' => e = .returned (.bool true) ∧ Below w.heap.size w w' := by
  obtain ⟨hlen, hmax, hnil, hrow, hsz⟩ := s
  subst hlen
  have HZ := Lib.hid (szFrameS_any a C l 1048576 (by omega) (by omega) hmax hsz w hrow)
  rcases szF_or l with hv | ⟨hv, hn, hl⟩
  · rw [hv] at HZ
    clear hv hnil hrow hsz hmax
    go_enter Try.func5, Try.ntmps5
    go_wp2_with fail
    refine HZ.out.mono ?_
    rintro e w1 ⟨rfl, hb1⟩
    have HX := Lib.hid hb1
    clear hb1
    go_wp2
    go_ret
    exact ⟨rfl, HX.out⟩
  · have HT := Lib.hid (fun w1 (hb : Below w.heap.size w w1) => toF_g a C l hn w1 (hrow.below hb))
    have HS := Lib.hid (fun g W (h : FRow W (some ⟨g, 0, none⟩) l) => specStream_any (some ⟨g, 0, none⟩) l.length l hn hl W h)
    have HP := Lib.hid (fun g W (h : FRow W (some ⟨g, 0, none⟩) l) => implStream_any (some ⟨g, 0, none⟩) l.length l hn hl W h)
    have HE := Lib.hid (fun g h W (h1 : FRow W (some ⟨g, 0, none⟩) l) (h2 : FRow W (some ⟨h, 0, none⟩) l) => eqFrameS_same (some ⟨g, 0, none⟩) (some ⟨h, 0, none⟩) l.length l.length l hn W h1 h2)
    obtain ⟨Z, hZ⟩ : ∃ Z, Z = szL l 1048576 := ⟨_, rfl⟩
    rw [← hZ] at HZ hv
    obtain ⟨B, hB⟩ : ∃ B, B = strTx l := ⟨_, rfl⟩
    rw [← hB] at HS HP
    obtain ⟨n, hn'⟩ : ∃ n, n = l.length := ⟨_, rfl⟩
    rw [← hn'] at HZ HT HS HP HE hn ⊢
    clear hnil hrow hsz hmax hZ hB hn' hl
    go_enter Try.func5, Try.ntmps5
    go_wp2_with fail
    refine HZ.out.mono ?_
    rintro e w1 ⟨rfl, hb⟩
    have HX1 := Lib.hid hb
    clear hb
    go_wp2_with fail
    refine (HT.out _ HX1.out).mono ?_
    rintro e w2 ⟨g1, rfl, hr, _, hb⟩
    have HX2 := Lib.hid (bthen HX1.out hb HX1.out.size)
    have HR1 := Lib.hid hr
    clear hb hr
    go_wp2_with fail
    refine (HS.out g1 _ HR1.out).mono ?_
    rintro e w3 ⟨rfl, hb⟩
    have HX3 := Lib.hid (bthen HX2.out hb HX2.out.size)
    clear hb
    go_wp2_with fail
    refine (HT.out _ HX3.out).mono ?_
    rintro e w4 ⟨g2, rfl, hr, _, hb⟩
    have HX4 := Lib.hid (bthen HX3.out hb HX3.out.size)
    have HR2 := Lib.hid hr
    clear hb hr
    go_wp2_with fail
    refine (HP.out g2 _ HR2.out).mono ?_
    rintro e w5 ⟨rfl, hb⟩
    have HX5 := Lib.hid (bthen HX4.out hb HX4.out.size)
    have HR3 := Lib.hid (HR2.out.below hb)
    clear hb
    go_wp2_with fail
    refine (HT.out _ HX5.out).mono ?_
    rintro e w6 ⟨g3, rfl, hr, _, hb⟩
    have HX6 := Lib.hid (bthen HX5.out hb HX5.out.size)
    have HR4 := Lib.hid hr
    have HR5 := Lib.hid (HR3.out.below hb)
    clear hb hr
    go_wp2_with fail
    refine (HE.out g2 g3 _ HR5.out HR4.out).mono ?_
    rintro e w7 ⟨rfl, hb⟩
    have HX7 := Lib.hid (bthen HX6.out hb HX6.out.size)
    clear hb
    go_wp2
    go_ret
    exact ⟨rfl, HX7.out⟩
end Go.Proofs.Ytlhfgpcanfpnfaa.frames
