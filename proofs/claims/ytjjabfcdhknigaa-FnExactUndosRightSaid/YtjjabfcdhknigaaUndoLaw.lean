/-
  The walk of the law of UndosRight; a list of lines in an argument, opened. For every such list.
-/
import Derived.Test.YtjjabfcdhknigaaUndos
import Derived.Test.YtjjabfcdhknigaaSpot
import Derived.Lib.SmallJoins
import Derived.Deep.Slices
namespace Go.Proofs.Ytjjabfcdhknigaa.undo
open Go.ChangeShapes Go.WideShapes Go.ChangeAt Go.RowKit Go.Deep Go.Joins
open Go.Proofs.Ytjjabfcdhknigaa.strs Go.Proofs.Ytjjabfcdhknigaa.lines Go.Proofs.Ytjjabfcdhknigaa.line
/-- nil, or a row of n lines -/
structure IsLS (w : World) (a : Option Addr) (n C : Nat) (l : List (ByteArray × Int)) : Prop where
  len : l.length = n
  max : n ≤ maxLen
  nil : a = none → C = 0 ∧ l = []
  row : LRow w a l
  sizes : ∀ s ∈ l, s.1.size ≤ maxLen
  wf : ∀ s ∈ l, (Lit.int .i64 s.2).wf = true
def intAt (w : World) (a : Addr) : Int := match w.cell? a with
  | some (.int _ z) => z
  | _ => 0
def strAt (w : World) (a : Addr) : ByteArray := match w.cell? a with
  | some (.string s) => s
  | _ => ByteArray.empty
theorem open_LS {H : Type} {enc : TypeId × Value → H} {P : Program} {w : World} {base : Nat} {spare : Nat → Bool} {held : Bool} {t e : TypeId} {f0 f1 : Field} {c : Value} {d : DataW H} {p : List MemPlace}
    (ht : P.underlying t = some (.slice e)) (he : P.underlying e = some (.struct #[f0, f1])) (hone : oneCellFields P #[f0, f1] = true) (hC : P.cellsOf e = 2)
    (h0 : P.underlying f0.type = some .string) (h1 : P.underlying f1.type = some (.int .i64)) (hw : ∃ a n C, c = .slice a n C) (h : DataW.Trod enc P w base spare held t c d p) :
    ∃ a n C l, c = .slice a n C ∧ IsLS w a n C l := by
  obtain ⟨fuel, hf⟩ := h
  obtain ⟨a, n, C, rfl⟩ := hw
  refine ⟨a, n, C, ?_⟩
  rcases open_slice ht hf with ⟨hcs, _⟩ | ⟨x, len, cap, m, f, D, Pl, hcs, _, hl, hm, hmm, _, hi⟩
  · simp [Value.cells] at hcs
    obtain ⟨rfl, rfl, rfl⟩ := hcs
    exact ⟨[], rfl, rfl, Nat.zero_le _, fun _ => ⟨rfl, rfl⟩, LRow.nil _ _, fun s h => absurd h List.not_mem_nil, fun s h => absurd h List.not_mem_nil⟩
  · simp [Value.cells] at hcs
    obtain ⟨rfl, rfl, rfl⟩ := hcs
    obtain ⟨o0, k0⟩ := hone_of hone 0 f0 rfl
    obtain ⟨o1, k1⟩ := hone_of hone 1 f1 rfl
    have part : ∀ i, i < n → ∃ s z, w.cell? ((x.add (i * 2)).add 0) = some (.string s) ∧ w.cell? ((x.add (i * 2)).add 1) = some (.int .i64 z) ∧ s.size ≤ maxLen ∧ (Lit.int .i64 z).wf = true := by
      intro i hin
      have him : i < m := by rw [hmm]; split <;> omega
      obtain ⟨cs', hc, hr⟩ := hi i him
      rw [hC] at hc
      obtain ⟨_, hcl, hat⟩ := World.cells?_some hc
      obtain ⟨y0, y1, f', _, _, t0, t1⟩ := trod_struct2 he hr
      match cs', hcl with
      | [c0, c1], _ =>
        rw [o0, k0] at t0
        rw [o1, k1] at t1
        obtain ⟨s, e0, _, ws⟩ := DataW.trod_string h0 (show DataW.trod enc P w base spare held f' f0.type [c0] = some y0 by simpa using t0)
        obtain ⟨z, e1, _, wz⟩ := DataW.trod_int h1 (show DataW.trod enc P w base spare held f' f1.type [c1] = some y1 by simpa using t1)
        simp at e0 e1
        subst e0 e1
        exact ⟨s, z, hat 0 (by omega), hat 1 (by omega), ws, wz⟩
    have hsp : 0 < n → x.spot = none := fun h => by
      obtain ⟨z, s, a0, _⟩ := part 0 h
      exact spot_none (show w.cell? x = some _ from a0)
    have key : ∀ i, i < n → ∃ s z, w.cell? ⟨x.block, x.off + i * 2, none⟩ = some (.string s) ∧ w.cell? ⟨x.block, x.off + i * 2 + 1, none⟩ = some (.int .i64 z) ∧ s.size ≤ maxLen ∧ (Lit.int .i64 z).wf = true := by
      intro i hin
      obtain ⟨s, z, a0, a1, ws, wz⟩ := part i hin
      have hs := hsp (by omega)
      rw [add_plain hs, add_plain rfl] at a0 a1
      exact ⟨s, z, a0, a1, ws, wz⟩
    refine ⟨(List.range n).map fun i => (strAt w ⟨x.block, x.off + i * 2, none⟩, intAt w ⟨x.block, x.off + i * 2 + 1, none⟩), rfl, by simp, by omega, (fun e => by cases e), ⟨fun hl => ?_⟩, fun s hs => ?_, fun s hs => ?_⟩
    · have hpos : 0 < n := by
        rcases Nat.eq_zero_or_pos n with h | h
        · subst h; exact absurd rfl hl
        · exact h
      have hx := hsp hpos
      obtain ⟨b, o, sp⟩ := x
      obtain rfl : sp = none := hx
      refine ⟨b, o, rfl, fun i hi => ?_⟩
      have hin : i < n := by simpa using hi
      obtain ⟨s, z, a0, a1, _⟩ := key i hin
      simp only [List.getElem_map, List.getElem_range, strAt, intAt, a0, a1, and_self]
    · obtain ⟨i, hi, rfl⟩ := List.mem_map.1 hs
      obtain ⟨s, z, a0, _, ws, _⟩ := key i (by simpa using hi)
      simp only [strAt, a0]
      exact ws
    · obtain ⟨i, hi, rfl⟩ := List.mem_map.1 hs
      obtain ⟨s, z, _, a1, _, wz⟩ := key i (by simpa using hi)
      simp only [intAt, a1]
      exact wz
theorem sum_mem {l : List ByteArray} {s : ByteArray} (h : s ∈ l) : s.size ≤ sumTo l l.length := by
  obtain ⟨i, hi, rfl⟩ := List.getElem_of_mem h
  have h1 := sumTo_mono l (i + 1) l.length (by omega)
  have h2 : sumTo l (i + 1) = sumTo l i + (l[i]?.getD ⟨#[]⟩).size := rfl
  rw [List.getElem?_eq_getElem hi] at h2
  simp at h2
  omega
theorem szL_or (l : List (ByteArray × Int)) : szL l 1048576 = -1 ∨ (0 ≤ szL l 1048576 ∧ l.length ≤ 1048576 ∧ ∀ s ∈ l, s.1.size ≤ 1048576) := by
  unfold szL szV
  split
  · exact .inl rfl
  · refine .inr ⟨by omega, ?_, fun s hs => ?_⟩
    · rename_i h; rw [List.length_map] at h; omega
    · have := sum_mem (List.mem_map_of_mem (f := Prod.fst) hs)
      omega
theorem toL_g (a : Option Addr) (C : Nat) (l : List (ByteArray × Int)) (hn : l.length ≤ 1048576) (w : World) (h : LRow w a l) :
    Calls Try.prog 20 #[.slice a l.length C] w fun e w' => ∃ g, e = .returned (.slice (some ⟨g, 0, none⟩) l.length l.length) ∧ LRow w' (some ⟨g, 0, none⟩) l ∧ LBlk w.heap.size w' (some ⟨g, 0, none⟩) l.length ∧ Below w.heap.size w w' :=
  (toLineS_any a C l hn w h).mono fun _ _ ⟨e1, e2, e3, e4, _⟩ => ⟨_, e1, e2, e3, e4⟩
set_option maxHeartbeats 1600000 in
theorem walkUR (a : Option Addr) (n C : Nat) (l : List (ByteArray × Int)) (w : World) (s : IsLS w a n C l) :
    Calls Try.prog 6 #[.slice a n C] w fun e w' => e = .returned (.bool true) ∧ Below w.heap.size w w' := by
  obtain ⟨hlen, hmax, hnil, hrow, hsz, hwf⟩ := s
  subst hlen
  have HZ := Lib.hid (szLineS_any a C l 1048576 (by omega) (by omega) hmax hsz w hrow)
  rcases szL_or l with hv | ⟨hv, hn, hl⟩
  · rw [hv] at HZ
    clear hv hnil hrow hsz hmax hwf
    go_enter Try.func6, Try.ntmps6
    go_wp2_with fail
    refine HZ.out.mono ?_
    rintro e w1 ⟨rfl, hb1⟩
    have HX := Lib.hid hb1
    clear hb1
    go_wp2
    go_ret
    exact ⟨rfl, HX.out⟩
  · have HT := Lib.hid (fun w1 (hb : Below w.heap.size w w1) => toL_g a C l hn w1 (hrow.below hb))
    have HS := Lib.hid (fun g W (h : LRow W (some ⟨g, 0, none⟩) l) => specUndos_any (some ⟨g, 0, none⟩) l.length l hn hsz W h)
    have HP := Lib.hid (fun g W (h : LRow W (some ⟨g, 0, none⟩) l) => implUndos_any (some ⟨g, 0, none⟩) l.length l hn hsz W h)
    have HE := Lib.hid (fun g h W (h1 : LRow W (some ⟨g, 0, none⟩) l) (h2 : LRow W (some ⟨h, 0, none⟩) l) => eqLineS_same (some ⟨g, 0, none⟩) (some ⟨h, 0, none⟩) l.length l.length l hn W h1 h2)
    obtain ⟨Z, hZ⟩ : ∃ Z, Z = szL l 1048576 := ⟨_, rfl⟩
    rw [← hZ] at HZ hv
    obtain ⟨B, hB⟩ : ∃ B, B = undosB l := ⟨_, rfl⟩
    rw [← hB] at HS HP
    obtain ⟨n, hn'⟩ : ∃ n, n = l.length := ⟨_, rfl⟩
    rw [← hn'] at HZ HT HS HP HE hn ⊢
    clear hnil hrow hsz hmax hwf hZ hB hn' hl
    go_enter Try.func6, Try.ntmps6
    go_wp2_with fail
    refine HZ.out.mono ?_
    rintro e w1 ⟨rfl, hb⟩
    have HX1 := Lib.hid hb
    clear hb
    go_wp2_with fail
    refine (HT.out _ HX1.out).mono ?_
    rintro e w2 ⟨g1, rfl, hr, _, hb⟩
    have HX2 := Lib.hid (bthen HX1.out hb HX1.out.size)
    have HR1 := Lib.hid hr
    clear hb hr
    go_wp2_with fail
    refine (HS.out g1 _ HR1.out).mono ?_
    rintro e w3 ⟨rfl, hb⟩
    have HX3 := Lib.hid (bthen HX2.out hb HX2.out.size)
    clear hb
    go_wp2_with fail
    refine (HT.out _ HX3.out).mono ?_
    rintro e w4 ⟨g2, rfl, hr, _, hb⟩
    have HX4 := Lib.hid (bthen HX3.out hb HX3.out.size)
    have HR2 := Lib.hid hr
    clear hb hr
    go_wp2_with fail
    refine (HP.out g2 _ HR2.out).mono ?_
    rintro e w5 ⟨rfl, hb⟩
    have HX5 := Lib.hid (bthen HX4.out hb HX4.out.size)
    have HR3 := Lib.hid (HR2.out.below hb)
    clear hb
    go_wp2_with fail
    refine (HT.out _ HX5.out).mono ?_
    rintro e w6 ⟨g3, rfl, hr, _, hb⟩
    have HX6 := Lib.hid (bthen HX5.out hb HX5.out.size)
    have HR4 := Lib.hid hr
    have HR5 := Lib.hid (HR3.out.below hb)
    clear hb hr
    go_wp2_with fail
    refine (HE.out g2 g3 _ HR5.out HR4.out).mono ?_
    rintro e w7 ⟨rfl, hb⟩
    have HX7 := Lib.hid (bthen HX6.out hb HX6.out.size)
    clear hb
    go_wp2
    go_ret
    exact ⟨rfl, HX7.out⟩
end Go.Proofs.Ytjjabfcdhknigaa.undo
