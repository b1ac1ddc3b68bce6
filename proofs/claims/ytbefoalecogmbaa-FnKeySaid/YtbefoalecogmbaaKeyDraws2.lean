/-
  Draws of keys, as the laws call them. What comes is bounded; nothing else is said of it.
-/
import Derived.Test.YtbefoalecogmbaaKeyDraws
namespace Go.Proofs.Ytbefoalecogmbaa.src
open Go.ChangeShapes Go.WideShapes Go.ChangeAt Go.RowKit
theorem drawKeysOf_any (a : Option Addr) (n C : Nat) (hn : n ≤ 1048576) (N : Nat) (w : World) (hb : BytesA N a n w) (hN : N ≤ w.heap.size) :
    Calls Try.prog 8 #[.slice a n C] w fun e w' => ∃ s : ByteArray, e = .returned (.string s) ∧ s.size ≤ 93 ∧ Below w.heap.size w w' := by
  go_enter Try.func8, Try.ntmps8
  go_wp2_with fail
  refine (source_any N a n C hn _ hb).mono ?_
  rintro e w1 ⟨rfl, hs, hb1⟩
  have HB := Lib.hid hb1
  have z1 := hb1.size
  clear hb1
  go_wp2_with fail
  refine (typed_any N w.heap.size _ hs (by omega)).mono ?_
  rintro e w2 ⟨s, rfl, h1, hd⟩
  have HD := Lib.hid (drew_all HB.out hd)
  clear hd
  go_wp2
  go_ret
  exact ⟨s, rfl, h1, HD.out⟩
def keyInts : Array Value := #[.int .i64 97, .int .i64 27, .int .i64 91, .int .i64 98, .int .i64 65, .int .i64 13, .int .i64 127, .int .i64 0, .int .i64 200, .int .i64 256, .int .i64 (-1), .int .i64 121, .int .i64 68]
theorem ints_at (l : List Int) (r : Nat) (h : r < l.length) : ∃ y : Int, ((l.map (Value.int .i64)).toArray)[r]? = some (.int .i64 y) := by
  refine ⟨l[r], ?_⟩
  simp only [List.getElem?_toArray, List.getElem?_map]
  rw [List.getElem?_eq_getElem h]; rfl
theorem keyInts_at (r : Nat) (h : r < 13) : ∃ y : Int, keyInts[r]? = some (.int .i64 y) :=
  ints_at [97, 27, 91, 98, 65, 13, 127, 0, 200, 256, -1, 121, 68] r h
set_option maxHeartbeats 1600000 in
theorem drawKeyOf_any (a : Option Addr) (n C : Nat) (hn : n ≤ 1048576) (N : Nat) (w : World) (hb : BytesA N a n w) :
    Calls Try.prog 10 #[.slice a n C] w fun e w' => ∃ (s : ByteArray) (y : Int), e = .returned (.tuple #[.string s, .int .i64 y]) ∧ s.size ≤ 2 ∧ Below w.heap.size w w' := by
  go_enter Try.func10, Try.ntmps10
  go_wp2_with fail
  refine (source_any N a n C hn _ hb).mono ?_
  rintro e w1 ⟨rfl, hs, hb1⟩
  have HB := Lib.hid hb1
  have z1 := hb1.size
  have hlt := hs.lt
  have HS := Lib.hid hs
  clear hb1 hs
  go_wp2_with fail
  refine (pick_any N w.heap.size w1.heap.size 5 _ _ _ 2 (by omega) (by omega) rfl ?_ (by omega) _ (HS.out.below ((Below.refl _ w1).alloc (Nat.le_refl _) _)) (heap_alloc_new w1 _)).mono ?_
  · intro v hv
    simp at hv
    rcases hv with rfl | rfl | rfl | rfl | rfl <;> exact ⟨_, rfl, by decide⟩
  rintro e w2 ⟨s, rfl, h1, hd⟩
  have HD := Lib.hid (drew_all (HB.out.alloc z1 _) hd)
  have HS2 := Lib.hid hd.1
  have z2 := HD.out.size
  have hlt2 := hd.1.lt
  clear hd
  go_wp2_with fail
  have hB2 := ((Below.refl _ w2).alloc (Nat.le_refl _) (.cells #[.int .i64 97, .int .i64 27, .int .i64 91, .int .i64 98, .int .i64 65, .int .i64 13, .int .i64 127, .int .i64 0, .int .i64 200, .int .i64 256, .int .i64 (-1), .int .i64 121, .int .i64 68] 2)).drew
  have HB2 := Lib.hid (HS2.out.below hB2)
  have HX := Lib.hid (HD.out.alloc z2 (.cells #[.int .i64 97, .int .i64 27, .int .i64 91, .int .i64 98, .int .i64 65, .int .i64 13, .int .i64 127, .int .i64 0, .int .i64 200, .int .i64 256, .int .i64 (-1), .int .i64 121, .int .i64 68] 2)).drew
  have hc1 : Calls Try.prog 32 #[.pointer (some ⟨w.heap.size, 0, none⟩), .int .i64 13] (w2.alloc (.cells #[.int .i64 97, .int .i64 27, .int .i64 91, .int .i64 98, .int .i64 65, .int .i64 13, .int .i64 127, .int .i64 0, .int .i64 200, .int .i64 256, .int .i64 (-1), .int .i64 121, .int .i64 68] 2)).drew fun e w' => ∃ (r : Nat) (y : Int), e = .returned (.int .i64 (r : Nat)) ∧ (r : Int) < 13 ∧ w'.cell? ⟨w2.heap.size, r, none⟩ = some (.int .i64 y) ∧ Below w.heap.size w w' := by
    refine (n_in N w.heap.size 13 (by omega) (by omega) _ HB2.out).mono ?_
    rintro e w3 ⟨r, rfl, hr, hd⟩
    have hrow3 : w3.heap[w2.heap.size]? = some (.cells keyInts 2 (0, 0)) := (hd.2.block w2.heap.size (by show w2.heap.size < (w2.alloc _).heap.size; simp) (by simp; omega)).trans (heap_alloc_new w2 _)
    obtain ⟨y, hy⟩ := keyInts_at r (by omega)
    exact ⟨r, y, rfl, hr, by rw [cell_of_row _ _ _ _ _ _ hrow3, hy], drew_all HX.out hd⟩
  have hc2 : Calls Try.prog 32 #[.pointer (some ⟨w.heap.size, 0, none⟩), .int .i64 13] w2.drew fun e w' => ∃ (r : Nat) (y : Int), e = .returned (.int .i64 (r : Nat)) ∧ (r : Int) < 13 ∧ (w'.alloc (.cells #[.int .i64 97, .int .i64 27, .int .i64 91, .int .i64 98, .int .i64 65, .int .i64 13, .int .i64 127, .int .i64 0, .int .i64 200, .int .i64 256, .int .i64 (-1), .int .i64 121, .int .i64 68] 2)).cell? ⟨w'.heap.size, r, none⟩ = some (.int .i64 y) ∧ Below w.heap.size w w' := by
    refine (n_in N w.heap.size 13 (by omega) (by omega) _ (HS2.out.below (drew_below w2))).mono ?_
    rintro e w3 ⟨r, rfl, hr, hd⟩
    obtain ⟨y, hy⟩ := keyInts_at r (by omega)
    exact ⟨r, y, rfl, hr, by rw [World.cell?_alloc_at _ _ _ _ rfl]; exact hy, drew_all HD.out.drew hd⟩
  have HC1 := Lib.hid hc1
  have HC2 := Lib.hid hc2
  clear hB2 hc1 hc2
  go_region_with (first
    | (go_at_call 32
       refine HC1.out.mono ?_
       rintro e w3 ⟨r, y, rfl, hr, hc, hb3⟩
       have H3 := Lib.hid hb3
       clear hb3)
    | (go_at_call 32
       refine HC2.out.mono ?_
       rintro e w3 ⟨r, y, rfl, hr, hc, hb3⟩
       have H3 := Lib.hid hb3
       clear hb3))
  all_goals
    go_wp2
    go_ret2
    first | exact ⟨s, y, rfl, h1, H3.out⟩ | exact ⟨s, y, rfl, h1, H3.out.alloc H3.out.size _⟩
def keyEight : Array Value := #[.int .i64 97, .int .i64 32, .int .i64 126, .int .i64 31, .int .i64 127, .int .i64 200, .int .i64 (-1), .int .i64 256]
theorem keyEight_at (r : Nat) (h : r < 8) : ∃ y : Int, keyEight[r]? = some (.int .i64 y) :=
  ints_at [97, 32, 126, 31, 127, 200, -1, 256] r h
/-- a key's two cells in block b -/
structure KC (w : World) (b : Nat) (k y : Int) : Prop where
  c0 : w.cell? ⟨b, 0, none⟩ = some (.int .i64 k)
  c1 : w.cell? ⟨b, 1, none⟩ = some (.int .i64 y)
  f0 : w.frozen? ⟨b, 0, none⟩ = false
  f1 : w.frozen? ⟨b, 1, none⟩ = false
theorem KC.made (w : World) (k y : Int) (T : TypeId) : KC (w.alloc (.cells #[.int .i64 k, .int .i64 y] T)) w.heap.size k y :=
  ⟨by rw [World.cell?_alloc_at _ _ _ _ rfl]; rfl, by rw [World.cell?_alloc_at _ _ _ _ rfl]; rfl, World.frozen?_alloc_at _ _ _ _ rfl, World.frozen?_alloc_at _ _ _ _ rfl⟩
theorem KC.lt {w : World} {b : Nat} {k y : Int} (h : KC w b k y) : b < w.heap.size := blk_lt h.c0
theorem KC.block {w w' : World} {b : Nat} {k y : Int} (h : KC w b k y) (e : w'.heap[b]? = w.heap[b]?) : KC w' b k y :=
  ⟨(World.cell?_of_block (a := ⟨b, 0, none⟩) e).trans h.c0, (World.cell?_of_block (a := ⟨b, 1, none⟩) e).trans h.c1, (World.frozen?_of_block (a := ⟨b, 0, none⟩) e).trans h.f0, (World.frozen?_of_block (a := ⟨b, 1, none⟩) e).trans h.f1⟩
theorem KC.below {w w' : World} {b : Nat} {k y : Int} (h : KC w b k y) (hb : Below w.heap.size w w') : KC w' b k y := h.block (hb.block b h.lt)
theorem KC.drew {N g : Nat} {w w' : World} {b : Nat} {k y : Int} (h : KC w b k y) (hd : Drew N g w w') (hne : b ≠ g) : KC w' b k y := h.block (hd.2.block b h.lt (fun e => hne (by injection e)))
theorem n8_any (N g : Nat) (W : World) (h : Src N g W) :
    Calls Try.prog 32 #[.pointer (some ⟨g, 0, none⟩), .int .i64 8] (W.alloc (.cells #[.int .i64 97, .int .i64 32, .int .i64 126, .int .i64 31, .int .i64 127, .int .i64 200, .int .i64 (-1), .int .i64 256] 2)) fun e w' => ∃ (q : Nat) (y : Int), e = .returned (.int .i64 (q : Nat)) ∧ (q : Int) < 8 ∧ w'.cell? ⟨W.heap.size, q, none⟩ = some (.int .i64 y) ∧ Drew N g W w' := by
  have hl := h.lt
  refine (n_in N g 8 (by omega) (by omega) _ (h.below ((Below.refl _ W).alloc (Nat.le_refl _) _))).mono ?_
  rintro e w3 ⟨q, rfl, hq, hd⟩
  have hrow3 : w3.heap[W.heap.size]? = some (.cells keyEight 2 (0, 0)) := (hd.2.block W.heap.size (by simp) (by simp; omega)).trans (heap_alloc_new W _)
  obtain ⟨y, hy⟩ := keyEight_at q (by omega)
  exact ⟨q, y, rfl, hq, by rw [cell_of_row _ _ _ _ _ _ hrow3, hy], Drew.after ((Below.refl _ W).alloc (Nat.le_refl _) _) hd⟩
set_option maxHeartbeats 3200000 in
theorem key_any (N g : Nat) (w : World) (h : Src N g w) (hN : N ≤ w.heap.size) :
    Calls Try.prog 35 #[.pointer (some ⟨g, 0, none⟩)] w fun e w' => ∃ k y : Int, e = .returned (.agg #[.int .i64 k, .int .i64 y]) ∧ Drew N g w w' := by
  have hgl := h.lt
  have hgn : w.heap.size ≠ g := by omega
  have HS := Lib.hid (h.below ((Below.refl _ w).alloc (Nat.le_refl _) (.cells #[.int .i64 0, .int .i64 0] 29)))
  have HK := Lib.hid (KC.made w 0 0 29)
  clear h
  go_enter Try.func35, Try.ntmps35
  go_wp2_with fail
  refine (n_in N g 27 (by omega) (by omega) _ HS.out).mono ?_
  rintro e w1 ⟨r, rfl, hr, hd⟩
  have HK1 := Lib.hid (HK.out.drew hd hgn)
  have HD1 := Lib.hid (Drew.after ((Below.refl _ w).alloc (Nat.le_refl _) _) hd)
  have z1 := HK1.out.lt
  clear hd HK HS
  by_cases hsel : r = 1 ∨ r = 25
  · have HDA := Lib.hid (HD1.out.below ((Below.refl _ w1).alloc (Nat.le_refl _) (.cells #[.int .i64 r, .int .i64 0] 29)))
    have HKB := Lib.hid (KC.made w1 r 0 29)
    have HKA := Lib.hid (HK1.out.below ((Below.refl _ w1).alloc (Nat.le_refl _) (.cells #[.int .i64 r, .int .i64 0] 29)))
    have hzz := HD1.out.2.size
    by_cases h1 : r = 1
    · have d1 : ((r : Int) == 1) = true := by simp; omega
      clear h1 hsel
      go_wp2_with fail
      refine (n8_any N g _ HDA.out.1).mono ?_
      rintro e w6 ⟨q, y, rfl, hq, hc6, hd6⟩
      have HD6 := Lib.hid (HDA.out.trans hd6)
      have HKA6 := Lib.hid (HKA.out.drew hd6 hgn)
      have HKB6 := Lib.hid (HKB.out.drew hd6 (by omega))
      obtain ⟨c0, c1, f0, f1⟩ := HKA6.out
      obtain ⟨e0, e1, g0, g1⟩ := HKB6.out
      have hlast : w.heap.size ≤ w1.heap.size := by omega
      rw [show (w1.alloc (.cells #[.int .i64 r, .int .i64 0] 29)).heap.size = w1.heap.size + 1 by simp] at hc6
      clear hd6
      go_wp2
      exact bodyPost_ret (v := .agg #[.int .i64 r, .int .i64 y]) (by simp [results, Try.results35, go_sem, c0, c1]) rfl ⟨r, y, rfl, ((HD6.out.set (k := w1.heap.size) (by omega) (by omega) hlast).set hN hgn (Nat.le_refl _)).set hN hgn (Nat.le_refl _)⟩
    · have d1 : ((r : Int) == 1) = false := by simp; omega
      have d2 : ((r : Int) == 25) = true := by simp; omega
      clear h1 hsel
      go_wp2_with fail
      refine (n8_any N g _ HDA.out.1).mono ?_
      rintro e w6 ⟨q, y, rfl, hq, hc6, hd6⟩
      have HD6 := Lib.hid (HDA.out.trans hd6)
      have HKA6 := Lib.hid (HKA.out.drew hd6 hgn)
      have HKB6 := Lib.hid (HKB.out.drew hd6 (by omega))
      obtain ⟨c0, c1, f0, f1⟩ := HKA6.out
      obtain ⟨e0, e1, g0, g1⟩ := HKB6.out
      have hlast : w.heap.size ≤ w1.heap.size := by omega
      rw [show (w1.alloc (.cells #[.int .i64 r, .int .i64 0] 29)).heap.size = w1.heap.size + 1 by simp] at hc6
      clear hd6
      go_wp2
      exact bodyPost_ret (v := .agg #[.int .i64 r, .int .i64 y]) (by simp [results, Try.results35, go_sem, c0, c1]) rfl ⟨r, y, rfl, ((HD6.out.set (k := w1.heap.size) (by omega) (by omega) hlast).set hN hgn (Nat.le_refl _)).set hN hgn (Nat.le_refl _)⟩
  · have d1 : ((r : Int) == 1) = false := by simp; omega
    have d2 : ((r : Int) == 25) = false := by simp; omega
    have HDA := Lib.hid (HD1.out.below ((Below.refl _ w1).alloc (Nat.le_refl _) (.cells #[.int .i64 r, .int .i64 0] 29)))
    go_wp2_with fail
    refine (one_any N g 10 (by omega) _ HDA.out.1).mono ?_
    rintro e w2 ⟨b, rfl, hd2⟩
    have HDB := Lib.hid (HDA.out.trans hd2)
    have HKB := Lib.hid ((KC.made w1 r 0 29).drew hd2 (by omega))
    have HKA := Lib.hid ((HK1.out.below ((Below.refl _ w1).alloc (Nat.le_refl _) _)).drew hd2 hgn)
    cases b
    · obtain ⟨c0, c1, f0, f1⟩ := HKA.out
      obtain ⟨e0, e1, g0, g1⟩ := HKB.out
      clear hd2
      go_wp2
      exact bodyPost_ret (v := .agg #[.int .i64 r, .int .i64 0]) (by simp [results, Try.results35, go_sem, c0, c1]) rfl ⟨r, 0, rfl, (HDB.out.set hN hgn (Nat.le_refl _)).set hN hgn (Nat.le_refl _)⟩
    · go_wp2_with fail
      refine (n8_any N g _ HDB.out.1).mono ?_
      rintro e w6 ⟨q, y, rfl, hq, hc6, hd6⟩
      have HD6 := Lib.hid (HDB.out.trans hd6)
      have HKA6 := Lib.hid (HKA.out.drew hd6 hgn)
      have HKB6 := Lib.hid (HKB.out.drew hd6 (by omega))
      obtain ⟨c0, c1, f0, f1⟩ := HKA6.out
      obtain ⟨e0, e1, g0, g1⟩ := HKB6.out
      have hlast : w.heap.size ≤ w1.heap.size := by omega
      clear hd6
      go_wp2
      exact bodyPost_ret (v := .agg #[.int .i64 r, .int .i64 y]) (by simp [results, Try.results35, go_sem, c0, c1]) rfl ⟨r, y, rfl, ((HD6.out.set (k := w1.heap.size) (by omega) (by omega) hlast).set hN hgn (Nat.le_refl _)).set hN hgn (Nat.le_refl _)⟩
theorem drew_low {N g B : Nat} {w w1 w2 : World} (hb : Below B w w1) (h : Drew N g w1 w2) (hg : B ≤ g) (hB : B ≤ w1.heap.size) : Below B w w2 :=
  hb.grown h.2 hB (fun k e => by injection e with e; omega)
theorem drawBytesOf_any (a : Option Addr) (n C : Nat) (hn : n ≤ 1048576) (N : Nat) (w : World) (hb : BytesA N a n w) (hN : N ≤ w.heap.size) :
    Calls Try.prog 12 #[.slice a n C] w fun e w' => ∃ k y : Int, e = .returned (.agg #[.int .i64 k, .int .i64 y]) ∧ Below w.heap.size w w' := by
  have hb0 := hb.below (show Below N w (w.alloc (.cells #[.int .i64 0, .int .i64 0] 29)) from (Below.refl _ w).alloc hN _)
  have K0 := Lib.hid (KC.made w 0 0 29)
  go_enter Try.func12, Try.ntmps12
  go_wp2_with fail
  refine (source_any N a n C hn _ hb0).mono ?_
  rintro e w1 ⟨rfl, hs, hb1⟩
  have K1 := Lib.hid (K0.out.below hb1)
  have HB := Lib.hid (((Below.refl _ w).alloc (Nat.le_refl _) (.cells #[.int .i64 0, .int .i64 0] 29)).trans (hb1.mono (by simp)))
  have z1 : w.heap.size + 1 ≤ w1.heap.size := by have := hb1.size; simp at this; omega
  have hg : (w.alloc (.cells #[.int .i64 0, .int .i64 0] 29)).heap.size = w.heap.size + 1 := by simp
  rw [hg] at hs ⊢
  clear hb1 hb0 K0 hg
  go_wp2_with fail
  refine (key_any N (w.heap.size + 1) _ hs (by omega)).mono ?_
  rintro e w2 ⟨k, y, rfl, hd⟩
  have HX := Lib.hid (drew_low HB.out hd (by omega) (by omega))
  obtain ⟨c0, c1, f0, f1⟩ := K1.out.drew hd (by omega)
  clear hd hs
  go_wp2
  exact bodyPost_ret (v := .agg #[.int .i64 k, .int .i64 y]) (by simp [results, Try.results12, go_sem, c0, c1]) rfl ⟨k, y, rfl, (HX.out.setCell (p := ⟨w.heap.size, 0, none⟩) (Nat.le_refl _) _).setCell (p := ⟨w.heap.size, 1, none⟩) (Nat.le_refl _) _⟩
end Go.Proofs.Ytbefoalecogmbaa.src
