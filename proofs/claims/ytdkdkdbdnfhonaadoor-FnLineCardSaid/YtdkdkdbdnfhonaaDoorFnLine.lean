/-
  The walk of FnLine's law. For every two rows of bytes that can be read. By gen_fnline.py.
-/
import Derived.Test.YtdkdkdbdnfhonaaDoorFnLineMath
import Derived.Test.YtdkdkdbdnfhonaaDoorDrawFnLine
import Derived.Test.YtdkdkdbdnfhonaaDoorInsertImpl
import Derived.Test.YtdkdkdbdnfhonaaDoorEraseImpl
import Derived.Test.YtdkdkdbdnfhonaaDoorSwapImpl
import Derived.Test.YtdkdkdbdnfhonaaDoorCaseImpl
import Derived.Test.YtdkdkdbdnfhonaaDoorWordLaws
import Derived.Test.YtdkdkdbdnfhonaaDoorLwLine
import Derived.Deep.RegionHeld3
namespace Go.Proofs.YtdkdkdbdnfhonaaDoor.line
open Go.ChangeShapes Go.WideShapes Go.ChangeAt Go.RowKit
open Go.Proofs.YtdkdkdbdnfhonaaDoor.src
/-- a line in a block; an answer with a line in a block -/
structure Ln (W : World) (b : Nat) (s : ByteArray) (i : Int) : Prop where
  c0 : W.cell? ⟨b, 0, none⟩ = some (.string s)
  c1 : W.cell? ⟨b, 1, none⟩ = some (.int .i64 i)
structure Lo (W : World) (b : Nat) (s : ByteArray) (i : Int) (g : ByteArray) (c : Int) : Prop where
  c0 : W.cell? ⟨b, 0, none⟩ = some (.string s)
  c1 : W.cell? ⟨b, 1, none⟩ = some (.int .i64 i)
  c2 : W.cell? ⟨b, 2, none⟩ = some (.string g)
  c3 : W.cell? ⟨b, 3, none⟩ = some (.int .i64 c)
theorem Ln.below {W W' : World} {b : Nat} {s : ByteArray} {i : Int} (h : Ln W b s i) (hb : Below W.heap.size W W') : Ln W' b s i :=
  ⟨(hb.cell (p := ⟨b, 0, none⟩) (blk_lt h.c0)).trans h.c0, (hb.cell (p := ⟨b, 1, none⟩) (blk_lt h.c1)).trans h.c1⟩
theorem Lo.below {W W' : World} {b : Nat} {s : ByteArray} {i : Int} {g : ByteArray} {c : Int} (h : Lo W b s i g c) (hb : Below W.heap.size W W') : Lo W' b s i g c :=
  ⟨(hb.cell (p := ⟨b, 0, none⟩) (blk_lt h.c0)).trans h.c0, (hb.cell (p := ⟨b, 1, none⟩) (blk_lt h.c1)).trans h.c1, (hb.cell (p := ⟨b, 2, none⟩) (blk_lt h.c2)).trans h.c2, (hb.cell (p := ⟨b, 3, none⟩) (blk_lt h.c3)).trans h.c3⟩
theorem Ln.new (w : World) (s : ByteArray) (i : Int) : Ln (w.alloc (.cells #[.string s, .int .i64 i] 35)) w.heap.size s i := ⟨by simp [go_sem], by simp [go_sem]⟩
theorem Lo.new (w : World) (s : ByteArray) (i : Int) (g : ByteArray) (c : Int) : Lo (w.alloc (.cells #[.string s, .int .i64 i, .string g, .int .i64 c] 39)) w.heap.size s i g c :=
  ⟨by simp [go_sem], by simp [go_sem], by simp [go_sem], by simp [go_sem]⟩
/-- what stands while FnLine's law goes on -/
structure FL (w : World) (b1 d1 b2 d2 b3 d3 b4 d4 : Nat) (s1 : ByteArray) (i1 : Int) (x1 : ByteArray) (j1 : Int) (g1 : ByteArray) (c1 : Int) (s2 : ByteArray) (i2 : Int) (x2 : ByteArray) (j2 : Int) (g2 : ByteArray) (c2 : Int)
    (s3 : ByteArray) (i3 : Int) (x3 : ByteArray) (j3 : Int) (g3 : ByteArray) (c3 : Int) (s4 : ByteArray) (i4 : Int) (x4 : ByteArray) (j4 : Int) (g4 : ByteArray) (c4 : Int) (W : World) : Prop where
  l1 : Ln W b1 s1 i1
  o1 : Lo W d1 x1 j1 g1 c1
  l2 : Ln W b2 s2 i2
  o2 : Lo W d2 x2 j2 g2 c2
  l3 : Ln W b3 s3 i3
  o3 : Lo W d3 x3 j3 g3 c3
  l4 : Ln W b4 s4 i4
  o4 : Lo W d4 x4 j4 g4 c4
  bel : Below w.heap.size w W
theorem FL.below {w : World} {b1 d1 b2 d2 b3 d3 b4 d4 : Nat} {s1 : ByteArray} {i1 : Int} {x1 : ByteArray} {j1 : Int} {g1 : ByteArray} {c1 : Int} {s2 : ByteArray} {i2 : Int} {x2 : ByteArray} {j2 : Int} {g2 : ByteArray} {c2 : Int}
    {s3 : ByteArray} {i3 : Int} {x3 : ByteArray} {j3 : Int} {g3 : ByteArray} {c3 : Int} {s4 : ByteArray} {i4 : Int} {x4 : ByteArray} {j4 : Int} {g4 : ByteArray} {c4 : Int} {W W' : World}
    (h : FL w b1 d1 b2 d2 b3 d3 b4 d4 s1 i1 x1 j1 g1 c1 s2 i2 x2 j2 g2 c2 s3 i3 x3 j3 g3 c3 s4 i4 x4 j4 g4 c4 W) (hb : Below W.heap.size W W') : FL w b1 d1 b2 d2 b3 d3 b4 d4 s1 i1 x1 j1 g1 c1 s2 i2 x2 j2 g2 c2 s3 i3 x3 j3 g3 c3 s4 i4 x4 j4 g4 c4 W' :=
  ⟨h.l1.below hb, h.o1.below hb, h.l2.below hb, h.o2.below hb, h.l3.below hb, h.o3.below hb, h.l4.below hb, h.o4.below hb, bthen h.bel hb h.bel.size⟩
set_option maxHeartbeats 8000000 in
set_option maxRecDepth 100000 in
theorem walkFnLine (a0 : Option Addr) (n0 C0 : Nat) (a1 : Option Addr) (n1 C1 : Nat) (w : World) (h0 : BytesA w.heap.size a0 n0 w) (h1 : BytesA w.heap.size a1 n1 w) :
    Calls Tryd.prog 4 #[.slice a0 n0 C0, .slice a1 n1 C1] w fun e w' => e = .returned (.bool true) ∧ Below w.heap.size w w' := by
  by_cases hn0 : (1048576 : Int) < n0
  · go_enter Tryd.func4, Tryd.ntmps4
    go_wp2
    go_ret
    exact ⟨rfl, Below.refl _ _⟩
  by_cases hn1 : (1048576 : Int) < n1
  · go_enter Tryd.func4, Tryd.ntmps4
    go_wp2
    go_ret
    exact ⟨rfl, Below.refl _ _⟩
  have H0 := Lib.hid h0
  have H1 := Lib.hid h1
  clear h0 h1
  go_enter Tryd.func4, Tryd.ntmps4
  go_wp2_with fail
  refine (drawInsert_any w.heap.size a0 n0 C0 (by omega) _ (Nat.le_refl _) H0.out).mono ?_
  rintro e v1 ⟨s1, i1, t1, rfl, hs1, ht1, hb⟩
  have hst := hb.alloc hb.size (.cells #[.string s1, .int .i64 i1] 35)
  have HB := Lib.hid hst
  have L1 := Lib.hid (Ln.new v1 s1 i1)
  obtain ⟨b1, eb1⟩ : ∃ b, b = v1.heap.size := ⟨_, rfl⟩
  obtain ⟨x1, j1, g1, c1, hx⟩ := insV_form s1 i1 t1
  have V1 := Lib.hid hx
  clear hb hst hx
  go_wp2_with fail
  refine (implIns_any s1 i1 t1 (by unfold maxLen; omega) (by unfold maxLen; omega) _).mono ?_
  rintro e w1 ⟨rfl, hb⟩
  rw [V1.out]
  have hst := hb.alloc hb.size (.cells #[.string x1, .int .i64 j1, .string g1, .int .i64 c1] 39)
  have L1 := Lib.hid (L1.out.below hst)
  have HB := Lib.hid (bthen HB.out hst HB.out.size)
  have X1 := Lib.hid (Lo.new w1 x1 j1 g1 c1)
  obtain ⟨d1, ed1⟩ : ∃ b, b = w1.heap.size := ⟨_, rfl⟩
  clear hb hst
  go_wp2_with fail
  refine (drawErase_any w.heap.size a1 n1 C1 (by omega) _ HB.out.size (H1.out.below HB.out)).mono ?_
  rintro e v2 ⟨s2, i2, f2, t2, rfl, hs2, hb⟩
  have hst := hb.alloc hb.size (.cells #[.string s2, .int .i64 i2] 35)
  have L1 := Lib.hid (L1.out.below hst)
  have X1 := Lib.hid (X1.out.below hst)
  have HB := Lib.hid (bthen HB.out hst HB.out.size)
  have L2 := Lib.hid (Ln.new v2 s2 i2)
  obtain ⟨b2, eb2⟩ : ∃ b, b = v2.heap.size := ⟨_, rfl⟩
  obtain ⟨x2, j2, g2, c2, hx⟩ := eraV_form s2 i2 f2 t2
  have V2 := Lib.hid hx
  clear hb hst hx
  go_wp2_with fail
  refine (implEra_any s2 i2 f2 t2 (by unfold maxLen; omega) _).mono ?_
  rintro e w2 ⟨rfl, hb⟩
  rw [V2.out]
  have hst := hb.alloc hb.size (.cells #[.string x2, .int .i64 j2, .string g2, .int .i64 c2] 39)
  have L1 := Lib.hid (L1.out.below hst)
  have X1 := Lib.hid (X1.out.below hst)
  have L2 := Lib.hid (L2.out.below hst)
  have HB := Lib.hid (bthen HB.out hst HB.out.size)
  have X2 := Lib.hid (Lo.new w2 x2 j2 g2 c2)
  obtain ⟨d2, ed2⟩ : ∃ b, b = w2.heap.size := ⟨_, rfl⟩
  clear hb hst
  go_wp2_with fail
  refine (drawCase_any w.heap.size a0 n0 C0 (by omega) _ HB.out.size (H0.out.below HB.out)).mono ?_
  rintro e v3 ⟨s3, i3, u3, rfl, hs3, hb⟩
  have hst := hb.alloc hb.size (.cells #[.string s3, .int .i64 i3] 35)
  have L1 := Lib.hid (L1.out.below hst)
  have X1 := Lib.hid (X1.out.below hst)
  have L2 := Lib.hid (L2.out.below hst)
  have X2 := Lib.hid (X2.out.below hst)
  have HB := Lib.hid (bthen HB.out hst HB.out.size)
  have L3 := Lib.hid (Ln.new v3 s3 i3)
  obtain ⟨b3, eb3⟩ : ∃ b, b = v3.heap.size := ⟨_, rfl⟩
  obtain ⟨x3, j3, g3, c3, hx⟩ := caseV_form s3 i3 u3
  have V3 := Lib.hid hx
  clear hb hst hx
  go_wp2_with fail
  refine (implCase_any s3 i3 u3 (by unfold maxLen; omega) _).mono ?_
  rintro e w3 ⟨rfl, hb⟩
  rw [V3.out]
  have hst := hb.alloc hb.size (.cells #[.string x3, .int .i64 j3, .string g3, .int .i64 c3] 39)
  have L1 := Lib.hid (L1.out.below hst)
  have X1 := Lib.hid (X1.out.below hst)
  have L2 := Lib.hid (L2.out.below hst)
  have X2 := Lib.hid (X2.out.below hst)
  have L3 := Lib.hid (L3.out.below hst)
  have HB := Lib.hid (bthen HB.out hst HB.out.size)
  have X3 := Lib.hid (Lo.new w3 x3 j3 g3 c3)
  obtain ⟨d3, ed3⟩ : ∃ b, b = w3.heap.size := ⟨_, rfl⟩
  clear hb hst
  go_wp2_with fail
  refine (drawSwap_any w.heap.size a1 n1 C1 (by omega) _ HB.out.size (H1.out.below HB.out)).mono ?_
  rintro e v4 ⟨s4, i4, rfl, hs4, hb⟩
  have hst := hb.alloc hb.size (.cells #[.string s4, .int .i64 i4] 35)
  have L1 := Lib.hid (L1.out.below hst)
  have X1 := Lib.hid (X1.out.below hst)
  have L2 := Lib.hid (L2.out.below hst)
  have X2 := Lib.hid (X2.out.below hst)
  have L3 := Lib.hid (L3.out.below hst)
  have X3 := Lib.hid (X3.out.below hst)
  have HB := Lib.hid (bthen HB.out hst HB.out.size)
  have L4 := Lib.hid (Ln.new v4 s4 i4)
  obtain ⟨b4, eb4⟩ : ∃ b, b = v4.heap.size := ⟨_, rfl⟩
  obtain ⟨x4, j4, g4, c4, hx⟩ := swV_form s4 i4
  have V4 := Lib.hid hx
  clear hb hst hx
  go_wp2_with fail
  refine (implSwap_any s4 i4 (by unfold maxLen; omega) _).mono ?_
  rintro e w4 ⟨rfl, hb⟩
  rw [V4.out]
  have hst := hb.alloc hb.size (.cells #[.string x4, .int .i64 j4, .string g4, .int .i64 c4] 39)
  have L1 := Lib.hid (L1.out.below hst)
  have X1 := Lib.hid (X1.out.below hst)
  have L2 := Lib.hid (L2.out.below hst)
  have X2 := Lib.hid (X2.out.below hst)
  have L3 := Lib.hid (L3.out.below hst)
  have X3 := Lib.hid (X3.out.below hst)
  have L4 := Lib.hid (L4.out.below hst)
  have HB := Lib.hid (bthen HB.out hst HB.out.size)
  have X4 := Lib.hid (Lo.new w4 x4 j4 g4 c4)
  obtain ⟨d4, ed4⟩ : ∃ b, b = w4.heap.size := ⟨_, rfl⟩
  clear hb hst
  go_wp2_with fail
  rw [← eb1] at L1 ⊢
  rw [← ed1] at X1 ⊢
  rw [← eb2] at L2 ⊢
  rw [← ed2] at X2 ⊢
  rw [← eb3] at L3 ⊢
  rw [← ed3] at X3 ⊢
  rw [← eb4] at L4 ⊢
  rw [← ed4] at X4 ⊢
  refine absW (P := fun W => Code.wp _ _ _ _ W) (fun W' => FL w b1 d1 b2 d2 b3 d3 b4 d4 s1 i1 x1 j1 g1 c1 s2 i2 x2 j2 g2 c2 s3 i3 x3 j3 g3 c3 s4 i4 x4 j4 g4 c4 W') ⟨L1.out, X1.out, L2.out, X2.out, L3.out, X3.out, L4.out, X4.out, HB.out⟩ (fun W6 h6 => ?_)
  clear HB L1 L2 L3 L4 X1 X2 X3 X4 eb1 ed1 eb2 ed2 eb3 ed3 eb4 ed4
  have Q1 := Lib.hid (show c1 = 0 → lineB x1 j1 = true from fun e => by have h := V1.out; rw [e] at h; exact insV_line h)
  have Q2 := Lib.hid (show c2 = 0 → lineB x2 j2 = true from fun e => by have h := V2.out; rw [e] at h; exact eraV_line h)
  have Q3 := Lib.hid (show c3 = 0 → lineB x3 j3 = true from fun e => by have h := V3.out; rw [e] at h; exact (caseV_ok h).2.2)
  have Q4 := Lib.hid (show c4 = 0 → lineB x4 j4 = true from fun e => by have h := V4.out; rw [e] at h; exact swV_line h)
  have Z1 := Lib.hid (show c1 = 0 → x1.size ≤ maxLen from fun e => by have := (lineB_ok (Q1.out e)).1; unfold maxLen; omega)
  have Z2 := Lib.hid (show c2 = 0 → x2.size ≤ maxLen from fun e => by have := (lineB_ok (Q2.out e)).1; unfold maxLen; omega)
  have Z3 := Lib.hid (show c3 = 0 → x3.size ≤ maxLen from fun e => by have := (lineB_ok (Q3.out e)).1; unfold maxLen; omega)
  have Z4 := Lib.hid (show c4 = 0 → x4.size ≤ maxLen from fun e => by have := (lineB_ok (Q4.out e)).1; unfold maxLen; omega)
  obtain ⟨lb, hlb⟩ : ∃ b, b = lineB s1 i1 := ⟨_, rfl⟩
  obtain ⟨tb, htb⟩ : ∃ b, b = textB t1 := ⟨_, rfl⟩
  obtain ⟨kb, hkb⟩ : ∃ b, b = backV s3 i3 := ⟨_, rfl⟩
  obtain ⟨ko, hko⟩ : ∃ b, b = onV s3 i3 := ⟨_, rfl⟩
  have LB := Lib.hid hlb
  have TB := Lib.hid htb
  have KB := Lib.hid hkb
  have KO := Lib.hid hko
  clear hlb htb hkb hko
  have HS := Lib.hid h6
  have y0 := HS.out.l1.c0
  have y1 := HS.out.l1.c1
  have y2 := HS.out.o1.c0
  have y3 := HS.out.o1.c1
  have y4 := HS.out.o1.c2
  have y5 := HS.out.o1.c3
  have y6 := HS.out.l2.c0
  have y7 := HS.out.l2.c1
  have y8 := HS.out.o2.c0
  have y9 := HS.out.o2.c1
  have y10 := HS.out.o2.c2
  have y11 := HS.out.o2.c3
  have y12 := HS.out.l3.c0
  have y13 := HS.out.l3.c1
  have y14 := HS.out.o3.c0
  have y15 := HS.out.o3.c1
  have y16 := HS.out.o3.c2
  have y17 := HS.out.o3.c3
  have y18 := HS.out.l4.c0
  have y19 := HS.out.l4.c1
  have y20 := HS.out.o4.c0
  have y21 := HS.out.o4.c1
  have y22 := HS.out.o4.c2
  have y23 := HS.out.o4.c3
  have HS := Lib.hid (h6.below (drew_below W6))
  clear h6
  go_region_held3 (fun w' => w'.cell? ⟨b1, 0, none⟩ = some (.string s1) ∧ w'.cell? ⟨b1, 1, none⟩ = some (.int .i64 i1) ∧ w'.cell? ⟨d1, 0, none⟩ = some (.string x1) ∧ w'.cell? ⟨d1, 1, none⟩ = some (.int .i64 j1) ∧ w'.cell? ⟨d1, 2, none⟩ = some (.string g1) ∧ w'.cell? ⟨d1, 3, none⟩ = some (.int .i64 c1) ∧ w'.cell? ⟨b2, 0, none⟩ = some (.string s2) ∧ w'.cell? ⟨b2, 1, none⟩ = some (.int .i64 i2) ∧ w'.cell? ⟨d2, 0, none⟩ = some (.string x2) ∧ w'.cell? ⟨d2, 1, none⟩ = some (.int .i64 j2) ∧ w'.cell? ⟨d2, 2, none⟩ = some (.string g2) ∧ w'.cell? ⟨d2, 3, none⟩ = some (.int .i64 c2) ∧ w'.cell? ⟨b3, 0, none⟩ = some (.string s3) ∧ w'.cell? ⟨b3, 1, none⟩ = some (.int .i64 i3) ∧ w'.cell? ⟨d3, 0, none⟩ = some (.string x3) ∧ w'.cell? ⟨d3, 1, none⟩ = some (.int .i64 j3) ∧ w'.cell? ⟨d3, 2, none⟩ = some (.string g3) ∧ w'.cell? ⟨d3, 3, none⟩ = some (.int .i64 c3) ∧ w'.cell? ⟨b4, 0, none⟩ = some (.string s4) ∧ w'.cell? ⟨b4, 1, none⟩ = some (.int .i64 i4) ∧ w'.cell? ⟨d4, 0, none⟩ = some (.string x4) ∧ w'.cell? ⟨d4, 1, none⟩ = some (.int .i64 j4) ∧ w'.cell? ⟨d4, 2, none⟩ = some (.string g4) ∧ w'.cell? ⟨d4, 3, none⟩ = some (.int .i64 c4)) (go_keep)
    (first
      | (go_at_call 22
         refine (specIns_any s1 i1 t1 (by unfold maxLen; omega) (by unfold maxLen; omega) _).mono ?_
         rintro e W7 ⟨rfl, hb⟩
         rw [V1.out]
         clear y0 y1 y2 y3 y4 y5 y6 y7 y8 y9 y10 y11 y12 y13 y14 y15 y16 y17 y18 y19 y20 y21 y22 y23
         have HS := Lib.hid (HS.out.below hb)
         have y0 := HS.out.l1.c0
         have y1 := HS.out.l1.c1
         have y2 := HS.out.o1.c0
         have y3 := HS.out.o1.c1
         have y4 := HS.out.o1.c2
         have y5 := HS.out.o1.c3
         have y6 := HS.out.l2.c0
         have y7 := HS.out.l2.c1
         have y8 := HS.out.o2.c0
         have y9 := HS.out.o2.c1
         have y10 := HS.out.o2.c2
         have y11 := HS.out.o2.c3
         have y12 := HS.out.l3.c0
         have y13 := HS.out.l3.c1
         have y14 := HS.out.o3.c0
         have y15 := HS.out.o3.c1
         have y16 := HS.out.o3.c2
         have y17 := HS.out.o3.c3
         have y18 := HS.out.l4.c0
         have y19 := HS.out.l4.c1
         have y20 := HS.out.o4.c0
         have y21 := HS.out.o4.c1
         have y22 := HS.out.o4.c2
         have y23 := HS.out.o4.c3
         clear hb)
      | (go_at_call 23
         refine (specEra_any s2 i2 f2 t2 (by unfold maxLen; omega) _).mono ?_
         rintro e W7 ⟨rfl, hb⟩
         rw [V2.out]
         clear y0 y1 y2 y3 y4 y5 y6 y7 y8 y9 y10 y11 y12 y13 y14 y15 y16 y17 y18 y19 y20 y21 y22 y23
         have HS := Lib.hid (HS.out.below hb)
         have y0 := HS.out.l1.c0
         have y1 := HS.out.l1.c1
         have y2 := HS.out.o1.c0
         have y3 := HS.out.o1.c1
         have y4 := HS.out.o1.c2
         have y5 := HS.out.o1.c3
         have y6 := HS.out.l2.c0
         have y7 := HS.out.l2.c1
         have y8 := HS.out.o2.c0
         have y9 := HS.out.o2.c1
         have y10 := HS.out.o2.c2
         have y11 := HS.out.o2.c3
         have y12 := HS.out.l3.c0
         have y13 := HS.out.l3.c1
         have y14 := HS.out.o3.c0
         have y15 := HS.out.o3.c1
         have y16 := HS.out.o3.c2
         have y17 := HS.out.o3.c3
         have y18 := HS.out.l4.c0
         have y19 := HS.out.l4.c1
         have y20 := HS.out.o4.c0
         have y21 := HS.out.o4.c1
         have y22 := HS.out.o4.c2
         have y23 := HS.out.o4.c3
         clear hb)
      | (go_at_call 24
         refine (specCase_any s3 i3 u3 (by unfold maxLen; omega) _).mono ?_
         rintro e W7 ⟨rfl, hb⟩
         rw [V3.out]
         clear y0 y1 y2 y3 y4 y5 y6 y7 y8 y9 y10 y11 y12 y13 y14 y15 y16 y17 y18 y19 y20 y21 y22 y23
         have HS := Lib.hid (HS.out.below hb)
         have y0 := HS.out.l1.c0
         have y1 := HS.out.l1.c1
         have y2 := HS.out.o1.c0
         have y3 := HS.out.o1.c1
         have y4 := HS.out.o1.c2
         have y5 := HS.out.o1.c3
         have y6 := HS.out.l2.c0
         have y7 := HS.out.l2.c1
         have y8 := HS.out.o2.c0
         have y9 := HS.out.o2.c1
         have y10 := HS.out.o2.c2
         have y11 := HS.out.o2.c3
         have y12 := HS.out.l3.c0
         have y13 := HS.out.l3.c1
         have y14 := HS.out.o3.c0
         have y15 := HS.out.o3.c1
         have y16 := HS.out.o3.c2
         have y17 := HS.out.o3.c3
         have y18 := HS.out.l4.c0
         have y19 := HS.out.l4.c1
         have y20 := HS.out.o4.c0
         have y21 := HS.out.o4.c1
         have y22 := HS.out.o4.c2
         have y23 := HS.out.o4.c3
         clear hb)
      | (go_at_call 25
         refine (specSwap_any s4 i4 (by unfold maxLen; omega) _).mono ?_
         rintro e W7 ⟨rfl, hb⟩
         rw [V4.out]
         clear y0 y1 y2 y3 y4 y5 y6 y7 y8 y9 y10 y11 y12 y13 y14 y15 y16 y17 y18 y19 y20 y21 y22 y23
         have HS := Lib.hid (HS.out.below hb)
         have y0 := HS.out.l1.c0
         have y1 := HS.out.l1.c1
         have y2 := HS.out.o1.c0
         have y3 := HS.out.o1.c1
         have y4 := HS.out.o1.c2
         have y5 := HS.out.o1.c3
         have y6 := HS.out.l2.c0
         have y7 := HS.out.l2.c1
         have y8 := HS.out.o2.c0
         have y9 := HS.out.o2.c1
         have y10 := HS.out.o2.c2
         have y11 := HS.out.o2.c3
         have y12 := HS.out.l3.c0
         have y13 := HS.out.l3.c1
         have y14 := HS.out.o3.c0
         have y15 := HS.out.o3.c1
         have y16 := HS.out.o3.c2
         have y17 := HS.out.o3.c3
         have y18 := HS.out.l4.c0
         have y19 := HS.out.l4.c1
         have y20 := HS.out.o4.c0
         have y21 := HS.out.o4.c1
         have y22 := HS.out.o4.c2
         have y23 := HS.out.o4.c3
         clear hb)
      | (go_at_call 21
         refine (lwLine_same _ _ _ _ (by first | exact Z1.out | exact Z2.out | exact Z3.out | exact Z4.out) (by first | exact Q1.out | exact Q2.out | exact Q3.out | exact Q4.out) _).mono ?_
         rintro e W7 ⟨rfl, hb⟩
         clear y0 y1 y2 y3 y4 y5 y6 y7 y8 y9 y10 y11 y12 y13 y14 y15 y16 y17 y18 y19 y20 y21 y22 y23
         have HS := Lib.hid (HS.out.below hb)
         have y0 := HS.out.l1.c0
         have y1 := HS.out.l1.c1
         have y2 := HS.out.o1.c0
         have y3 := HS.out.o1.c1
         have y4 := HS.out.o1.c2
         have y5 := HS.out.o1.c3
         have y6 := HS.out.l2.c0
         have y7 := HS.out.l2.c1
         have y8 := HS.out.o2.c0
         have y9 := HS.out.o2.c1
         have y10 := HS.out.o2.c2
         have y11 := HS.out.o2.c3
         have y12 := HS.out.l3.c0
         have y13 := HS.out.l3.c1
         have y14 := HS.out.o3.c0
         have y15 := HS.out.o3.c1
         have y16 := HS.out.o3.c2
         have y17 := HS.out.o3.c3
         have y18 := HS.out.l4.c0
         have y19 := HS.out.l4.c1
         have y20 := HS.out.o4.c0
         have y21 := HS.out.o4.c1
         have y22 := HS.out.o4.c2
         have y23 := HS.out.o4.c3
         clear hb)
      | (go_at_call 26
         refine (implWordBack_any s3 i3 (by unfold maxLen; omega) _).mono ?_
         rintro e W7 ⟨rfl, hb⟩
         rw [← KB.out]
         clear y0 y1 y2 y3 y4 y5 y6 y7 y8 y9 y10 y11 y12 y13 y14 y15 y16 y17 y18 y19 y20 y21 y22 y23
         have HS := Lib.hid (HS.out.below hb)
         have y0 := HS.out.l1.c0
         have y1 := HS.out.l1.c1
         have y2 := HS.out.o1.c0
         have y3 := HS.out.o1.c1
         have y4 := HS.out.o1.c2
         have y5 := HS.out.o1.c3
         have y6 := HS.out.l2.c0
         have y7 := HS.out.l2.c1
         have y8 := HS.out.o2.c0
         have y9 := HS.out.o2.c1
         have y10 := HS.out.o2.c2
         have y11 := HS.out.o2.c3
         have y12 := HS.out.l3.c0
         have y13 := HS.out.l3.c1
         have y14 := HS.out.o3.c0
         have y15 := HS.out.o3.c1
         have y16 := HS.out.o3.c2
         have y17 := HS.out.o3.c3
         have y18 := HS.out.l4.c0
         have y19 := HS.out.l4.c1
         have y20 := HS.out.o4.c0
         have y21 := HS.out.o4.c1
         have y22 := HS.out.o4.c2
         have y23 := HS.out.o4.c3
         clear hb)
      | (go_at_call 27
         refine (specWordBack_any s3 i3 (by unfold maxLen; omega) _).mono ?_
         rintro e W7 ⟨rfl, hb⟩
         rw [← KB.out]
         clear y0 y1 y2 y3 y4 y5 y6 y7 y8 y9 y10 y11 y12 y13 y14 y15 y16 y17 y18 y19 y20 y21 y22 y23
         have HS := Lib.hid (HS.out.below hb)
         have y0 := HS.out.l1.c0
         have y1 := HS.out.l1.c1
         have y2 := HS.out.o1.c0
         have y3 := HS.out.o1.c1
         have y4 := HS.out.o1.c2
         have y5 := HS.out.o1.c3
         have y6 := HS.out.l2.c0
         have y7 := HS.out.l2.c1
         have y8 := HS.out.o2.c0
         have y9 := HS.out.o2.c1
         have y10 := HS.out.o2.c2
         have y11 := HS.out.o2.c3
         have y12 := HS.out.l3.c0
         have y13 := HS.out.l3.c1
         have y14 := HS.out.o3.c0
         have y15 := HS.out.o3.c1
         have y16 := HS.out.o3.c2
         have y17 := HS.out.o3.c3
         have y18 := HS.out.l4.c0
         have y19 := HS.out.l4.c1
         have y20 := HS.out.o4.c0
         have y21 := HS.out.o4.c1
         have y22 := HS.out.o4.c2
         have y23 := HS.out.o4.c3
         clear hb)
      | (go_at_call 28
         refine (implWordOn_any s3 i3 (by unfold maxLen; omega) _).mono ?_
         rintro e W7 ⟨rfl, hb⟩
         rw [← KO.out]
         clear y0 y1 y2 y3 y4 y5 y6 y7 y8 y9 y10 y11 y12 y13 y14 y15 y16 y17 y18 y19 y20 y21 y22 y23
         have HS := Lib.hid (HS.out.below hb)
         have y0 := HS.out.l1.c0
         have y1 := HS.out.l1.c1
         have y2 := HS.out.o1.c0
         have y3 := HS.out.o1.c1
         have y4 := HS.out.o1.c2
         have y5 := HS.out.o1.c3
         have y6 := HS.out.l2.c0
         have y7 := HS.out.l2.c1
         have y8 := HS.out.o2.c0
         have y9 := HS.out.o2.c1
         have y10 := HS.out.o2.c2
         have y11 := HS.out.o2.c3
         have y12 := HS.out.l3.c0
         have y13 := HS.out.l3.c1
         have y14 := HS.out.o3.c0
         have y15 := HS.out.o3.c1
         have y16 := HS.out.o3.c2
         have y17 := HS.out.o3.c3
         have y18 := HS.out.l4.c0
         have y19 := HS.out.l4.c1
         have y20 := HS.out.o4.c0
         have y21 := HS.out.o4.c1
         have y22 := HS.out.o4.c2
         have y23 := HS.out.o4.c3
         clear hb)
      | (go_at_call 29
         refine (specWordOn_any s3 i3 (by unfold maxLen; omega) _).mono ?_
         rintro e W7 ⟨rfl, hb⟩
         rw [← KO.out]
         clear y0 y1 y2 y3 y4 y5 y6 y7 y8 y9 y10 y11 y12 y13 y14 y15 y16 y17 y18 y19 y20 y21 y22 y23
         have HS := Lib.hid (HS.out.below hb)
         have y0 := HS.out.l1.c0
         have y1 := HS.out.l1.c1
         have y2 := HS.out.o1.c0
         have y3 := HS.out.o1.c1
         have y4 := HS.out.o1.c2
         have y5 := HS.out.o1.c3
         have y6 := HS.out.l2.c0
         have y7 := HS.out.l2.c1
         have y8 := HS.out.o2.c0
         have y9 := HS.out.o2.c1
         have y10 := HS.out.o2.c2
         have y11 := HS.out.o2.c3
         have y12 := HS.out.l3.c0
         have y13 := HS.out.l3.c1
         have y14 := HS.out.o3.c0
         have y15 := HS.out.o3.c1
         have y16 := HS.out.o3.c2
         have y17 := HS.out.o3.c3
         have y18 := HS.out.l4.c0
         have y19 := HS.out.l4.c1
         have y20 := HS.out.o4.c0
         have y21 := HS.out.o4.c1
         have y22 := HS.out.o4.c2
         have y23 := HS.out.o4.c3
         clear hb)
      | (go_at_call 30
         refine (implLine_any s1 i1 (by unfold maxLen; omega) _).mono ?_
         rintro e W7 ⟨rfl, hb⟩
         rw [← LB.out]
         clear y0 y1 y2 y3 y4 y5 y6 y7 y8 y9 y10 y11 y12 y13 y14 y15 y16 y17 y18 y19 y20 y21 y22 y23
         have HS := Lib.hid (HS.out.below hb)
         have y0 := HS.out.l1.c0
         have y1 := HS.out.l1.c1
         have y2 := HS.out.o1.c0
         have y3 := HS.out.o1.c1
         have y4 := HS.out.o1.c2
         have y5 := HS.out.o1.c3
         have y6 := HS.out.l2.c0
         have y7 := HS.out.l2.c1
         have y8 := HS.out.o2.c0
         have y9 := HS.out.o2.c1
         have y10 := HS.out.o2.c2
         have y11 := HS.out.o2.c3
         have y12 := HS.out.l3.c0
         have y13 := HS.out.l3.c1
         have y14 := HS.out.o3.c0
         have y15 := HS.out.o3.c1
         have y16 := HS.out.o3.c2
         have y17 := HS.out.o3.c3
         have y18 := HS.out.l4.c0
         have y19 := HS.out.l4.c1
         have y20 := HS.out.o4.c0
         have y21 := HS.out.o4.c1
         have y22 := HS.out.o4.c2
         have y23 := HS.out.o4.c3
         clear hb)
      | (go_at_call 31
         refine (specLine_any s1 i1 (by unfold maxLen; omega) _).mono ?_
         rintro e W7 ⟨rfl, hb⟩
         rw [← LB.out]
         clear y0 y1 y2 y3 y4 y5 y6 y7 y8 y9 y10 y11 y12 y13 y14 y15 y16 y17 y18 y19 y20 y21 y22 y23
         have HS := Lib.hid (HS.out.below hb)
         have y0 := HS.out.l1.c0
         have y1 := HS.out.l1.c1
         have y2 := HS.out.o1.c0
         have y3 := HS.out.o1.c1
         have y4 := HS.out.o1.c2
         have y5 := HS.out.o1.c3
         have y6 := HS.out.l2.c0
         have y7 := HS.out.l2.c1
         have y8 := HS.out.o2.c0
         have y9 := HS.out.o2.c1
         have y10 := HS.out.o2.c2
         have y11 := HS.out.o2.c3
         have y12 := HS.out.l3.c0
         have y13 := HS.out.l3.c1
         have y14 := HS.out.o3.c0
         have y15 := HS.out.o3.c1
         have y16 := HS.out.o3.c2
         have y17 := HS.out.o3.c3
         have y18 := HS.out.l4.c0
         have y19 := HS.out.l4.c1
         have y20 := HS.out.o4.c0
         have y21 := HS.out.o4.c1
         have y22 := HS.out.o4.c2
         have y23 := HS.out.o4.c3
         clear hb)
      | (go_at_call 32
         refine (implRight_any t1 (by unfold maxLen; omega) _).mono ?_
         rintro e W7 ⟨rfl, hb⟩
         rw [← TB.out]
         clear y0 y1 y2 y3 y4 y5 y6 y7 y8 y9 y10 y11 y12 y13 y14 y15 y16 y17 y18 y19 y20 y21 y22 y23
         have HS := Lib.hid (HS.out.below hb)
         have y0 := HS.out.l1.c0
         have y1 := HS.out.l1.c1
         have y2 := HS.out.o1.c0
         have y3 := HS.out.o1.c1
         have y4 := HS.out.o1.c2
         have y5 := HS.out.o1.c3
         have y6 := HS.out.l2.c0
         have y7 := HS.out.l2.c1
         have y8 := HS.out.o2.c0
         have y9 := HS.out.o2.c1
         have y10 := HS.out.o2.c2
         have y11 := HS.out.o2.c3
         have y12 := HS.out.l3.c0
         have y13 := HS.out.l3.c1
         have y14 := HS.out.o3.c0
         have y15 := HS.out.o3.c1
         have y16 := HS.out.o3.c2
         have y17 := HS.out.o3.c3
         have y18 := HS.out.l4.c0
         have y19 := HS.out.l4.c1
         have y20 := HS.out.o4.c0
         have y21 := HS.out.o4.c1
         have y22 := HS.out.o4.c2
         have y23 := HS.out.o4.c3
         clear hb)
      | (go_at_call 33
         refine (specRight_any t1 (by unfold maxLen; omega) _).mono ?_
         rintro e W7 ⟨rfl, rfl⟩
         rw [← TB.out]))
  refine absW (P := fun W => Exit.then _ _ .normal _ W) (fun W' => FL w b1 d1 b2 d2 b3 d3 b4 d4 s1 i1 x1 j1 g1 c1 s2 i2 x2 j2 g2 c2 s3 i3 x3 j3 g3 c3 s4 i4 x4 j4 g4 c4 W') HS.out (fun W8 h8 => ?_)
  clear y0 y1 y2 y3 y4 y5 y6 y7 y8 y9 y10 y11 y12 y13 y14 y15 y16 y17 y18 y19 y20 y21 y22 y23
  clear HS
  have HS := Lib.hid h8
  clear h8
  have y0 := HS.out.l1.c0
  have y1 := HS.out.l1.c1
  have y2 := HS.out.o1.c0
  have y3 := HS.out.o1.c1
  have y4 := HS.out.o1.c2
  have y5 := HS.out.o1.c3
  go_wp2_with fail
  by_cases hc1 : c1 = 0
  · subst hc1
    have hx := Z1.out rfl
    have BK := Lib.hid (insV_back V1.out)
    have hf1 : ∀ W : World, (Instr.field 39 (.agg #[.string s1, .int .i64 i1, .string t1, .int .i64 0]) 0).run Tryd.prog W = .ok (.agg #[.string s1, .int .i64 i1]) W := fun _ => by kernel_rfl
    have hf2 : ∀ W : World, (Instr.field 39 (.agg #[.string s1, .int .i64 i1, .string t1, .int .i64 0]) 1).run Tryd.prog W = .ok (.string t1) W := fun _ => by kernel_rfl
    have HS := Lib.hid (HS.out.below (drew_below _))
    go_region_held3 (fun w' => w'.cell? ⟨b1, 0, none⟩ = some (.string s1) ∧ w'.cell? ⟨b1, 1, none⟩ = some (.int .i64 i1) ∧ w'.cell? ⟨d1, 0, none⟩ = some (.string x1) ∧ w'.cell? ⟨d1, 1, none⟩ = some (.int .i64 j1) ∧ w'.cell? ⟨d1, 2, none⟩ = some (.string g1) ∧ w'.cell? ⟨d1, 3, none⟩ = some (.int .i64 0)) (go_keep)
      (first
        | (go_at_call 16
           refine (implEra_any x1 j1 i1 j1 hx _).mono ?_
           rintro e W7 ⟨rfl, hb⟩
           rw [BK.out]
           clear y0 y1 y2 y3 y4 y5
           have HS := Lib.hid (HS.out.below hb)
           have y0 := HS.out.l1.c0
           have y1 := HS.out.l1.c1
           have y2 := HS.out.o1.c0
           have y3 := HS.out.o1.c1
           have y4 := HS.out.o1.c2
           have y5 := HS.out.o1.c3
           clear hb))
    clear y0 y1 y2 y3 y4 y5
    have y6 := HS.out.l2.c0
    have y7 := HS.out.l2.c1
    have y8 := HS.out.o2.c0
    have y9 := HS.out.o2.c1
    have y10 := HS.out.o2.c2
    have y11 := HS.out.o2.c3
    go_wp2_with fail
    by_cases hc2 : c2 = 0
    · subst hc2
      have hx := Z2.out rfl
      obtain ⟨jj, ee, cc, hB⟩ := eraV_back V2.out
      have BK := Lib.hid hB
      clear hB
      have hg : g2.size ≤ maxLen := by
        obtain ⟨_, m, n, _, _, _, _, _, _, _, _, _, rfl⟩ := eraV_ok V2.out
        rw [ByteArray.size_extract]; unfold maxLen; omega
      have hf1 : ∀ W : World, (Instr.field 39 (.agg #[.string s2, .int .i64 jj, .string ee, .int .i64 cc]) 0).run Tryd.prog W = .ok (.agg #[.string s2, .int .i64 jj]) W := fun _ => by kernel_rfl
      have hf2 : ∀ W : World, (Instr.field 35 (.agg #[.string s2, .int .i64 jj]) 0).run Tryd.prog W = .ok (.string s2) W := fun _ => by kernel_rfl
      have HS := Lib.hid (HS.out.below (drew_below _))
      go_region_held3 (fun w' => w'.cell? ⟨b2, 0, none⟩ = some (.string s2) ∧ w'.cell? ⟨b2, 1, none⟩ = some (.int .i64 i2) ∧ w'.cell? ⟨d2, 0, none⟩ = some (.string x2) ∧ w'.cell? ⟨d2, 1, none⟩ = some (.int .i64 j2) ∧ w'.cell? ⟨d2, 2, none⟩ = some (.string g2) ∧ w'.cell? ⟨d2, 3, none⟩ = some (.int .i64 0)) (go_keep)
        (first
          | (go_at_call 14
             refine (implIns_any x2 f2 g2 hx hg _).mono ?_
             rintro e W7 ⟨rfl, hb⟩
             rw [BK.out]
             clear y6 y7 y8 y9 y10 y11
             have HS := Lib.hid (HS.out.below hb)
             have y6 := HS.out.l2.c0
             have y7 := HS.out.l2.c1
             have y8 := HS.out.o2.c0
             have y9 := HS.out.o2.c1
             have y10 := HS.out.o2.c2
             have y11 := HS.out.o2.c3
             clear hb))
      clear y6 y7 y8 y9 y10 y11
      have y18 := HS.out.l4.c0
      have y19 := HS.out.l4.c1
      have y20 := HS.out.o4.c0
      have y21 := HS.out.o4.c1
      have y22 := HS.out.o4.c2
      have y23 := HS.out.o4.c3
      go_wp2_with fail
      by_cases hc4 : c4 = 0
      · subst hc4
        have hx := Z4.out rfl
        obtain ⟨jj, ee, cc, hB⟩ := swV_back V4.out
        have BK := Lib.hid hB
        clear hB
        have hwj : IntKind.i64.wrap (j4 - 1) = j4 - 1 := by
          obtain ⟨m, hm, _, _, rfl⟩ := swV_ok V4.out
          exact IntWalk.i64_in _ (by omega)
        have hf1 : ∀ W : World, (Instr.field 39 (.agg #[.string s4, .int .i64 jj, .string ee, .int .i64 cc]) 0).run Tryd.prog W = .ok (.agg #[.string s4, .int .i64 jj]) W := fun _ => by kernel_rfl
        have hf2 : ∀ W : World, (Instr.field 35 (.agg #[.string s4, .int .i64 jj]) 0).run Tryd.prog W = .ok (.string s4) W := fun _ => by kernel_rfl
        have HS := Lib.hid (HS.out.below (drew_below _))
        go_region_held3 (fun w' => w'.cell? ⟨b4, 0, none⟩ = some (.string s4) ∧ w'.cell? ⟨b4, 1, none⟩ = some (.int .i64 i4) ∧ w'.cell? ⟨d4, 0, none⟩ = some (.string x4) ∧ w'.cell? ⟨d4, 1, none⟩ = some (.int .i64 j4) ∧ w'.cell? ⟨d4, 2, none⟩ = some (.string g4) ∧ w'.cell? ⟨d4, 3, none⟩ = some (.int .i64 0)) (go_keep)
          (first
            | (go_at_call 20
               refine (implSwap_any x4 (j4 - 1) hx _).mono ?_
               rintro e W7 ⟨rfl, hb⟩
               rw [BK.out]
               clear y18 y19 y20 y21 y22 y23
               have HS := Lib.hid (HS.out.below hb)
               have y18 := HS.out.l4.c0
               have y19 := HS.out.l4.c1
               have y20 := HS.out.o4.c0
               have y21 := HS.out.o4.c1
               have y22 := HS.out.o4.c2
               have y23 := HS.out.o4.c3
               clear hb))
        clear y18 y19 y20 y21 y22 y23
        have y12 := HS.out.l3.c0
        have y13 := HS.out.l3.c1
        have y14 := HS.out.o3.c0
        have y15 := HS.out.o3.c1
        have y16 := HS.out.o3.c2
        have y17 := HS.out.o3.c3
        by_cases hc3 : c3 = 0
        · subst hc3
          obtain ⟨hz3, hlt3, _⟩ := caseV_ok V3.out
          go_wp2
          go_ret
          exact ⟨rfl, HS.out.bel⟩
        · have d : (c3 != 0) = true := by simpa using hc3
          go_wp2
          go_ret
          exact ⟨rfl, HS.out.bel⟩
      · have d : (c4 == 0) = false := by simpa using hc4
        go_quiet (fail)
        refine absW (P := fun W => Exit.then _ _ .normal _ W) (fun W' => FL w b1 d1 b2 d2 b3 d3 b4 d4 s1 i1 x1 j1 g1 0 s2 i2 x2 j2 g2 0 s3 i3 x3 j3 g3 c3 s4 i4 x4 j4 g4 c4 W') (HS.out.below ⟨rfl, rfl, rfl, Nat.le_refl _, fun _ _ => rfl⟩) (fun W9 h9 => ?_)
        clear HS
        have HS := Lib.hid h9
        clear h9
        clear y18 y19 y20 y21 y22 y23
        have y12 := HS.out.l3.c0
        have y13 := HS.out.l3.c1
        have y14 := HS.out.o3.c0
        have y15 := HS.out.o3.c1
        have y16 := HS.out.o3.c2
        have y17 := HS.out.o3.c3
        by_cases hc3 : c3 = 0
        · subst hc3
          obtain ⟨hz3, hlt3, _⟩ := caseV_ok V3.out
          go_wp2
          go_ret
          exact ⟨rfl, HS.out.bel⟩
        · have d : (c3 != 0) = true := by simpa using hc3
          go_wp2
          go_ret
          exact ⟨rfl, HS.out.bel⟩
    · have d : (c2 == 0) = false := by simpa using hc2
      go_quiet (fail)
      refine absW (P := fun W => Exit.then _ _ .normal _ W) (fun W' => FL w b1 d1 b2 d2 b3 d3 b4 d4 s1 i1 x1 j1 g1 0 s2 i2 x2 j2 g2 c2 s3 i3 x3 j3 g3 c3 s4 i4 x4 j4 g4 c4 W') (HS.out.below ⟨rfl, rfl, rfl, Nat.le_refl _, fun _ _ => rfl⟩) (fun W9 h9 => ?_)
      clear HS
      have HS := Lib.hid h9
      clear h9
      clear y6 y7 y8 y9 y10 y11
      have y18 := HS.out.l4.c0
      have y19 := HS.out.l4.c1
      have y20 := HS.out.o4.c0
      have y21 := HS.out.o4.c1
      have y22 := HS.out.o4.c2
      have y23 := HS.out.o4.c3
      go_wp2_with fail
      by_cases hc4 : c4 = 0
      · subst hc4
        have hx := Z4.out rfl
        obtain ⟨jj, ee, cc, hB⟩ := swV_back V4.out
        have BK := Lib.hid hB
        clear hB
        have hwj : IntKind.i64.wrap (j4 - 1) = j4 - 1 := by
          obtain ⟨m, hm, _, _, rfl⟩ := swV_ok V4.out
          exact IntWalk.i64_in _ (by omega)
        have hf1 : ∀ W : World, (Instr.field 39 (.agg #[.string s4, .int .i64 jj, .string ee, .int .i64 cc]) 0).run Tryd.prog W = .ok (.agg #[.string s4, .int .i64 jj]) W := fun _ => by kernel_rfl
        have hf2 : ∀ W : World, (Instr.field 35 (.agg #[.string s4, .int .i64 jj]) 0).run Tryd.prog W = .ok (.string s4) W := fun _ => by kernel_rfl
        have HS := Lib.hid (HS.out.below (drew_below _))
        go_region_held3 (fun w' => w'.cell? ⟨b4, 0, none⟩ = some (.string s4) ∧ w'.cell? ⟨b4, 1, none⟩ = some (.int .i64 i4) ∧ w'.cell? ⟨d4, 0, none⟩ = some (.string x4) ∧ w'.cell? ⟨d4, 1, none⟩ = some (.int .i64 j4) ∧ w'.cell? ⟨d4, 2, none⟩ = some (.string g4) ∧ w'.cell? ⟨d4, 3, none⟩ = some (.int .i64 0)) (go_keep)
          (first
            | (go_at_call 20
               refine (implSwap_any x4 (j4 - 1) hx _).mono ?_
               rintro e W7 ⟨rfl, hb⟩
               rw [BK.out]
               clear y18 y19 y20 y21 y22 y23
               have HS := Lib.hid (HS.out.below hb)
               have y18 := HS.out.l4.c0
               have y19 := HS.out.l4.c1
               have y20 := HS.out.o4.c0
               have y21 := HS.out.o4.c1
               have y22 := HS.out.o4.c2
               have y23 := HS.out.o4.c3
               clear hb))
        clear y18 y19 y20 y21 y22 y23
        have y12 := HS.out.l3.c0
        have y13 := HS.out.l3.c1
        have y14 := HS.out.o3.c0
        have y15 := HS.out.o3.c1
        have y16 := HS.out.o3.c2
        have y17 := HS.out.o3.c3
        by_cases hc3 : c3 = 0
        · subst hc3
          obtain ⟨hz3, hlt3, _⟩ := caseV_ok V3.out
          go_wp2
          go_ret
          exact ⟨rfl, HS.out.bel⟩
        · have d : (c3 != 0) = true := by simpa using hc3
          go_wp2
          go_ret
          exact ⟨rfl, HS.out.bel⟩
      · have d : (c4 == 0) = false := by simpa using hc4
        go_quiet (fail)
        refine absW (P := fun W => Exit.then _ _ .normal _ W) (fun W' => FL w b1 d1 b2 d2 b3 d3 b4 d4 s1 i1 x1 j1 g1 0 s2 i2 x2 j2 g2 c2 s3 i3 x3 j3 g3 c3 s4 i4 x4 j4 g4 c4 W') (HS.out.below ⟨rfl, rfl, rfl, Nat.le_refl _, fun _ _ => rfl⟩) (fun W9 h9 => ?_)
        clear HS
        have HS := Lib.hid h9
        clear h9
        clear y18 y19 y20 y21 y22 y23
        have y12 := HS.out.l3.c0
        have y13 := HS.out.l3.c1
        have y14 := HS.out.o3.c0
        have y15 := HS.out.o3.c1
        have y16 := HS.out.o3.c2
        have y17 := HS.out.o3.c3
        by_cases hc3 : c3 = 0
        · subst hc3
          obtain ⟨hz3, hlt3, _⟩ := caseV_ok V3.out
          go_wp2
          go_ret
          exact ⟨rfl, HS.out.bel⟩
        · have d : (c3 != 0) = true := by simpa using hc3
          go_wp2
          go_ret
          exact ⟨rfl, HS.out.bel⟩
  · have d : (c1 == 0) = false := by simpa using hc1
    go_quiet (fail)
    refine absW (P := fun W => Exit.then _ _ .normal _ W) (fun W' => FL w b1 d1 b2 d2 b3 d3 b4 d4 s1 i1 x1 j1 g1 c1 s2 i2 x2 j2 g2 c2 s3 i3 x3 j3 g3 c3 s4 i4 x4 j4 g4 c4 W') (HS.out.below ⟨rfl, rfl, rfl, Nat.le_refl _, fun _ _ => rfl⟩) (fun W9 h9 => ?_)
    clear HS
    have HS := Lib.hid h9
    clear h9
    clear y0 y1 y2 y3 y4 y5
    have y6 := HS.out.l2.c0
    have y7 := HS.out.l2.c1
    have y8 := HS.out.o2.c0
    have y9 := HS.out.o2.c1
    have y10 := HS.out.o2.c2
    have y11 := HS.out.o2.c3
    go_wp2_with fail
    by_cases hc2 : c2 = 0
    · subst hc2
      have hx := Z2.out rfl
      obtain ⟨jj, ee, cc, hB⟩ := eraV_back V2.out
      have BK := Lib.hid hB
      clear hB
      have hg : g2.size ≤ maxLen := by
        obtain ⟨_, m, n, _, _, _, _, _, _, _, _, _, rfl⟩ := eraV_ok V2.out
        rw [ByteArray.size_extract]; unfold maxLen; omega
      have hf1 : ∀ W : World, (Instr.field 39 (.agg #[.string s2, .int .i64 jj, .string ee, .int .i64 cc]) 0).run Tryd.prog W = .ok (.agg #[.string s2, .int .i64 jj]) W := fun _ => by kernel_rfl
      have hf2 : ∀ W : World, (Instr.field 35 (.agg #[.string s2, .int .i64 jj]) 0).run Tryd.prog W = .ok (.string s2) W := fun _ => by kernel_rfl
      have HS := Lib.hid (HS.out.below (drew_below _))
      go_region_held3 (fun w' => w'.cell? ⟨b2, 0, none⟩ = some (.string s2) ∧ w'.cell? ⟨b2, 1, none⟩ = some (.int .i64 i2) ∧ w'.cell? ⟨d2, 0, none⟩ = some (.string x2) ∧ w'.cell? ⟨d2, 1, none⟩ = some (.int .i64 j2) ∧ w'.cell? ⟨d2, 2, none⟩ = some (.string g2) ∧ w'.cell? ⟨d2, 3, none⟩ = some (.int .i64 0)) (go_keep)
        (first
          | (go_at_call 14
             refine (implIns_any x2 f2 g2 hx hg _).mono ?_
             rintro e W7 ⟨rfl, hb⟩
             rw [BK.out]
             clear y6 y7 y8 y9 y10 y11
             have HS := Lib.hid (HS.out.below hb)
             have y6 := HS.out.l2.c0
             have y7 := HS.out.l2.c1
             have y8 := HS.out.o2.c0
             have y9 := HS.out.o2.c1
             have y10 := HS.out.o2.c2
             have y11 := HS.out.o2.c3
             clear hb))
      clear y6 y7 y8 y9 y10 y11
      have y18 := HS.out.l4.c0
      have y19 := HS.out.l4.c1
      have y20 := HS.out.o4.c0
      have y21 := HS.out.o4.c1
      have y22 := HS.out.o4.c2
      have y23 := HS.out.o4.c3
      go_wp2_with fail
      by_cases hc4 : c4 = 0
      · subst hc4
        have hx := Z4.out rfl
        obtain ⟨jj, ee, cc, hB⟩ := swV_back V4.out
        have BK := Lib.hid hB
        clear hB
        have hwj : IntKind.i64.wrap (j4 - 1) = j4 - 1 := by
          obtain ⟨m, hm, _, _, rfl⟩ := swV_ok V4.out
          exact IntWalk.i64_in _ (by omega)
        have hf1 : ∀ W : World, (Instr.field 39 (.agg #[.string s4, .int .i64 jj, .string ee, .int .i64 cc]) 0).run Tryd.prog W = .ok (.agg #[.string s4, .int .i64 jj]) W := fun _ => by kernel_rfl
        have hf2 : ∀ W : World, (Instr.field 35 (.agg #[.string s4, .int .i64 jj]) 0).run Tryd.prog W = .ok (.string s4) W := fun _ => by kernel_rfl
        have HS := Lib.hid (HS.out.below (drew_below _))
        go_region_held3 (fun w' => w'.cell? ⟨b4, 0, none⟩ = some (.string s4) ∧ w'.cell? ⟨b4, 1, none⟩ = some (.int .i64 i4) ∧ w'.cell? ⟨d4, 0, none⟩ = some (.string x4) ∧ w'.cell? ⟨d4, 1, none⟩ = some (.int .i64 j4) ∧ w'.cell? ⟨d4, 2, none⟩ = some (.string g4) ∧ w'.cell? ⟨d4, 3, none⟩ = some (.int .i64 0)) (go_keep)
          (first
            | (go_at_call 20
               refine (implSwap_any x4 (j4 - 1) hx _).mono ?_
               rintro e W7 ⟨rfl, hb⟩
               rw [BK.out]
               clear y18 y19 y20 y21 y22 y23
               have HS := Lib.hid (HS.out.below hb)
               have y18 := HS.out.l4.c0
               have y19 := HS.out.l4.c1
               have y20 := HS.out.o4.c0
               have y21 := HS.out.o4.c1
               have y22 := HS.out.o4.c2
               have y23 := HS.out.o4.c3
               clear hb))
        clear y18 y19 y20 y21 y22 y23
        have y12 := HS.out.l3.c0
        have y13 := HS.out.l3.c1
        have y14 := HS.out.o3.c0
        have y15 := HS.out.o3.c1
        have y16 := HS.out.o3.c2
        have y17 := HS.out.o3.c3
        by_cases hc3 : c3 = 0
        · subst hc3
          obtain ⟨hz3, hlt3, _⟩ := caseV_ok V3.out
          go_wp2
          go_ret
          exact ⟨rfl, HS.out.bel⟩
        · have d : (c3 != 0) = true := by simpa using hc3
          go_wp2
          go_ret
          exact ⟨rfl, HS.out.bel⟩
      · have d : (c4 == 0) = false := by simpa using hc4
        go_quiet (fail)
        refine absW (P := fun W => Exit.then _ _ .normal _ W) (fun W' => FL w b1 d1 b2 d2 b3 d3 b4 d4 s1 i1 x1 j1 g1 c1 s2 i2 x2 j2 g2 0 s3 i3 x3 j3 g3 c3 s4 i4 x4 j4 g4 c4 W') (HS.out.below ⟨rfl, rfl, rfl, Nat.le_refl _, fun _ _ => rfl⟩) (fun W9 h9 => ?_)
        clear HS
        have HS := Lib.hid h9
        clear h9
        clear y18 y19 y20 y21 y22 y23
        have y12 := HS.out.l3.c0
        have y13 := HS.out.l3.c1
        have y14 := HS.out.o3.c0
        have y15 := HS.out.o3.c1
        have y16 := HS.out.o3.c2
        have y17 := HS.out.o3.c3
        by_cases hc3 : c3 = 0
        · subst hc3
          obtain ⟨hz3, hlt3, _⟩ := caseV_ok V3.out
          go_wp2
          go_ret
          exact ⟨rfl, HS.out.bel⟩
        · have d : (c3 != 0) = true := by simpa using hc3
          go_wp2
          go_ret
          exact ⟨rfl, HS.out.bel⟩
    · have d : (c2 == 0) = false := by simpa using hc2
      go_quiet (fail)
      refine absW (P := fun W => Exit.then _ _ .normal _ W) (fun W' => FL w b1 d1 b2 d2 b3 d3 b4 d4 s1 i1 x1 j1 g1 c1 s2 i2 x2 j2 g2 c2 s3 i3 x3 j3 g3 c3 s4 i4 x4 j4 g4 c4 W') (HS.out.below ⟨rfl, rfl, rfl, Nat.le_refl _, fun _ _ => rfl⟩) (fun W9 h9 => ?_)
      clear HS
      have HS := Lib.hid h9
      clear h9
      clear y6 y7 y8 y9 y10 y11
      have y18 := HS.out.l4.c0
      have y19 := HS.out.l4.c1
      have y20 := HS.out.o4.c0
      have y21 := HS.out.o4.c1
      have y22 := HS.out.o4.c2
      have y23 := HS.out.o4.c3
      go_wp2_with fail
      by_cases hc4 : c4 = 0
      · subst hc4
        have hx := Z4.out rfl
        obtain ⟨jj, ee, cc, hB⟩ := swV_back V4.out
        have BK := Lib.hid hB
        clear hB
        have hwj : IntKind.i64.wrap (j4 - 1) = j4 - 1 := by
          obtain ⟨m, hm, _, _, rfl⟩ := swV_ok V4.out
          exact IntWalk.i64_in _ (by omega)
        have hf1 : ∀ W : World, (Instr.field 39 (.agg #[.string s4, .int .i64 jj, .string ee, .int .i64 cc]) 0).run Tryd.prog W = .ok (.agg #[.string s4, .int .i64 jj]) W := fun _ => by kernel_rfl
        have hf2 : ∀ W : World, (Instr.field 35 (.agg #[.string s4, .int .i64 jj]) 0).run Tryd.prog W = .ok (.string s4) W := fun _ => by kernel_rfl
        have HS := Lib.hid (HS.out.below (drew_below _))
        go_region_held3 (fun w' => w'.cell? ⟨b4, 0, none⟩ = some (.string s4) ∧ w'.cell? ⟨b4, 1, none⟩ = some (.int .i64 i4) ∧ w'.cell? ⟨d4, 0, none⟩ = some (.string x4) ∧ w'.cell? ⟨d4, 1, none⟩ = some (.int .i64 j4) ∧ w'.cell? ⟨d4, 2, none⟩ = some (.string g4) ∧ w'.cell? ⟨d4, 3, none⟩ = some (.int .i64 0)) (go_keep)
          (first
            | (go_at_call 20
               refine (implSwap_any x4 (j4 - 1) hx _).mono ?_
               rintro e W7 ⟨rfl, hb⟩
               rw [BK.out]
               clear y18 y19 y20 y21 y22 y23
               have HS := Lib.hid (HS.out.below hb)
               have y18 := HS.out.l4.c0
               have y19 := HS.out.l4.c1
               have y20 := HS.out.o4.c0
               have y21 := HS.out.o4.c1
               have y22 := HS.out.o4.c2
               have y23 := HS.out.o4.c3
               clear hb))
        clear y18 y19 y20 y21 y22 y23
        have y12 := HS.out.l3.c0
        have y13 := HS.out.l3.c1
        have y14 := HS.out.o3.c0
        have y15 := HS.out.o3.c1
        have y16 := HS.out.o3.c2
        have y17 := HS.out.o3.c3
        by_cases hc3 : c3 = 0
        · subst hc3
          obtain ⟨hz3, hlt3, _⟩ := caseV_ok V3.out
          go_wp2
          go_ret
          exact ⟨rfl, HS.out.bel⟩
        · have d : (c3 != 0) = true := by simpa using hc3
          go_wp2
          go_ret
          exact ⟨rfl, HS.out.bel⟩
      · have d : (c4 == 0) = false := by simpa using hc4
        go_quiet (fail)
        refine absW (P := fun W => Exit.then _ _ .normal _ W) (fun W' => FL w b1 d1 b2 d2 b3 d3 b4 d4 s1 i1 x1 j1 g1 c1 s2 i2 x2 j2 g2 c2 s3 i3 x3 j3 g3 c3 s4 i4 x4 j4 g4 c4 W') (HS.out.below ⟨rfl, rfl, rfl, Nat.le_refl _, fun _ _ => rfl⟩) (fun W9 h9 => ?_)
        clear HS
        have HS := Lib.hid h9
        clear h9
        clear y18 y19 y20 y21 y22 y23
        have y12 := HS.out.l3.c0
        have y13 := HS.out.l3.c1
        have y14 := HS.out.o3.c0
        have y15 := HS.out.o3.c1
        have y16 := HS.out.o3.c2
        have y17 := HS.out.o3.c3
        by_cases hc3 : c3 = 0
        · subst hc3
          obtain ⟨hz3, hlt3, _⟩ := caseV_ok V3.out
          go_wp2
          go_ret
          exact ⟨rfl, HS.out.bel⟩
        · have d : (c3 != 0) = true := by simpa using hc3
          go_wp2
          go_ret
          exact ⟨rfl, HS.out.bel⟩
end Go.Proofs.YtdkdkdbdnfhonaaDoor.line
