/-
  FnKill's walk. Written by wip/tool/gen_fnkill.py. For every two rows of bytes that can be read.
-/
import Derived.Test.YtgmbpohbjhaghaaDrawFnKill
import Derived.Test.YtgmbpohbjhaghaaFnKillMath
import Derived.Test.YtgmbpohbjhaghaaLwKills
import Derived.Test.YtgmbpohbjhaghaaKillWalks
import Derived.Deep.DeepCutAuto
namespace Go.Proofs.Ytgmbpohbjhaghaa.fk
open Go.ChangeShapes Go.WideShapes Go.ChangeAt Go.RowKit
open Go.Proofs.Ytgmbpohbjhaghaa.strs Go.Proofs.Ytgmbpohbjhaghaa.lines Go.Proofs.Ytgmbpohbjhaghaa.line Go.Proofs.Ytgmbpohbjhaghaa.undo Go.Proofs.Ytgmbpohbjhaghaa.kill Go.Proofs.Ytgmbpohbjhaghaa.src Go.Proofs.Ytgmbpohbjhaghaa.lw
/-- what stands through the law -/
structure FS (w : World) (kb xb rb yb ub : Nat) (ak : Option Addr) (nk Ck : Nat) (lk : List ByteArray) (tk : Int) (ax : Option Addr) (nx Cx : Nat) (lx : List ByteArray) (tx : Int) (ar : Option Addr) (nr Cr : Nat) (lr : List ByteArray) (tr : Int) (ay : Option Addr) (Cy : Nat) (ty : Int) (al : Option Addr) (ll : List (ByteArray × Int)) (su : ByteArray) (zu : Int) (az : Option Addr) (lz : List (ByteArray × Int)) (W : World) : Prop where
  k0 : W.cell? ⟨kb, 0, none⟩ = some (.slice ak nk Ck)
  k1 : W.cell? ⟨kb, 1, none⟩ = some (.int .i64 tk)
  x0 : W.cell? ⟨xb, 0, none⟩ = some (.slice ax nx Cx)
  x1 : W.cell? ⟨xb, 1, none⟩ = some (.int .i64 tx)
  r0 : W.cell? ⟨rb, 0, none⟩ = some (.slice ar nr Cr)
  r1 : W.cell? ⟨rb, 1, none⟩ = some (.int .i64 tr)
  y0 : W.cell? ⟨yb, 0, none⟩ = some (.slice ay nr Cy)
  y1 : W.cell? ⟨yb, 1, none⟩ = some (.int .i64 ty)
  u0 : W.cell? ⟨ub, 0, none⟩ = some (.string su)
  u1 : W.cell? ⟨ub, 1, none⟩ = some (.int .i64 zu)
  fy0 : W.frozen? ⟨yb, 0, none⟩ = false
  fy1 : W.frozen? ⟨yb, 1, none⟩ = false
  rk : SRow W ak lk
  rx : SRow W ax lx
  rr : SRow W ar lr
  ry : SRow W ay lr
  rl : LRow W al ll
  rz : LRow W az lz
  bel : Below w.heap.size w W
  nk_ : kb < yb
  nx_ : xb < yb
  nr_ : rb < yb
  nu_ : yb < ub
  wy_ : w.heap.size ≤ yb
section
variable {w W W' : World} {kb xb rb yb ub : Nat} {ak : Option Addr} {nk Ck : Nat} {lk : List ByteArray} {tk : Int} {ax : Option Addr} {nx Cx : Nat} {lx : List ByteArray} {tx : Int} {ar : Option Addr} {nr Cr : Nat} {lr : List ByteArray} {tr : Int} {ay : Option Addr} {Cy : Nat} {ty : Int} {al : Option Addr} {ll : List (ByteArray × Int)} {su : ByteArray} {zu : Int} {az : Option Addr} {lz : List (ByteArray × Int)}
theorem FS.below (h : FS w kb xb rb yb ub ak nk Ck lk tk ax nx Cx lx tx ar nr Cr lr tr ay Cy ty al ll su zu az lz W) (hb : Below W.heap.size W W') : FS w kb xb rb yb ub ak nk Ck lk tk ax nx Cx lx tx ar nr Cr lr tr ay Cy ty al ll su zu az lz W' where
  k0 := by rw [hb.cell (p := ⟨kb, 0, none⟩) (blk_lt h.k0)]; exact h.k0
  k1 := by rw [hb.cell (p := ⟨kb, 1, none⟩) (blk_lt h.k1)]; exact h.k1
  x0 := by rw [hb.cell (p := ⟨xb, 0, none⟩) (blk_lt h.x0)]; exact h.x0
  x1 := by rw [hb.cell (p := ⟨xb, 1, none⟩) (blk_lt h.x1)]; exact h.x1
  r0 := by rw [hb.cell (p := ⟨rb, 0, none⟩) (blk_lt h.r0)]; exact h.r0
  r1 := by rw [hb.cell (p := ⟨rb, 1, none⟩) (blk_lt h.r1)]; exact h.r1
  y0 := by rw [hb.cell (p := ⟨yb, 0, none⟩) (blk_lt h.y0)]; exact h.y0
  y1 := by rw [hb.cell (p := ⟨yb, 1, none⟩) (blk_lt h.y1)]; exact h.y1
  u0 := by rw [hb.cell (p := ⟨ub, 0, none⟩) (blk_lt h.u0)]; exact h.u0
  u1 := by rw [hb.cell (p := ⟨ub, 1, none⟩) (blk_lt h.u1)]; exact h.u1
  fy0 := by rw [hb.frozen (p := ⟨yb, 0, none⟩) (blk_lt h.y0)]; exact h.fy0
  fy1 := by rw [hb.frozen (p := ⟨yb, 1, none⟩) (blk_lt h.y0)]; exact h.fy1
  rk := h.rk.below hb
  rx := h.rx.below hb
  rr := h.rr.below hb
  ry := h.ry.below hb
  rl := h.rl.below hb
  rz := h.rz.below hb
  bel := bthen h.bel hb h.bel.size
  nk_ := h.nk_
  nx_ := h.nx_
  nr_ := h.nr_
  nu_ := h.nu_
  wy_ := h.wy_
theorem srow_set {W : World} {a : Option Addr} {l : List ByteArray} (h : SRow W a l) {b k : Nat} {v u : Value} (hc : W.cell? ⟨b, k, none⟩ = some v) (hv : ∀ s, v ≠ .string s) : SRow (W.setCell ⟨b, k, none⟩ u) a l where
  it hl := by
    obtain ⟨g, o, e, h1⟩ := h.it hl
    refine ⟨g, o, e, fun i hi => ?_⟩
    rw [World.cell?_setCell_other W ⟨b, k, none⟩ ⟨g, o + i, none⟩ u (fun e2 => by
      have := h1 i hi
      rw [← e2, hc] at this
      injection this with this
      exact hv _ this)]
    exact h1 i hi
theorem lrow_set {W : World} {a : Option Addr} {l : List (ByteArray × Int)} (h : LRow W a l) {b : Nat} {u : Value} {a1 : Option Addr} {n1 c1 : Nat} (hc : W.cell? ⟨b, 0, none⟩ = some (.slice a1 n1 c1)) (hz : ∃ z, W.cell? ⟨b, 1, none⟩ = some (.int .i64 z)) {k : Nat} (hk : k = 0 ∨ k = 1) : LRow (W.setCell ⟨b, k, none⟩ u) a l where
  it hl := by
    obtain ⟨g, o, e, h1⟩ := h.it hl
    obtain ⟨z, hz⟩ := hz
    refine ⟨g, o, e, fun i hi => ?_⟩
    obtain ⟨e1, e2⟩ := h1 i hi
    have n0 : ∀ j, j = 0 ∨ j = 1 → (⟨b, j, none⟩ : Addr) ≠ ⟨g, o + i * 2, none⟩ := fun j hj e3 => by
      rcases hj with rfl | rfl
      · rw [← e3, hc] at e1; cases e1
      · rw [← e3, hz] at e1; cases e1
    have n1 : ∀ j, j = 0 ∨ j = 1 → (⟨b, j, none⟩ : Addr) ≠ ⟨g, o + i * 2 + 1, none⟩ := fun j hj e3 => by
      rcases hj with rfl | rfl
      · injection e3 with _ e4; omega
      · injection e3 with e4 e5
        exact n0 0 (.inl rfl) (by rw [e4, show o + i * 2 = 0 by omega])
    rw [World.cell?_setCell_other W ⟨b, k, none⟩ ⟨g, o + i * 2, none⟩ u (n0 k hk), World.cell?_setCell_other W ⟨b, k, none⟩ ⟨g, o + i * 2 + 1, none⟩ u (n1 k hk)]
    exact ⟨e1, e2⟩
theorem FS.setY (h : FS w kb xb rb yb ub ak nk Ck lk tk ax nx Cx lx tx ar nr Cr lr tr ay Cy ty al ll su zu az lz W) {a' : Option Addr} {C' : Nat} {t' : Int} (hr : SRow W a' lr) : FS w kb xb rb yb ub ak nk Ck lk tk ax nx Cx lx tx ar nr Cr lr tr a' C' t' al ll su zu az lz ((W.setCell ⟨yb, 0, none⟩ (.slice a' nr C')).setCell ⟨yb, 1, none⟩ (.int .i64 t')) where
  k0 := (set_other (addr_nb (Nat.ne_of_lt h.nk_))).trans ((set_other (addr_nb (Nat.ne_of_lt h.nk_))).trans h.k0)
  k1 := (set_other (addr_nb (Nat.ne_of_lt h.nk_))).trans ((set_other (addr_nb (Nat.ne_of_lt h.nk_))).trans h.k1)
  x0 := (set_other (addr_nb (Nat.ne_of_lt h.nx_))).trans ((set_other (addr_nb (Nat.ne_of_lt h.nx_))).trans h.x0)
  x1 := (set_other (addr_nb (Nat.ne_of_lt h.nx_))).trans ((set_other (addr_nb (Nat.ne_of_lt h.nx_))).trans h.x1)
  r0 := (set_other (addr_nb (Nat.ne_of_lt h.nr_))).trans ((set_other (addr_nb (Nat.ne_of_lt h.nr_))).trans h.r0)
  r1 := (set_other (addr_nb (Nat.ne_of_lt h.nr_))).trans ((set_other (addr_nb (Nat.ne_of_lt h.nr_))).trans h.r1)
  u0 := (set_other (addr_nb (Nat.ne_of_gt h.nu_))).trans ((set_other (addr_nb (Nat.ne_of_gt h.nu_))).trans h.u0)
  u1 := (set_other (addr_nb (Nat.ne_of_gt h.nu_))).trans ((set_other (addr_nb (Nat.ne_of_gt h.nu_))).trans h.u1)
  y0 := (set_other (addr_ne (by omega))).trans (set_same h.y0)
  y1 := set_same ((set_other (addr_ne (by omega))).trans h.y1)
  fy0 := by rw [World.frozen?_setCell, World.frozen?_setCell]; exact h.fy0
  fy1 := by rw [World.frozen?_setCell, World.frozen?_setCell]; exact h.fy1
  rk := srow_set (srow_set h.rk h.y0 (fun s e => by cases e)) ((set_other (addr_ne (by omega))).trans h.y1) (fun s e => by cases e)
  rx := srow_set (srow_set h.rx h.y0 (fun s e => by cases e)) ((set_other (addr_ne (by omega))).trans h.y1) (fun s e => by cases e)
  rr := srow_set (srow_set h.rr h.y0 (fun s e => by cases e)) ((set_other (addr_ne (by omega))).trans h.y1) (fun s e => by cases e)
  ry := srow_set (srow_set hr h.y0 (fun s e => by cases e)) ((set_other (addr_ne (by omega))).trans h.y1) (fun s e => by cases e)
  rl := lrow_set (lrow_set h.rl h.y0 ⟨_, h.y1⟩ (.inl rfl)) (set_same h.y0) ⟨_, (set_other (addr_ne (by omega))).trans h.y1⟩ (.inr rfl)
  rz := lrow_set (lrow_set h.rz h.y0 ⟨_, h.y1⟩ (.inl rfl)) (set_same h.y0) ⟨_, (set_other (addr_ne (by omega))).trans h.y1⟩ (.inr rfl)
  bel := (h.bel.setCell (p := ⟨yb, 0, none⟩) h.wy_ _).setCell (p := ⟨yb, 1, none⟩) h.wy_ _
  nk_ := h.nk_
  nx_ := h.nx_
  nr_ := h.nr_
  nu_ := h.nu_
  wy_ := h.wy_
end
theorem cell_b {W W' : World} {b i : Nat} {v : Value} (h : W.cell? ⟨b, i, none⟩ = some v) (hb : Below W.heap.size W W') : W'.cell? ⟨b, i, none⟩ = some v := by
  rw [hb.cell (p := ⟨b, i, none⟩) (blk_lt h)]; exact h
theorem froz_b {W W' : World} {b i : Nat} {v : Value} (h : W.cell? ⟨b, i, none⟩ = some v) (f : W.frozen? ⟨b, i, none⟩ = false) (hb : Below W.heap.size W W') : W'.frozen? ⟨b, i, none⟩ = false := by
  rw [hb.frozen (p := ⟨b, i, none⟩) (blk_lt h)]; exact f
theorem left_of (x y : ByteArray) : (x ++ y).extract 0 x.size = x := by
  apply ByteArray.ext
  simp
theorem right_of (y x : ByteArray) : (y ++ x).extract ((y ++ x).size - x.size) (y ++ x).size = x := by
  apply ByteArray.ext
  apply Array.ext'
  have h1 : y.data.toList.length = y.size := rfl
  have h2 : x.data.toList.length = x.size := rfl
  rw [ByteArray.data_extract, Array.toList_extract, List.extract_eq_take_drop, ByteArray.data_append, Array.toList_append, ByteArray.size_append, show y.size + x.size - x.size = y.size by omega, show y.size + x.size - y.size = x.size by omega, ← h1, List.drop_left, ← h2, List.take_length]
theorem top_small {l : List ByteArray} {t : Int} (h : killsB l t = true) : (topV l t).size ≤ 60 := by
  unfold topV
  rw [if_pos h]
  cases e : l[t.toNat]? with
  | none => exact Nat.zero_le _
  | some s => exact killsB_small h s (List.mem_of_getElem? e)
theorem szK {l : List ByteArray} (h : ∀ s ∈ l, s.size ≤ 60) : ∀ s ∈ l, s.size ≤ 1048576 := fun s hs => by have := h s hs; omega
theorem putX_len {l : List ByteArray} {t : Int} {x : ByteArray} {more : Int} (h : l.length ≤ 11) : (specPutV l t x more).1.length ≤ 11 := by
  unfold specPutV
  split
  · rename_i hk
    have := putV_len (t := t) (x := x) (more := more) (killsB_parts hk.1).1
    omega
  · exact h
theorem putX_sz {l : List ByteArray} {t : Int} {x : ByteArray} {more : Int} (hx : x.size ≤ 61) (h : ∀ s ∈ l, s.size ≤ 60) : ∀ s ∈ (specPutV l t x more).1, s.size ≤ 1048576 := fun s hs => by
  unfold specPutV at hs
  split at hs
  · unfold putV at hs
    split at hs
    · have := h s hs; omega
    · rcases mem_trim hs with h1 | h1 | h1
      · have := h s h1; omega
      · rw [h1]; omega
      · have := join_size (more := more) (n := 61) hx (fun s hs => by have := h s hs; omega)
        rw [h1]; omega
  · have := h s hs; omega
theorem undoX_len {l : List (ByteArray × Int)} {s : ByteArray} {z : Int} (h : l.length ≤ 30) : (undoV l s z).length ≤ 31 := by
  unfold undoV
  split
  · rename_i hk
    have := (trimL_len (x := (s, z)) (undosB_len hk.1)).2
    omega
  · omega
theorem undoX_sz {l : List (ByteArray × Int)} {s : ByteArray} {z : Int} (hs : s.size ≤ 61) (h : ∀ y ∈ l, y.1.size ≤ 60) : ∀ y ∈ undoV l s z, y.1.size ≤ 1048576 := fun y hy => by
  unfold undoV at hy
  split at hy
  · rcases trimL_mem hy with h1 | h1
    · have := h y h1; omega
    · rw [h1]; show s.size ≤ _; omega
  · have := h y hy; omega
theorem arr_eq (t : Array Value) (n : Nat) (h : t.size = n) : t = ((List.range n).map fun k => t.getD k undef).toArray := by
  apply Array.ext'
  apply List.ext_getElem
  · simp [h]
  · intro i h1 h2
    simp at h1
    simp [Array.getD, h1]
set_option maxRecDepth 100000 in
theorem frame_open (A : Act) (p : Value → Prop) (v0 v1 v2 v3 v4 v5 v6 v7 v8 v9 v10 v11 v12 v13 v14 v15 : Value) (hd : A.defers = []) (hn : A.tmps.size = 176) (h0 : A.tmps.getD 0 undef = v0) (h1 : A.tmps.getD 1 undef = v1) (h2 : A.tmps.getD 2 undef = v2) (h3 : A.tmps.getD 3 undef = v3) (h4 : A.tmps.getD 4 undef = v4) (h5 : A.tmps.getD 5 undef = v5) (h6 : A.tmps.getD 6 undef = v6) (h7 : A.tmps.getD 7 undef = v7) (h8 : A.tmps.getD 8 undef = v8) (h9 : A.tmps.getD 9 undef = v9) (h10 : A.tmps.getD 10 undef = v10) (h11 : A.tmps.getD 11 undef = v11) (h12 : A.tmps.getD 12 undef = v12) (h13 : A.tmps.getD 13 undef = v13) (h14 : A.tmps.getD 14 undef = v14) (h15 : A.tmps.getD 15 undef = v15) (hp : p (A.tmps.getD 111 undef)) :
    ∃ u16 u17 u18 u19 u20 u21 u22 u23 u24 u25 u26 u27 u28 u29 u30 u31 u32 u33 u34 u35 u36 u37 u38 u39 u40 u41 u42 u43 u44 u45 u46 u47 u48 u49 u50 u51 u52 u53 u54 u55 u56 u57 u58 u59 u60 u61 u62 u63 u64 u65 u66 u67 u68 u69 u70 u71 u72 u73 u74 u75 u76 u77 u78 u79 u80 u81 u82 u83 u84 u85 u86 u87 u88 u89 u90 u91 u92 u93 u94 u95 u96 u97 u98 u99 u100 u101 u102 u103 u104 u105 u106 u107 u108 u109 u110 u111 u112 u113 u114 u115 u116 u117 u118 u119 u120 u121 u122 u123 u124 u125 u126 u127 u128 u129 u130 u131 u132 u133 u134 u135 u136 u137 u138 u139 u140 u141 u142 u143 u144 u145 u146 u147 u148 u149 u150 u151 u152 u153 u154 u155 u156 u157 u158 u159 u160 u161 u162 u163 u164 u165 u166 u167 u168 u169 u170 u171 u172 u173 u174 u175 : Value, p u111 ∧ A = { tmps := #[v0, v1, v2, v3, v4, v5, v6, v7, v8, v9, v10, v11, v12, v13, v14, v15, u16, u17, u18, u19, u20, u21, u22, u23, u24, u25, u26, u27, u28, u29, u30, u31, u32, u33, u34, u35, u36, u37, u38, u39, u40, u41, u42, u43, u44, u45, u46, u47, u48, u49, u50, u51, u52, u53, u54, u55, u56, u57, u58, u59, u60, u61, u62, u63, u64, u65, u66, u67, u68, u69, u70, u71, u72, u73, u74, u75, u76, u77, u78, u79, u80, u81, u82, u83, u84, u85, u86, u87, u88, u89, u90, u91, u92, u93, u94, u95, u96, u97, u98, u99, u100, u101, u102, u103, u104, u105, u106, u107, u108, u109, u110, u111, u112, u113, u114, u115, u116, u117, u118, u119, u120, u121, u122, u123, u124, u125, u126, u127, u128, u129, u130, u131, u132, u133, u134, u135, u136, u137, u138, u139, u140, u141, u142, u143, u144, u145, u146, u147, u148, u149, u150, u151, u152, u153, u154, u155, u156, u157, u158, u159, u160, u161, u162, u163, u164, u165, u166, u167, u168, u169, u170, u171, u172, u173, u174, u175], defers := [] } := by
  obtain ⟨t, d⟩ := A
  dsimp only at hd
  subst hd h0 h1 h2 h3 h4 h5 h6 h7 h8 h9 h10 h11 h12 h13 h14 h15
  exact ⟨_, _, _, _, _, _, _, _, _, _, _, _, _, _, _, _, _, _, _, _, _, _, _, _, _, _, _, _, _, _, _, _, _, _, _, _, _, _, _, _, _, _, _, _, _, _, _, _, _, _, _, _, _, _, _, _, _, _, _, _, _, _, _, _, _, _, _, _, _, _, _, _, _, _, _, _, _, _, _, _, _, _, _, _, _, _, _, _, _, _, _, _, _, _, _, _, _, _, _, _, _, _, _, _, _, _, _, _, _, _, _, _, _, _, _, _, _, _, _, _, _, _, _, _, _, _, _, _, _, _, _, _, _, _, _, _, _, _, _, _, _, _, _, _, _, _, _, _, _, _, _, _, _, _, _, _, _, _, _, _, hp, congrArg (fun z => ({ tmps := z, defers := [] } : Act)) (arr_eq t 176 hn)⟩
set_option maxHeartbeats 12800000 in
set_option maxRecDepth 100000 in
theorem walkFnKill (a0 : Option Addr) (n0 C0 : Nat) (a1 : Option Addr) (n1 C1 : Nat) (w : World) (h0 : BytesA w.heap.size a0 n0 w) (h1 : BytesA w.heap.size a1 n1 w) :
    Calls Try.prog 3 #[.slice a0 n0 C0, .slice a1 n1 C1] w fun e w' => e = .returned (.bool true) ∧ Below w.heap.size w w' := by
  by_cases hn0 : (1048576 : Int) < n0
  · go_enter Try.func3, Try.ntmps3
    go_wp2
    go_ret
    exact ⟨rfl, Below.refl _ _⟩
  by_cases hn1 : (1048576 : Int) < n1
  · go_enter Try.func3, Try.ntmps3
    go_wp2
    go_ret
    exact ⟨rfl, Below.refl _ _⟩
  have H0 := Lib.hid h0
  have H1 := Lib.hid (fun W (hb : Below w.heap.size w W) => h1.below hb)
  have HD1 := Lib.hid (drawPut_any w.heap.size a0 n0 C0 (by omega) w (Nat.le_refl _) h0)
  unfold kV at HD1
  clear h0 h1
  go_enter Try.func3, Try.ntmps3
  go_wp2_with fail
  refine HD1.out.mono ?_
  rintro e w1 ⟨ak, Ck, lk, tk, x, m, rfl, hg, hx, hm, hb⟩
  have HGK := Lib.hid hg
  have HXS := Lib.hid hx
  have HM := Lib.hid hm
  have hal := (Below.refl _ w1).alloc (Nat.le_refl _) (.cells #[.slice ak lk.length Ck, .int .i64 tk] 25)
  have HB1 := Lib.hid (bthen hb hal hb.size)
  have HRK := Lib.hid (hg.row.below hal)
  have HPI := Lib.hid (implPut_any ak Ck lk tk x m (by omega) (by have := hg.ln; omega) (szK hg.sz) hg.le (fun e => (hg.nil e).2) _ (hg.row.below hal))
  have HPS := Lib.hid (fun W (h : SRow W ak lk) => specPut_any ak Ck lk tk x m hg.nil (by have := hg.ln; omega) (szK hg.sz) (by omega) W h)
  have HTI := Lib.hid (fun W (h : SRow W ak lk) => implTop_any ak Ck lk tk (by have := hg.ln; omega) (szK hg.sz) W h)
  have HTS := Lib.hid (fun W (h : SRow W ak lk) => specTop_any ak Ck lk tk (by have := hg.ln; omega) (szK hg.sz) W h)
  have HKI := Lib.hid (fun W (h : SRow W ak lk) => implKR_any ak Ck lk tk (by have := hg.ln; omega) (fun s hs => by have := hg.sz s hs; unfold maxLen; omega) W h)
  have HKS := Lib.hid (fun W (h : SRow W ak lk) => specKills_any ak Ck lk tk (by have := hg.ln; omega) (fun s hs => by have := hg.sz s hs; unfold maxLen; omega) W h)
  have hxl : (specPutV lk tk x m).1.length ≤ 11 := putX_len hg.ln
  have hxz : ∀ s ∈ (specPutV lk tk x m).1, s.size ≤ 1048576 := putX_sz hx hg.sz
  have HPT := Lib.hid (fun hk hxt h0 => put_top (l := lk) (t := tk) (x := x) (more := m) hk hxt h0)
  obtain ⟨⟨lx, tx⟩, hX⟩ : ∃ X, X = specPutV lk tk x m := ⟨_, rfl⟩
  rw [← hX] at HPI HPS hxl hxz HPT
  dsimp only at HPI HPS hxl hxz HPT
  have HLWX := Lib.hid (fun a b C D W (ha : SRow W a lx) (hb : SRow W b lx) => lwKills_same a b C D lx tx (by omega) W ha hb)
  have HXTI := Lib.hid (fun a C W (h : SRow W a lx) => implTop_any a C lx tx (by omega) hxz W h)
  have HXKS := Lib.hid (fun a C W (h : SRow W a lx) => specKills_any a C lx tx (by omega) (fun s hs => by have := hxz s hs; unfold maxLen; omega) W h)
  have HTXS := Lib.hid (specRight_any x (by unfold maxLen; omega))
  obtain ⟨nk, hnk⟩ : ∃ n, n = lk.length := ⟨_, rfl⟩
  obtain ⟨nx, hnx⟩ : ∃ n, n = lx.length := ⟨_, rfl⟩
  obtain ⟨BK, hBK⟩ : ∃ B, B = killsB lk tk := ⟨_, rfl⟩
  obtain ⟨TK, hTK⟩ : ∃ B, B = topV lk tk := ⟨_, rfl⟩
  rw [← hnk, ← hnx] at HPI HPS
  rw [← hnk] at HB1 HRK HTI HTS HKI HKS ⊢
  rw [← hnx] at HLWX HXTI HXKS
  rw [← hBK] at HKI HKS
  rw [← hTK] at HTI HTS
  have HBK := Lib.hid hBK
  have HNX := Lib.hid hnx
  unfold kV at HPI HPS HTI HTS HKI HKS HLWX HXTI HXKS
  clear hal hb hg hx hm hX hnk hnx hBK hTK HD1 hxl hxz
  go_wp2_with fail
  refine HPI.out.mono ?_
  rintro e w2 ⟨ax, Cx, rfl, hr, hs, hb⟩
  have hal := (Below.refl _ w2).alloc (Nat.le_refl _) (.cells #[.slice ax nx Cx, .int .i64 tx] 25)
  have HB2 := Lib.hid (bthen (bthen HB1.out hb HB1.out.size) hal (by have := HB1.out.size; have := hb.size; omega))
  have HRK2 := Lib.hid ((HRK.out.below hb).below hal)
  have HRX2 := Lib.hid (hr.below hal)
  have CK0 := Lib.hid (cell_b (cell_b (show (w1.alloc (.cells #[.slice ak nk Ck, .int .i64 tk] 25)).cell? ⟨w1.heap.size, 0, none⟩ = some (.slice ak nk Ck) by simp [go_sem]) hb) hal)
  have CK1 := Lib.hid (cell_b (cell_b (show (w1.alloc (.cells #[.slice ak nk Ck, .int .i64 tk] 25)).cell? ⟨w1.heap.size, 1, none⟩ = some (.int .i64 tk) by simp [go_sem]) hb) hal)
  obtain ⟨kb, hkb⟩ : ∃ b, b = w1.heap.size := ⟨_, rfl⟩
  rw [← hkb] at CK0 CK1
  have HDT := Lib.hid (drawTurn_any w.heap.size a1 n1 C1 (by omega) _ HB2.out.size (H1.out _ HB2.out))
  unfold kV at HDT
  clear hr hs hb hal
  go_wp2_with fail
  rw [← hkb]
  clear hkb HB1 HRK
  refine HDT.out.mono ?_
  rintro e w3 ⟨ar, Cr, lr, tr, rfl, hg, hb⟩
  have hal := (Below.refl _ w3).alloc (Nat.le_refl _) (.cells #[.slice ar lr.length Cr, .int .i64 tr] 25)
  have HGR := Lib.hid hg
  have HB3 := Lib.hid (bthen (bthen HB2.out hb HB2.out.size) hal (by have := HB2.out.size; have := hb.size; omega))
  have HRK3 := Lib.hid ((HRK2.out.below hb).below hal)
  have HRX3 := Lib.hid ((HRX2.out.below hb).below hal)
  have HRR3 := Lib.hid (hg.row.below hal)
  have CK0 := Lib.hid (cell_b (cell_b CK0.out hb) hal)
  have CK1 := Lib.hid (cell_b (cell_b CK1.out hb) hal)
  have CX0 := Lib.hid (cell_b (cell_b (show (w2.alloc (.cells #[.slice ax nx Cx, .int .i64 tx] 25)).cell? ⟨w2.heap.size, 0, none⟩ = some (.slice ax nx Cx) by simp [go_sem]) hb) hal)
  have CX1 := Lib.hid (cell_b (cell_b (show (w2.alloc (.cells #[.slice ax nx Cx, .int .i64 tx] 25)).cell? ⟨w2.heap.size, 1, none⟩ = some (.int .i64 tx) by simp [go_sem]) hb) hal)
  obtain ⟨xb, hxb⟩ : ∃ b, b = w2.heap.size := ⟨_, rfl⟩
  rw [← hxb] at CX0 CX1
  have HUI := Lib.hid (fun a C t W (h : SRow W a lr) => implTurn_any a C lr t (by have := hg.ln; omega) (szK hg.sz) W h)
  have HUS := Lib.hid (fun W (h : SRow W ar lr) => specTurn_any ar Cr lr tr hg.nil (by have := hg.ln; omega) (szK hg.sz) (by have := hg.tt; omega) W h)
  have HRS := Lib.hid (fun W (h : SRow W ar lr) => specKills_any ar Cr lr tr (by have := hg.ln; omega) (fun s hs => by have := hg.sz s hs; unfold maxLen; omega) W h)
  have HLWR := Lib.hid (fun a b C D t W (ha : SRow W a lr) (hb : SRow W b lr) => lwKills_same a b C D lr t (by have := hg.ln; omega) W ha hb)
  obtain ⟨nr, hnr⟩ : ∃ n, n = lr.length := ⟨_, rfl⟩
  obtain ⟨ty, hty⟩ : ∃ t, t = specTurnV lr tr := ⟨_, rfl⟩
  obtain ⟨BR, hBR⟩ : ∃ B, B = killsB lr tr := ⟨_, rfl⟩
  rw [← hnr] at HUI HUS HRS HLWR HB3 HRK3 HRX3 HRR3 CK0 CK1 CX0 CX1 ⊢
  rw [← hty] at HUS
  rw [← hBR] at HRS
  have HTY := Lib.hid hty
  have HBR := Lib.hid hBR
  have HNR := Lib.hid hnr
  unfold kV at HUI HUS HRS HLWR
  have HUI1 := Lib.hid (HUI.out ar Cr tr _ HRR3.out)
  rw [← hty] at HUI1
  clear hg hb hal HDT HB2 HRK2 HRX2 hty hBR hnr
  go_wp2_with fail
  rw [← hxb]
  clear hxb
  refine HUI1.out.mono ?_
  rintro e w4 ⟨ay, Cy, rfl, hr, hs, hb⟩
  have nk4 : kb < w4.heap.size := blk_lt (cell_b CK0.out hb)
  have nx4 : xb < w4.heap.size := blk_lt (cell_b CX0.out hb)
  have nr4 : w3.heap.size < w4.heap.size := by have := hb.size; simp at this; omega
  have wy4 : w.heap.size ≤ w4.heap.size := by have := HB3.out.size; have := hb.size; omega
  have hal := (Below.refl _ w4).alloc (Nat.le_refl _) (.cells #[.slice ay nr Cy, .int .i64 ty] 25)
  have HB4 := Lib.hid (bthen (bthen HB3.out hb HB3.out.size) hal (by have := HB3.out.size; have := hb.size; omega))
  have HRK4 := Lib.hid ((HRK3.out.below hb).below hal)
  have HRX4 := Lib.hid ((HRX3.out.below hb).below hal)
  have HRR4 := Lib.hid ((HRR3.out.below hb).below hal)
  have HRY4 := Lib.hid (hr.below hal)
  have CK0 := Lib.hid (cell_b (cell_b CK0.out hb) hal)
  have CK1 := Lib.hid (cell_b (cell_b CK1.out hb) hal)
  have CX0 := Lib.hid (cell_b (cell_b CX0.out hb) hal)
  have CX1 := Lib.hid (cell_b (cell_b CX1.out hb) hal)
  have CR0 := Lib.hid (cell_b (cell_b (show (w3.alloc (.cells #[.slice ar nr Cr, .int .i64 tr] 25)).cell? ⟨w3.heap.size, 0, none⟩ = some (.slice ar nr Cr) by simp [go_sem]) hb) hal)
  have CR1 := Lib.hid (cell_b (cell_b (show (w3.alloc (.cells #[.slice ar nr Cr, .int .i64 tr] 25)).cell? ⟨w3.heap.size, 1, none⟩ = some (.int .i64 tr) by simp [go_sem]) hb) hal)
  obtain ⟨rb, hrb⟩ : ∃ b, b = w3.heap.size := ⟨_, rfl⟩
  rw [← hrb] at CR0 CR1 nr4
  have HDU := Lib.hid (drawUndo_any w.heap.size a1 n1 C1 (by omega) _ HB4.out.size (H1.out _ HB4.out))
  unfold lV at HDU
  clear hr hs hb hal HB3 HRK3 HRX3 HRR3 HUI1
  go_wp2_with fail
  rw [← hrb]
  clear hrb
  refine HDU.out.mono ?_
  rintro e w5 ⟨al, Cl, ll, su, zu, rfl, hrow, hle, hnil, hln, hsz, hsu, hb⟩
  have hal := (Below.refl _ w5).alloc (Nat.le_refl _) (.cells #[.string su, .int .i64 zu] 33)
  have HB5 := Lib.hid (bthen (bthen HB4.out hb HB4.out.size) hal (by have := HB4.out.size; have := hb.size; omega))
  have HRK5 := Lib.hid ((HRK4.out.below hb).below hal)
  have HRX5 := Lib.hid ((HRX4.out.below hb).below hal)
  have HRR5 := Lib.hid ((HRR4.out.below hb).below hal)
  have HRY5 := Lib.hid ((HRY4.out.below hb).below hal)
  have HRL5 := Lib.hid (hrow.below hal)
  have CK0 := Lib.hid (cell_b (cell_b CK0.out hb) hal)
  have CK1 := Lib.hid (cell_b (cell_b CK1.out hb) hal)
  have CX0 := Lib.hid (cell_b (cell_b CX0.out hb) hal)
  have CX1 := Lib.hid (cell_b (cell_b CX1.out hb) hal)
  have CR0 := Lib.hid (cell_b (cell_b CR0.out hb) hal)
  have CR1 := Lib.hid (cell_b (cell_b CR1.out hb) hal)
  have cy0 : (w4.alloc (.cells #[.slice ay nr Cy, .int .i64 ty] 25)).cell? ⟨w4.heap.size, 0, none⟩ = some (.slice ay nr Cy) := by simp [go_sem]
  have nu5 : w4.heap.size < w5.heap.size := blk_lt (cell_b cy0 hb)
  have cy1 : (w4.alloc (.cells #[.slice ay nr Cy, .int .i64 ty] 25)).cell? ⟨w4.heap.size, 1, none⟩ = some (.int .i64 ty) := by simp [go_sem]
  have fy0 : (w4.alloc (.cells #[.slice ay nr Cy, .int .i64 ty] 25)).frozen? ⟨w4.heap.size, 0, none⟩ = false := by simp [go_sem]
  have fy1 : (w4.alloc (.cells #[.slice ay nr Cy, .int .i64 ty] 25)).frozen? ⟨w4.heap.size, 1, none⟩ = false := by simp [go_sem]
  have FY0 := Lib.hid (froz_b (cell_b cy0 hb) (froz_b cy0 fy0 hb) hal)
  have FY1 := Lib.hid (froz_b (cell_b cy1 hb) (froz_b cy1 fy1 hb) hal)
  have CY0 := Lib.hid (cell_b (cell_b cy0 hb) hal)
  have CY1 := Lib.hid (cell_b (cell_b cy1 hb) hal)
  obtain ⟨yb, hyb⟩ : ∃ b, b = w4.heap.size := ⟨_, rfl⟩
  rw [← hyb] at FY0 FY1 CY0 CY1 nk4 nx4 nr4 wy4 nu5
  have NE := Lib.hid (And.intro nk4 (And.intro nx4 (And.intro nr4 wy4)))
  have NU := Lib.hid nu5
  clear nk4 nx4 nr4 wy4 nu5
  have HZI := Lib.hid (implUndo_any al Cl ll su zu (by omega) (fun y hy => by have := hsz y hy; omega) (by omega) hle (fun e => (hnil e).2) _ HRL5.out)
  have HZS := Lib.hid (fun W (h : LRow W al ll) => specUndo_any al Cl ll su zu (by omega) (fun y hy => by have := hsz y hy; unfold maxLen; omega) (by unfold maxLen; omega) hnil W h)
  have HLI := Lib.hid (fun W (h : LRow W al ll) => implUndos_any al Cl ll (by omega) (fun y hy => by have := hsz y hy; unfold maxLen; omega) W h)
  have HLS := Lib.hid (fun W (h : LRow W al ll) => specUndos_any al Cl ll (by omega) (fun y hy => by have := hsz y hy; unfold maxLen; omega) W h)
  have HUL := Lib.hid (specLine_any su zu (by unfold maxLen; omega))
  have hzl : (undoV ll su zu).length ≤ 31 := undoX_len hln
  have hzz : ∀ y ∈ undoV ll su zu, y.1.size ≤ 1048576 := undoX_sz hsu hsz
  have HULAST := Lib.hid (fun h1 h2 => undo_last (l := ll) (s := su) (z := zu) h1 h2)
  obtain ⟨lz, hz⟩ : ∃ Z, Z = undoV ll su zu := ⟨_, rfl⟩
  rw [← hz] at HZI HZS hzl hzz HULAST
  have HLWZ := Lib.hid (fun a b C D W (ha : LRow W a lz) (hb : LRow W b lz) => lwLines_same a b C D lz (by omega) W ha hb)
  have HZU := Lib.hid (fun a C W (h : LRow W a lz) => specUndos_any a C lz (by omega) (fun y hy => by have := hzz y hy; unfold maxLen; omega) W h)
  obtain ⟨nl, hnl⟩ : ∃ n, n = ll.length := ⟨_, rfl⟩
  obtain ⟨nz, hnz⟩ : ∃ n, n = lz.length := ⟨_, rfl⟩
  obtain ⟨BL, hBL⟩ : ∃ B, B = undosB ll := ⟨_, rfl⟩
  obtain ⟨BU, hBU⟩ : ∃ B, B = lineB su zu := ⟨_, rfl⟩
  obtain ⟨BZ, hBZ⟩ : ∃ B, B = undosB lz := ⟨_, rfl⟩
  rw [← hnl] at HZI HZS HLI HLS ⊢
  rw [← hnz] at HZI HZS HLWZ HZU
  rw [← hBL] at HLI HLS HULAST
  rw [← hBU] at HUL HULAST
  rw [← hBZ] at HZU HULAST
  have HNZ := Lib.hid hnz
  have HZB := Lib.hid hzl
  unfold lV at HZI HZS
  clear hrow hle hnil hln hsz hsu hb hal HDU hzl hzz hz hnl hnz hBL hBU hBZ cy0 cy1 fy0 fy1 HB4 HRK4 HRX4 HRR4 HRY4
  go_wp2_with fail
  rw [← hyb]
  clear hyb
  refine HZI.out.mono ?_
  rintro e w6 ⟨az, Cz, rfl, hr, hs, hb⟩
  have CU0 := Lib.hid (cell_b (show (w5.alloc (.cells #[.string su, .int .i64 zu] 33)).cell? ⟨w5.heap.size, 0, none⟩ = some (.string su) by simp [go_sem]) hb)
  have CU1 := Lib.hid (cell_b (show (w5.alloc (.cells #[.string su, .int .i64 zu] 33)).cell? ⟨w5.heap.size, 1, none⟩ = some (.int .i64 zu) by simp [go_sem]) hb)
  obtain ⟨ub, hub⟩ : ∃ b, b = w5.heap.size := ⟨_, rfl⟩
  rw [← hub] at CU0 CU1 NU
  have HF := Lib.hid (show FS w kb xb rb yb ub ak nk Ck lk tk ax nx Cx lx tx ar nr Cr lr tr ay Cy ty al ll su zu az lz w6 from
    ⟨cell_b CK0.out hb, cell_b CK1.out hb, cell_b CX0.out hb, cell_b CX1.out hb, cell_b CR0.out hb, cell_b CR1.out hb, cell_b CY0.out hb, cell_b CY1.out hb, CU0.out, CU1.out,
     froz_b CY0.out FY0.out hb, froz_b CY1.out FY1.out hb, HRK5.out.below hb, HRX5.out.below hb, HRR5.out.below hb, HRY5.out.below hb, HRL5.out.below hb, hr, bthen HB5.out hb HB5.out.size, NE.out.1, NE.out.2.1, NE.out.2.2.1, NU.out, NE.out.2.2.2⟩)
  clear hr hs hb CK0 CK1 CX0 CX1 CR0 CR1 CY0 CY1 CU0 CU1 FY0 FY1 HRK5 HRX5 HRR5 HRY5 HRL5 HB5 HZI HPI
  go_wp2_with fail
  rw [← hub]
  clear hub
  go_cut [88] (fun v wx => v = .bool false ∧ FS w kb xb rb yb ub ak nk Ck lk tk ax nx Cx lx tx ar nr Cr lr tr ay Cy ty al ll su zu az lz wx)
  case first =>
    have HF := Lib.hid (HF.out.below (drew_below w6))
    have c0 : w6.cell? ⟨kb, 0, none⟩ = _ := HF.out.k0
    have c1 : w6.cell? ⟨kb, 1, none⟩ = _ := HF.out.k1
    have c2 : w6.cell? ⟨xb, 0, none⟩ = _ := HF.out.x0
    have c3 : w6.cell? ⟨xb, 1, none⟩ = _ := HF.out.x1
    have c4 : w6.cell? ⟨rb, 0, none⟩ = _ := HF.out.r0
    have c5 : w6.cell? ⟨rb, 1, none⟩ = _ := HF.out.r1
    have c6 : w6.cell? ⟨yb, 0, none⟩ = _ := HF.out.y0
    have c7 : w6.cell? ⟨yb, 1, none⟩ = _ := HF.out.y1
    have c8 : w6.cell? ⟨ub, 0, none⟩ = _ := HF.out.u0
    have c9 : w6.cell? ⟨ub, 1, none⟩ = _ := HF.out.u1
    go_region_held3 (fun w' => w'.cell? ⟨kb, 0, none⟩ = some (.slice ak nk Ck) ∧ w'.cell? ⟨kb, 1, none⟩ = some (.int .i64 tk) ∧ w'.cell? ⟨xb, 0, none⟩ = some (.slice ax nx Cx) ∧ w'.cell? ⟨xb, 1, none⟩ = some (.int .i64 tx) ∧ w'.cell? ⟨rb, 0, none⟩ = some (.slice ar nr Cr) ∧ w'.cell? ⟨rb, 1, none⟩ = some (.int .i64 tr) ∧ w'.cell? ⟨yb, 0, none⟩ = some (.slice ay nr Cy) ∧ w'.cell? ⟨yb, 1, none⟩ = some (.int .i64 ty) ∧ w'.cell? ⟨ub, 0, none⟩ = some (.string su) ∧ w'.cell? ⟨ub, 1, none⟩ = some (.int .i64 zu)) (go_keep)
      (first
        | (go_at_call 20
           refine (HPS.out _ HF.out.rk).mono ?_
           rintro e W7 ⟨a7, C7, rfl, hk, hb⟩
           have HSP := Lib.hid hk.row
           clear hk
           have HF := Lib.hid (HF.out.below hb)
           clear c0 c1 c2 c3 c4 c5 c6 c7 c8 c9
           have c0 := HF.out.k0
           have c1 := HF.out.k1
           have c2 := HF.out.x0
           have c3 := HF.out.x1
           have c4 := HF.out.r0
           have c5 := HF.out.r1
           have c6 := HF.out.y0
           have c7 := HF.out.y1
           have c8 := HF.out.u0
           have c9 := HF.out.u1
           clear hb)
        | (go_at_call 19
           refine (HLWR.out _ _ _ _ _ _ HF.out.ry HST.out).mono ?_
           rintro e W7 ⟨rfl, hb⟩
           have HF := Lib.hid (HF.out.below hb)
           clear c0 c1 c2 c3 c4 c5 c6 c7 c8 c9
           have c0 := HF.out.k0
           have c1 := HF.out.k1
           have c2 := HF.out.x0
           have c3 := HF.out.x1
           have c4 := HF.out.r0
           have c5 := HF.out.r1
           have c6 := HF.out.y0
           have c7 := HF.out.y1
           have c8 := HF.out.u0
           have c9 := HF.out.u1
           clear hb)
        | (go_at_call 19
           refine (HLWX.out _ _ _ _ _ HF.out.rx HSP.out).mono ?_
           rintro e W7 ⟨rfl, hb⟩
           have HF := Lib.hid (HF.out.below hb)
           clear c0 c1 c2 c3 c4 c5 c6 c7 c8 c9
           have c0 := HF.out.k0
           have c1 := HF.out.k1
           have c2 := HF.out.x0
           have c3 := HF.out.x1
           have c4 := HF.out.r0
           have c5 := HF.out.r1
           have c6 := HF.out.y0
           have c7 := HF.out.y1
           have c8 := HF.out.u0
           have c9 := HF.out.u1
           clear hb)
        | (go_at_call 21
           refine (HUS.out _ HF.out.rr).mono ?_
           rintro e W7 ⟨a8, C8, rfl, hk, hb⟩
           have HST := Lib.hid hk.row
           clear hk
           have HF := Lib.hid (HF.out.below hb)
           clear c0 c1 c2 c3 c4 c5 c6 c7 c8 c9
           have c0 := HF.out.k0
           have c1 := HF.out.k1
           have c2 := HF.out.x0
           have c3 := HF.out.x1
           have c4 := HF.out.r0
           have c5 := HF.out.r1
           have c6 := HF.out.y0
           have c7 := HF.out.y1
           have c8 := HF.out.u0
           have c9 := HF.out.u1
           clear hb)
        | (go_at_call 22
           refine (HTI.out _ HF.out.rk).mono ?_
           rintro e W7 ⟨rfl, hb⟩
           have HF := Lib.hid (HF.out.below hb)
           clear c0 c1 c2 c3 c4 c5 c6 c7 c8 c9
           have c0 := HF.out.k0
           have c1 := HF.out.k1
           have c2 := HF.out.x0
           have c3 := HF.out.x1
           have c4 := HF.out.r0
           have c5 := HF.out.r1
           have c6 := HF.out.y0
           have c7 := HF.out.y1
           have c8 := HF.out.u0
           have c9 := HF.out.u1
           clear hb)
        | (go_at_call 23
           refine (HTS.out _ HF.out.rk).mono ?_
           rintro e W7 ⟨rfl, hb⟩
           have HF := Lib.hid (HF.out.below hb)
           clear c0 c1 c2 c3 c4 c5 c6 c7 c8 c9
           have c0 := HF.out.k0
           have c1 := HF.out.k1
           have c2 := HF.out.x0
           have c3 := HF.out.x1
           have c4 := HF.out.r0
           have c5 := HF.out.r1
           have c6 := HF.out.y0
           have c7 := HF.out.y1
           have c8 := HF.out.u0
           have c9 := HF.out.u1
           clear hb)
        | (go_at_call 25
           refine (HZS.out _ HF.out.rl).mono ?_
           rintro e W7 ⟨a9, C9, rfl, hk, hb⟩
           have HSZ := Lib.hid hk
           clear hk
           have HF := Lib.hid (HF.out.below hb)
           clear c0 c1 c2 c3 c4 c5 c6 c7 c8 c9
           have c0 := HF.out.k0
           have c1 := HF.out.k1
           have c2 := HF.out.x0
           have c3 := HF.out.x1
           have c4 := HF.out.r0
           have c5 := HF.out.r1
           have c6 := HF.out.y0
           have c7 := HF.out.y1
           have c8 := HF.out.u0
           have c9 := HF.out.u1
           clear hb)
        | (go_at_call 24
           refine (HLWZ.out _ _ _ _ _ HF.out.rz HSZ.out).mono ?_
           rintro e W7 ⟨rfl, hb⟩
           have HF := Lib.hid (HF.out.below hb)
           clear c0 c1 c2 c3 c4 c5 c6 c7 c8 c9
           have c0 := HF.out.k0
           have c1 := HF.out.k1
           have c2 := HF.out.x0
           have c3 := HF.out.x1
           have c4 := HF.out.r0
           have c5 := HF.out.r1
           have c6 := HF.out.y0
           have c7 := HF.out.y1
           have c8 := HF.out.u0
           have c9 := HF.out.u1
           clear hb)
        | (go_at_call 26
           refine (HKI.out _ HF.out.rk).mono ?_
           rintro e W7 ⟨rfl, hb⟩
           have HF := Lib.hid (HF.out.below hb)
           clear c0 c1 c2 c3 c4 c5 c6 c7 c8 c9
           have c0 := HF.out.k0
           have c1 := HF.out.k1
           have c2 := HF.out.x0
           have c3 := HF.out.x1
           have c4 := HF.out.r0
           have c5 := HF.out.r1
           have c6 := HF.out.y0
           have c7 := HF.out.y1
           have c8 := HF.out.u0
           have c9 := HF.out.u1
           clear hb)
        | (go_at_call 27
           refine (HKS.out _ HF.out.rk).mono ?_
           rintro e W7 ⟨rfl, hb⟩
           have HF := Lib.hid (HF.out.below hb)
           clear c0 c1 c2 c3 c4 c5 c6 c7 c8 c9
           have c0 := HF.out.k0
           have c1 := HF.out.k1
           have c2 := HF.out.x0
           have c3 := HF.out.x1
           have c4 := HF.out.r0
           have c5 := HF.out.r1
           have c6 := HF.out.y0
           have c7 := HF.out.y1
           have c8 := HF.out.u0
           have c9 := HF.out.u1
           clear hb)
        | (go_at_call 28
           refine (HLI.out _ HF.out.rl).mono ?_
           rintro e W7 ⟨rfl, hb⟩
           have HF := Lib.hid (HF.out.below hb)
           clear c0 c1 c2 c3 c4 c5 c6 c7 c8 c9
           have c0 := HF.out.k0
           have c1 := HF.out.k1
           have c2 := HF.out.x0
           have c3 := HF.out.x1
           have c4 := HF.out.r0
           have c5 := HF.out.r1
           have c6 := HF.out.y0
           have c7 := HF.out.y1
           have c8 := HF.out.u0
           have c9 := HF.out.u1
           clear hb)
        | (go_at_call 29
           refine (HLS.out _ HF.out.rl).mono ?_
           rintro e W7 ⟨rfl, hb⟩
           have HF := Lib.hid (HF.out.below hb)
           clear c0 c1 c2 c3 c4 c5 c6 c7 c8 c9
           have c0 := HF.out.k0
           have c1 := HF.out.k1
           have c2 := HF.out.x0
           have c3 := HF.out.x1
           have c4 := HF.out.r0
           have c5 := HF.out.r1
           have c6 := HF.out.y0
           have c7 := HF.out.y1
           have c8 := HF.out.u0
           have c9 := HF.out.u1
           clear hb))
    all_goals
      have HE := Lib.hid HF.out
      go_wp2_with fail
      go_meet
      exact ⟨rfl, HE.out⟩
  obtain ⟨rfl, hfs⟩ := hcut
  have HF := Lib.hid hfs
  rename World => wa
  clear hfs
  go_wp2_with fail
  go_cut [111] (fun v wx => v = .bool false ∧ FS w kb xb rb yb ub ak nk Ck lk tk ax nx Cx lx tx ar nr Cr lr tr ay Cy ty al ll su zu az lz wx)
  case first =>
    rename_i J K' hRJ hMK
    have HFS := HF
    have HF := Lib.hid (HF.out.below (drew_below _))
    have d8 := HF.out.u0
    have d9 := HF.out.u1
    cases BL
    · refine wp_region_any (by kernel_rfl) ?_
      try (change wpAny _ _ _ _ _ _ _ (World.drew _))
      refine wpAny_take (i := 0) rfl (by kernel_rfl) (by kernel_rfl) (by kernel_rfl) (fun _ _ _ h => h) (Or.inl ⟨by kernel_rfl, by intro w; go_simp; try with_reducible rfl⟩) ?_
      refine wpAny_ready (rs := [1]) (by kernel_rfl) (by simp) (AllReady.cons rfl (fun K hK => ?_) AllReady.nil)
      go_simp
      refine (HLS.out _ HF.out.rl).mono ?_
      rintro e W7 ⟨rfl, hb⟩
      have HF := Lib.hid (HF.out.below hb)
      clear d8 d9
      have d8 := HF.out.u0
      have d9 := HF.out.u1
      clear hb
      refine hK _ _ ?_
      clear hK K
      refine wpAny_take (i := 2) rfl (by kernel_rfl) (by kernel_rfl) (by kernel_rfl) (fun _ _ _ h => h) (Or.inl ⟨by kernel_rfl, by intro w; go_simp; try with_reducible rfl⟩) ?_
      refine wpAny_take (i := 3) (v := undef) rfl (by kernel_rfl) (by kernel_rfl) (by kernel_rfl) (fun _ _ _ h => h) (Or.inr ⟨by kernel_rfl, rfl⟩) ?_
      refine wpAny_take (i := 4) (v := undef) rfl (by kernel_rfl) (by kernel_rfl) (by kernel_rfl) (fun _ _ _ h => h) (Or.inr ⟨by kernel_rfl, rfl⟩) ?_
      refine wpAny_take (i := 5) rfl (by kernel_rfl) (by kernel_rfl) (by kernel_rfl) (fun _ _ _ h => h) (Or.inl ⟨by kernel_rfl, by intro w; go_simp; try with_reducible rfl⟩) ?_
      refine wpAny_take (i := 6) rfl (by kernel_rfl) (by kernel_rfl) (by kernel_rfl) (fun _ _ _ h => h) (Or.inl ⟨by kernel_rfl, by intro w; go_simp; try with_reducible rfl⟩) ?_
      refine wpAny_take (i := 7) (v := undef) rfl (by kernel_rfl) (by kernel_rfl) (by kernel_rfl) (fun _ _ _ h => h) (Or.inr ⟨by kernel_rfl, rfl⟩) ?_
      refine wpAny_take (i := 8) (v := undef) rfl (by kernel_rfl) (by kernel_rfl) (by kernel_rfl) (fun _ _ _ h => h) (Or.inr ⟨by kernel_rfl, rfl⟩) ?_
      refine wpAny_take (i := 9) (v := undef) rfl (by kernel_rfl) (by kernel_rfl) (by kernel_rfl) (fun _ _ _ h => h) (Or.inr ⟨by kernel_rfl, rfl⟩) ?_
      refine wpAny_take (i := 10) (v := undef) rfl (by kernel_rfl) (by kernel_rfl) (by kernel_rfl) (fun _ _ _ h => h) (Or.inr ⟨by kernel_rfl, rfl⟩) ?_
      refine wpAny_take (i := 11) (v := undef) rfl (by kernel_rfl) (by kernel_rfl) (by kernel_rfl) (fun _ _ _ h => h) (Or.inr ⟨by kernel_rfl, rfl⟩) ?_
      refine wpAny_take (i := 12) (v := undef) rfl (by kernel_rfl) (by kernel_rfl) (by kernel_rfl) (fun _ _ _ h => h) (Or.inr ⟨by kernel_rfl, rfl⟩) ?_
      refine wpAny_take (i := 13) (v := undef) rfl (by kernel_rfl) (by kernel_rfl) (by kernel_rfl) (fun _ _ _ h => h) (Or.inr ⟨by kernel_rfl, rfl⟩) ?_
      refine wpAny_take (i := 14) (v := undef) rfl (by kernel_rfl) (by kernel_rfl) (by kernel_rfl) (fun _ _ _ h => h) (Or.inr ⟨by kernel_rfl, rfl⟩) ?_
      refine wpAny_take (i := 15) (v := undef) rfl (by kernel_rfl) (by kernel_rfl) (by kernel_rfl) (fun _ _ _ h => h) (Or.inr ⟨by kernel_rfl, rfl⟩) ?_
      refine wpAny_take (i := 16) (v := undef) rfl (by kernel_rfl) (by kernel_rfl) (by kernel_rfl) (fun _ _ _ h => h) (Or.inr ⟨by kernel_rfl, rfl⟩) ?_
      refine wpAny_take (i := 17) (v := undef) rfl (by kernel_rfl) (by kernel_rfl) (by kernel_rfl) (fun _ _ _ h => h) (Or.inr ⟨by kernel_rfl, rfl⟩) ?_
      refine wpAny_take (i := 18) (v := undef) rfl (by kernel_rfl) (by kernel_rfl) (by kernel_rfl) (fun _ _ _ h => h) (Or.inr ⟨by kernel_rfl, rfl⟩) ?_
      refine wpAny_take (i := 19) (v := undef) rfl (by kernel_rfl) (by kernel_rfl) (by kernel_rfl) (fun _ _ _ h => h) (Or.inr ⟨by kernel_rfl, rfl⟩) ?_
      refine wpAny_take (i := 20) (v := undef) rfl (by kernel_rfl) (by kernel_rfl) (by kernel_rfl) (fun _ _ _ h => h) (Or.inr ⟨by kernel_rfl, rfl⟩) ?_
      refine wpAny_take (i := 21) (v := undef) rfl (by kernel_rfl) (by kernel_rfl) (by kernel_rfl) (fun _ _ _ h => h) (Or.inr ⟨by kernel_rfl, rfl⟩) ?_
      refine wpAny_take (i := 22) rfl (by kernel_rfl) (by kernel_rfl) (by kernel_rfl) (fun _ _ _ h => h) (Or.inl ⟨by kernel_rfl, by intro w; go_simp; try with_reducible rfl⟩) ?_
      refine wpAny_done (by kernel_rfl) ?_ _
      exact hMK _ _ (Met.intro (hRJ _ _ (frame_open _ (fun v => v = .bool false ∧ FS w kb xb rb yb ub ak nk Ck lk tk ax nx Cx lx tx ar nr Cr lr tr ay Cy ty al ll su zu az lz W7) _ _ _ _ _ _ _ _ _ _ _ _ _ _ _ _ (by kernel_rfl) (by kernel_rfl) (by kernel_rfl) (by kernel_rfl) (by kernel_rfl) (by kernel_rfl) (by kernel_rfl) (by kernel_rfl) (by kernel_rfl) (by kernel_rfl) (by kernel_rfl) (by kernel_rfl) (by kernel_rfl) (by kernel_rfl) (by kernel_rfl) (by kernel_rfl) (by kernel_rfl) (by kernel_rfl) ⟨by kernel_rfl, HF.out⟩)))
    cases BU
    · refine wp_region_any (by kernel_rfl) ?_
      try (change wpAny _ _ _ _ _ _ _ (World.drew _))
      refine wpAny_take (i := 0) rfl (by kernel_rfl) (by kernel_rfl) (by kernel_rfl) (fun _ _ _ h => h) (Or.inl ⟨by kernel_rfl, by intro w; go_simp; try with_reducible rfl⟩) ?_
      refine wpAny_ready (rs := [1]) (by kernel_rfl) (by simp) (AllReady.cons rfl (fun K hK => ?_) AllReady.nil)
      go_simp
      refine (HLS.out _ HF.out.rl).mono ?_
      rintro e W7 ⟨rfl, hb⟩
      have HF := Lib.hid (HF.out.below hb)
      clear d8 d9
      have d8 := HF.out.u0
      have d9 := HF.out.u1
      clear hb
      refine hK _ _ ?_
      clear hK K
      refine wpAny_take (i := 2) rfl (by kernel_rfl) (by kernel_rfl) (by kernel_rfl) (fun _ _ _ h => h) (Or.inl ⟨by kernel_rfl, by intro w; go_simp; try with_reducible rfl⟩) ?_
      refine wpAny_ready (rs := [3]) (by kernel_rfl) (by simp) (AllReady.cons rfl (fun K hK => ?_) AllReady.nil)
      go_simp
      refine hK _ _ ?_
      clear hK K
      refine wpAny_ready (rs := [4]) (by kernel_rfl) (by simp) (AllReady.cons rfl (fun K hK => ?_) AllReady.nil)
      go_simp
      refine (HUL.out _).mono ?_
      rintro e W7 ⟨rfl, hb⟩
      have HF := Lib.hid (HF.out.below hb)
      clear d8 d9
      have d8 := HF.out.u0
      have d9 := HF.out.u1
      clear hb
      refine hK _ _ ?_
      clear hK K
      refine wpAny_take (i := 5) rfl (by kernel_rfl) (by kernel_rfl) (by kernel_rfl) (fun _ _ _ h => h) (Or.inl ⟨by kernel_rfl, by intro w; go_simp; try with_reducible rfl⟩) ?_
      refine wpAny_take (i := 6) rfl (by kernel_rfl) (by kernel_rfl) (by kernel_rfl) (fun _ _ _ h => h) (Or.inl ⟨by kernel_rfl, by intro w; go_simp; try with_reducible rfl⟩) ?_
      refine wpAny_take (i := 7) (v := undef) rfl (by kernel_rfl) (by kernel_rfl) (by kernel_rfl) (fun _ _ _ h => h) (Or.inr ⟨by kernel_rfl, rfl⟩) ?_
      refine wpAny_take (i := 8) (v := undef) rfl (by kernel_rfl) (by kernel_rfl) (by kernel_rfl) (fun _ _ _ h => h) (Or.inr ⟨by kernel_rfl, rfl⟩) ?_
      refine wpAny_take (i := 9) (v := undef) rfl (by kernel_rfl) (by kernel_rfl) (by kernel_rfl) (fun _ _ _ h => h) (Or.inr ⟨by kernel_rfl, rfl⟩) ?_
      refine wpAny_take (i := 10) (v := undef) rfl (by kernel_rfl) (by kernel_rfl) (by kernel_rfl) (fun _ _ _ h => h) (Or.inr ⟨by kernel_rfl, rfl⟩) ?_
      refine wpAny_take (i := 11) (v := undef) rfl (by kernel_rfl) (by kernel_rfl) (by kernel_rfl) (fun _ _ _ h => h) (Or.inr ⟨by kernel_rfl, rfl⟩) ?_
      refine wpAny_take (i := 12) (v := undef) rfl (by kernel_rfl) (by kernel_rfl) (by kernel_rfl) (fun _ _ _ h => h) (Or.inr ⟨by kernel_rfl, rfl⟩) ?_
      refine wpAny_take (i := 13) (v := undef) rfl (by kernel_rfl) (by kernel_rfl) (by kernel_rfl) (fun _ _ _ h => h) (Or.inr ⟨by kernel_rfl, rfl⟩) ?_
      refine wpAny_take (i := 14) (v := undef) rfl (by kernel_rfl) (by kernel_rfl) (by kernel_rfl) (fun _ _ _ h => h) (Or.inr ⟨by kernel_rfl, rfl⟩) ?_
      refine wpAny_take (i := 15) (v := undef) rfl (by kernel_rfl) (by kernel_rfl) (by kernel_rfl) (fun _ _ _ h => h) (Or.inr ⟨by kernel_rfl, rfl⟩) ?_
      refine wpAny_take (i := 16) (v := undef) rfl (by kernel_rfl) (by kernel_rfl) (by kernel_rfl) (fun _ _ _ h => h) (Or.inr ⟨by kernel_rfl, rfl⟩) ?_
      refine wpAny_take (i := 17) (v := undef) rfl (by kernel_rfl) (by kernel_rfl) (by kernel_rfl) (fun _ _ _ h => h) (Or.inr ⟨by kernel_rfl, rfl⟩) ?_
      refine wpAny_take (i := 18) (v := undef) rfl (by kernel_rfl) (by kernel_rfl) (by kernel_rfl) (fun _ _ _ h => h) (Or.inr ⟨by kernel_rfl, rfl⟩) ?_
      refine wpAny_take (i := 19) (v := undef) rfl (by kernel_rfl) (by kernel_rfl) (by kernel_rfl) (fun _ _ _ h => h) (Or.inr ⟨by kernel_rfl, rfl⟩) ?_
      refine wpAny_take (i := 20) (v := undef) rfl (by kernel_rfl) (by kernel_rfl) (by kernel_rfl) (fun _ _ _ h => h) (Or.inr ⟨by kernel_rfl, rfl⟩) ?_
      refine wpAny_take (i := 21) (v := undef) rfl (by kernel_rfl) (by kernel_rfl) (by kernel_rfl) (fun _ _ _ h => h) (Or.inr ⟨by kernel_rfl, rfl⟩) ?_
      refine wpAny_take (i := 22) rfl (by kernel_rfl) (by kernel_rfl) (by kernel_rfl) (fun _ _ _ h => h) (Or.inl ⟨by kernel_rfl, by intro w; go_simp; try with_reducible rfl⟩) ?_
      refine wpAny_done (by kernel_rfl) ?_ _
      exact hMK _ _ (Met.intro (hRJ _ _ (frame_open _ (fun v => v = .bool false ∧ FS w kb xb rb yb ub ak nk Ck lk tk ax nx Cx lx tx ar nr Cr lr tr ay Cy ty al ll su zu az lz W7) _ _ _ _ _ _ _ _ _ _ _ _ _ _ _ _ (by kernel_rfl) (by kernel_rfl) (by kernel_rfl) (by kernel_rfl) (by kernel_rfl) (by kernel_rfl) (by kernel_rfl) (by kernel_rfl) (by kernel_rfl) (by kernel_rfl) (by kernel_rfl) (by kernel_rfl) (by kernel_rfl) (by kernel_rfl) (by kernel_rfl) (by kernel_rfl) (by kernel_rfl) (by kernel_rfl) ⟨by kernel_rfl, HF.out⟩)))
    obtain ⟨hbz, mz, hmz, hmz2, heq⟩ := HULAST.out rfl rfl
    subst hbz
    obtain ⟨gz, oz, haz, hz0, hz1⟩ := HF.out.rz.at hmz2
    subst haz
    clear hz1
    have HZC := Lib.hid (show ∀ W, LRow W (some ⟨gz, oz, none⟩) lz → W.cell? ⟨gz, oz + mz * 2, none⟩ = some (.string lz[mz].1) from fun W h => by
      obtain ⟨g', o', e', c', _⟩ := h.at hmz2
      injection e' with e'
      injection e' with e1 e2
      subst e1 e2
      exact c')
    obtain ⟨yz, hyz⟩ : ∃ y, y = lz[mz].1 := ⟨_, rfl⟩
    rw [← hyz] at HZC hz0 heq
    have hnm : nz = mz + 1 := by rw [HNZ.out]; exact hmz
    have HEQ := Lib.hid (show yz.toList = su.toList by simpa using heq)
    have hmb : mz ≤ 1000 := by have := HZB.out; omega
    subst hnm
    clear hyz hmz hmz2 heq HNZ HULAST
    have dz : wa.cell? ⟨gz, oz + mz * 2, none⟩ = some (.string yz) := HZC.out _ HFS.out.rz
    clear hz0
    have hq1 : IntKind.i64.wrap (((mz + 1 : Nat) : Int) - 1) = (mz : Int) := by rw [show ((mz + 1 : Nat) : Int) - 1 = (mz : Int) by omega]; exact IntWalk.i64_in _ (by omega)
    have hq2 : IntKind.i64.wrap ((mz : Int) + 1 - 1) = (mz : Int) := by rw [show (mz : Int) + 1 - 1 = (mz : Int) by omega]; exact IntWalk.i64_in _ (by omega)
    have hq3 : (0 : Int) ≤ mz := by omega
    have hq4 : (mz : Int) < (mz : Int) + 1 := by omega
    refine wp_region_any (by kernel_rfl) ?_
    try (change wpAny _ _ _ _ _ _ _ (World.drew _))
    refine wpAny_take (i := 0) rfl (by kernel_rfl) (by kernel_rfl) (by kernel_rfl) (fun _ _ _ h => h) (Or.inl ⟨by kernel_rfl, by intro w; go_simp; try with_reducible rfl⟩) ?_
    refine wpAny_ready (rs := [1]) (by kernel_rfl) (by simp) (AllReady.cons rfl (fun K hK => ?_) AllReady.nil)
    go_simp
    refine (HLS.out _ HF.out.rl).mono ?_
    rintro e W7 ⟨rfl, hb⟩
    have HF := Lib.hid (HF.out.below hb)
    clear d8 d9 dz
    have d8 := HF.out.u0
    have d9 := HF.out.u1
    have dz := HZC.out _ HF.out.rz
    clear hb
    refine hK _ _ ?_
    clear hK K
    refine wpAny_take (i := 2) rfl (by kernel_rfl) (by kernel_rfl) (by kernel_rfl) (fun _ _ _ h => h) (Or.inl ⟨by kernel_rfl, by intro w; go_simp; try with_reducible rfl⟩) ?_
    refine wpAny_ready (rs := [3]) (by kernel_rfl) (by simp) (AllReady.cons rfl (fun K hK => ?_) AllReady.nil)
    go_simp
    refine hK _ _ ?_
    clear hK K
    refine wpAny_ready (rs := [4]) (by kernel_rfl) (by simp) (AllReady.cons rfl (fun K hK => ?_) AllReady.nil)
    go_simp
    refine (HUL.out _).mono ?_
    rintro e W7 ⟨rfl, hb⟩
    have HF := Lib.hid (HF.out.below hb)
    clear d8 d9 dz
    have d8 := HF.out.u0
    have d9 := HF.out.u1
    have dz := HZC.out _ HF.out.rz
    clear hb
    refine hK _ _ ?_
    clear hK K
    refine wpAny_take (i := 5) rfl (by kernel_rfl) (by kernel_rfl) (by kernel_rfl) (fun _ _ _ h => h) (Or.inl ⟨by kernel_rfl, by intro w; go_simp; try with_reducible rfl⟩) ?_
    refine wpAny_take (i := 6) rfl (by kernel_rfl) (by kernel_rfl) (by kernel_rfl) (fun _ _ _ h => h) (Or.inl ⟨by kernel_rfl, by intro w; go_simp; try with_reducible rfl⟩) ?_
    refine wpAny_take (i := 7) rfl (by kernel_rfl) (by kernel_rfl) (by kernel_rfl) (fun _ _ _ h => h) (Or.inl ⟨by kernel_rfl, by intro w; go_simp; try with_reducible rfl⟩) ?_
    refine wpAny_ready (rs := [8]) (by kernel_rfl) (by simp) (AllReady.cons rfl (fun K hK => ?_) AllReady.nil)
    go_simp
    refine (HZU.out _ _ _ HF.out.rz).mono ?_
    rintro e W7 ⟨rfl, hb⟩
    have HF := Lib.hid (HF.out.below hb)
    clear d8 d9 dz
    have d8 := HF.out.u0
    have d9 := HF.out.u1
    have dz := HZC.out _ HF.out.rz
    clear hb
    refine hK _ _ ?_
    clear hK K
    refine wpAny_take (i := 9) rfl (by kernel_rfl) (by kernel_rfl) (by kernel_rfl) (fun _ _ _ h => h) (Or.inl ⟨by kernel_rfl, by intro w; go_simp; try with_reducible rfl⟩) ?_
    refine wpAny_take (i := 10) rfl (by kernel_rfl) (by kernel_rfl) (by kernel_rfl) (fun _ _ _ h => h) (Or.inl ⟨by kernel_rfl, by intro w; go_simp; try with_reducible rfl⟩) ?_
    refine wpAny_take (i := 11) rfl (by kernel_rfl) (by kernel_rfl) (by kernel_rfl) (fun _ _ _ h => h) (Or.inl ⟨by kernel_rfl, by intro w; go_simp; try with_reducible rfl⟩) ?_
    refine wpAny_take (i := 12) rfl (by kernel_rfl) (by kernel_rfl) (by kernel_rfl) (fun _ _ _ h => h) (Or.inl ⟨by kernel_rfl, by intro w; go_simp; try with_reducible rfl⟩) ?_
    refine wpAny_take (i := 13) rfl (by kernel_rfl) (by kernel_rfl) (by kernel_rfl) (fun _ _ _ h => h) (Or.inl ⟨by kernel_rfl, by intro w; go_simp; try with_reducible rfl⟩) ?_
    refine wpAny_take (i := 14) (v := .int .i64 (mz : Int)) rfl (by kernel_rfl) (by kernel_rfl) (by kernel_rfl) (fun _ _ _ h => h) (Or.inl ⟨by kernel_rfl, by intro w; go_simp; exact IntWalk.i64_in _ (by omega)⟩) ?_
    refine wpAny_take (i := 15) (v := .pointer (some ⟨gz, oz + mz * 2, none⟩)) rfl (by kernel_rfl) (by kernel_rfl) (by kernel_rfl) (fun _ _ _ h => h) (Or.inl ⟨by kernel_rfl, by intro w; go_simp⟩) ?_
    refine wpAny_take (i := 16) (v := .pointer (some ⟨gz, oz + mz * 2, none⟩)) rfl (by kernel_rfl) (by kernel_rfl) (by kernel_rfl) (fun _ _ _ h => h) (Or.inl ⟨by kernel_rfl, by intro w; go_simp⟩) ?_
    refine wpAny_take (i := 18) (v := .pointer (some ⟨ub, 0, none⟩)) rfl (by kernel_rfl) (by kernel_rfl) (by kernel_rfl) (fun _ _ _ h => h) (Or.inl ⟨by kernel_rfl, by intro w; go_simp⟩) ?_
    refine wpAny_ready (rs := [17, 19]) (by kernel_rfl) (by simp) (AllReady.cons rfl (fun K hK => ?_) (AllReady.cons rfl (fun K hK => ?_) AllReady.nil))
    · go_simp
      refine hK _ _ ?_
      clear hK K
      refine wpAny_ready (rs := [19]) (by kernel_rfl) (by simp) (AllReady.cons rfl (fun K hK => ?_) AllReady.nil)
      go_simp
      refine hK _ _ ?_
      clear hK K
      refine wpAny_take (i := 20) (v := .bool false) rfl (by kernel_rfl) (by kernel_rfl) (by kernel_rfl) (fun _ _ _ h => h) (Or.inl ⟨by kernel_rfl, by intro w; go_simp; exact HEQ.out⟩) ?_
      refine wpAny_take (i := 21) rfl (by kernel_rfl) (by kernel_rfl) (by kernel_rfl) (fun _ _ _ h => h) (Or.inl ⟨by kernel_rfl, by intro w; go_simp; try with_reducible rfl⟩) ?_
      refine wpAny_take (i := 22) rfl (by kernel_rfl) (by kernel_rfl) (by kernel_rfl) (fun _ _ _ h => h) (Or.inl ⟨by kernel_rfl, by intro w; go_simp; try with_reducible rfl⟩) ?_
      refine wpAny_done (by kernel_rfl) ?_ _
      exact hMK _ _ (Met.intro (hRJ _ _ (frame_open _ (fun v => v = .bool false ∧ FS w kb xb rb yb ub ak nk Ck lk tk ax nx Cx lx tx ar nr Cr lr tr ay Cy ty al ll su zu (some ⟨gz, oz, none⟩) lz W7) _ _ _ _ _ _ _ _ _ _ _ _ _ _ _ _ (by kernel_rfl) (by kernel_rfl) (by kernel_rfl) (by kernel_rfl) (by kernel_rfl) (by kernel_rfl) (by kernel_rfl) (by kernel_rfl) (by kernel_rfl) (by kernel_rfl) (by kernel_rfl) (by kernel_rfl) (by kernel_rfl) (by kernel_rfl) (by kernel_rfl) (by kernel_rfl) (by kernel_rfl) (by kernel_rfl) ⟨by kernel_rfl, HF.out⟩)))
    · go_simp
      refine hK _ _ ?_
      clear hK K
      refine wpAny_ready (rs := [17]) (by kernel_rfl) (by simp) (AllReady.cons rfl (fun K hK => ?_) AllReady.nil)
      go_simp
      refine hK _ _ ?_
      clear hK K
      refine wpAny_take (i := 20) (v := .bool false) rfl (by kernel_rfl) (by kernel_rfl) (by kernel_rfl) (fun _ _ _ h => h) (Or.inl ⟨by kernel_rfl, by intro w; go_simp; exact HEQ.out⟩) ?_
      refine wpAny_take (i := 21) rfl (by kernel_rfl) (by kernel_rfl) (by kernel_rfl) (fun _ _ _ h => h) (Or.inl ⟨by kernel_rfl, by intro w; go_simp; try with_reducible rfl⟩) ?_
      refine wpAny_take (i := 22) rfl (by kernel_rfl) (by kernel_rfl) (by kernel_rfl) (fun _ _ _ h => h) (Or.inl ⟨by kernel_rfl, by intro w; go_simp; try with_reducible rfl⟩) ?_
      refine wpAny_done (by kernel_rfl) ?_ _
      exact hMK _ _ (Met.intro (hRJ _ _ (frame_open _ (fun v => v = .bool false ∧ FS w kb xb rb yb ub ak nk Ck lk tk ax nx Cx lx tx ar nr Cr lr tr ay Cy ty al ll su zu (some ⟨gz, oz, none⟩) lz W7) _ _ _ _ _ _ _ _ _ _ _ _ _ _ _ _ (by kernel_rfl) (by kernel_rfl) (by kernel_rfl) (by kernel_rfl) (by kernel_rfl) (by kernel_rfl) (by kernel_rfl) (by kernel_rfl) (by kernel_rfl) (by kernel_rfl) (by kernel_rfl) (by kernel_rfl) (by kernel_rfl) (by kernel_rfl) (by kernel_rfl) (by kernel_rfl) (by kernel_rfl) (by kernel_rfl) ⟨by kernel_rfl, HF.out⟩)))
  obtain ⟨rfl, hfs⟩ := hcut
  have HF := Lib.hid hfs
  rename World => wb
  clear hfs
  have q4 := HF.out.r0
  have q5 := HF.out.r1
  go_upto_if 113 with (first
    | (go_at_call 27
       refine (HRS.out _ HF.out.rr).mono ?_
       rintro e W8 ⟨rfl, hb⟩
       have HF := Lib.hid (HF.out.below hb)
       clear hb q4 q5))
  go_cut [] (fun wx => ∃ ay' Cy' ty', FS w kb xb rb yb ub ak nk Ck lk tk ax nx Cx lx tx ar nr Cr lr tr ay' Cy' ty' al ll su zu az lz wx)
  case first =>
    cases BR
    · go_wp2_with fail
      go_meet
      exact ⟨ay, Cy, ty, HF.out⟩
    · have hkr : killsB lr tr = true := HBR.out.symm
      have hpt := (killsB_parts hkr).2
      rw [← HNR.out] at hpt
      have hty1 : ty = turns nr tr 1 := by rw [HTY.out, specTurnV, if_pos hkr, ← HNR.out]; exact turns_one hpt
      have HTN := Lib.hid (fun i (hi : i < nr) => (show specTurnV lr (turns nr tr i) = turns nr tr (i + 1) by
        have hk2 : killsB lr (turns nr tr i) = true := killsB_make (killsB_good hkr) (killsB_parts hkr).1 (by rw [← HNR.out]; exact turns_in hpt)
        rw [specTurnV, if_pos hk2, ← HNR.out]
        exact turns_step (by omega) (by omega)))
      have HTE := Lib.hid (fun i h1 h2 h3 => turns_end (i := i) hpt h1 h2 h3)
      have hnr11 : nr ≤ 5 := by rw [HNR.out]; exact (killsB_parts hkr).1
      subst hty1
      clear hkr hpt
      go_wp2
      go_loopw [14] (fun iv wr => ∃ i : Nat, 1 ≤ i ∧ (i ≤ nr ∨ i = 1) ∧ iv = .int .i64 i ∧ ∃ ay' Cy', FS w kb xb rb yb ub ak nk Ck lk tk ax nx Cx lx tx ar nr Cr lr tr ay' Cy' (turns nr tr i) al ll su zu az lz wr) (fun iv _ => nr - (intOf iv).toNat)
      case atStart => exact ⟨1, Nat.le_refl _, .inr rfl, rfl, ay, Cy, HF.out⟩
      case round =>
        obtain ⟨i, hi1, hi2, rfl, ay', Cy', hf⟩ := hrel
        rename World => wr
        have HF := Lib.hid hf
        have q0 := hf.r0
        have q1 := hf.r1
        have q2 := hf.y0
        have q3 := hf.y1
        have q4 := hf.fy0
        have q5 := hf.fy1
        clear hf
        have hib : i ≤ 11 := by omega
        obtain ⟨T, hT⟩ : ∃ T, T = turns nr tr i := ⟨_, rfl⟩
        by_cases hlt : i < nr
        · have HTU := Lib.hid (HUI.out ay' Cy' (turns nr tr i) wr HF.out.ry)
          rw [HTN.out i hlt] at HTU
          obtain ⟨T2, hT2⟩ : ∃ T, T = turns nr tr (i + 1) := ⟨_, rfl⟩
          rw [← hT] at HTU q3
          rw [← hT2] at HTU
          have HT2 := Lib.hid hT2
          clear hT hT2
          go_wp2_with fail
          refine HTU.out.mono ?_
          rintro e W8 ⟨a8, C8, rfl, hr, _, hb⟩
          have HF := Lib.hid ((HF.out.below hb).setY (a' := a8) (C' := C8) (t' := T2) hr)
          have p2 := cell_b q2 hb
          have p3 := cell_b q3 hb
          have p4 := froz_b q2 q4 hb
          have p5 := froz_b q3 q5 hb
          clear hb hr q0 q1 q2 q3 q4 q5
          go_wp2
          go_roundw
          case rel => exact ⟨i + 1, by omega, by omega, by go_num, a8, C8, by rw [← HT2.out]; exact HF.out⟩
          case measure => simp [intOf]; omega
        · have hte := HTE.out i hi1 hi2 hlt
          rw [hte] at q3
          have HF := Lib.hid (show FS w kb xb rb yb ub ak nk Ck lk tk ax nx Cx lx tx ar nr Cr lr tr ay' Cy' tr al ll su zu az lz wr by have hf2 := HF.out; rw [hte] at hf2; exact hf2)
          clear hT hte
          go_wp2_with (first
            | (go_at_call 19
               refine (HLWR.out _ _ _ _ _ _ HF.out.ry HF.out.rr).mono ?_
               rintro e W8 ⟨rfl, hb⟩
               have HF := Lib.hid (HF.out.below hb)
               clear hb))
          go_meet
          exact ⟨ay', Cy', tr, HF.out⟩
  obtain ⟨ay', Cy', ty', hfs⟩ := hcut
  have HF := Lib.hid hfs
  rename World => wc
  have g0 := HF.out.k0
  have g1 := HF.out.k1
  have g2 := HF.out.x0
  have g3 := HF.out.x1
  clear hfs
  cases BK
  · go_wp2_with (first
      | (go_at_call 27
         refine (HKS.out _ HF.out.rk).mono ?_
         rintro e W8 ⟨rfl, hb⟩
         have HE := Lib.hid (HF.out.below hb).bel
         clear hb))
    go_ret
    exact ⟨rfl, HE.out⟩
  cases htx : textB x
  · rw [htx] at HTXS
    clear htx
    go_wp2_with (first
      | (go_at_call 27
         refine (HKS.out _ HF.out.rk).mono ?_
         rintro e W8 ⟨rfl, hb⟩
         have HE := Lib.hid (HF.out.below hb).bel
         clear hb)
      | (go_at_call 31
         refine (HTXS.out _).mono ?_
         rintro e W9 ⟨rfl, rfl⟩))
    go_ret
    exact ⟨rfl, HE.out⟩
  by_cases hx0 : x.size = 0
  · have hem := empty_t (s := x) (by omega)
    rw [htx] at HTXS
    clear htx hx0
    go_wp2_with (first
      | (go_at_call 27
         refine (HKS.out _ HF.out.rk).mono ?_
         rintro e W8 ⟨rfl, hb⟩
         have HE := Lib.hid (HF.out.below hb).bel
         clear hb)
      | (go_at_call 31
         refine (HTXS.out _).mono ?_
         rintro e W9 ⟨rfl, rfl⟩))
    go_ret
    exact ⟨rfl, HE.out⟩
  have hem := empty_f (s := x) (by omega)
  obtain ⟨hkx, yy, htop⟩ := HPT.out HBK.out.symm htx hx0
  have htb : (topV lx tx).size ≤ 60 := top_small hkx
  rw [hkx] at HXKS
  obtain ⟨TP, hTP⟩ : ∃ T, T = topV lx tx := ⟨_, rfl⟩
  rw [← hTP] at HXTI htop htb
  have HTOP := Lib.hid htop
  have hts : x.size ≤ TP.size := by rw [htop]; split <;> simp
  rw [htx] at HTXS
  clear htx hx0 hkx hTP htop
  have hxx : (x.toList == x.toList) = true := by simp
  by_cases hm : m < 0
  · have HSL := Lib.hid (fun W => cutL W TP x.size hts)
    rw [show TP.extract 0 x.size = x from by rw [HTOP.out, if_pos hm]; exact left_of x yy] at HSL
    have hsl := HSL.out
    go_wp2_with (first
      | (go_at_call 22
         refine (HXTI.out _ _ _ HF2.out.rx).mono ?_
         rintro e W9 ⟨rfl, hb⟩
         have HF3 := Lib.hid (HF2.out.below hb)
         have k2 := HF3.out.x0
         have k3 := HF3.out.x1
         clear hb)
      | (go_at_call 27
         refine (HXKS.out _ _ _ HF3.out.rx).mono ?_
         rintro e Wa ⟨rfl, hb⟩
         have HE := Lib.hid (HF3.out.below hb).bel
         clear hb)
      | (go_at_call 27
         refine (HKS.out _ HF.out.rk).mono ?_
         rintro e W8 ⟨rfl, hb⟩
         have HF2 := Lib.hid (HF.out.below hb)
         have j2 := HF2.out.x0
         have j3 := HF2.out.x1
         clear hb)
      | (go_at_call 31
         refine (HTXS.out _).mono ?_
         rintro e W9 ⟨rfl, rfl⟩))
    go_ret
    exact ⟨rfl, HE.out⟩
  · have HSL := Lib.hid (fun W => cutR W TP (TP.size - x.size) (by omega))
    rw [show TP.extract (TP.size - x.size) TP.size = x from by rw [HTOP.out, if_neg hm]; exact right_of yy x] at HSL
    have hsl := HSL.out
    have hsub : ((TP.size - x.size : Nat) : Int) = (TP.size : Int) - x.size := by omega
    rw [hsub] at hsl
    clear hsub
    go_wp2_with (first
      | (go_at_call 22
         refine (HXTI.out _ _ _ HF2.out.rx).mono ?_
         rintro e W9 ⟨rfl, hb⟩
         have HF3 := Lib.hid (HF2.out.below hb)
         have k2 := HF3.out.x0
         have k3 := HF3.out.x1
         clear hb)
      | (go_at_call 27
         refine (HXKS.out _ _ _ HF3.out.rx).mono ?_
         rintro e Wa ⟨rfl, hb⟩
         have HE := Lib.hid (HF3.out.below hb).bel
         clear hb)
      | (go_at_call 27
         refine (HKS.out _ HF.out.rk).mono ?_
         rintro e W8 ⟨rfl, hb⟩
         have HF2 := Lib.hid (HF.out.below hb)
         have j2 := HF2.out.x0
         have j3 := HF2.out.x1
         clear hb)
      | (go_at_call 31
         refine (HTXS.out _).mono ?_
         rintro e W9 ⟨rfl, rfl⟩))
    go_ret
    exact ⟨rfl, HE.out⟩
end Go.Proofs.Ytgmbpohbjhaghaa.fk
