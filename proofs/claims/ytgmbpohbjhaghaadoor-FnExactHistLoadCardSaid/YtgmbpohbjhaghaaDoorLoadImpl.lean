/-
  The program's HistLoad. For every text, where errors.errorType holds what the program's text lays. Written by wip/tool/gen_loadimpl.py.
-/
import Derived.Test.YtgmbpohbjhaghaaDoorLoadMath
import Derived.Test.YtgmbpohbjhaghaaDoorBehind
import Derived.Test.YtgmbpohbjhaghaaDoorHistHarness
import Derived.Test.YtgmbpohbjhaghaaDoorVarB
import Derived.Test.YtgmbpohbjhaghaaDoorScope
namespace Go.Proofs.YtgmbpohbjhaghaaDoor.load
open Go.ChangeShapes Go.WideShapes Go.ChangeAt Go.RowKit
open Go.Proofs.YtgmbpohbjhaghaaDoor.strs Go.Proofs.YtgmbpohbjhaghaaDoor.hist Go.Proofs.YtgmbpohbjhaghaaDoor.varb Go.Proofs.YtgmbpohbjhaghaaDoor.scope_
open Go.Proofs.YtgmbpohbjhaghaaDoor.kill (own_lo own_set own_later own_open behindS_any)
open Go.Proofs.YtgmbpohbjhaghaaDoor.read (textV getV toutV)
open Go.Proofs.YtgmbpohbjhaghaaDoor.unseal_ (unV)
open Go.Proofs.YtgmbpohbjhaghaaDoor.all_ (goodB filled_any)
/-- the frame at a jump -/
def FR (s : ByteArray) (w : World) (v : Value) (a : Act) : Prop := a.defers = [] ∧ a.tmps.size = 33 ∧ (a.tmps.getD 0 undef = .string s ∧ a.tmps.getD 2 undef = .pointer (some ⟨w.heap.size, 0, none⟩) ∧ a.tmps.getD 3 undef = v ∧ a.tmps.getD 4 undef = .pointer (some ⟨w.heap.size + 1, 0, none⟩) ∧ a.tmps.getD 5 undef = .pointer (some ⟨w.heap.size + 2, 0, none⟩))
set_option maxRecDepth 100000 in
theorem FR.open_ {s : ByteArray} {w : World} {v : Value} {a : Act} (h : FR s w v a) : ∃ u1 u6 u7 u8 u9 u10 u11 u12 u13 u14 u15 u16 u17 u18 u19 u20 u21 u22 u23 u24 u25 u26 u27 u28 u29 u30 u31 u32, a = ⟨#[.string s, u1, .pointer (some ⟨w.heap.size, 0, none⟩), v, .pointer (some ⟨w.heap.size + 1, 0, none⟩), .pointer (some ⟨w.heap.size + 2, 0, none⟩), u6, u7, u8, u9, u10, u11, u12, u13, u14, u15, u16, u17, u18, u19, u20, u21, u22, u23, u24, u25, u26, u27, u28, u29, u30, u31, u32], []⟩ := by
  obtain ⟨hd, hn, h0, h2, h3, h4, h5⟩ := h
  refine ⟨a.tmps.getD 1 undef, a.tmps.getD 6 undef, a.tmps.getD 7 undef, a.tmps.getD 8 undef, a.tmps.getD 9 undef, a.tmps.getD 10 undef, a.tmps.getD 11 undef, a.tmps.getD 12 undef, a.tmps.getD 13 undef, a.tmps.getD 14 undef, a.tmps.getD 15 undef, a.tmps.getD 16 undef, a.tmps.getD 17 undef, a.tmps.getD 18 undef, a.tmps.getD 19 undef, a.tmps.getD 20 undef, a.tmps.getD 21 undef, a.tmps.getD 22 undef, a.tmps.getD 23 undef, a.tmps.getD 24 undef, a.tmps.getD 25 undef, a.tmps.getD 26 undef, a.tmps.getD 27 undef, a.tmps.getD 28 undef, a.tmps.getD 29 undef, a.tmps.getD 30 undef, a.tmps.getD 31 undef, a.tmps.getD 32 undef, ?_⟩
  obtain ⟨t, d⟩ := a
  simp only at hd hn h0 h2 h3 h4 h5
  subst hd
  rw [← h0, ← h2, ← h3, ← h4, ← h5]
  exact congrArg (fun z => ({ tmps := z, defers := [] } : Act)) (arr_eq t 33 hn)
structure LI (s : ByteArray) (w : World) (p : Nat) (acc : List ByteArray) (v : Value) (W : World) : Prop where
  pos : p ≤ s.size
  rest : ∃ f, s.size < p + f ∧ acc ++ loadF s f p = allL s
  own : W.ownsRow (w.heap.size + 3) 9 1 v (last12 acc).length ((last12 acc).map Value.string)
  res : VarB W w.heap.size #[.slice none 0 0, .int .i64 0, .string ⟨#[]⟩] 24
  rd : ∃ T c, VarB W (w.heap.size + 1) #[.string T, .int .i64 (p : Nat), .int .i64 c] 30
  ins : ∃ T q c, VarB W (w.heap.size + 2) #[.string T, .int .i64 q, .int .i64 c] 30
  bel : Below w.heap.size w W
structure LE (s : ByteArray) (w : World) (v : Value) (W : World) : Prop where
  own : W.ownsRow (w.heap.size + 3) 9 1 v (loadV s).length ((loadV s).map Value.string)
  res : VarB W w.heap.size #[.slice none 0 0, .int .i64 0, .string ⟨#[]⟩] 24
  bel : Below w.heap.size w W
theorem LI.below {s : ByteArray} {w : World} {p : Nat} {acc : List ByteArray} {v : Value} {W W' : World} (h : LI s w p acc v W) (hb : Below W.heap.size W W') : LI s w p acc v W' :=
  ⟨h.pos, h.rest, own_later h.own hb, h.res.below hb, by obtain ⟨T, c, hr⟩ := h.rd; exact ⟨T, c, hr.below hb⟩, by obtain ⟨T, q, c, hr⟩ := h.ins; exact ⟨T, q, c, hr.below hb⟩, bthen h.bel hb h.bel.size⟩
/-- what was read is written down -/
theorem LI.read {s : ByteArray} {w : World} {p : Nat} {acc : List ByteArray} {v : Value} {W : World} (h : LI s w p acc v W) (x : ByteArray) (q c : Int) :
    let W' := ((W.setCell ⟨w.heap.size + 1, 0, none⟩ (.string x)).setCell ⟨w.heap.size + 1, 1, none⟩ (.int .i64 q)).setCell ⟨w.heap.size + 1, 2, none⟩ (.int .i64 c)
    W'.ownsRow (w.heap.size + 3) 9 1 v (last12 acc).length ((last12 acc).map Value.string) ∧ VarB W' w.heap.size #[.slice none 0 0, .int .i64 0, .string ⟨#[]⟩] 24 ∧
      VarB W' (w.heap.size + 1) #[.string x, .int .i64 q, .int .i64 c] 30 ∧ (∃ T q c, VarB W' (w.heap.size + 2) #[.string T, .int .i64 q, .int .i64 c] 30) ∧ Below w.heap.size w W' := by
  intro W'
  have hle : w.heap.size ≤ w.heap.size + 1 := Nat.le_succ _
  obtain ⟨T, c', hr⟩ := h.rd
  obtain ⟨T2, q2, c2, hi⟩ := h.ins
  exact ⟨own_set (own_set (own_set h.own (by omega)) (by omega)) (by omega), ((h.res.other (by omega) _).other (by omega) _).other (by omega) _, ((hr.set (k := 0) _).set (k := 1) _).set (k := 2) _,
    ⟨T2, q2, c2, ((hi.other (by omega) _).other (by omega) _).other (by omega) _⟩, ((h.bel.setCell (p := ⟨w.heap.size + 1, 0, none⟩) hle _).setCell (p := ⟨w.heap.size + 1, 1, none⟩) hle _).setCell (p := ⟨w.heap.size + 1, 2, none⟩) hle _⟩
/-- what was unsealed is written down -/
theorem LI.inside {s : ByteArray} {w : World} {p : Nat} {acc : List ByteArray} {v : Value} {W : World} (h : LI s w p acc v W) (x : ByteArray) (q c : Int) :
    LI s w p acc v (((W.setCell ⟨w.heap.size + 2, 0, none⟩ (.string x)).setCell ⟨w.heap.size + 2, 1, none⟩ (.int .i64 q)).setCell ⟨w.heap.size + 2, 2, none⟩ (.int .i64 c)) := by
  have hle : w.heap.size ≤ w.heap.size + 2 := by omega
  obtain ⟨T, c', hr⟩ := h.rd
  obtain ⟨T2, q2, c2, hi⟩ := h.ins
  exact ⟨h.pos, h.rest, own_set (own_set (own_set h.own (by omega)) (by omega)) (by omega), ((h.res.other (by omega) _).other (by omega) _).other (by omega) _,
    ⟨T, c', ((hr.other (by omega) _).other (by omega) _).other (by omega) _⟩, ⟨x, q, c, ((hi.set (k := 0) _).set (k := 1) _).set (k := 2) _⟩,
    ((h.bel.setCell (p := ⟨w.heap.size + 2, 0, none⟩) hle _).setCell (p := ⟨w.heap.size + 2, 1, none⟩) hle _).setCell (p := ⟨w.heap.size + 2, 2, none⟩) hle _⟩
def JS (s : ByteArray) (w : World) (l : Nat) (a : Act) (W : World) : Prop :=
  (l = 0 ∧ ∃ p acc v, FR s w v a ∧ LI s w p acc v W) ∨ (l = 1 ∧ ∃ v, FR s w v a ∧ LE s w v W)
def μS (s : ByteArray) (w : World) (l : Nat) (_ : Act) (W : World) : Nat := if l = 0 then s.size + 2 - (intOf ((W.cell? ⟨w.heap.size + 1, 1, none⟩).getD undef)).toNat else 0
theorem μS_zero {s : ByteArray} {w : World} {p : Nat} {acc : List ByteArray} {v : Value} {W : World} {a : Act} (h : LI s w p acc v W) : μS s w 0 a W = s.size + 2 - p := by
  obtain ⟨T, c, hr⟩ := h.rd
  unfold μS
  rw [if_pos rfl, hr.cell (i := 1) rfl]
  simp [intOf]
theorem μS_one {s : ByteArray} {w : World} {W : World} {a : Act} : μS s w 1 a W = 0 := rfl
theorem out_of' {s : ByteArray} {p : Nat} {x : ByteArray} {y z : Int} (h : textV s p = (x, y, z)) : toutV (textV s p) = .agg #[.string x, .int .i64 y, .int .i64 z] := by rw [h]; rfl
set_option maxRecDepth 20000 in
set_option maxHeartbeats 3200000 in
theorem implLoad_any (s : ByteArray) (hs : s.size ≤ 1048576) (w : World) (hg : w.cell? ⟨0, 0, none⟩ = some as_.handleE) :
    Calls Tryd.prog 5 #[.string s] w fun e w' => ∃ a c, e = .returned (hV a (loadV s).length c (loadV s).length ⟨#[]⟩) ∧ SRow w' a (loadV s) ∧ SBlk w.heap.size w' a (loadV s).length ∧ Below w.heap.size w w' := by
  have HT := Lib.hid (fun (p : Nat) W (hb : Below w.heap.size w W) => read.implText_any s p (by unfold maxLen; omega) W (by rw [hb.cell (p := ⟨0, 0, none⟩) (blk_lt hg)]; exact hg))
  have HU := Lib.hid (fun (x : ByteArray) (hx : x.size ≤ 8000) W => unseal_.implUn_any x (by unfold maxLen; omega) W)
  have HF := Lib.hid (fun (x : ByteArray) (hx : x.size ≤ 8000) W => filled_any x (by unfold maxLen; omega) W)
  clear hg
  unfold hV
  go_enter Tryd.func5, Tryd.ntmps5
  go_wp2
  refine wp_labels (JS s w) (μS s w) ?_ (fun l a wr hJ => ?_)
  · have HI := Lib.hid (show LI s w 0 [] (.slice none (last12 []).length 0) (((w.alloc (.cells #[.slice none 0 0, .int .i64 0, .string ⟨#[]⟩] 24)).alloc (.cells #[.string ⟨#[]⟩, .int .i64 0, .int .i64 0] 30)).alloc (.cells #[.string ⟨#[]⟩, .int .i64 0, .int .i64 0] 30)) from by
      have h1 := (VarB.new (w.alloc (.cells #[.slice none 0 0, .int .i64 0, .string ⟨#[]⟩] 24)) #[.string ⟨#[]⟩, .int .i64 0, .int .i64 0] 30).alloc (.cells #[.string ⟨#[]⟩, .int .i64 0, .int .i64 0] 30)
      have h2 := VarB.new ((w.alloc (.cells #[.slice none 0 0, .int .i64 0, .string ⟨#[]⟩] 24)).alloc (.cells #[.string ⟨#[]⟩, .int .i64 0, .int .i64 0] 30)) #[.string ⟨#[]⟩, .int .i64 0, .int .i64 0] 30
      rw [show (w.alloc (.cells #[.slice none 0 0, .int .i64 0, .string ⟨#[]⟩] 24)).heap.size = w.heap.size + 1 by simp] at h1
      rw [show ((w.alloc (.cells #[.slice none 0 0, .int .i64 0, .string ⟨#[]⟩] 24)).alloc (.cells #[.string ⟨#[]⟩, .int .i64 0, .int .i64 0] 30)).heap.size = w.heap.size + 2 by simp] at h2
      exact ⟨Nat.zero_le _, ⟨s.size + 1, by omega, rfl⟩, World.ownsRow_nil _ _ _ _, ((VarB.new w _ _).alloc _).alloc _, ⟨_, _, h1⟩, ⟨_, _, _, h2⟩, (((Below.refl _ w).alloc (Nat.le_refl _) _).alloc (by simp) _).alloc (by simp; omega) _⟩)
    have HOPEN := Lib.hid (fun (W : World) (h : W.ownsRow (w.heap.size + 3) 9 1 (.slice none (last12 []).length 0) (last12 []).length ((last12 []).map Value.string)) => own_open h)
    obtain ⟨R, c', hr⟩ := HI.out.rd
    have r1 := hr.cell (i := 1) rfl
    obtain ⟨x, y, z, hV⟩ : ∃ x y z, textV s ((0 : Nat) : Int) = (x, y, z) := ⟨_, _, _, rfl⟩
    have HTp := Lib.hid (HT.out 0 _ HI.out.bel)
    rw [out_of' hV] at HTp
    clear hr
    go_wp2; go_step3
    go_wp2_with fail
    refine HTp.out.mono ?_
    rintro e w1 ⟨rfl, hb1⟩
    have HI := Lib.hid (HI.out.below hb1)
    clear hb1 r1 HTp
    obtain ⟨R', c'', hr⟩ := HI.out.rd
    have r0 := hr.cell (i := 0) rfl
    have r1 := hr.cell (i := 1) rfl
    have r2 := hr.cell (i := 2) rfl
    have rf := hr.froz
    clear hr
    have hpos := HI.out.pos
    by_cases hz : z = 0
    · subst hz
      obtain ⟨_, k2, k3, k4⟩ := textV_in s 0 (by rw [hV])
      obtain ⟨f, hf, hacc⟩ := HI.out.rest
      obtain ⟨f', q, e1, e2, e3, e4, e5⟩ := load_step (by rw [hV]) hf
      rw [hV] at k2 k3 k4 e1 e5
      dsimp only at k2 k3 k4 e1 e5
      subst e1
      have HU1 := Lib.hid (HU.out x k4)
      obtain ⟨T, c, hun⟩ : ∃ T c, unT x = (T, c) := ⟨_, _, rfl⟩
      have hTs := unT_size x
      have HUV := Lib.hid (unV_T x)
      rw [hun] at HUV hTs
      dsimp only at HUV hTs
      rw [HUV.out] at HU1
      have HK := Lib.hid (show keepL x = if c = 0 ∧ goodB T = true then [T] else [] by unfold keepL; rw [hun])
      have HSTEP := Lib.hid (show ([] ++ keepL x) ++ loadF s f' q = allL s by rw [List.append_assoc, ← e5]; exact hacc)
      have HF1 := Lib.hid (HF.out T hTs)
      have HRD := Lib.hid (HI.out.read x (q : Nat) 0)
      clear k2 k3 e5 hacc hf f hV hun HUV hTs k4
      go_wp2_with fail
      refine (HU1.out _).mono ?_
      rintro e w2 ⟨rfl, hb2⟩
      have HLI := Lib.hid (show ([] ++ keepL x = [] → LI s w q [] (.slice none (last12 []).length 0) w2) ∧ w2.ownsRow (w.heap.size + 3) 9 1 (.slice none (last12 []).length 0) (last12 []).length ((last12 []).map Value.string) ∧ VarB w2 w.heap.size #[.slice none 0 0, .int .i64 0, .string ⟨#[]⟩] 24 ∧
          VarB w2 (w.heap.size + 1) #[.string x, .int .i64 (q : Nat), .int .i64 0] 30 ∧ (∃ T q c, VarB w2 (w.heap.size + 2) #[.string T, .int .i64 q, .int .i64 c] 30) ∧ Below w.heap.size w w2 from by
        obtain ⟨g1, g2, g3, ⟨T2, q2, c2, g4⟩, g5⟩ := HRD.out
        have g1 := own_later g1 hb2
        have g2 := g2.below hb2
        have g3 := g3.below hb2
        have g4 := g4.below hb2
        have g5 := bthen g5 hb2 g5.size
        exact ⟨fun e => ⟨e3, ⟨f', e4, by have := HSTEP.out; rw [e] at this; exact this⟩, g1, g2, ⟨x, 0, g3⟩, ⟨T2, q2, c2, g4⟩, g5⟩, g1, g2, g3, ⟨T2, q2, c2, g4⟩, g5⟩)
      clear hb2 r0 r1 r2 rf HRD HI
      obtain ⟨T2, q2, c2, hi⟩ := HLI.out.2.2.2.2.1
      have i0 := hi.cell (i := 0) rfl
      have i1 := hi.cell (i := 1) rfl
      have i2 := hi.cell (i := 2) rfl
      have iF := hi.froz
      clear hi
      by_cases hc : c = 0
      · subst hc
        cases ht : goodB T
        · have HSAME := Lib.hid (show [] ++ keepL x = [] by rw [HK.out, if_neg (by rw [ht]; simp), List.append_nil])
          rw [ht] at HF1
          clear ht
          go_wp2_with fail
          refine (HF1.out _).mono ?_
          rintro e w3 ⟨rfl, hb3⟩
          have HI := Lib.hid (((HLI.out.1 HSAME.out).inside T 0 0).below hb3)
          clear hb3
          go_wp2
          go_step3
          have HLI := Lib.hid (HI.out)
          exact Or.inl ⟨rfl, q, [], _, ⟨rfl, rfl, rfl, rfl, rfl, rfl, rfl⟩, HLI.out⟩
        · have HNEW := Lib.hid (show [] ++ keepL x = [] ++ [T] by rw [HK.out, if_pos ⟨rfl, ht⟩])
          rw [ht] at HF1
          clear ht
          go_wp2_with fail
          refine (HF1.out _).mono ?_
          rintro e w3 ⟨rfl, hb3⟩
          have HOLD := Lib.hid (show w3.ownsRow (w.heap.size + 3) 9 1 (.slice none (last12 []).length 0) (last12 []).length ((last12 []).map Value.string) ∧ VarB w3 w.heap.size #[.slice none 0 0, .int .i64 0, .string ⟨#[]⟩] 24 ∧
              VarB w3 (w.heap.size + 1) #[.string x, .int .i64 (q : Nat), .int .i64 0] 30 ∧ VarB w3 (w.heap.size + 2) #[.string T, .int .i64 0, .int .i64 0] 30 ∧ Below w.heap.size w w3 from by
            obtain ⟨_, g1, g2, g3, ⟨T2, q2, c2, g4⟩, g5⟩ := HLI.out
            have hle : w.heap.size ≤ w.heap.size + 2 := by omega
            exact ⟨own_later (own_set (own_set (own_set g1 (by omega)) (by omega)) (by omega)) hb3, (((g2.other (by omega) _).other (by omega) _).other (by omega) _).below hb3, (((g3.other (by omega) _).other (by omega) _).other (by omega) _).below hb3,
              (((g4.set (k := 0) _).set (k := 1) _).set (k := 2) _).below hb3,
              bthen (((g5.setCell (p := ⟨w.heap.size + 2, 0, none⟩) hle _).setCell (p := ⟨w.heap.size + 2, 1, none⟩) hle _).setCell (p := ⟨w.heap.size + 2, 2, none⟩) hle _) hb3 (by have := g5.size; simpa using this)⟩)
          clear hb3
          obtain ⟨a', C', e', o1, o2, o3, _⟩ := HOPEN.out _ HOLD.out.1
          injection e' with ea eb ec
          have ea := ea.symm; have ec := ec.symm; subst ea ec
          have HP := Lib.hid (show Calls Tryd.prog 15 #[.slice none (last12 []).length 0, .string T, .int .i64 12] w3 _ from behindS_any none 0 (last12 []) T 12 (by omega) (by omega) (by have := last12_len []; omega) o1 (fun e => (o2 e).2) w3 o3)
          have t0 := HOLD.out.2.2.2.1.cell (i := 0) rfl
          clear o1 o2 o3
          go_wp2_with fail
          refine HP.out.mono ?_
          rintro e w4 ⟨v', rfl, hown, hb4⟩
          rw [← last12_snoc] at hown
          have HI := Lib.hid (show LI s w q ([] ++ [T]) v' w4 from by
            obtain ⟨_, g2, g3, g4, g5⟩ := HOLD.out
            exact ⟨e3, ⟨f', e4, by have := HSTEP.out; rw [HNEW.out] at this; exact this⟩, own_lo hown (by have := g4.lt; omega), g2.below hb4, ⟨x, 0, g3.below hb4⟩, ⟨T, 0, 0, g4.below hb4⟩, bthen g5 hb4 g5.size⟩)
          clear hown hb4
          go_wp2
          go_step3
          have HLI := Lib.hid (HI.out)
          exact Or.inl ⟨rfl, q, [] ++ [T], _, ⟨rfl, rfl, rfl, rfl, rfl, rfl, rfl⟩, HLI.out⟩
      · have hcb : (c == 0) = false := by simpa using hc
        have HSAME := Lib.hid (show [] ++ keepL x = [] by rw [HK.out, if_neg (fun e => hc e.1), List.append_nil])
        have HI := Lib.hid ((HLI.out.1 HSAME.out).inside T 0 c)
        go_wp2
        go_step3
        have HLI := Lib.hid (HI.out)
        exact Or.inl ⟨rfl, q, [], _, ⟨rfl, rfl, rfl, rfl, rfl, rfl, rfl⟩, HLI.out⟩
    · have hzb : (z == 0) = false := by simpa using hz
      have hall : [] = allL s := by
        obtain ⟨f, _, h⟩ := HI.out.rest
        rw [load_none (by rw [hV]; exact hz), List.append_nil] at h
        exact h
      have HE := Lib.hid (show LE s w (.slice none (last12 []).length 0) (((w1.setCell ⟨w.heap.size + 1, 0, none⟩ (.string x)).setCell ⟨w.heap.size + 1, 1, none⟩ (.int .i64 y)).setCell ⟨w.heap.size + 1, 2, none⟩ (.int .i64 z)) from by
        obtain ⟨g1, g2, _, _, g5⟩ := HI.out.read x y z
        exact ⟨by unfold loadV; rw [← hall]; exact g1, g2, g5⟩)
      clear hall hV HI
      go_wp2
      go_step3
      exact Or.inr ⟨rfl, _, ⟨rfl, rfl, rfl, rfl, rfl, rfl, rfl⟩, HE.out⟩
  · rcases hJ with ⟨rfl, p, acc, v, hfr, hli⟩ | ⟨rfl, v, hfr, hle⟩
    · obtain ⟨u1, u6, u7, u8, u9, u10, u11, u12, u13, u14, u15, u16, u17, u18, u19, u20, u21, u22, u23, u24, u25, u26, u27, u28, u29, u30, u31, u32, ha⟩ := hfr.open_
      subst ha
      have HI := Lib.hid hli
      clear hfr hli
      refine ⟨_, rfl, ?_⟩
      obtain ⟨a, C, rfl, _, _, _, _⟩ := own_open HI.out.own
      have HOPEN := Lib.hid (fun (W : World) (h : W.ownsRow (w.heap.size + 3) 9 1 (.slice a (last12 acc).length C) (last12 acc).length ((last12 acc).map Value.string)) => own_open h)
      obtain ⟨R, c', hr⟩ := HI.out.rd
      have r1 := hr.cell (i := 1) rfl
      obtain ⟨x, y, z, hV⟩ : ∃ x y z, textV s p = (x, y, z) := ⟨_, _, _, rfl⟩
      have HTp := Lib.hid (HT.out p _ HI.out.bel)
      rw [out_of' hV] at HTp
      clear hr
      have HMU := Lib.hid (fun a0 => μS_zero (a := a0) HI.out)
      go_wp2_with fail
      refine HTp.out.mono ?_
      rintro e w1 ⟨rfl, hb1⟩
      have HI := Lib.hid (HI.out.below hb1)
      clear hb1 r1 HTp
      obtain ⟨R', c'', hr⟩ := HI.out.rd
      have r0 := hr.cell (i := 0) rfl
      have r1 := hr.cell (i := 1) rfl
      have r2 := hr.cell (i := 2) rfl
      have rf := hr.froz
      clear hr
      have hpos := HI.out.pos
      by_cases hz : z = 0
      · subst hz
        obtain ⟨_, k2, k3, k4⟩ := textV_in s p (by rw [hV])
        obtain ⟨f, hf, hacc⟩ := HI.out.rest
        obtain ⟨f', q, e1, e2, e3, e4, e5⟩ := load_step (by rw [hV]) hf
        rw [hV] at k2 k3 k4 e1 e5
        dsimp only at k2 k3 k4 e1 e5
        subst e1
        have HU1 := Lib.hid (HU.out x k4)
        obtain ⟨T, c, hun⟩ : ∃ T c, unT x = (T, c) := ⟨_, _, rfl⟩
        have hTs := unT_size x
        have HUV := Lib.hid (unV_T x)
        rw [hun] at HUV hTs
        dsimp only at HUV hTs
        rw [HUV.out] at HU1
        have HK := Lib.hid (show keepL x = if c = 0 ∧ goodB T = true then [T] else [] by unfold keepL; rw [hun])
        have HSTEP := Lib.hid (show (acc ++ keepL x) ++ loadF s f' q = allL s by rw [List.append_assoc, ← e5]; exact hacc)
        have HF1 := Lib.hid (HF.out T hTs)
        have HRD := Lib.hid (HI.out.read x (q : Nat) 0)
        clear k2 k3 e5 hacc hf f hV hun HUV hTs k4
        go_wp2_with fail
        refine (HU1.out _).mono ?_
        rintro e w2 ⟨rfl, hb2⟩
        have HLI := Lib.hid (show (acc ++ keepL x = acc → LI s w q acc (.slice a (last12 acc).length C) w2) ∧ w2.ownsRow (w.heap.size + 3) 9 1 (.slice a (last12 acc).length C) (last12 acc).length ((last12 acc).map Value.string) ∧ VarB w2 w.heap.size #[.slice none 0 0, .int .i64 0, .string ⟨#[]⟩] 24 ∧
            VarB w2 (w.heap.size + 1) #[.string x, .int .i64 (q : Nat), .int .i64 0] 30 ∧ (∃ T q c, VarB w2 (w.heap.size + 2) #[.string T, .int .i64 q, .int .i64 c] 30) ∧ Below w.heap.size w w2 from by
          obtain ⟨g1, g2, g3, ⟨T2, q2, c2, g4⟩, g5⟩ := HRD.out
          have g1 := own_later g1 hb2
          have g2 := g2.below hb2
          have g3 := g3.below hb2
          have g4 := g4.below hb2
          have g5 := bthen g5 hb2 g5.size
          exact ⟨fun e => ⟨e3, ⟨f', e4, by have := HSTEP.out; rw [e] at this; exact this⟩, g1, g2, ⟨x, 0, g3⟩, ⟨T2, q2, c2, g4⟩, g5⟩, g1, g2, g3, ⟨T2, q2, c2, g4⟩, g5⟩)
        clear hb2 r0 r1 r2 rf HRD HI
        obtain ⟨T2, q2, c2, hi⟩ := HLI.out.2.2.2.2.1
        have i0 := hi.cell (i := 0) rfl
        have i1 := hi.cell (i := 1) rfl
        have i2 := hi.cell (i := 2) rfl
        have iF := hi.froz
        clear hi
        by_cases hc : c = 0
        · subst hc
          cases ht : goodB T
          · have HSAME := Lib.hid (show acc ++ keepL x = acc by rw [HK.out, if_neg (by rw [ht]; simp), List.append_nil])
            rw [ht] at HF1
            clear ht
            go_wp2_with fail
            refine (HF1.out _).mono ?_
            rintro e w3 ⟨rfl, hb3⟩
            have HI := Lib.hid (((HLI.out.1 HSAME.out).inside T 0 0).below hb3)
            clear hb3
            go_wp2
            go_step3
            have HLI := Lib.hid (HI.out)
            exact ⟨Or.inl ⟨rfl, q, acc, _, ⟨rfl, rfl, rfl, rfl, rfl, rfl, rfl⟩, HLI.out⟩, by rw [μS_zero HLI.out, HMU.out]; omega⟩
          · have HNEW := Lib.hid (show acc ++ keepL x = acc ++ [T] by rw [HK.out, if_pos ⟨rfl, ht⟩])
            rw [ht] at HF1
            clear ht
            go_wp2_with fail
            refine (HF1.out _).mono ?_
            rintro e w3 ⟨rfl, hb3⟩
            have HOLD := Lib.hid (show w3.ownsRow (w.heap.size + 3) 9 1 (.slice a (last12 acc).length C) (last12 acc).length ((last12 acc).map Value.string) ∧ VarB w3 w.heap.size #[.slice none 0 0, .int .i64 0, .string ⟨#[]⟩] 24 ∧
                VarB w3 (w.heap.size + 1) #[.string x, .int .i64 (q : Nat), .int .i64 0] 30 ∧ VarB w3 (w.heap.size + 2) #[.string T, .int .i64 0, .int .i64 0] 30 ∧ Below w.heap.size w w3 from by
              obtain ⟨_, g1, g2, g3, ⟨T2, q2, c2, g4⟩, g5⟩ := HLI.out
              have hle : w.heap.size ≤ w.heap.size + 2 := by omega
              exact ⟨own_later (own_set (own_set (own_set g1 (by omega)) (by omega)) (by omega)) hb3, (((g2.other (by omega) _).other (by omega) _).other (by omega) _).below hb3, (((g3.other (by omega) _).other (by omega) _).other (by omega) _).below hb3,
                (((g4.set (k := 0) _).set (k := 1) _).set (k := 2) _).below hb3,
                bthen (((g5.setCell (p := ⟨w.heap.size + 2, 0, none⟩) hle _).setCell (p := ⟨w.heap.size + 2, 1, none⟩) hle _).setCell (p := ⟨w.heap.size + 2, 2, none⟩) hle _) hb3 (by have := g5.size; simpa using this)⟩)
            clear hb3
            obtain ⟨a', C', e', o1, o2, o3, _⟩ := HOPEN.out _ HOLD.out.1
            injection e' with ea eb ec
            subst ea ec
            have HP := Lib.hid (show Calls Tryd.prog 15 #[.slice a (last12 acc).length C, .string T, .int .i64 12] w3 _ from behindS_any a C (last12 acc) T 12 (by omega) (by omega) (by have := last12_len acc; omega) o1 (fun e => (o2 e).2) w3 o3)
            have t0 := HOLD.out.2.2.2.1.cell (i := 0) rfl
            clear o1 o2 o3
            go_wp2_with fail
            refine HP.out.mono ?_
            rintro e w4 ⟨v', rfl, hown, hb4⟩
            rw [← last12_snoc] at hown
            have HI := Lib.hid (show LI s w q (acc ++ [T]) v' w4 from by
              obtain ⟨_, g2, g3, g4, g5⟩ := HOLD.out
              exact ⟨e3, ⟨f', e4, by have := HSTEP.out; rw [HNEW.out] at this; exact this⟩, own_lo hown (by have := g4.lt; omega), g2.below hb4, ⟨x, 0, g3.below hb4⟩, ⟨T, 0, 0, g4.below hb4⟩, bthen g5 hb4 g5.size⟩)
            clear hown hb4
            go_wp2
            go_step3
            have HLI := Lib.hid (HI.out)
            exact ⟨Or.inl ⟨rfl, q, acc ++ [T], _, ⟨rfl, rfl, rfl, rfl, rfl, rfl, rfl⟩, HLI.out⟩, by rw [μS_zero HLI.out, HMU.out]; omega⟩
        · have hcb : (c == 0) = false := by simpa using hc
          have HSAME := Lib.hid (show acc ++ keepL x = acc by rw [HK.out, if_neg (fun e => hc e.1), List.append_nil])
          have HI := Lib.hid ((HLI.out.1 HSAME.out).inside T 0 c)
          go_wp2
          go_step3
          have HLI := Lib.hid (HI.out)
          exact ⟨Or.inl ⟨rfl, q, acc, _, ⟨rfl, rfl, rfl, rfl, rfl, rfl, rfl⟩, HLI.out⟩, by rw [μS_zero HLI.out, HMU.out]; omega⟩
      · have hzb : (z == 0) = false := by simpa using hz
        have hall : acc = allL s := by
          obtain ⟨f, _, h⟩ := HI.out.rest
          rw [load_none (by rw [hV]; exact hz), List.append_nil] at h
          exact h
        have HE := Lib.hid (show LE s w (.slice a (last12 acc).length C) (((w1.setCell ⟨w.heap.size + 1, 0, none⟩ (.string x)).setCell ⟨w.heap.size + 1, 1, none⟩ (.int .i64 y)).setCell ⟨w.heap.size + 1, 2, none⟩ (.int .i64 z)) from by
          obtain ⟨g1, g2, _, _, g5⟩ := HI.out.read x y z
          exact ⟨by unfold loadV; rw [← hall]; exact g1, g2, g5⟩)
        clear hall hV HI
        go_wp2
        go_step3
        exact ⟨Or.inr ⟨rfl, _, ⟨rfl, rfl, rfl, rfl, rfl, rfl, rfl⟩, HE.out⟩, by rw [HMU.out, μS_one]; omega⟩
    · obtain ⟨u1, u6, u7, u8, u9, u10, u11, u12, u13, u14, u15, u16, u17, u18, u19, u20, u21, u22, u23, u24, u25, u26, u27, u28, u29, u30, u31, u32, ha⟩ := hfr.open_
      subst ha
      obtain ⟨a, C, rfl, _, _, _, _⟩ := own_open hle.own
      have HE := Lib.hid hle
      have d0 := hle.res.cell (i := 0) rfl
      have d1 := hle.res.cell (i := 1) rfl
      have d2 := hle.res.cell (i := 2) rfl
      have df := hle.res.froz
      clear hfr hle
      refine ⟨_, rfl, ?_⟩
      go_wp2
      rw [jumps_ret]
      have hF := (((HE.out.res.set (k := 0) (.slice a (loadV s).length C)).set (k := 1) (.int .i64 ((loadV s).length : Nat))).set (k := 2) (.string ⟨#[]⟩))
      have e0 := hF.cell (i := 0) (v := .slice a (loadV s).length C) rfl
      have e1 := hF.cell (i := 1) (v := .int .i64 ((loadV s).length : Nat)) rfl
      have e2 := hF.cell (i := 2) (v := .string ⟨#[]⟩) rfl
      have h1 := own_set (k := 2) (u := .string ⟨#[]⟩) (own_set (k := 1) (u := .int .i64 ((loadV s).length : Nat)) (own_set (k := 0) (u := .slice a (loadV s).length C) HE.out.own (show w.heap.size < w.heap.size + 3 by omega)) (show w.heap.size < w.heap.size + 3 by omega)) (show w.heap.size < w.heap.size + 3 by omega)
      obtain ⟨a', C', e', _, _, h2, h3⟩ := own_open h1
      injection e' with ea eb ec
      subst ea ec
      exact bodyPost_ret (v := .agg #[.slice a (loadV s).length C, .int .i64 ((loadV s).length : Nat), .string ⟨#[]⟩]) (by simp [results, Tryd.results5, go_sem, e0, e1, e2]) rfl ⟨a, C, rfl, h2, h3.lo (by omega), ((HE.out.bel.setCell (p := ⟨w.heap.size, 0, none⟩) (Nat.le_refl _) _).setCell (p := ⟨w.heap.size, 1, none⟩) (Nat.le_refl _) _).setCell (p := ⟨w.heap.size, 2, none⟩) (Nat.le_refl _) _⟩
end Go.Proofs.YtgmbpohbjhaghaaDoor.load
