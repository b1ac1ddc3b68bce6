/-
  A map of maps that the call owns: what may come behind what. For every such map: looking up, and putting in (putByte, putKey of the program).
-/
import Derived.Test.YtbefoalecogmbaaBase
import Derived.Maps.OwnSet
import Derived.BigQuiet
import Derived.Deep.QuietTactic
namespace Go.Proofs.Ytbefoalecogmbaa.key
open Go.ChangeShapes Go.WideShapes Go.ChangeAt Go.RowKit Go.WideMaps Go.Maps
/-- what may come behind what: of what came ahead, and a byte, a kind -/
abbrev KF := List UInt8 → Option (UInt8 → Option Int)
def newK (F : KF) (a : List UInt8) : KF := fun a' => if a' = a then some (fun _ => none) else F a'
def upd (F : KF) (a : List UInt8) (b : UInt8) (k : Int) : KF := fun a' => if a' = a then some (fun b' => if b' = b then some k else (F a).bind fun g => g b') else F a'
theorem upd_new (F : KF) (a : List UInt8) (b : UInt8) (k : Int) (h : F a = none) : upd (newK F a) a b k = upd F a b k := by
  funext a'
  unfold upd newK
  split
  · simp [h]
  · rfl
/-- a reference to a map reads as its block's number -/
def mapRef (v : Value) : Option (DataW Unit × List MemPlace) :=
  match v with
  | .map none => some (.nil, [])
  | .map (some b) => some (.lit (.int .i64 b), [])
  | _ => none
theorem mapRef_num {v : Value} {b : Nat} {ps : List MemPlace} (h : mapRef v = some (.lit (.int .i64 b), ps)) : v = .map (some b) := by
  unfold mapRef at h
  split at h
  · simp at h
  · rename_i b'
    simp at h
    obtain rfl : b' = b := by omega
    rfl
  · cases h
theorem mapRef_nil {v : Value} {ps : List MemPlace} (h : mapRef v = some (.nil, ps)) : v = .map none := by
  unfold mapRef at h
  split at h
  · rfl
  · simp at h
  · cases h
def bk (x : UInt8) : Lit := .int .u8 (x.toNat : Nat)
theorem bk_wf (x : UInt8) : (bk x).wf = true := by
  have := x.toNat_lt
  simp only [bk, Lit.wf, IntKind.min, IntKind.max, IntKind.signed, IntKind.bits, Bool.and_eq_true]
  simp; omega
theorem bk_key (x : UInt8) : keyOf Try.prog 5 (.int .u8 (x.toNat : Nat)) = some (bk x) := keyOf_int_mk Try.underlying5 (bk_wf x)
theorem bk_inj {x y : UInt8} (h : ¬ x = y) : bk x ≠ bk y := by
  intro e
  unfold bk at e
  injection e with e1 e2
  exact h (UInt8.toNat_inj.1 (by omega))
theorem sk_key (s : ByteArray) (h : s.size ≤ maxLen) : keyOf Try.prog 9 (.string s) = some (.string s.data.toList) := keyOf_string_mk Try.underlying9 h
theorem sk_inj {x y : List UInt8} (h : ¬ x = y) : Lit.string x ≠ Lit.string y := by
  intro e; injection e with e1; exact h e1
theorem lawS : Keyed Try.prog 9 := string_keyed Try.underlying9
theorem lawB : Keyed Try.prog 5 := int_keyed Try.underlying5
theorem zeroI (w : World) : (zeroValue 75).run Try.prog w = .ok (.map none) w := by kernel_rfl
theorem zeroK (w : World) : (zeroValue 2).run Try.prog w = .ok (.int .i64 0) w := by kernel_rfl
def Inner (w : World) (b n : Nat) (g : UInt8 → Option Int) : Prop :=
  ∃ D : DataW Unit, w.ownsMap Try.prog 5 (plainElem Try.prog 2) b n D ∧ ∀ x, has D (bk x) = (g x).isSome ∧ D.atKey (bk x) (.lit (.int .i64 0)) = .lit (.int .i64 ((g x).getD 0))
theorem own_below {H : Type} {P : Program} {k : TypeId} {R : Value → Option (DataW H × List MemPlace)} {w w' : World} {b n : Nat} {D : DataW H} (h : w.ownsMap P k R b n D) (hb : Below w.heap.size w w') : w'.ownsMap P k R b n D := by
  have hl := h.lt
  obtain ⟨es, clock, h1, h2⟩ := h
  exact ⟨es, clock, by rw [hb.block b hl]; exact h1, h2⟩
theorem Inner.below {w w' : World} {b n : Nat} {g : UInt8 → Option Int} (h : Inner w b n g) (hb : Below w.heap.size w w') : Inner w' b n g := by
  obtain ⟨D, h1, h2⟩ := h
  exact ⟨D, own_below h1 hb, h2⟩
theorem Inner.kept {w w' : World} {b n : Nat} {g : UInt8 → Option Int} {row : Option Nat} (h : Inner w b n g) (hg : w.grownBy w' row) (hne : some b ≠ row) : Inner w' b n g := by
  obtain ⟨D, h1, h2⟩ := h
  exact ⟨D, h1.kept hg hne, h2⟩
theorem Inner.mono {w : World} {b n m : Nat} {g : UInt8 → Option Int} (h : Inner w b n g) (hn : n ≤ m) : Inner w b m g := by
  obtain ⟨D, h1, h2⟩ := h
  exact ⟨D, h1.mono hn, h2⟩
theorem Inner.lt {w : World} {b n : Nat} {g : UInt8 → Option Int} (h : Inner w b n g) : b < w.heap.size := by
  obtain ⟨D, h1, _⟩ := h
  exact h1.lt
/-- a kind that is there, and one that is not -/
theorem Inner.look {w : World} {b n : Nat} {g : UInt8 → Option Int} (h : Inner w b n g) (x : UInt8) :
    (Instr.lookup 75 (.map (some b)) (.int .u8 (x.toNat : Nat)) true).run Try.prog w = .ok (.tuple #[.int .i64 ((g x).getD 0), .bool (g x).isSome]) w := by
  obtain ⟨D, h1, h2⟩ := h
  obtain ⟨v, ps, hrun, hv⟩ := h1.look_ok lawB Try.underlying75 (zeroK w) (plainElem_int (P := Try.prog) Try.underlying2 (by decide)) (bk_key x)
  obtain ⟨e1, e2⟩ := h2 x
  rw [e2] at hv
  obtain ⟨a, rfl, hz, _⟩ := plainElem_int_inv Try.underlying2 hv
  simp at hz
  rw [e1, ← hz.1] at hrun
  exact hrun
theorem Inner.put {w : World} {b n : Nat} {g : UInt8 → Option Int} (h : Inner w b n g) (hn : n < maxLen) (x : UInt8) (k : Int) (hk : (Lit.int .i64 k).wf = true) :
    ∃ w', (Instr.mapUpdate 75 (.map (some b)) (.int .u8 (x.toNat : Nat)) (.int .i64 k)).run Try.prog w = .ok () w' ∧ Inner w' b (n + 1) (fun y => if y = x then some k else g y) ∧ w.grownBy w' (some b) := by
  obtain ⟨D, h1, h2⟩ := h
  obtain ⟨w', hrun, ho, hg⟩ := h1.update lawB Try.underlying75 hn (bk_key x) (plainElem_int (P := Try.prog) Try.underlying2 hk)
  refine ⟨w', hrun, ⟨_, ho, fun y => ?_⟩, hg⟩
  by_cases e : y = x
  · subst e
    rw [has_put_same (k := bk y) h1.isMap trivial, atKey_put_same (k := bk y) h1.isMap trivial]
    simp
  · rw [has_put_other (bk_inj e), atKey_put_other (bk_inj e)]
    simp [e, h2 y]
/-- a map of maps in block B, of the call's own memory from base on -/
structure Maps2 (base : Nat) (w : World) (B n : Nat) (F : KF) : Prop where
  it : ∃ (D : DataW Unit) (bl : List UInt8 → Nat), w.ownsMap Try.prog 9 mapRef B n D ∧
    (∀ k, has D (.string k) = (F k).isSome ∧ D.atKey (.string k) .nil = if (F k).isSome then .lit (.int .i64 (bl k)) else .nil) ∧
    (∀ k g, F k = some g → Inner w (bl k) n g ∧ base ≤ bl k ∧ bl k ≠ B) ∧
    (∀ k k', (F k).isSome → (F k').isSome → k ≠ k' → bl k ≠ bl k')
  lo : base ≤ B
theorem Maps2.below {base : Nat} {w w' : World} {B n : Nat} {F : KF} (h : Maps2 base w B n F) (hb : Below w.heap.size w w') : Maps2 base w' B n F := by
  obtain ⟨⟨D, bl, h1, h2, h3, h4⟩, h5⟩ := h
  exact ⟨⟨D, bl, own_below h1 hb, h2, fun k g e => ⟨(h3 k g e).1.below hb, (h3 k g e).2⟩, h4⟩, h5⟩
theorem Maps2.mono {base : Nat} {w : World} {B n m : Nat} {F : KF} (h : Maps2 base w B n F) (hn : n ≤ m) : Maps2 base w B m F := by
  obtain ⟨⟨D, bl, h1, h2, h3, h4⟩, h5⟩ := h
  exact ⟨⟨D, bl, h1.mono hn, h2, fun k g e => ⟨(h3 k g e).1.mono hn, (h3 k g e).2⟩, h4⟩, h5⟩
theorem Maps2.made (base : Nat) (w : World) (hb : base ≤ w.heap.size) : Maps2 base (w.alloc (.map #[] 0)) w.heap.size 0 (fun _ => none) :=
  ⟨⟨.map [], fun _ => 0, World.ownsMap_made _ _ _ _, fun k => ⟨rfl, rfl⟩, (fun k g e => by cases e), (fun k k' e => by cases e)⟩, hb⟩
theorem Maps2.look_some {base : Nat} {w : World} {B n : Nat} {F : KF} (h : Maps2 base w B n F) {s : ByteArray} (hs : s.size ≤ maxLen) {g : UInt8 → Option Int} (e : F s.data.toList = some g) :
    ∃ b, (Instr.lookup 50 (.map (some B)) (.string s) false).run Try.prog w = .ok (.map (some b)) w ∧ Inner w b n g := by
  obtain ⟨⟨D, bl, h1, h2, h3, h4⟩, h5⟩ := h
  obtain ⟨v, ps, hrun, hv⟩ := h1.lookup lawS Try.underlying50 (zeroI w) (zd := .nil) (zp := []) rfl (sk_key s hs)
  rw [(h2 _).2, e] at hv
  obtain rfl := mapRef_num hv
  exact ⟨_, hrun, (h3 _ _ e).1⟩
theorem Maps2.look_none {base : Nat} {w : World} {B n : Nat} {F : KF} (h : Maps2 base w B n F) {s : ByteArray} (hs : s.size ≤ maxLen) (e : F s.data.toList = none) :
    (Instr.lookup 50 (.map (some B)) (.string s) false).run Try.prog w = .ok (.map none) w := by
  obtain ⟨⟨D, bl, h1, h2, h3, h4⟩, h5⟩ := h
  obtain ⟨v, ps, hrun, hv⟩ := h1.lookup lawS Try.underlying50 (zeroI w) (zd := .nil) (zp := []) rfl (sk_key s hs)
  rw [(h2 _).2, e] at hv
  obtain rfl := mapRef_nil hv
  exact hrun
/-- is it there? -/
theorem Maps2.look_ok {base : Nat} {w : World} {B n : Nat} {F : KF} (h : Maps2 base w B n F) {s : ByteArray} (hs : s.size ≤ maxLen) :
    ∃ v, (Instr.lookup 50 (.map (some B)) (.string s) true).run Try.prog w = .ok (.tuple #[v, .bool (F s.data.toList).isSome]) w := by
  obtain ⟨⟨D, bl, h1, h2, h3, h4⟩, h5⟩ := h
  obtain ⟨v, ps, hrun, hv⟩ := h1.look_ok lawS Try.underlying50 (zeroI w) (zd := .nil) (zp := []) rfl (sk_key s hs)
  rw [(h2 _).1] at hrun
  exact ⟨v, hrun⟩
theorem Maps2.lt {base : Nat} {w : World} {B n : Nat} {F : KF} (h : Maps2 base w B n F) : B < w.heap.size := by
  obtain ⟨⟨D, bl, h1, _⟩, _⟩ := h
  exact h1.lt
/-- blocks of cells stay as they are -/
def keepsCells (w w' : World) : Prop := ∀ (b : Nat) (M : Array Value) (T : TypeId) (fr : Nat × Nat), w.heap[b]? = some (Obj.cells M T fr) → w'.heap[b]? = some (Obj.cells M T fr)
theorem keepsCells.trans {a b c : World} (h : keepsCells a b) (k : keepsCells b c) : keepsCells a c := fun i M T fr e => k i M T fr (h i M T fr e)
theorem keepsCells.cell {w w' : World} (h : keepsCells w w') {b o : Nat} {v : Value} (hc : w.cell? ⟨b, o, none⟩ = some v) : w'.cell? ⟨b, o, none⟩ = some v := by
  unfold World.cell? at hc ⊢
  simp only at hc ⊢
  split at hc
  · rename_i M T fr e
    rw [h b M T fr e]; exact hc
  · cases hc
theorem keepsCells_grown {w w' : World} {m : Nat} (hg : w.grownBy w' (some m)) {es : Array MapEntry} {c : Nat} (hm : w.heap[m]? = some (.map es c)) : keepsCells w w' := fun b M T fr e => by
  have hlt := (Array.getElem?_eq_some_iff.1 e).1
  rw [hg.block b hlt (fun e1 => by injection e1 with e1; subst e1; rw [hm] at e; cases e)]; exact e
theorem keepsCells_alloc (w : World) (o : Obj) : keepsCells w (w.alloc o) := fun b M T fr e => by
  have hlt := (Array.getElem?_eq_some_iff.1 e).1
  rw [(World.grownBy_alloc w o none).block b hlt (by simp)]; exact e
theorem ownsMap_block {H : Type} {P : Program} {k : TypeId} {R : Value → Option (DataW H × List MemPlace)} {w : World} {b n : Nat} {D : DataW H} (h : w.ownsMap P k R b n D) : ∃ es c, w.heap[b]? = some (.map es c) := by
  obtain ⟨es, c, h1, _⟩ := h
  exact ⟨es, c, h1⟩
/-- a new map behind a text that had none -/
theorem Maps2.putNew {base : Nat} {w : World} {B n : Nat} {F : KF} (h : Maps2 base w B n F) (hbase : base ≤ w.heap.size) (hn : n < maxLen) {s : ByteArray} (hs : s.size ≤ maxLen) (_ : F s.data.toList = none) :
    ∃ w', (Instr.mapUpdate 50 (.map (some B)) (.string s) (.map (some w.heap.size))).run Try.prog (w.alloc (.map #[] 0)) = .ok () w' ∧ Maps2 base w' B (n + 1) (newK F s.data.toList) ∧ Below base w w' ∧ keepsCells w w' := by
  have hlt := h.lt
  obtain ⟨⟨D, bl, h1, h2, h3, h4⟩, h5⟩ := h
  obtain ⟨w', hrun, ho, hg⟩ := (h1.alloc (.map #[] 0)).update lawS Try.underlying50 hn (sk_key s hs) (show mapRef (.map (some w.heap.size)) = some (.lit (.int .i64 w.heap.size), []) from rfl)
  refine ⟨w', hrun, ⟨⟨_, fun k => if k = s.data.toList then w.heap.size else bl k, ho, fun k => ?_, fun k g he => ?_, fun k k' e1 e2 hne => ?_⟩, h5⟩, ?_, ?_⟩
  · by_cases ek : k = s.data.toList
    · subst ek
      rw [has_put_same (k := .string s.data.toList) h1.isMap trivial, atKey_put_same (k := .string s.data.toList) h1.isMap trivial]
      simp [newK]
    · rw [has_put_other (sk_inj ek), atKey_put_other (sk_inj ek)]
      simp [newK, ek, h2 k]
  · by_cases ek : k = s.data.toList
    · dsimp only
      rw [if_pos ek]
      obtain rfl : (fun _ => none) = g := by simpa [newK, ek] using he
      refine ⟨Inner.kept (w := w.alloc (.map #[] 0)) ⟨.map [], (World.ownsMap_made _ _ _ _).mono (Nat.zero_le _), fun x => ⟨rfl, rfl⟩⟩ hg ?_, hbase, by omega⟩
      intro e1; injection e1 with e1; omega
    · dsimp only
      rw [if_neg ek]
      have he' : F k = some g := by simpa [newK, ek] using he
      obtain ⟨i1, i2, i3⟩ := h3 k g he'
      refine ⟨((i1.kept (World.grownBy_alloc w (.map #[] 0) none) (by simp)).kept hg ?_).mono (by omega), i2, i3⟩
      intro e1; injection e1 with e1; exact i3 e1
  · by_cases ek : k = s.data.toList <;> by_cases ek' : k' = s.data.toList
    · exact absurd (ek.trans ek'.symm) hne
    · simp only [if_pos ek, if_neg ek']
      have e3 : (F k').isSome := by simpa [newK, ek'] using e2
      obtain ⟨g, hg'⟩ := Option.isSome_iff_exists.1 e3
      have := (h3 k' g hg').1.lt
      omega
    · simp only [if_neg ek, if_pos ek']
      have e3 : (F k).isSome := by simpa [newK, ek] using e1
      obtain ⟨g, hg'⟩ := Option.isSome_iff_exists.1 e3
      have := (h3 k g hg').1.lt
      omega
    · simp only [if_neg ek, if_neg ek']
      exact h4 k k' (by simpa [newK, ek] using e1) (by simpa [newK, ek'] using e2) hne
  · exact ((Below.refl base w).alloc hbase _).grown hg (by simp; omega) (fun j hj => by cases hj; exact h5)
  · obtain ⟨es, c, hm⟩ := ownsMap_block (h1.alloc (.map #[] 0))
    exact (keepsCells_alloc w _).trans (keepsCells_grown hg hm)
/-- a kind for a byte, in a map that is there -/
theorem Maps2.putIn {base : Nat} {w : World} {B n : Nat} {F : KF} (h : Maps2 base w B n F) (hbase : base ≤ w.heap.size) (hn : n < maxLen) {s : ByteArray} (hs : s.size ≤ maxLen) {g : UInt8 → Option Int} (e : F s.data.toList = some g) (x : UInt8) (k : Int) (hk : (Lit.int .i64 k).wf = true) :
    ∃ b w', (Instr.lookup 50 (.map (some B)) (.string s) false).run Try.prog w = .ok (.map (some b)) w ∧
      (Instr.mapUpdate 75 (.map (some b)) (.int .u8 (x.toNat : Nat)) (.int .i64 k)).run Try.prog w = .ok () w' ∧ Maps2 base w' B (n + 1) (upd F s.data.toList x k) ∧ Below base w w' ∧ keepsCells w w' := by
  obtain ⟨⟨D, bl, h1, h2, h3, h4⟩, h5⟩ := h
  obtain ⟨v, ps, hrun, hv⟩ := h1.lookup lawS Try.underlying50 (zeroI w) (zd := .nil) (zp := []) rfl (sk_key s hs)
  rw [(h2 _).2, e] at hv
  obtain rfl := mapRef_num hv
  obtain ⟨i1, i2, i3⟩ := h3 _ _ e
  obtain ⟨w', hrun2, hin, hg⟩ := i1.put hn x k hk
  refine ⟨_, w', hrun, hrun2, ⟨⟨D, bl, (h1.kept hg (fun e1 => i3 (by injection e1 with e1; exact e1.symm))).mono (by omega), fun a => ?_, fun a g' ha => ?_, fun a a' e1 e2 hne => ?_⟩, h5⟩, ?_, ?_⟩
  · by_cases ea : a = s.data.toList
    · subst ea
      have := h2 s.data.toList
      rw [e] at this
      simpa [upd] using this
    · simpa [upd, ea] using h2 a
  · by_cases ea : a = s.data.toList
    · subst ea
      have eg : (fun y => if y = x then some k else g y) = g' := by
        have := ha
        simp only [upd, if_pos, e, Option.bind_some, Option.some.injEq] at this
        exact this
      rw [← eg]
      exact ⟨hin, i2, i3⟩
    · have ha' : F a = some g' := by simpa [upd, ea] using ha
      obtain ⟨j1, j2, j3⟩ := h3 a g' ha'
      refine ⟨(j1.kept hg ?_).mono (by omega), j2, j3⟩
      intro e1
      injection e1 with e1
      exact h4 a s.data.toList (by simp [ha']) (by simp [e]) ea e1
  · have f1 : ∀ c, (upd F s.data.toList x k c).isSome → (F c).isSome := fun c hc => by
      by_cases ec : c = s.data.toList
      · subst ec; simp [e]
      · simpa [upd, ec] using hc
    exact h4 a a' (f1 a e1) (f1 a' e2) hne
  · exact (Below.refl base w).grown hg hbase (fun j hj => by cases hj; exact i2)
  · obtain ⟨D2, o2, _⟩ := i1
    obtain ⟨es, c, hm⟩ := ownsMap_block o2
    exact keepsCells_grown hg hm
theorem nil_nil (w : World) : (binOp BinOp.eql 75 (.map none) (.map none)).run Try.prog w = .ok (.bool true) w := by kernel_rfl
theorem map_nil (b : Nat) (w : World) : (binOp BinOp.eql 75 (.map (some b)) (.map none)).run Try.prog w = .ok (.bool false) w := by kernel_rfl
set_option maxHeartbeats 800000 in
theorem putByte_any (base B n : Nat) (F : KF) (s : ByteArray) (x : UInt8) (k : Int) (hs : s.size ≤ maxLen) (hn : n + 1 < maxLen) (hk : (Lit.int .i64 k).wf = true) (w : World) (hbase : base ≤ w.heap.size) (h : Maps2 base w B n F) :
    Calls Try.prog 49 #[.map (some B), .string s, .int .u8 (x.toNat : Nat), .int .i64 k] w fun e w' => e = .returned (.tuple #[]) ∧ Maps2 base w' B (n + 2) (upd F s.data.toList x k) ∧ Below base w w' ∧ keepsCells w w' := by
  have hmm := @run_makeMap Try.prog
  have hnn := nil_nil
  have hmn := map_nil
  cases hF : F s.data.toList with
  | none =>
    have l1 := h.look_none hs hF
    obtain ⟨w1, u1, m1, b1, c1⟩ := h.putNew hbase (by omega) hs hF
    obtain ⟨b, w2, l2, u2, m2, b2, c2⟩ := m1.putIn (Nat.le_trans hbase b1.size) hn hs (g := fun _ => none) (by simp [newK]) x k hk
    have HM := Lib.hid (upd_new F s.data.toList x k hF ▸ m2)
    have HB := Lib.hid (b1.trans b2)
    have HC := Lib.hid (c1.trans c2)
    clear h hF m1 b1 m2 b2 c1 c2
    go_enter Try.func49, Try.ntmps49
    go_wp2
    go_end0
    exact ⟨rfl, HM.out, HB.out, HC.out⟩
  | some g =>
    obtain ⟨b, w2, l2, u2, m2, b2, c2⟩ := h.putIn hbase (by omega) hs hF x k hk
    have HM := Lib.hid (m2.mono (Nat.le_succ _))
    have HB := Lib.hid b2
    have HC := Lib.hid c2
    clear h hF m2 b2 c2
    go_enter Try.func49, Try.ntmps49
    go_wp2
    go_end0
    exact ⟨rfl, HM.out, HB.out, HC.out⟩
end Go.Proofs.Ytbefoalecogmbaa.key
