/-
  KeyOf of the program. For every text that the row reads, every number.
-/
import Derived.Test.YtbefoalecogmbaaKeyNext
import Derived.Test.YtbefoalecogmbaaKeyPure
namespace Go.Proofs.Ytbefoalecogmbaa.key
open Go.ChangeShapes Go.WideShapes Go.ChangeAt Go.RowKit
def koKO (x : KO) : Value := koV ⟨x.1.toArray⟩ x.2.1 x.2.2.1 x.2.2.2 0
theorem ba_of (s : ByteArray) : (⟨s.data.toList.toArray⟩ : ByteArray) = s := by apply ByteArray.ext; simp
theorem ba_add (s : ByteArray) (x : UInt8) : (⟨(s.data.toList ++ [x]).toArray⟩ : ByteArray) = s ++ oneB x := by
  apply ByteArray.ext; apply Array.ext'; simp [oneB]
theorem ba_nil {s : ByteArray} (h : s.data.toList = []) : s = ⟨#[]⟩ := by
  rw [← ba_of s, h]
theorem wait_size {s : ByteArray} (h : s.data.toList ∈ waits) : s.size ≤ 2 := by
  have hl : s.data.toList.length = s.size := rfl
  rw [← hl]
  simp [waits] at h
  rcases h with h | h | h <;> simp [h]
theorem restV_self {wt : List UInt8} {x : UInt8} (h : wt = [] ∧ 32 ≤ x.toNat ∧ x.toNat ≤ 126) : restV wt x = (([], 1, ((x.toNat : Nat) : Int), true) : KO) := by unfold restV; rw [if_pos h]
theorem restV_bad {wt : List UInt8} {x : UInt8} (h : ¬ (wt = [] ∧ 32 ≤ x.toNat ∧ x.toNat ≤ 126)) : restV wt x = (([], 25, ((x.toNat : Nat) : Int), true) : KO) := by unfold restV; rw [if_neg h]
theorem next_any (base B n : Nat) (s : ByteArray) (x : UInt8) (hw : s.data.toList ∈ waits) (w : World) (h : Maps2 base w B n (mapTo 23)) :
    Calls Try.prog 30 #[.map (some B), .string s, .int .u8 (x.toNat : Nat)] w fun e w' => e = .returned (koKO (ofV s.data.toList x)) ∧ Below w.heap.size w w' := by
  rw [← (next_of hw x).1]
  have hs := wait_size hw
  obtain ⟨g, hF⟩ := Option.isSome_iff_exists.1 (some_all _ hw)
  unfold nextV
  rw [hF]
  dsimp only
  cases hg : g x with
  | some k =>
    dsimp only
    by_cases hk : k = 0
    · subst hk
      rw [if_pos rfl]
      have := next_begun base B n (mapTo 23) s (by omega) x g w h hF hg
      simpa only [koKO, ba_add] using this
    · rw [if_neg hk]
      exact next_found base B n (mapTo 23) s (by omega) x g k hk w h hF hg
  | none =>
    dsimp only
    by_cases hp : s.data.toList = [] ∧ 32 ≤ x.toNat ∧ x.toNat ≤ 126
    · rw [restV_self hp]
      obtain ⟨h1, h2, h3⟩ := hp
      obtain rfl := ba_nil h1
      exact next_self base B n (mapTo 23) x g (betB_t (by omega) (by omega)) w h hF hg
    · rw [restV_bad hp]
      refine next_bad base B n (mapTo 23) s (by omega) x g (fun ⟨e1, e2⟩ => hp ⟨by rw [e1], ?_⟩) w h hF hg
      simp [betB] at e2
      omega
noncomputable def keyOfV (s : ByteArray) (b : Int) : Value :=
  if 8000 < s.size then koV ⟨#[]⟩ 0 0 false 2
  else if s.data.toList ∈ waits ∧ 0 ≤ b ∧ b ≤ 255 then koKO (ofV s.data.toList (UInt8.ofNat b.toNat)) else koV ⟨#[]⟩ 0 0 false 1
theorem keyOfV_size {s : ByteArray} {b : Int} (h : 8000 < s.size) : keyOfV s b = koV ⟨#[]⟩ 0 0 false 2 := by unfold keyOfV; rw [if_pos h]
theorem keyOfV_form {s : ByteArray} {b : Int} (h : ¬ 8000 < s.size) (h2 : ¬ (s.data.toList ∈ waits ∧ 0 ≤ b ∧ b ≤ 255)) : keyOfV s b = koV ⟨#[]⟩ 0 0 false 1 := by unfold keyOfV; rw [if_neg h, if_neg h2]
theorem keyOfV_ok {s : ByteArray} {b : Int} (h : ¬ 8000 < s.size) (h2 : s.data.toList ∈ waits ∧ 0 ≤ b ∧ b ≤ 255) : keyOfV s b = koKO (ofV s.data.toList (UInt8.ofNat b.toNat)) := by unfold keyOfV; rw [if_neg h, if_pos h2]
/-- the zero KeyOut in block g -/
structure Ko0 (w : World) (g : Nat) : Prop where
  c0 : w.cell? ⟨g, 0, none⟩ = some (.string ⟨#[]⟩)
  c1 : w.cell? ⟨g, 1, none⟩ = some (.int .i64 0)
  c2 : w.cell? ⟨g, 2, none⟩ = some (.int .i64 0)
  c3 : w.cell? ⟨g, 3, none⟩ = some (.bool false)
  c4 : w.cell? ⟨g, 4, none⟩ = some (.int .i64 0)
  fz : ∀ o, o < 5 → w.frozen? ⟨g, o, none⟩ = false
theorem Ko0.made (w : World) (T : TypeId) : Ko0 (w.alloc (.cells #[.string ⟨#[]⟩, .int .i64 0, .int .i64 0, .bool false, .int .i64 0] T)) w.heap.size where
  c0 := by rw [World.cell?_alloc_at _ _ _ _ rfl]; rfl
  c1 := by rw [World.cell?_alloc_at _ _ _ _ rfl]; rfl
  c2 := by rw [World.cell?_alloc_at _ _ _ _ rfl]; rfl
  c3 := by rw [World.cell?_alloc_at _ _ _ _ rfl]; rfl
  c4 := by rw [World.cell?_alloc_at _ _ _ _ rfl]; rfl
  fz o _ := World.frozen?_alloc_at _ _ _ _ rfl
theorem Ko0.below {w w' : World} {g : Nat} (h : Ko0 w g) (hb : Below w.heap.size w w') : Ko0 w' g where
  c0 := by rw [hb.cell (p := ⟨g, 0, none⟩) (blk_lt h.c0)]; exact h.c0
  c1 := by rw [hb.cell (p := ⟨g, 1, none⟩) (blk_lt h.c1)]; exact h.c1
  c2 := by rw [hb.cell (p := ⟨g, 2, none⟩) (blk_lt h.c2)]; exact h.c2
  c3 := by rw [hb.cell (p := ⟨g, 3, none⟩) (blk_lt h.c3)]; exact h.c3
  c4 := by rw [hb.cell (p := ⟨g, 4, none⟩) (blk_lt h.c4)]; exact h.c4
  fz o ho := by rw [hb.frozen (p := ⟨g, o, none⟩) (blk_lt h.c0)]; exact h.fz o ho
theorem five {B : Nat} {w w' : World} (h : Below B w w') {g : Nat} (hg : B ≤ g) (v0 v1 v2 v3 v4 : Value) :
    Below B w (((((w'.setCell ⟨g, 0, none⟩ v0).setCell ⟨g, 1, none⟩ v1).setCell ⟨g, 2, none⟩ v2).setCell ⟨g, 3, none⟩ v3).setCell ⟨g, 4, none⟩ v4) :=
  ((((h.setCell (p := ⟨g, 0, none⟩) hg _).setCell (p := ⟨g, 1, none⟩) hg _).setCell (p := ⟨g, 2, none⟩) hg _).setCell (p := ⟨g, 3, none⟩) hg _).setCell (p := ⟨g, 4, none⟩) hg _
set_option maxHeartbeats 1600000 in
theorem implKeyOf_any (s : ByteArray) (b : Int) (hs : s.size ≤ maxLen) (w : World) :
    Calls Try.prog 11 #[.string s, .int .i64 b] w fun e w' => e = .returned (keyOfV s b) ∧ Below w.heap.size w w' := by
  by_cases h8 : 8000 < s.size
  · have HV := Lib.hid (keyOfV_size (b := b) h8)
    unfold maxLen at hs
    have h8' : (8000 : Int) < s.size := by omega
    go_enter Try.func11, Try.ntmps11
    go_wp2
    exact bodyPost_ret (v := koV ⟨#[]⟩ 0 0 false 2) (by simp [koV, results, Try.results11, go_sem]) rfl ⟨by rw [HV.out], (Below.refl _ w).alloc (Nat.le_refl _) _⟩
  have h8' : ¬ (8000 : Int) < s.size := by omega
  by_cases hw : s.data.toList ∈ waits
  · have hF : (mapTo 23 s.data.toList).isSome = true := some_all _ hw
    by_cases hbb : 0 ≤ b ∧ b ≤ 255
    · obtain ⟨x, rfl⟩ : ∃ x : UInt8, b = ((x.toNat : Nat) : Int) := ⟨UInt8.ofNat b.toNat, by rw [UInt8.toNat_ofNat_of_lt' (show b.toNat < 256 by omega)]; omega⟩
      have hv := keyOfV_ok h8 ⟨hw, hbb⟩
      rw [Int.toNat_natCast, UInt8.ofNat_toNat] at hv
      have HV := Lib.hid hv
      have hib := isByte_any ((x.toNat : Nat) : Int)
      rw [betB_t hbb.1 hbb.2] at hib
      have hlt := x.toNat_lt
      have hwr : IntKind.u8.wrap ((x.toNat : Nat) : Int) = x.toNat := by simp [IntKind.wrap, IntKind.bits, IntKind.signed]; omega
      have HW := Lib.hid hw
      clear hv hw hbb
      go_enter Try.func11, Try.ntmps11
      go_wp2_with fail
      refine (keyTable_any _).mono ?_
      rintro e w1 ⟨g, rfl, ht, hb1⟩
      obtain ⟨p1, q1⟩ := keepC hb1 (g := w.heap.size) (by simp)
      have z1 : w.heap.size < w1.heap.size := by have := hb1.size; simp at this; omega
      have HB1 := Lib.hid (bthen ((Below.refl _ w).alloc (Nat.le_refl _) _) hb1 (by simp))
      have K1 := Lib.hid ((Ko0.made w 31).below hb1)
      have HT := Lib.hid ht
      clear hb1 ht
      go_wp2_with fail
      refine (keyMapsOf_any g _ _ HT.out).mono ?_
      rintro e w2 ⟨B, rfl, hm, hb2⟩
      obtain ⟨p2, q2⟩ := keepC hb2 (g := w.heap.size) z1
      have z2 : w.heap.size < w2.heap.size := by have := hb2.size; omega
      have HB2 := Lib.hid (bthen HB1.out hb2 (by omega))
      have K2 := Lib.hid (K1.out.below hb2)
      have HM := Lib.hid hm
      clear hb2 hm HT K1 HB1
      go_wp2_with fail
      refine (mayWait_any _ B 300 (mapTo 23) s hs _ HM.out).mono ?_
      rintro e w3 ⟨rfl, rfl⟩
      rw [hF]
      go_wp2_with (go_at_call 34; refine (hib _).mono ?_; rintro e w4 ⟨rfl, rfl⟩)
      refine (next_any _ B 300 s x HW.out _ HM.out).mono ?_
      rintro e w5 ⟨rfl, hb5⟩
      have HB5 := Lib.hid (bthen HB2.out hb5 (by omega))
      obtain ⟨c0, c1, c2, c3, c4, fz⟩ := K2.out.below hb5
      obtain ⟨p5, q5⟩ := keepC hb5 (g := w.heap.size) z2
      clear hb5
      obtain ⟨X, hX⟩ : ∃ X, X = ofV s.data.toList x := ⟨_, rfl⟩
      rw [← hX] at HV ⊢
      obtain ⟨X1, X2, X3, X4⟩ := X
      clear hX
      unfold koKO koV
      go_wp2
      exact bodyPost_ret (v := koV ⟨X1.toArray⟩ X2 X3 X4 0) (by simp [koV, results, Try.results11, go_sem, c0, c1, c2, c3, c4]) rfl ⟨by rw [HV.out]; rfl, five HB5.out (Nat.le_refl _) _ _ _ _ _⟩
    · have HV := Lib.hid (keyOfV_form h8 (fun h => hbb h.2))
      have hib := isByte_any b
      rw [show betB 0 b 255 = false by simp [betB]; omega] at hib
      clear hw hbb
      go_enter Try.func11, Try.ntmps11
      go_wp2_with fail
      refine (keyTable_any _).mono ?_
      rintro e w1 ⟨g, rfl, ht, hb1⟩
      obtain ⟨p1, q1⟩ := keepC hb1 (g := w.heap.size) (by simp)
      have z1 : w.heap.size < w1.heap.size := by have := hb1.size; simp at this; omega
      have HB1 := Lib.hid (bthen ((Below.refl _ w).alloc (Nat.le_refl _) _) hb1 (by simp))
      have K1 := Lib.hid ((Ko0.made w 31).below hb1)
      have HT := Lib.hid ht
      clear hb1 ht
      go_wp2_with fail
      refine (keyMapsOf_any g _ _ HT.out).mono ?_
      rintro e w2 ⟨B, rfl, hm, hb2⟩
      obtain ⟨p2, q2⟩ := keepC hb2 (g := w.heap.size) z1
      have z2 : w.heap.size < w2.heap.size := by have := hb2.size; omega
      have HB2 := Lib.hid (bthen HB1.out hb2 (by omega))
      have K2 := Lib.hid (K1.out.below hb2)
      have HM := Lib.hid hm
      clear hb2 hm HT K1 HB1
      go_wp2_with fail
      refine (mayWait_any _ B 300 (mapTo 23) s hs _ HM.out).mono ?_
      rintro e w3 ⟨rfl, rfl⟩
      rw [hF]
      obtain ⟨c0, c1, c2, c3, c4, fz⟩ := K2.out
      go_wp2_with (go_at_call 34; refine (hib _).mono ?_; rintro e w4 ⟨rfl, rfl⟩)
      exact bodyPost_ret (v := koV ⟨#[]⟩ 0 0 false 1) (by simp [koV, results, Try.results11, go_sem, c0, c1, c2, c3, c4]) rfl ⟨by rw [HV.out], five HB2.out (Nat.le_refl _) _ _ _ _ _⟩
  · have HV := Lib.hid (keyOfV_form (b := b) h8 (fun h => hw h.1))
    have hF : (mapTo 23 s.data.toList).isSome = false := by rw [some_iff]; simpa using hw
    clear hw
    go_enter Try.func11, Try.ntmps11
    go_wp2_with fail
    refine (keyTable_any _).mono ?_
    rintro e w1 ⟨g, rfl, ht, hb1⟩
    obtain ⟨p1, q1⟩ := keepC hb1 (g := w.heap.size) (by simp)
    have z1 : w.heap.size < w1.heap.size := by have := hb1.size; simp at this; omega
    have HB1 := Lib.hid (bthen ((Below.refl _ w).alloc (Nat.le_refl _) _) hb1 (by simp))
    have K1 := Lib.hid ((Ko0.made w 31).below hb1)
    have HT := Lib.hid ht
    clear hb1 ht
    go_wp2_with fail
    refine (keyMapsOf_any g _ _ HT.out).mono ?_
    rintro e w2 ⟨B, rfl, hm, hb2⟩
    obtain ⟨p2, q2⟩ := keepC hb2 (g := w.heap.size) z1
    have z2 : w.heap.size < w2.heap.size := by have := hb2.size; omega
    have HB2 := Lib.hid (bthen HB1.out hb2 (by omega))
    have K2 := Lib.hid (K1.out.below hb2)
    have HM := Lib.hid hm
    clear hb2 hm HT K1 HB1
    go_wp2_with fail
    refine (mayWait_any _ B 300 (mapTo 23) s hs _ HM.out).mono ?_
    rintro e w3 ⟨rfl, rfl⟩
    rw [hF]
    obtain ⟨c0, c1, c2, c3, c4, fz⟩ := K2.out
    go_wp2
    exact bodyPost_ret (v := koV ⟨#[]⟩ 0 0 false 1) (by simp [koV, results, Try.results11, go_sem, c0, c1, c2, c3, c4]) rfl ⟨by rw [HV.out], five HB2.out (Nat.le_refl _) _ _ _ _ _⟩
end Go.Proofs.Ytbefoalecogmbaa.key
