/-
  What the program hands back of what a frame says, and what it makes of a frame. For every frame.
-/
import Derived.Test.YtlhfgpcanfpnfaaDoorFrame
import Derived.Test.YtlhfgpcanfpnfaaDoorShelf
import Derived.Deep.RegionHeld3
namespace Go.Proofs.YtlhfgpcanfpnfaaDoor.frame
open Go.ChangeShapes Go.WideShapes Go.ChangeAt Go.RowKit
open Go.Proofs.YtlhfgpcanfpnfaaDoor.line Go.Proofs.YtlhfgpcanfpnfaaDoor.all_
def sV (k a : Int) (t : ByteArray) : Value :=
  if k = 1 then .iface 61 (.agg #[.int .i64 a, .string t]) else if k = 2 then .iface 62 (.agg #[.int .i64 a, .string t])
  else if k = 3 then .iface 64 (.agg #[.int .i64 a]) else if k = 4 then .iface 65 (.agg #[.int .i64 a, .string t])
  else if k = 5 then .iface 67 (.agg #[.string t]) else if k = 6 then .iface 69 (.agg #[])
  else .iface 70 (.agg #[.string t])
theorem sclone_any (s : ByteArray) (hs : s.size ≤ 281474976710656) (w : World) :
    Calls Tryd.prog 29 #[.string s] w fun e w' => e = .returned (.string s) ∧ Below w.heap.size w w' := by
  go_enter Tryd.func29, Tryd.ntmps29
  go_wp2_with fail
  refine (Tryd.stringslite_Clone _ _ hs).mono ?_
  rintro e w1 ⟨rfl, hb⟩
  go_wp2
  go_ret
  exact ⟨rfl, hb⟩
theorem sV_1 (a : Int) (t : ByteArray) : sV 1 a t = .iface 61 (.agg #[.int .i64 a, .string t]) := by simp [sV]
theorem sV_2 (a : Int) (t : ByteArray) : sV 2 a t = .iface 62 (.agg #[.int .i64 a, .string t]) := by simp [sV]
theorem sV_3 (a : Int) (t : ByteArray) : sV 3 a t = .iface 64 (.agg #[.int .i64 a]) := by simp [sV]
theorem sV_4 (a : Int) (t : ByteArray) : sV 4 a t = .iface 65 (.agg #[.int .i64 a, .string t]) := by simp [sV]
theorem sV_5 (a : Int) (t : ByteArray) : sV 5 a t = .iface 67 (.agg #[.string t]) := by simp [sV]
theorem sV_6 (a : Int) (t : ByteArray) : sV 6 a t = .iface 69 (.agg #[]) := by simp [sV]
theorem sV_7 (a : Int) (t : ByteArray) : sV 7 a t = .iface 70 (.agg #[.string t]) := by simp [sV]
/-- what is handed back of one that says this -/
def nV (k a : Int) (t : ByteArray) : Value := fV k (if k ≤ 4 then a else 0) (if k = 3 ∨ k = 6 then ⟨#[]⟩ else t)
theorem nV_1 (a : Int) (t : ByteArray) : nV 1 a t = fV 1 a t := by simp [nV]
theorem nV_2 (a : Int) (t : ByteArray) : nV 2 a t = fV 2 a t := by simp [nV]
theorem nV_3 (a : Int) (t : ByteArray) : nV 3 a t = fV 3 a ⟨#[]⟩ := by simp [nV]
theorem nV_4 (a : Int) (t : ByteArray) : nV 4 a t = fV 4 a t := by simp [nV]
theorem nV_5 (a : Int) (t : ByteArray) : nV 5 a t = fV 5 0 t := by simp [nV]
theorem nV_6 (a : Int) (t : ByteArray) : nV 6 a t = fV 6 0 ⟨#[]⟩ := by simp [nV]
theorem nV_7 (a : Int) (t : ByteArray) : nV 7 a t = fV 7 0 t := by simp [nV]
theorem as1_1 (v : Value) (w : World) : (Instr.typeAssert (.iface 61 v) 41 61 true).run Tryd.prog w = .ok (.tuple #[v, .bool true]) w := by kernel_rfl
theorem as2_1 (v : Value) (w : World) : (Instr.typeAssert (.iface 62 v) 41 61 true).run Tryd.prog w = .ok (.tuple #[.agg #[.int .i64 0, .string ⟨#[]⟩], .bool false]) w := by kernel_rfl
theorem as2_2 (v : Value) (w : World) : (Instr.typeAssert (.iface 62 v) 41 62 true).run Tryd.prog w = .ok (.tuple #[v, .bool true]) w := by kernel_rfl
theorem as3_1 (v : Value) (w : World) : (Instr.typeAssert (.iface 64 v) 41 61 true).run Tryd.prog w = .ok (.tuple #[.agg #[.int .i64 0, .string ⟨#[]⟩], .bool false]) w := by kernel_rfl
theorem as3_2 (v : Value) (w : World) : (Instr.typeAssert (.iface 64 v) 41 62 true).run Tryd.prog w = .ok (.tuple #[.agg #[.int .i64 0, .string ⟨#[]⟩], .bool false]) w := by kernel_rfl
theorem as3_3 (v : Value) (w : World) : (Instr.typeAssert (.iface 64 v) 41 64 true).run Tryd.prog w = .ok (.tuple #[v, .bool true]) w := by kernel_rfl
theorem as4_1 (v : Value) (w : World) : (Instr.typeAssert (.iface 65 v) 41 61 true).run Tryd.prog w = .ok (.tuple #[.agg #[.int .i64 0, .string ⟨#[]⟩], .bool false]) w := by kernel_rfl
theorem as4_2 (v : Value) (w : World) : (Instr.typeAssert (.iface 65 v) 41 62 true).run Tryd.prog w = .ok (.tuple #[.agg #[.int .i64 0, .string ⟨#[]⟩], .bool false]) w := by kernel_rfl
theorem as4_3 (v : Value) (w : World) : (Instr.typeAssert (.iface 65 v) 41 64 true).run Tryd.prog w = .ok (.tuple #[.agg #[.int .i64 0], .bool false]) w := by kernel_rfl
theorem as4_4 (v : Value) (w : World) : (Instr.typeAssert (.iface 65 v) 41 65 true).run Tryd.prog w = .ok (.tuple #[v, .bool true]) w := by kernel_rfl
theorem as5_1 (v : Value) (w : World) : (Instr.typeAssert (.iface 67 v) 41 61 true).run Tryd.prog w = .ok (.tuple #[.agg #[.int .i64 0, .string ⟨#[]⟩], .bool false]) w := by kernel_rfl
theorem as5_2 (v : Value) (w : World) : (Instr.typeAssert (.iface 67 v) 41 62 true).run Tryd.prog w = .ok (.tuple #[.agg #[.int .i64 0, .string ⟨#[]⟩], .bool false]) w := by kernel_rfl
theorem as5_3 (v : Value) (w : World) : (Instr.typeAssert (.iface 67 v) 41 64 true).run Tryd.prog w = .ok (.tuple #[.agg #[.int .i64 0], .bool false]) w := by kernel_rfl
theorem as5_4 (v : Value) (w : World) : (Instr.typeAssert (.iface 67 v) 41 65 true).run Tryd.prog w = .ok (.tuple #[.agg #[.int .i64 0, .string ⟨#[]⟩], .bool false]) w := by kernel_rfl
theorem as5_5 (v : Value) (w : World) : (Instr.typeAssert (.iface 67 v) 41 67 true).run Tryd.prog w = .ok (.tuple #[v, .bool true]) w := by kernel_rfl
theorem as6_1 (v : Value) (w : World) : (Instr.typeAssert (.iface 69 v) 41 61 true).run Tryd.prog w = .ok (.tuple #[.agg #[.int .i64 0, .string ⟨#[]⟩], .bool false]) w := by kernel_rfl
theorem as6_2 (v : Value) (w : World) : (Instr.typeAssert (.iface 69 v) 41 62 true).run Tryd.prog w = .ok (.tuple #[.agg #[.int .i64 0, .string ⟨#[]⟩], .bool false]) w := by kernel_rfl
theorem as6_3 (v : Value) (w : World) : (Instr.typeAssert (.iface 69 v) 41 64 true).run Tryd.prog w = .ok (.tuple #[.agg #[.int .i64 0], .bool false]) w := by kernel_rfl
theorem as6_4 (v : Value) (w : World) : (Instr.typeAssert (.iface 69 v) 41 65 true).run Tryd.prog w = .ok (.tuple #[.agg #[.int .i64 0, .string ⟨#[]⟩], .bool false]) w := by kernel_rfl
theorem as6_5 (v : Value) (w : World) : (Instr.typeAssert (.iface 69 v) 41 67 true).run Tryd.prog w = .ok (.tuple #[.agg #[.string ⟨#[]⟩], .bool false]) w := by kernel_rfl
theorem as6_6 (v : Value) (w : World) : (Instr.typeAssert (.iface 69 v) 41 69 true).run Tryd.prog w = .ok (.tuple #[v, .bool true]) w := by kernel_rfl
theorem as7_1 (v : Value) (w : World) : (Instr.typeAssert (.iface 70 v) 41 61 true).run Tryd.prog w = .ok (.tuple #[.agg #[.int .i64 0, .string ⟨#[]⟩], .bool false]) w := by kernel_rfl
theorem as7_2 (v : Value) (w : World) : (Instr.typeAssert (.iface 70 v) 41 62 true).run Tryd.prog w = .ok (.tuple #[.agg #[.int .i64 0, .string ⟨#[]⟩], .bool false]) w := by kernel_rfl
theorem as7_3 (v : Value) (w : World) : (Instr.typeAssert (.iface 70 v) 41 64 true).run Tryd.prog w = .ok (.tuple #[.agg #[.int .i64 0], .bool false]) w := by kernel_rfl
theorem as7_4 (v : Value) (w : World) : (Instr.typeAssert (.iface 70 v) 41 65 true).run Tryd.prog w = .ok (.tuple #[.agg #[.int .i64 0, .string ⟨#[]⟩], .bool false]) w := by kernel_rfl
theorem as7_5 (v : Value) (w : World) : (Instr.typeAssert (.iface 70 v) 41 67 true).run Tryd.prog w = .ok (.tuple #[.agg #[.string ⟨#[]⟩], .bool false]) w := by kernel_rfl
theorem as7_6 (v : Value) (w : World) : (Instr.typeAssert (.iface 70 v) 41 69 true).run Tryd.prog w = .ok (.tuple #[.agg #[], .bool false]) w := by kernel_rfl
theorem as7_7 (v : Value) (w : World) : (Instr.typeAssert (.iface 70 v) 41 70 true).run Tryd.prog w = .ok (.tuple #[v, .bool true]) w := by kernel_rfl
theorem frameOf_1 (a : Int) (t : ByteArray) (ht : t.size ≤ 281474976710656) (w : World) :
    Calls Tryd.prog 18 #[sV 1 a t] w fun e w' => e = .returned (nV 1 a t) ∧ Below w.heap.size w w' := by
  rw [sV_1, nV_1]
  have H := Lib.hid ht
  clear ht
  have h1 := as1_1
  go_enter Tryd.func18, Tryd.ntmps18
  go_wp2_with fail
  go_region_with (first
    | (go_at_call 29
       refine (sclone_any _ H.out _).mono ?_
       rintro e w1 ⟨rfl, hb⟩
       obtain ⟨k1, _⟩ := keepC hb (g := w.heap.size) (by simp; try omega)
       obtain ⟨k2, _⟩ := keepC hb (g := w.heap.size + 1) (by simp)
       have z1 := hb.size
       have HB := Lib.hid (show Below w.heap.size w w1 from bthen (by repeat (first | exact Below.refl _ w | refine Below.drew ?_ | refine Below.alloc ?_ (by simp; try omega) _)) hb (by simp; try omega))
       clear hb))
  all_goals
    go_wp2
    exact bodyPost_ret (v := fV 1 a t) (by simp [results, Tryd.results18, go_sem, fV, k1]) rfl
      ⟨rfl, by repeat (first | exact HB.out | refine Below.setCell (B := w.heap.size) (p := ⟨w.heap.size, _, none⟩) ?_ (Nat.le_refl _) _)⟩
theorem frameOf_2 (a : Int) (t : ByteArray) (ht : t.size ≤ 281474976710656) (w : World) :
    Calls Tryd.prog 18 #[sV 2 a t] w fun e w' => e = .returned (nV 2 a t) ∧ Below w.heap.size w w' := by
  rw [sV_2, nV_2]
  have H := Lib.hid ht
  clear ht
  have h1 := as2_1
  have h2 := as2_2
  go_enter Tryd.func18, Tryd.ntmps18
  go_wp2_with fail
  go_region_with (first
    | (go_at_call 29
       refine (sclone_any _ H.out _).mono ?_
       rintro e w1 ⟨rfl, hb⟩
       obtain ⟨k1, _⟩ := keepC hb (g := w.heap.size) (by simp; try omega)
       obtain ⟨k2, _⟩ := keepC hb (g := w.heap.size + 1) (by simp)
       have z1 := hb.size
       have HB := Lib.hid (show Below w.heap.size w w1 from bthen (by repeat (first | exact Below.refl _ w | refine Below.drew ?_ | refine Below.alloc ?_ (by simp; try omega) _)) hb (by simp; try omega))
       clear hb))
  all_goals
    go_wp2
    exact bodyPost_ret (v := fV 2 a t) (by simp [results, Tryd.results18, go_sem, fV, k1]) rfl
      ⟨rfl, by repeat (first | exact HB.out | refine Below.setCell (B := w.heap.size) (p := ⟨w.heap.size, _, none⟩) ?_ (Nat.le_refl _) _)⟩
theorem frameOf_3 (a : Int) (t : ByteArray) (ht : t.size ≤ 281474976710656) (w : World) :
    Calls Tryd.prog 18 #[sV 3 a t] w fun e w' => e = .returned (nV 3 a t) ∧ Below w.heap.size w w' := by
  rw [sV_3, nV_3]
  have H := Lib.hid ht
  clear ht
  have h1 := as3_1
  have h2 := as3_2
  have h3 := as3_3
  go_enter Tryd.func18, Tryd.ntmps18
  go_wp2
  exact bodyPost_ret (v := fV 3 a ⟨#[]⟩) (by simp [results, Tryd.results18, go_sem, fV]) rfl
    ⟨rfl, by repeat (first | exact ((Below.refl _ w).alloc (Nat.le_refl _) _).alloc (by simp) _ | refine Below.setCell (B := w.heap.size) (p := ⟨w.heap.size, _, none⟩) ?_ (Nat.le_refl _) _)⟩
theorem frameOf_4 (a : Int) (t : ByteArray) (ht : t.size ≤ 281474976710656) (w : World) :
    Calls Tryd.prog 18 #[sV 4 a t] w fun e w' => e = .returned (nV 4 a t) ∧ Below w.heap.size w w' := by
  rw [sV_4, nV_4]
  have H := Lib.hid ht
  clear ht
  have h1 := as4_1
  have h2 := as4_2
  have h3 := as4_3
  have h4 := as4_4
  go_enter Tryd.func18, Tryd.ntmps18
  go_wp2_with fail
  go_region_with (first
    | (go_at_call 29
       refine (sclone_any _ H.out _).mono ?_
       rintro e w1 ⟨rfl, hb⟩
       obtain ⟨k1, _⟩ := keepC hb (g := w.heap.size) (by simp; try omega)
       obtain ⟨k2, _⟩ := keepC hb (g := w.heap.size + 1) (by simp)
       have z1 := hb.size
       have HB := Lib.hid (show Below w.heap.size w w1 from bthen (by repeat (first | exact Below.refl _ w | refine Below.drew ?_ | refine Below.alloc ?_ (by simp; try omega) _)) hb (by simp; try omega))
       clear hb))
  all_goals
    go_wp2
    exact bodyPost_ret (v := fV 4 a t) (by simp [results, Tryd.results18, go_sem, fV, k1]) rfl
      ⟨rfl, by repeat (first | exact HB.out | refine Below.setCell (B := w.heap.size) (p := ⟨w.heap.size, _, none⟩) ?_ (Nat.le_refl _) _)⟩
theorem frameOf_5 (a : Int) (t : ByteArray) (ht : t.size ≤ 281474976710656) (w : World) :
    Calls Tryd.prog 18 #[sV 5 a t] w fun e w' => e = .returned (nV 5 a t) ∧ Below w.heap.size w w' := by
  rw [sV_5, nV_5]
  have H := Lib.hid ht
  clear ht
  have h1 := as5_1
  have h2 := as5_2
  have h3 := as5_3
  have h4 := as5_4
  have h5 := as5_5
  go_enter Tryd.func18, Tryd.ntmps18
  go_wp2_with fail
  refine (sclone_any _ H.out _).mono ?_
  rintro e w1 ⟨rfl, hb⟩
  obtain ⟨k1, _⟩ := keepC hb (g := w.heap.size) (by simp; try omega)
  obtain ⟨k2, _⟩ := keepC hb (g := w.heap.size + 1) (by simp)
  have z1 := hb.size
  have HB := Lib.hid (show Below w.heap.size w w1 from bthen (by repeat (first | exact Below.refl _ w | refine Below.drew ?_ | refine Below.alloc ?_ (by simp; try omega) _)) hb (by simp; try omega))
  clear hb
  all_goals
    go_wp2
    exact bodyPost_ret (v := fV 5 0 t) (by simp [results, Tryd.results18, go_sem, fV, k1]) rfl
      ⟨rfl, by repeat (first | exact HB.out | refine Below.setCell (B := w.heap.size) (p := ⟨w.heap.size, _, none⟩) ?_ (Nat.le_refl _) _)⟩
theorem frameOf_6 (a : Int) (t : ByteArray) (ht : t.size ≤ 281474976710656) (w : World) :
    Calls Tryd.prog 18 #[sV 6 a t] w fun e w' => e = .returned (nV 6 a t) ∧ Below w.heap.size w w' := by
  rw [sV_6, nV_6]
  have H := Lib.hid ht
  clear ht
  have h1 := as6_1
  have h2 := as6_2
  have h3 := as6_3
  have h4 := as6_4
  have h5 := as6_5
  have h6 := as6_6
  go_enter Tryd.func18, Tryd.ntmps18
  go_wp2
  exact bodyPost_ret (v := fV 6 0 ⟨#[]⟩) (by simp [results, Tryd.results18, go_sem, fV]) rfl
    ⟨rfl, by repeat (first | exact ((Below.refl _ w).alloc (Nat.le_refl _) _).alloc (by simp) _ | refine Below.setCell (B := w.heap.size) (p := ⟨w.heap.size, _, none⟩) ?_ (Nat.le_refl _) _)⟩
theorem frameOf_7 (a : Int) (t : ByteArray) (ht : t.size ≤ 281474976710656) (w : World) :
    Calls Tryd.prog 18 #[sV 7 a t] w fun e w' => e = .returned (nV 7 a t) ∧ Below w.heap.size w w' := by
  rw [sV_7, nV_7]
  have H := Lib.hid ht
  clear ht
  have h1 := as7_1
  have h2 := as7_2
  have h3 := as7_3
  have h4 := as7_4
  have h5 := as7_5
  have h6 := as7_6
  have h7 := as7_7
  go_enter Tryd.func18, Tryd.ntmps18
  go_wp2_with fail
  refine (sclone_any _ H.out _).mono ?_
  rintro e w1 ⟨rfl, hb⟩
  obtain ⟨k1, _⟩ := keepC hb (g := w.heap.size) (by simp; try omega)
  obtain ⟨k2, _⟩ := keepC hb (g := w.heap.size + 1) (by simp)
  have z1 := hb.size
  have HB := Lib.hid (show Below w.heap.size w w1 from bthen (by repeat (first | exact Below.refl _ w | refine Below.drew ?_ | refine Below.alloc ?_ (by simp; try omega) _)) hb (by simp; try omega))
  clear hb
  all_goals
    go_wp2
    exact bodyPost_ret (v := fV 7 0 t) (by simp [results, Tryd.results18, go_sem, fV, k1]) rfl
      ⟨rfl, by repeat (first | exact HB.out | refine Below.setCell (B := w.heap.size) (p := ⟨w.heap.size, _, none⟩) ?_ (Nat.le_refl _) _)⟩
end Go.Proofs.YtlhfgpcanfpnfaaDoor.frame
