/-
  Keys, in plain terms: what comes of what waits and a byte, by the table as the program has it and as the model has it; and that both are alike. For each of the three texts that may wait, every byte.
-/
import Derived.Test.YtbefoalecogmbaaKeyMapsOf
namespace Go.Proofs.Ytbefoalecogmbaa.key
open Go.ChangeShapes Go.WideShapes Go.ChangeAt Go.RowKit
def mRows : List (ByteArray × Int) := [(⟨#[2]⟩, 2), (⟨#[27, 91, 68]⟩, 2), (⟨#[6]⟩, 3), (⟨#[27, 91, 67]⟩, 3), (⟨#[1]⟩, 4), (⟨#[5]⟩, 5), (⟨#[8]⟩, 6), (⟨#[127]⟩, 6), (⟨#[4]⟩, 7), (⟨#[11]⟩, 8), (⟨#[23]⟩, 9), (⟨#[25]⟩, 10), (⟨#[27, 121]⟩, 11), (⟨#[31]⟩, 12), (⟨#[20]⟩, 13), (⟨#[27, 98]⟩, 14), (⟨#[27, 102]⟩, 15), (⟨#[27, 117]⟩, 16), (⟨#[27, 108]⟩, 17), (⟨#[16]⟩, 18), (⟨#[27, 91, 65]⟩, 18), (⟨#[14]⟩, 19), (⟨#[27, 91, 66]⟩, 19), (⟨#[13]⟩, 20), (⟨#[10]⟩, 20), (⟨#[3]⟩, 21), (⟨#[27, 99]⟩, 22), (⟨#[27, 119]⟩, 23), (⟨#[27, 115]⟩, 24)]
def mB (i : Nat) : ByteArray := (mRows.getD i (⟨#[]⟩, 0)).1
def mK (i : Nat) : Int := (mRows.getD i (⟨#[]⟩, 0)).2
/-- the kind of the first row, of the first n, that is t -/
def findTo (t : List UInt8) : Nat → Option Int
  | 0 => none
  | i + 1 => match findTo t i with
    | some x => some x
    | none => if (mB i).data.toList = t then some (mK i) else none
/-- does one of the first n rows begin with t, and go on? -/
def begTo (t : List UInt8) : Nat → Bool
  | 0 => false
  | i + 1 => begTo t i || (decide (t.length < (mB i).size) && decide ((mB i).data.toList.take t.length = t))
/-- what comes: what waits then, the key's kind and byte, and whether there is one -/
abbrev KO := List UInt8 × Int × Int × Bool
def restV (wt : List UInt8) (b : UInt8) : KO := if wt = [] ∧ 32 ≤ b.toNat ∧ b.toNat ≤ 126 then ([], 1, b.toNat, true) else ([], 25, b.toNat, true)
def ofV (wt : List UInt8) (b : UInt8) : KO :=
  match findTo (wt ++ [b]) 29 with
  | some k => ([], k, 0, true)
  | none => if begTo (wt ++ [b]) 29 then (wt ++ [b], 0, 0, false) else restV wt b
def nextV (F : KF) (wt : List UInt8) (b : UInt8) : KO :=
  match F wt with
  | none => ([], 0, 0, false)
  | some g => match g b with
    | some k => if k = 0 then (wt ++ [b], 0, 0, false) else ([], k, 0, true)
    | none => restV wt b
def waits : List (List UInt8) := [[], [27], [27, 91]]
theorem next_all : ∀ wt ∈ waits, ∀ n, n < 256 → nextV (mapTo 23) wt (UInt8.ofNat n) = ofV wt (UInt8.ofNat n) ∧ (ofV wt (UInt8.ofNat n)).1 ∈ waits := by decide +kernel
theorem next_of {wt : List UInt8} (h : wt ∈ waits) (b : UInt8) : nextV (mapTo 23) wt b = ofV wt b ∧ (ofV wt b).1 ∈ waits := by
  have := next_all wt h b.toNat b.toNat_lt
  rwa [UInt8.ofNat_toNat] at this
theorem some_all : ∀ wt ∈ waits, (mapTo 23 wt).isSome = true := by decide +kernel
def Pres (F : KF) : Prop := ∀ wt, wt ∉ waits → F wt = none
theorem pres_upd {F : KF} (h : Pres F) {a : List UInt8} (ha : a ∈ waits) (b : UInt8) (k : Int) : Pres (upd F a b k) := fun wt hw => by
  unfold upd
  rw [if_neg (fun (e : wt = a) => hw (by rw [e]; exact ha))]
  exact h wt hw
theorem pres_pre {F : KF} (h : Pres F) (t : List UInt8) : ∀ i, (∀ j, j < i → t.take j ∈ waits) → Pres (preF F t i)
  | 0, _ => h
  | i + 1, ht => pres_upd (pres_pre h t i fun j hj => ht j (by omega)) (ht i (by omega)) _ _
theorem pres_put {F : KF} (h : Pres F) (t : List UInt8) (k : Int) (ht : ∀ j, j < t.length → t.take j ∈ waits) (h0 : 0 < t.length) : Pres (putF F t k) :=
  pres_upd (pres_pre h t _ fun j hj => ht j (by omega)) (ht _ (by omega)) _ _
theorem tab_waits : ∀ i, i < 23 → ∀ j, j < tabN i → (0 < (tabT i j).data.toList.length ∧ ∀ l, l < (tabT i j).data.toList.length → (tabT i j).data.toList.take l ∈ waits) := by decide +kernel
theorem pres_row {F : KF} (h : Pres F) (i : Nat) (hi : i < 23) : ∀ j, j ≤ tabN i → Pres (rowTo F i j)
  | 0, _ => h
  | j + 1, hj => by
    obtain ⟨h1, h2⟩ := tab_waits i hi j (by omega)
    exact pres_put (pres_row h i hi j (by omega)) _ _ h2 h1
theorem pres_map : ∀ i, i ≤ 23 → Pres (mapTo i)
  | 0, _ => fun _ _ => rfl
  | i + 1, hi => pres_row (pres_map i (by omega)) i (by omega) _ (Nat.le_refl _)
theorem some_iff (wt : List UInt8) : (mapTo 23 wt).isSome = decide (wt ∈ waits) := by
  by_cases h : wt ∈ waits
  · rw [some_all wt h]; simp [h]
  · rw [pres_map 23 (Nat.le_refl _) wt h]; simp [h]
end Go.Proofs.Ytbefoalecogmbaa.key
