/-
  The program's Kills: a list of texts made anew, what a face hands back, turning. For every Kills of at most a million texts.
-/
import Derived.Test.YtcgaiegfagckcaaKillImpl
namespace Go.Proofs.Ytcgaiegfagckcaa.kill
open Go.ChangeShapes Go.WideShapes Go.ChangeAt Go.RowKit
open Go.Proofs.Ytcgaiegfagckcaa.strs Go.Proofs.Ytcgaiegfagckcaa.line
theorem strs_step (l : List ByteArray) (k : Nat) (hk : k < l.length) : (l.take (k + 1)).map Value.string = (l.take k).map Value.string ++ [Value.string l[k]] := by
  rw [List.take_add_one, List.map_append, List.getElem?_eq_getElem hk]; rfl
set_option maxRecDepth 20000 in
theorem ownStrs_any (a : Option Addr) (C : Nat) (l : List ByteArray) (hn : l.length ≤ 1048576) (hl : ∀ s ∈ l, s.size ≤ 1048576) (w : World) (h : SRow w a l) :
    Calls Try.prog 56 #[.slice a l.length C, .func (.func 57) #[] #[]] w fun e w' => ∃ v', e = .returned v' ∧ w'.ownsRow w.heap.size 9 1 v' l.length (l.map Value.string) ∧ Below w.heap.size w w' := by
  obtain ⟨i0, hi, hz0, hz1, hz2⟩ := info_parts infoS
  obtain ⟨n, hn'⟩ : ∃ n, n = l.length := ⟨_, rfl⟩
  have HA := Lib.hid h
  have HN := Lib.hid hn'
  have HL := Lib.hid hl
  rw [← hn'] at hn ⊢
  clear h hl hn'
  go_enter Try.func56, Try.ntmps56
  go_wp2
  go_loopw [5, 10] (fun lv iv wr => ∃ k : Nat, k ≤ n ∧ iv = .int .i64 k ∧ wr.ownsRow w.heap.size 9 1 lv k ((l.take k).map Value.string) ∧ Below w.heap.size w wr) (fun _ iv _ => n - (intOf iv).toNat)
  case atStart => exact ⟨0, Nat.zero_le _, rfl, World.ownsRow_nil _ _ _ _, Below.refl _ _⟩
  case round =>
    obtain ⟨k, hk, rfl, hown, hb⟩ := hrel
    rename_i lv
    rename World => wr
    have HO := Lib.hid hown
    have HB := Lib.hid hb
    have hz := hb.size
    have HA2 := Lib.hid (HA.out.below hb)
    clear hown hb
    by_cases hlt : k < n
    · have hkl : k < l.length := by rw [← HN.out]; exact hlt
      obtain ⟨g, o, rfl, c0⟩ := HA2.out.at hkl
      have HS := Lib.hid (HL.out l[k] (List.getElem_mem hkl))
      have HST := Lib.hid (strs_step l k hkl)
      obtain ⟨s, hse⟩ : ∃ s, s = l[k] := ⟨_, rfl⟩
      rw [← hse] at c0 HS HST
      clear hse hkl
      go_wp2_with fail
      refine (cloneS_any s (by have := HS.out; omega) _).mono ?_
      rintro e w3 ⟨rfl, hb3⟩
      have HO3 := Lib.hid (own_later HO.out hb3)
      have HB3 := Lib.hid (bthen HB.out hb3 hz)
      have z3 : w.heap.size ≤ w3.heap.size := Nat.le_trans hz hb3.size
      clear hb3
      go_wp2_with (first | (at_builtin; refine wpList_append_own _ rfl _ _ 24 rfl w.heap.size 9 i0 (.string ⟨#[]⟩) 1 16 Try.underlying24 hi hz0 hz1 hz2 rfl (by decide) _ _ _ rfl (HO3.out.alloc _) ⟨w3.heap.size, 0, none⟩ 1 1 [.string s] rfl rfl ?c1 ?c2 ?c3 ?c4 ?c5 ?_))
      case c1 =>
        intro j u hj
        match j, hj with
        | 0, hj => simp at hj; subst hj; simp [Addr.add]
      case c2 => intro u hu; simp at hu; subst hu; rfl
      case c3 => unfold maxLen; omega
      case c4 => omega
      case c5 => simp; omega
      intro v' w4 hown' hgrow hnil
      have HO4 := Lib.hid (show w4.ownsRow w.heap.size 9 1 v' (k + 1) ((l.take (k + 1)).map Value.string) by rw [HST.out, List.map_take]; exact hown')
      have HB4 := Lib.hid ((HB3.out.alloc z3 (.cells #[.string s] 9)).grown hgrow (by simp; omega) (fun j hj => (HO3.out.lt j hj).1))
      clear hown' hgrow hnil
      go_wp2
      go_roundw
      case rel => exact ⟨k + 1, by omega, by go_num, HO4.out, HB4.out⟩
      case measure => simp [intOf]; omega
    · obtain rfl : k = n := by omega
      go_wp2
      go_ret
      exact ⟨_, rfl, by have := HO.out; rw [HN.out, List.take_length] at this; rw [HN.out]; exact this, HB.out⟩
theorem ownStrs_own (a : Option Addr) (C : Nat) (l : List ByteArray) (hn : l.length ≤ 1048576) (hl : ∀ s ∈ l, s.size ≤ 1048576) (w : World) (h : SRow w a l) :
    Calls Try.prog 56 #[.slice a l.length C, .func (.func 57) #[] #[]] w fun e w' => ∃ a' c', e = .returned (.slice a' l.length c') ∧ SRow w' a' l ∧ SBlk w.heap.size w' a' l.length ∧ Below w.heap.size w w' :=
  (ownStrs_any a C l hn hl w h).mono fun e w' ⟨v', e1, e2, e3⟩ => by
    obtain ⟨a', c', rfl, _, _, h1, h2⟩ := own_open e2
    exact ⟨a', c', e1, h1, h2, e3⟩
theorem turn_zero (n : Nat) : turnT n 0 = lastT n := by
  unfold turnT lastT
  rw [if_neg (by omega)]
  split <;> omega
end Go.Proofs.Ytcgaiegfagckcaa.kill
