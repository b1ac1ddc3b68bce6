/-
  The model's DiffOf: the runs it comes to. For every two texts.
-/
import Derived.Test.YthdnhopkkgdclaaPut
import Derived.Test.YthdnhopkkgdclaaTable
namespace Go.Proofs.Ythdnhopkkgdclaa.put
open Go.ChangeShapes Go.WideShapes Go.ChangeAt Go.RowKit
open Go.Proofs.Ythdnhopkkgdclaa.table Go.Proofs.Ythdnhopkkgdclaa.line
/-- byte by byte on from i and k -/
def diffR (a b : ByteArray) : Nat → Nat → Nat → List Run → List Run
  | 0, _, _, ds => ds
  | f + 1, i, k, ds =>
    if h : i < a.size ∧ k < b.size ∧ byteAt a i = byteAt b k then diffR a b f (i + 1) (k + 1) (putL ds 1 (a[i]'h.1))
    else if h2 : i < a.size ∧ tab a b (i + 1) k = tab a b i k then diffR a b f (i + 1) k (putL ds 2 (a[i]'h2.1))
    else if h3 : k < b.size then diffR a b f i (k + 1) (putL ds 3 (b[k]'h3))
    else ds
theorem diffR_end (a b : ByteArray) (f i k : Nat) (ds : List Run) (hi : ¬ i < a.size) (hk : ¬ k < b.size) : diffR a b f i k ds = ds := by
  cases f with
  | zero => rfl
  | succ f =>
    unfold diffR
    rw [dif_neg (fun h => hi h.1), dif_neg (fun h => hi h.1), dif_neg hk]
theorem diffR_keep (a b : ByteArray) (f i k : Nat) (ds : List Run) (hi : i < a.size) (hk : k < b.size) (h : a[i].toNat = b[k].toNat) : diffR a b (f + 1) i k ds = diffR a b f (i + 1) (k + 1) (putL ds 1 a[i]) := by
  conv => lhs; unfold diffR
  rw [dif_pos ⟨hi, hk, by rw [byteAt_eq hi, byteAt_eq hk]; exact h⟩]
theorem diffR_drop (a b : ByteArray) (f i k : Nat) (ds : List Run) (hi : i < a.size) (hn : ∀ (hk : k < b.size), ¬ a[i].toNat = b[k].toNat) (h : tab a b (i + 1) k = tab a b i k) : diffR a b (f + 1) i k ds = diffR a b f (i + 1) k (putL ds 2 a[i]) := by
  conv => lhs; unfold diffR
  rw [dif_neg (fun x => hn x.2.1 (by have := x.2.2; rw [byteAt_eq hi, byteAt_eq x.2.1] at this; exact this)), dif_pos ⟨hi, h⟩]
theorem diffR_put (a b : ByteArray) (f i k : Nat) (ds : List Run) (hk : k < b.size) (hn : ∀ (hi : i < a.size), ¬ a[i].toNat = b[k].toNat) (h : ¬ (i < a.size ∧ tab a b (i + 1) k = tab a b i k)) : diffR a b (f + 1) i k ds = diffR a b f i (k + 1) (putL ds 3 b[k]) := by
  conv => lhs; unfold diffR
  rw [dif_neg (fun x => hn x.1 ((byteAt_eq x.1).symm.trans (x.2.2.trans (byteAt_eq hk)))), dif_neg h, dif_pos hk]
def diffL (a b : ByteArray) : List Run := diffR a b (a.size + b.size) 0 0 []
set_option maxHeartbeats 4000000 in
theorem of_any (a b : ByteArray) (ha : a.size ≤ 60) (hb : b.size ≤ 60) (w : World) :
    Calls Try.prog 36 #[.string a, .string b] w fun e w' =>
      ∃ g cap, e = .returned (.slice (some ⟨g, 0, none⟩) (diffL a b).length cap) ∧ w'.ownsRow w.heap.size 54 2 (.slice (some ⟨g, 0, none⟩) (diffL a b).length cap) (diffL a b).length (dCells (diffL a b)) ∧ Below w.heap.size w w' := by
  obtain ⟨R, hR⟩ : ∃ R, R = diffL a b := ⟨_, rfl⟩
  rw [← hR]
  have HR := Lib.hid hR
  clear hR
  go_enter Try.func36, Try.ntmps36
  go_wp2_with fail
  refine (table_any a b ha hb _).mono ?_
  rintro e w1 ⟨o, tc, G, rfl, hM⟩
  have HM := Lib.hid hM
  have hsz := hM.bel.size
  clear hM
  go_wp2
  go_loopw [6, 7, 8] (fun v si sk wr => ∃ (i k f : Nat) (ds : List Run) (g cap : Nat), i ≤ a.size ∧ k ≤ b.size ∧ si = .int .i64 i ∧ sk = .int .i64 k ∧ v = .slice (some ⟨g, 0, none⟩) ds.length cap ∧
      wr.ownsRow w1.heap.size 54 2 (.slice (some ⟨g, 0, none⟩) ds.length cap) ds.length (dCells ds) ∧ Below w1.heap.size w1 wr ∧ ds.length ≤ i + k ∧ (∀ d ∈ ds, d.2.size ≤ i + k) ∧ a.size + b.size ≤ i + k + f ∧ diffR a b f i k ds = R)
    (fun _ si sk _ => (a.size - (intOf si).toNat) + (b.size - (intOf sk).toNat))
  case atStart => exact ⟨0, 0, a.size + b.size, [], w1.heap.size, 0, by omega, by omega, rfl, rfl, rfl, World.ownsRow_lit w1 #[] 0 (Nat.le_refl _) (by decide) rfl, (Below.refl _ _).alloc (Nat.le_refl _) _, by simp, by simp, by omega, HR.out.symm⟩
  case round =>
    obtain ⟨i, k, f, ds, g, cap, hi, hk, rfl, rfl, rfl, hown, hbel, hlen, hds, hf, hrun⟩ := hrel
    rename World => wr
    have HO := Lib.hid hown
    have HB := Lib.hid hbel
    have HD := Lib.hid hds
    have HU := Lib.hid hrun
    have hz := hbel.size
    clear hown hbel hds hrun
    by_cases hin : i < a.size
    · by_cases hkm : k < b.size
      · by_cases hab : a[i].toNat = b[k].toNat
        · have ee : ((a[i].toNat : Int) == (b[k].toNat : Int)) = true := by simp [hab]
          obtain ⟨f', rfl⟩ : ∃ f', f = f' + 1 := ⟨f - 1, by omega⟩
          have HS := Lib.hid (diffR_keep a b f' i k ds hin hkm hab)
          clear hab
          go_wp2
          go_quiet (fail)
          go_wp2_with fail
          refine (put_anyN w1.heap.size g cap ds 1 a[i] (by omega) (fun d hd => by have := HD.out d hd; omega) wr _ hz HO.out).mono ?_
          rintro e w2 ⟨g2, cap2, rfl, ho2, hb2⟩
          have HO2 := Lib.hid ho2
          have HB2 := Lib.hid (HB.out.trans hb2)
          clear ho2 hb2
          set_option maxRecDepth 4000 in go_wp2
          go_roundw
          case rel => exact ⟨i + 1, k + 1, f', putL ds 1 a[i], g2, cap2, by omega, by omega, by go_num, by go_num, rfl, HO2.out, HB2.out, by have := putL_len ds 1 a[i]; omega,
            fun d hd => by have := putL_size ds 1 a[i] (i + k) HD.out d hd; omega, by omega, by rw [← HS.out]; exact HU.out⟩
          case measure => simp [intOf]; omega
        · have ee : ((a[i].toNat : Int) == (b[k].toNat : Int)) = false := by simp; omega
          have hMr := (show MT w a.size b.size o G (tab a b) wr from ⟨fun j hj => by rw [HB.out.cell (p := ⟨o, j, none⟩) (blk_lt (HM.out.out j hj))]; exact HM.out.out j hj,
            fun j c hj hc => by rw [HB.out.cell (p := ⟨G j, c, none⟩) (blk_lt (HM.out.inn j c hj hc))]; exact HM.out.inn j c hj hc,
            fun j c hj hc => by rw [HB.out.frozen (p := ⟨G j, c, none⟩) (blk_lt (HM.out.inn j c hj hc))]; exact HM.out.frz j c hj hc, HM.out.ne, HM.out.inj, HM.out.low, bthen HM.out.bel HB.out hsz⟩)
          have o1 := hMr.out i (by omega)
          have o2 := hMr.out (i + 1) (by omega)
          have n1 := hMr.inn (i + 1) k (by omega) hk
          have n2 := hMr.inn i k (by omega) hk
          obtain ⟨x1, hx1⟩ : ∃ x, x = tab a b (i + 1) k := ⟨_, rfl⟩
          obtain ⟨x2, hx2⟩ : ∃ x, x = tab a b i k := ⟨_, rfl⟩
          rw [← hx1] at n1
          rw [← hx2] at n2
          have b1 : (0 : Int) ≤ (i : Int) + 1 := by omega
          have b2 : (i : Int) + 1 < (a.size : Int) + 1 := by omega
          have b3 : IntKind.i64.wrap ((i : Int) + 1) = (i : Int) + 1 := IntWalk.i64_in _ (by omega)
          have b4 : ((i : Int) + 1).toNat = i + 1 := by omega
          have b5 : (i : Int) < (a.size : Int) + 1 := by omega
          have b6 : (k : Int) < (b.size : Int) + 1 := by omega
          obtain ⟨f', rfl⟩ : ∃ f', f = f' + 1 := ⟨f - 1, by omega⟩
          by_cases hx : x1 = x2
          · have ex : ((x1 : Int) == (x2 : Int)) = true := by simp [hx]
            have HS := Lib.hid (diffR_drop a b f' i k ds hin (fun _ => hab) (by rw [← hx1, ← hx2]; exact hx))
            clear hab hx hx1 hx2 hMr
            go_wp2
            go_quiet (fail)
            go_wp2_with fail
            go_quiet (fail)
            go_wp2_with fail
            refine (put_anyN w1.heap.size g cap ds 2 a[i] (by omega) (fun d hd => by have := HD.out d hd; omega) wr _ hz HO.out).mono ?_
            rintro e w2 ⟨g2, cap2, rfl, ho2, hb2⟩
            have HO2 := Lib.hid ho2
            have HB2 := Lib.hid (HB.out.trans hb2)
            clear ho2 hb2
            set_option maxRecDepth 4000 in go_wp2
            go_roundw
            case rel => exact ⟨i + 1, k, f', putL ds 2 a[i], g2, cap2, by omega, by omega, by go_num, by go_num, rfl, HO2.out, HB2.out, by have := putL_len ds 2 a[i]; omega,
              fun d hd => by have := putL_size ds 2 a[i] (i + k) HD.out d hd; omega, by omega, by rw [← HS.out]; exact HU.out⟩
            case measure => simp [intOf]; omega
          · have ex : ((x1 : Int) == (x2 : Int)) = false := by simp; omega
            have HS := Lib.hid (diffR_put a b f' i k ds hkm (fun _ => hab) (fun h => hx (by rw [hx1, hx2]; exact h.2)))
            clear hab hx hx1 hx2 hMr
            go_wp2
            go_quiet (fail)
            go_wp2_with fail
            go_quiet (fail)
            go_wp2_with fail
            refine (put_anyN w1.heap.size g cap ds 3 b[k] (by omega) (fun d hd => by have := HD.out d hd; omega) wr _ hz HO.out).mono ?_
            rintro e w2 ⟨g2, cap2, rfl, ho2, hb2⟩
            have HO2 := Lib.hid ho2
            have HB2 := Lib.hid (HB.out.trans hb2)
            clear ho2 hb2
            set_option maxRecDepth 4000 in go_wp2
            go_roundw
            case rel => exact ⟨i, k + 1, f', putL ds 3 b[k], g2, cap2, by omega, by omega, by go_num, by go_num, rfl, HO2.out, HB2.out, by have := putL_len ds 3 b[k]; omega,
              fun d hd => by have := putL_size ds 3 b[k] (i + k) HD.out d hd; omega, by omega, by rw [← HS.out]; exact HU.out⟩
            case measure => simp [intOf]; omega
      · have hd2 : decide ((k : Int) < (b.size : Int)) = false := by simp; omega
        have hMr := (show MT w a.size b.size o G (tab a b) wr from ⟨fun j hj => by rw [HB.out.cell (p := ⟨o, j, none⟩) (blk_lt (HM.out.out j hj))]; exact HM.out.out j hj,
          fun j c hj hc => by rw [HB.out.cell (p := ⟨G j, c, none⟩) (blk_lt (HM.out.inn j c hj hc))]; exact HM.out.inn j c hj hc,
          fun j c hj hc => by rw [HB.out.frozen (p := ⟨G j, c, none⟩) (blk_lt (HM.out.inn j c hj hc))]; exact HM.out.frz j c hj hc, HM.out.ne, HM.out.inj, HM.out.low, bthen HM.out.bel HB.out hsz⟩)
        have o1 := hMr.out i (by omega)
        have o2 := hMr.out (i + 1) (by omega)
        have n1 := hMr.inn (i + 1) k (by omega) hk
        have n2 := hMr.inn i k (by omega) hk
        obtain ⟨x1, hx1⟩ : ∃ x, x = tab a b (i + 1) k := ⟨_, rfl⟩
        obtain ⟨x2, hx2⟩ : ∃ x, x = tab a b i k := ⟨_, rfl⟩
        rw [← hx1] at n1
        rw [← hx2] at n2
        have b1 : (0 : Int) ≤ (i : Int) + 1 := by omega
        have b2 : (i : Int) + 1 < (a.size : Int) + 1 := by omega
        have b3 : IntKind.i64.wrap ((i : Int) + 1) = (i : Int) + 1 := IntWalk.i64_in _ (by omega)
        have b4 : ((i : Int) + 1).toNat = i + 1 := by omega
        have b5 : (i : Int) < (a.size : Int) + 1 := by omega
        have b6 : (k : Int) < (b.size : Int) + 1 := by omega
        obtain ⟨f', rfl⟩ : ∃ f', f = f' + 1 := ⟨f - 1, by omega⟩
        have ht1 := tab_endB a b (i + 1) k (by omega)
        have ht2 := tab_endB a b i k (by omega)
        have ex : ((x1 : Int) == (x2 : Int)) = true := by simp; omega
        have HS := Lib.hid (diffR_drop a b f' i k ds hin (fun h => absurd h hkm) (by rw [ht1, ht2]))
        clear hx1 hx2 hMr ht1 ht2
        go_wp2
        go_quiet (fail)
        go_wp2_with fail
        go_quiet (fail)
        go_wp2_with fail
        refine (put_anyN w1.heap.size g cap ds 2 a[i] (by omega) (fun d hd => by have := HD.out d hd; omega) wr _ hz HO.out).mono ?_
        rintro e w2 ⟨g2, cap2, rfl, ho2, hb2⟩
        have HO2 := Lib.hid ho2
        have HB2 := Lib.hid (HB.out.trans hb2)
        clear ho2 hb2
        set_option maxRecDepth 4000 in go_wp2
        go_roundw
        case rel => exact ⟨i + 1, k, f', putL ds 2 a[i], g2, cap2, by omega, by omega, by go_num, by go_num, rfl, HO2.out, HB2.out, by have := putL_len ds 2 a[i]; omega,
          fun d hd => by have := putL_size ds 2 a[i] (i + k) HD.out d hd; omega, by omega, by rw [← HS.out]; exact HU.out⟩
        case measure => simp [intOf]; omega
    · by_cases hkm : k < b.size
      · have hd1 : decide ((i : Int) < (a.size : Int)) = false := by simp; omega
        obtain ⟨f', rfl⟩ : ∃ f', f = f' + 1 := ⟨f - 1, by omega⟩
        have HS := Lib.hid (diffR_put a b f' i k ds hkm (fun h => absurd h hin) (fun h => hin h.1))
        go_wp2
        go_quiet (fail)
        go_wp2_with fail
        go_quiet (fail)
        go_wp2_with fail
        refine (put_anyN w1.heap.size g cap ds 3 b[k] (by omega) (fun d hd => by have := HD.out d hd; omega) wr _ hz HO.out).mono ?_
        rintro e w2 ⟨g2, cap2, rfl, ho2, hb2⟩
        have HO2 := Lib.hid ho2
        have HB2 := Lib.hid (HB.out.trans hb2)
        clear ho2 hb2
        set_option maxRecDepth 4000 in go_wp2
        go_roundw
        case rel => exact ⟨i, k + 1, f', putL ds 3 b[k], g2, cap2, by omega, by omega, by go_num, by go_num, rfl, HO2.out, HB2.out, by have := putL_len ds 3 b[k]; omega,
          fun d hd => by have := putL_size ds 3 b[k] (i + k) HD.out d hd; omega, by omega, by rw [← HS.out]; exact HU.out⟩
        case measure => simp [intOf]; omega
      · have HE := Lib.hid (diffR_end a b f i k ds hin hkm)
        have HR2 := Lib.hid (show ds = R from HE.out.symm.trans HU.out)
        go_wp2
        go_ret
        exact ⟨g, cap, by rw [← HR2.out]; rfl, by
          have h := HO.out
          rw [← HR2.out]
          exact ⟨h.1, h.2.imp id (fun ⟨g', c', cur, h1, h2, h3⟩ => ⟨g', c', cur, h1, by omega, h3⟩)⟩, bthen HM.out.bel HB.out hsz⟩
end Go.Proofs.Ythdnhopkkgdclaa.put
