/-
  The table of keys as the program lays it in memory (keyTable). No condition.
-/
import Derived.Test.YtbefoalecogmbaaKeyPut
namespace Go.Proofs.Ytbefoalecogmbaa.key
open Go.ChangeShapes Go.WideShapes Go.ChangeAt Go.RowKit
def tab : List (Int × List ByteArray) := [(2, [⟨#[2]⟩, ⟨#[27,91,68]⟩]), (3, [⟨#[6]⟩, ⟨#[27,91,67]⟩]), (4, [⟨#[1]⟩]), (5, [⟨#[5]⟩]), (6, [⟨#[8]⟩, ⟨#[127]⟩]), (7, [⟨#[4]⟩]), (8, [⟨#[11]⟩]), (9, [⟨#[23]⟩]), (10, [⟨#[25]⟩]), (11, [⟨#[27,121]⟩]), (12, [⟨#[31]⟩]), (13, [⟨#[20]⟩]), (14, [⟨#[27,98]⟩]), (15, [⟨#[27,102]⟩]), (16, [⟨#[27,117]⟩]), (17, [⟨#[27,108]⟩]), (18, [⟨#[16]⟩, ⟨#[27,91,65]⟩]), (19, [⟨#[14]⟩, ⟨#[27,91,66]⟩]), (20, [⟨#[13]⟩, ⟨#[10]⟩]), (21, [⟨#[3]⟩]), (22, [⟨#[27,99]⟩]), (23, [⟨#[27,119]⟩]), (24, [⟨#[27,115]⟩])]
def tabK (i : Nat) : Int := (tab.getD i (0, [])).1
def tabN (i : Nat) : Nat := (tab.getD i (0, [])).2.length
def tabT (i j : Nat) : ByteArray := (tab.getD i (0, [])).2.getD j ⟨#[]⟩
theorem old_cell {w : World} {o : Obj} {b j : Nat} (h : b < w.heap.size) : (w.alloc o).cell? ⟨b, j, none⟩ = w.cell? ⟨b, j, none⟩ := World.cell?_alloc_past o b j h
theorem rowOf_any (k : Int) (a : Option Addr) (n c : Nat) (w : World) :
    Calls Try.prog 47 #[.int .i64 k, .slice a n c] w fun e w' => e = .returned (.agg #[.int .i64 k, .slice a n c]) ∧ Below w.heap.size w w' := by
  go_enter Try.func47, Try.ntmps47
  go_wp2
  exact bodyPost_ret (v := .agg #[.int .i64 k, .slice a n c]) (by simp [results, Try.results47, go_sem]) rfl ⟨rfl, by first | exact (((Below.refl _ w).alloc (Nat.le_refl _) _).setCell (Nat.le_refl _) _).setCell (Nat.le_refl _) _ | exact (Below.refl _ w).alloc (Nat.le_refl _) _⟩
/-- rows of texts that lie in blocks of their own -/
def HasAll (base : Nat) (w : World) (l : List (Nat × List ByteArray)) : Prop :=
  ∀ p ∈ l, base ≤ p.1 ∧ p.1 < w.heap.size ∧ ∀ j, j < p.2.length → w.cell? ⟨p.1, j, none⟩ = some (.string (p.2.getD j ⟨#[]⟩))
theorem HasAll.step {base : Nat} {w w' : World} {l : List (Nat × List ByteArray)} (h : HasAll base w l) (hw : base ≤ w.heap.size) (t : List ByteArray) (cs : Array Value) (T : TypeId) (hcs : cs = (t.map Value.string).toArray)
    (hb : Below (w.alloc (.cells cs T)).heap.size (w.alloc (.cells cs T)) w') : HasAll base w' ((w.heap.size, t) :: l) := by
  have hz := hb.size
  have hs : (w.alloc (.cells cs T)).heap.size = w.heap.size + 1 := by simp
  intro p hp
  rcases List.mem_cons.1 hp with rfl | hp
  · refine ⟨hw, by omega, fun j hj => ?_⟩
    rw [hb.cell (p := ⟨w.heap.size, j, none⟩) (by show w.heap.size < _; omega), World.cell?_alloc_at _ _ _ _ rfl, hcs]
    simp only [List.getElem?_toArray, List.getElem?_map, List.getD_eq_getElem?_getD]
    rw [List.getElem?_eq_getElem hj]; rfl
  · obtain ⟨h1, h2, h3⟩ := h p hp
    refine ⟨h1, by omega, fun j hj => ?_⟩
    rw [hb.cell (p := ⟨p.1, j, none⟩) (by show p.1 < _; omega), old_cell h2]
    exact h3 j hj
/-- the whole table in block g -/
structure TabAt (base : Nat) (w : World) (g : Nat) : Prop where
  lo : base ≤ g
  it : ∃ G : Nat → Nat, ∀ i, i < 23 → w.cell? ⟨g, i * 2, none⟩ = some (.int .i64 (tabK i)) ∧ w.cell? ⟨g, i * 2 + 1, none⟩ = some (.slice (some ⟨G i, 0, none⟩) (tabN i) (tabN i)) ∧
    ∀ j, j < tabN i → w.cell? ⟨G i, j, none⟩ = some (.string (tabT i j))
theorem TabAt.below {base : Nat} {w w' : World} {g : Nat} (h : TabAt base w g) (hb : Below w.heap.size w w') : TabAt base w' g := by
  obtain ⟨h1, G, h2⟩ := h
  refine ⟨h1, G, fun i hi => ?_⟩
  obtain ⟨a, b, c⟩ := h2 i hi
  exact ⟨by rw [hb.cell (p := ⟨g, i * 2, none⟩) (blk_lt a)]; exact a, by rw [hb.cell (p := ⟨g, i * 2 + 1, none⟩) (blk_lt b)]; exact b, fun j hj => by rw [hb.cell (p := ⟨G i, j, none⟩) (blk_lt (c j hj))]; exact c j hj⟩

theorem tab_done (base : Nat) (w w1 w2 w3 w4 w5 w6 w7 w8 w9 w10 w11 w12 w13 w14 w15 w16 w17 w18 w19 w20 w21 w22 w23 : World) (H : HasAll base w23 [(w22.heap.size, [⟨#[27,115]⟩]), (w21.heap.size, [⟨#[27,119]⟩]), (w20.heap.size, [⟨#[27,99]⟩]), (w19.heap.size, [⟨#[3]⟩]), (w18.heap.size, [⟨#[13]⟩, ⟨#[10]⟩]), (w17.heap.size, [⟨#[14]⟩, ⟨#[27,91,66]⟩]), (w16.heap.size, [⟨#[16]⟩, ⟨#[27,91,65]⟩]), (w15.heap.size, [⟨#[27,108]⟩]), (w14.heap.size, [⟨#[27,117]⟩]), (w13.heap.size, [⟨#[27,102]⟩]), (w12.heap.size, [⟨#[27,98]⟩]), (w11.heap.size, [⟨#[20]⟩]), (w10.heap.size, [⟨#[31]⟩]), (w9.heap.size, [⟨#[27,121]⟩]), (w8.heap.size, [⟨#[25]⟩]), (w7.heap.size, [⟨#[23]⟩]), (w6.heap.size, [⟨#[11]⟩]), (w5.heap.size, [⟨#[4]⟩]), (w4.heap.size, [⟨#[8]⟩, ⟨#[127]⟩]), (w3.heap.size, [⟨#[5]⟩]), (w2.heap.size, [⟨#[1]⟩]), (w1.heap.size, [⟨#[6]⟩, ⟨#[27,91,67]⟩]), (w.heap.size, [⟨#[2]⟩, ⟨#[27,91,68]⟩])]) (T : TypeId) (hz : base ≤ w23.heap.size) :
    TabAt base (w23.alloc (.cells #[.int .i64 2, .slice (some ⟨w.heap.size, 0, none⟩) 2 2, .int .i64 3, .slice (some ⟨w1.heap.size, 0, none⟩) 2 2, .int .i64 4, .slice (some ⟨w2.heap.size, 0, none⟩) 1 1, .int .i64 5, .slice (some ⟨w3.heap.size, 0, none⟩) 1 1, .int .i64 6, .slice (some ⟨w4.heap.size, 0, none⟩) 2 2, .int .i64 7, .slice (some ⟨w5.heap.size, 0, none⟩) 1 1, .int .i64 8, .slice (some ⟨w6.heap.size, 0, none⟩) 1 1, .int .i64 9, .slice (some ⟨w7.heap.size, 0, none⟩) 1 1, .int .i64 10, .slice (some ⟨w8.heap.size, 0, none⟩) 1 1, .int .i64 11, .slice (some ⟨w9.heap.size, 0, none⟩) 1 1, .int .i64 12, .slice (some ⟨w10.heap.size, 0, none⟩) 1 1, .int .i64 13, .slice (some ⟨w11.heap.size, 0, none⟩) 1 1, .int .i64 14, .slice (some ⟨w12.heap.size, 0, none⟩) 1 1, .int .i64 15, .slice (some ⟨w13.heap.size, 0, none⟩) 1 1, .int .i64 16, .slice (some ⟨w14.heap.size, 0, none⟩) 1 1, .int .i64 17, .slice (some ⟨w15.heap.size, 0, none⟩) 1 1, .int .i64 18, .slice (some ⟨w16.heap.size, 0, none⟩) 2 2, .int .i64 19, .slice (some ⟨w17.heap.size, 0, none⟩) 2 2, .int .i64 20, .slice (some ⟨w18.heap.size, 0, none⟩) 2 2, .int .i64 21, .slice (some ⟨w19.heap.size, 0, none⟩) 1 1, .int .i64 22, .slice (some ⟨w20.heap.size, 0, none⟩) 1 1, .int .i64 23, .slice (some ⟨w21.heap.size, 0, none⟩) 1 1, .int .i64 24, .slice (some ⟨w22.heap.size, 0, none⟩) 1 1] T)) w23.heap.size := by
  refine ⟨hz, fun i => [w.heap.size, w1.heap.size, w2.heap.size, w3.heap.size, w4.heap.size, w5.heap.size, w6.heap.size, w7.heap.size, w8.heap.size, w9.heap.size, w10.heap.size, w11.heap.size, w12.heap.size, w13.heap.size, w14.heap.size, w15.heap.size, w16.heap.size, w17.heap.size, w18.heap.size, w19.heap.size, w20.heap.size, w21.heap.size, w22.heap.size].getD i 0, fun i hi => ?_⟩
  have hmem : ∀ p ∈ [(w22.heap.size, [⟨#[27,115]⟩]), (w21.heap.size, [⟨#[27,119]⟩]), (w20.heap.size, [⟨#[27,99]⟩]), (w19.heap.size, [⟨#[3]⟩]), (w18.heap.size, [⟨#[13]⟩, ⟨#[10]⟩]), (w17.heap.size, [⟨#[14]⟩, ⟨#[27,91,66]⟩]), (w16.heap.size, [⟨#[16]⟩, ⟨#[27,91,65]⟩]), (w15.heap.size, [⟨#[27,108]⟩]), (w14.heap.size, [⟨#[27,117]⟩]), (w13.heap.size, [⟨#[27,102]⟩]), (w12.heap.size, [⟨#[27,98]⟩]), (w11.heap.size, [⟨#[20]⟩]), (w10.heap.size, [⟨#[31]⟩]), (w9.heap.size, [⟨#[27,121]⟩]), (w8.heap.size, [⟨#[25]⟩]), (w7.heap.size, [⟨#[23]⟩]), (w6.heap.size, [⟨#[11]⟩]), (w5.heap.size, [⟨#[4]⟩]), (w4.heap.size, [⟨#[8]⟩, ⟨#[127]⟩]), (w3.heap.size, [⟨#[5]⟩]), (w2.heap.size, [⟨#[1]⟩]), (w1.heap.size, [⟨#[6]⟩, ⟨#[27,91,67]⟩]), (w.heap.size, [⟨#[2]⟩, ⟨#[27,91,68]⟩])], ∀ j, j < p.2.length → (w23.alloc (.cells #[.int .i64 2, .slice (some ⟨w.heap.size, 0, none⟩) 2 2, .int .i64 3, .slice (some ⟨w1.heap.size, 0, none⟩) 2 2, .int .i64 4, .slice (some ⟨w2.heap.size, 0, none⟩) 1 1, .int .i64 5, .slice (some ⟨w3.heap.size, 0, none⟩) 1 1, .int .i64 6, .slice (some ⟨w4.heap.size, 0, none⟩) 2 2, .int .i64 7, .slice (some ⟨w5.heap.size, 0, none⟩) 1 1, .int .i64 8, .slice (some ⟨w6.heap.size, 0, none⟩) 1 1, .int .i64 9, .slice (some ⟨w7.heap.size, 0, none⟩) 1 1, .int .i64 10, .slice (some ⟨w8.heap.size, 0, none⟩) 1 1, .int .i64 11, .slice (some ⟨w9.heap.size, 0, none⟩) 1 1, .int .i64 12, .slice (some ⟨w10.heap.size, 0, none⟩) 1 1, .int .i64 13, .slice (some ⟨w11.heap.size, 0, none⟩) 1 1, .int .i64 14, .slice (some ⟨w12.heap.size, 0, none⟩) 1 1, .int .i64 15, .slice (some ⟨w13.heap.size, 0, none⟩) 1 1, .int .i64 16, .slice (some ⟨w14.heap.size, 0, none⟩) 1 1, .int .i64 17, .slice (some ⟨w15.heap.size, 0, none⟩) 1 1, .int .i64 18, .slice (some ⟨w16.heap.size, 0, none⟩) 2 2, .int .i64 19, .slice (some ⟨w17.heap.size, 0, none⟩) 2 2, .int .i64 20, .slice (some ⟨w18.heap.size, 0, none⟩) 2 2, .int .i64 21, .slice (some ⟨w19.heap.size, 0, none⟩) 1 1, .int .i64 22, .slice (some ⟨w20.heap.size, 0, none⟩) 1 1, .int .i64 23, .slice (some ⟨w21.heap.size, 0, none⟩) 1 1, .int .i64 24, .slice (some ⟨w22.heap.size, 0, none⟩) 1 1] T)).cell? ⟨p.1, j, none⟩ = some (.string (p.2.getD j ⟨#[]⟩)) := fun p hp j hj => by
    obtain ⟨_, h2, h3⟩ := H p hp
    rw [old_cell h2]
    exact h3 j hj
  have hc : i = 0 ∨ i = 1 ∨ i = 2 ∨ i = 3 ∨ i = 4 ∨ i = 5 ∨ i = 6 ∨ i = 7 ∨ i = 8 ∨ i = 9 ∨ i = 10 ∨ i = 11 ∨ i = 12 ∨ i = 13 ∨ i = 14 ∨ i = 15 ∨ i = 16 ∨ i = 17 ∨ i = 18 ∨ i = 19 ∨ i = 20 ∨ i = 21 ∨ i = 22 := by omega
  rcases hc with rfl | rfl | rfl | rfl | rfl | rfl | rfl | rfl | rfl | rfl | rfl | rfl | rfl | rfl | rfl | rfl | rfl | rfl | rfl | rfl | rfl | rfl | rfl
  · exact ⟨by rw [World.cell?_alloc_at _ _ _ _ rfl]; rfl, by rw [World.cell?_alloc_at _ _ _ _ rfl]; rfl, fun j hj => hmem (w.heap.size, [⟨#[2]⟩, ⟨#[27,91,68]⟩]) (List.mem_cons_of_mem _ (List.mem_cons_of_mem _ (List.mem_cons_of_mem _ (List.mem_cons_of_mem _ (List.mem_cons_of_mem _ (List.mem_cons_of_mem _ (List.mem_cons_of_mem _ (List.mem_cons_of_mem _ (List.mem_cons_of_mem _ (List.mem_cons_of_mem _ (List.mem_cons_of_mem _ (List.mem_cons_of_mem _ (List.mem_cons_of_mem _ (List.mem_cons_of_mem _ (List.mem_cons_of_mem _ (List.mem_cons_of_mem _ (List.mem_cons_of_mem _ (List.mem_cons_of_mem _ (List.mem_cons_of_mem _ (List.mem_cons_of_mem _ (List.mem_cons_of_mem _ (List.mem_cons_of_mem _ (List.mem_cons_self))))))))))))))))))))))) j hj⟩
  · exact ⟨by rw [World.cell?_alloc_at _ _ _ _ rfl]; rfl, by rw [World.cell?_alloc_at _ _ _ _ rfl]; rfl, fun j hj => hmem (w1.heap.size, [⟨#[6]⟩, ⟨#[27,91,67]⟩]) (List.mem_cons_of_mem _ (List.mem_cons_of_mem _ (List.mem_cons_of_mem _ (List.mem_cons_of_mem _ (List.mem_cons_of_mem _ (List.mem_cons_of_mem _ (List.mem_cons_of_mem _ (List.mem_cons_of_mem _ (List.mem_cons_of_mem _ (List.mem_cons_of_mem _ (List.mem_cons_of_mem _ (List.mem_cons_of_mem _ (List.mem_cons_of_mem _ (List.mem_cons_of_mem _ (List.mem_cons_of_mem _ (List.mem_cons_of_mem _ (List.mem_cons_of_mem _ (List.mem_cons_of_mem _ (List.mem_cons_of_mem _ (List.mem_cons_of_mem _ (List.mem_cons_of_mem _ (List.mem_cons_self)))))))))))))))))))))) j hj⟩
  · exact ⟨by rw [World.cell?_alloc_at _ _ _ _ rfl]; rfl, by rw [World.cell?_alloc_at _ _ _ _ rfl]; rfl, fun j hj => hmem (w2.heap.size, [⟨#[1]⟩]) (List.mem_cons_of_mem _ (List.mem_cons_of_mem _ (List.mem_cons_of_mem _ (List.mem_cons_of_mem _ (List.mem_cons_of_mem _ (List.mem_cons_of_mem _ (List.mem_cons_of_mem _ (List.mem_cons_of_mem _ (List.mem_cons_of_mem _ (List.mem_cons_of_mem _ (List.mem_cons_of_mem _ (List.mem_cons_of_mem _ (List.mem_cons_of_mem _ (List.mem_cons_of_mem _ (List.mem_cons_of_mem _ (List.mem_cons_of_mem _ (List.mem_cons_of_mem _ (List.mem_cons_of_mem _ (List.mem_cons_of_mem _ (List.mem_cons_of_mem _ (List.mem_cons_self))))))))))))))))))))) j hj⟩
  · exact ⟨by rw [World.cell?_alloc_at _ _ _ _ rfl]; rfl, by rw [World.cell?_alloc_at _ _ _ _ rfl]; rfl, fun j hj => hmem (w3.heap.size, [⟨#[5]⟩]) (List.mem_cons_of_mem _ (List.mem_cons_of_mem _ (List.mem_cons_of_mem _ (List.mem_cons_of_mem _ (List.mem_cons_of_mem _ (List.mem_cons_of_mem _ (List.mem_cons_of_mem _ (List.mem_cons_of_mem _ (List.mem_cons_of_mem _ (List.mem_cons_of_mem _ (List.mem_cons_of_mem _ (List.mem_cons_of_mem _ (List.mem_cons_of_mem _ (List.mem_cons_of_mem _ (List.mem_cons_of_mem _ (List.mem_cons_of_mem _ (List.mem_cons_of_mem _ (List.mem_cons_of_mem _ (List.mem_cons_of_mem _ (List.mem_cons_self)))))))))))))))))))) j hj⟩
  · exact ⟨by rw [World.cell?_alloc_at _ _ _ _ rfl]; rfl, by rw [World.cell?_alloc_at _ _ _ _ rfl]; rfl, fun j hj => hmem (w4.heap.size, [⟨#[8]⟩, ⟨#[127]⟩]) (List.mem_cons_of_mem _ (List.mem_cons_of_mem _ (List.mem_cons_of_mem _ (List.mem_cons_of_mem _ (List.mem_cons_of_mem _ (List.mem_cons_of_mem _ (List.mem_cons_of_mem _ (List.mem_cons_of_mem _ (List.mem_cons_of_mem _ (List.mem_cons_of_mem _ (List.mem_cons_of_mem _ (List.mem_cons_of_mem _ (List.mem_cons_of_mem _ (List.mem_cons_of_mem _ (List.mem_cons_of_mem _ (List.mem_cons_of_mem _ (List.mem_cons_of_mem _ (List.mem_cons_of_mem _ (List.mem_cons_self))))))))))))))))))) j hj⟩
  · exact ⟨by rw [World.cell?_alloc_at _ _ _ _ rfl]; rfl, by rw [World.cell?_alloc_at _ _ _ _ rfl]; rfl, fun j hj => hmem (w5.heap.size, [⟨#[4]⟩]) (List.mem_cons_of_mem _ (List.mem_cons_of_mem _ (List.mem_cons_of_mem _ (List.mem_cons_of_mem _ (List.mem_cons_of_mem _ (List.mem_cons_of_mem _ (List.mem_cons_of_mem _ (List.mem_cons_of_mem _ (List.mem_cons_of_mem _ (List.mem_cons_of_mem _ (List.mem_cons_of_mem _ (List.mem_cons_of_mem _ (List.mem_cons_of_mem _ (List.mem_cons_of_mem _ (List.mem_cons_of_mem _ (List.mem_cons_of_mem _ (List.mem_cons_of_mem _ (List.mem_cons_self)))))))))))))))))) j hj⟩
  · exact ⟨by rw [World.cell?_alloc_at _ _ _ _ rfl]; rfl, by rw [World.cell?_alloc_at _ _ _ _ rfl]; rfl, fun j hj => hmem (w6.heap.size, [⟨#[11]⟩]) (List.mem_cons_of_mem _ (List.mem_cons_of_mem _ (List.mem_cons_of_mem _ (List.mem_cons_of_mem _ (List.mem_cons_of_mem _ (List.mem_cons_of_mem _ (List.mem_cons_of_mem _ (List.mem_cons_of_mem _ (List.mem_cons_of_mem _ (List.mem_cons_of_mem _ (List.mem_cons_of_mem _ (List.mem_cons_of_mem _ (List.mem_cons_of_mem _ (List.mem_cons_of_mem _ (List.mem_cons_of_mem _ (List.mem_cons_of_mem _ (List.mem_cons_self))))))))))))))))) j hj⟩
  · exact ⟨by rw [World.cell?_alloc_at _ _ _ _ rfl]; rfl, by rw [World.cell?_alloc_at _ _ _ _ rfl]; rfl, fun j hj => hmem (w7.heap.size, [⟨#[23]⟩]) (List.mem_cons_of_mem _ (List.mem_cons_of_mem _ (List.mem_cons_of_mem _ (List.mem_cons_of_mem _ (List.mem_cons_of_mem _ (List.mem_cons_of_mem _ (List.mem_cons_of_mem _ (List.mem_cons_of_mem _ (List.mem_cons_of_mem _ (List.mem_cons_of_mem _ (List.mem_cons_of_mem _ (List.mem_cons_of_mem _ (List.mem_cons_of_mem _ (List.mem_cons_of_mem _ (List.mem_cons_of_mem _ (List.mem_cons_self)))))))))))))))) j hj⟩
  · exact ⟨by rw [World.cell?_alloc_at _ _ _ _ rfl]; rfl, by rw [World.cell?_alloc_at _ _ _ _ rfl]; rfl, fun j hj => hmem (w8.heap.size, [⟨#[25]⟩]) (List.mem_cons_of_mem _ (List.mem_cons_of_mem _ (List.mem_cons_of_mem _ (List.mem_cons_of_mem _ (List.mem_cons_of_mem _ (List.mem_cons_of_mem _ (List.mem_cons_of_mem _ (List.mem_cons_of_mem _ (List.mem_cons_of_mem _ (List.mem_cons_of_mem _ (List.mem_cons_of_mem _ (List.mem_cons_of_mem _ (List.mem_cons_of_mem _ (List.mem_cons_of_mem _ (List.mem_cons_self))))))))))))))) j hj⟩
  · exact ⟨by rw [World.cell?_alloc_at _ _ _ _ rfl]; rfl, by rw [World.cell?_alloc_at _ _ _ _ rfl]; rfl, fun j hj => hmem (w9.heap.size, [⟨#[27,121]⟩]) (List.mem_cons_of_mem _ (List.mem_cons_of_mem _ (List.mem_cons_of_mem _ (List.mem_cons_of_mem _ (List.mem_cons_of_mem _ (List.mem_cons_of_mem _ (List.mem_cons_of_mem _ (List.mem_cons_of_mem _ (List.mem_cons_of_mem _ (List.mem_cons_of_mem _ (List.mem_cons_of_mem _ (List.mem_cons_of_mem _ (List.mem_cons_of_mem _ (List.mem_cons_self)))))))))))))) j hj⟩
  · exact ⟨by rw [World.cell?_alloc_at _ _ _ _ rfl]; rfl, by rw [World.cell?_alloc_at _ _ _ _ rfl]; rfl, fun j hj => hmem (w10.heap.size, [⟨#[31]⟩]) (List.mem_cons_of_mem _ (List.mem_cons_of_mem _ (List.mem_cons_of_mem _ (List.mem_cons_of_mem _ (List.mem_cons_of_mem _ (List.mem_cons_of_mem _ (List.mem_cons_of_mem _ (List.mem_cons_of_mem _ (List.mem_cons_of_mem _ (List.mem_cons_of_mem _ (List.mem_cons_of_mem _ (List.mem_cons_of_mem _ (List.mem_cons_self))))))))))))) j hj⟩
  · exact ⟨by rw [World.cell?_alloc_at _ _ _ _ rfl]; rfl, by rw [World.cell?_alloc_at _ _ _ _ rfl]; rfl, fun j hj => hmem (w11.heap.size, [⟨#[20]⟩]) (List.mem_cons_of_mem _ (List.mem_cons_of_mem _ (List.mem_cons_of_mem _ (List.mem_cons_of_mem _ (List.mem_cons_of_mem _ (List.mem_cons_of_mem _ (List.mem_cons_of_mem _ (List.mem_cons_of_mem _ (List.mem_cons_of_mem _ (List.mem_cons_of_mem _ (List.mem_cons_of_mem _ (List.mem_cons_self)))))))))))) j hj⟩
  · exact ⟨by rw [World.cell?_alloc_at _ _ _ _ rfl]; rfl, by rw [World.cell?_alloc_at _ _ _ _ rfl]; rfl, fun j hj => hmem (w12.heap.size, [⟨#[27,98]⟩]) (List.mem_cons_of_mem _ (List.mem_cons_of_mem _ (List.mem_cons_of_mem _ (List.mem_cons_of_mem _ (List.mem_cons_of_mem _ (List.mem_cons_of_mem _ (List.mem_cons_of_mem _ (List.mem_cons_of_mem _ (List.mem_cons_of_mem _ (List.mem_cons_of_mem _ (List.mem_cons_self))))))))))) j hj⟩
  · exact ⟨by rw [World.cell?_alloc_at _ _ _ _ rfl]; rfl, by rw [World.cell?_alloc_at _ _ _ _ rfl]; rfl, fun j hj => hmem (w13.heap.size, [⟨#[27,102]⟩]) (List.mem_cons_of_mem _ (List.mem_cons_of_mem _ (List.mem_cons_of_mem _ (List.mem_cons_of_mem _ (List.mem_cons_of_mem _ (List.mem_cons_of_mem _ (List.mem_cons_of_mem _ (List.mem_cons_of_mem _ (List.mem_cons_of_mem _ (List.mem_cons_self)))))))))) j hj⟩
  · exact ⟨by rw [World.cell?_alloc_at _ _ _ _ rfl]; rfl, by rw [World.cell?_alloc_at _ _ _ _ rfl]; rfl, fun j hj => hmem (w14.heap.size, [⟨#[27,117]⟩]) (List.mem_cons_of_mem _ (List.mem_cons_of_mem _ (List.mem_cons_of_mem _ (List.mem_cons_of_mem _ (List.mem_cons_of_mem _ (List.mem_cons_of_mem _ (List.mem_cons_of_mem _ (List.mem_cons_of_mem _ (List.mem_cons_self))))))))) j hj⟩
  · exact ⟨by rw [World.cell?_alloc_at _ _ _ _ rfl]; rfl, by rw [World.cell?_alloc_at _ _ _ _ rfl]; rfl, fun j hj => hmem (w15.heap.size, [⟨#[27,108]⟩]) (List.mem_cons_of_mem _ (List.mem_cons_of_mem _ (List.mem_cons_of_mem _ (List.mem_cons_of_mem _ (List.mem_cons_of_mem _ (List.mem_cons_of_mem _ (List.mem_cons_of_mem _ (List.mem_cons_self)))))))) j hj⟩
  · exact ⟨by rw [World.cell?_alloc_at _ _ _ _ rfl]; rfl, by rw [World.cell?_alloc_at _ _ _ _ rfl]; rfl, fun j hj => hmem (w16.heap.size, [⟨#[16]⟩, ⟨#[27,91,65]⟩]) (List.mem_cons_of_mem _ (List.mem_cons_of_mem _ (List.mem_cons_of_mem _ (List.mem_cons_of_mem _ (List.mem_cons_of_mem _ (List.mem_cons_of_mem _ (List.mem_cons_self))))))) j hj⟩
  · exact ⟨by rw [World.cell?_alloc_at _ _ _ _ rfl]; rfl, by rw [World.cell?_alloc_at _ _ _ _ rfl]; rfl, fun j hj => hmem (w17.heap.size, [⟨#[14]⟩, ⟨#[27,91,66]⟩]) (List.mem_cons_of_mem _ (List.mem_cons_of_mem _ (List.mem_cons_of_mem _ (List.mem_cons_of_mem _ (List.mem_cons_of_mem _ (List.mem_cons_self)))))) j hj⟩
  · exact ⟨by rw [World.cell?_alloc_at _ _ _ _ rfl]; rfl, by rw [World.cell?_alloc_at _ _ _ _ rfl]; rfl, fun j hj => hmem (w18.heap.size, [⟨#[13]⟩, ⟨#[10]⟩]) (List.mem_cons_of_mem _ (List.mem_cons_of_mem _ (List.mem_cons_of_mem _ (List.mem_cons_of_mem _ (List.mem_cons_self))))) j hj⟩
  · exact ⟨by rw [World.cell?_alloc_at _ _ _ _ rfl]; rfl, by rw [World.cell?_alloc_at _ _ _ _ rfl]; rfl, fun j hj => hmem (w19.heap.size, [⟨#[3]⟩]) (List.mem_cons_of_mem _ (List.mem_cons_of_mem _ (List.mem_cons_of_mem _ (List.mem_cons_self)))) j hj⟩
  · exact ⟨by rw [World.cell?_alloc_at _ _ _ _ rfl]; rfl, by rw [World.cell?_alloc_at _ _ _ _ rfl]; rfl, fun j hj => hmem (w20.heap.size, [⟨#[27,99]⟩]) (List.mem_cons_of_mem _ (List.mem_cons_of_mem _ (List.mem_cons_self))) j hj⟩
  · exact ⟨by rw [World.cell?_alloc_at _ _ _ _ rfl]; rfl, by rw [World.cell?_alloc_at _ _ _ _ rfl]; rfl, fun j hj => hmem (w21.heap.size, [⟨#[27,119]⟩]) (List.mem_cons_of_mem _ (List.mem_cons_self)) j hj⟩
  · exact ⟨by rw [World.cell?_alloc_at _ _ _ _ rfl]; rfl, by rw [World.cell?_alloc_at _ _ _ _ rfl]; rfl, fun j hj => hmem (w22.heap.size, [⟨#[27,115]⟩]) (List.mem_cons_self) j hj⟩
set_option maxHeartbeats 4000000 in
set_option maxRecDepth 100000 in
theorem keyTable_any (w : World) :
    Calls Try.prog 29 #[] w fun e w' => ∃ g, e = .returned (.slice (some ⟨g, 0, none⟩) 23 23) ∧ TabAt w.heap.size w' g ∧ Below w.heap.size w w' := by
  have H0 := Lib.hid (show HasAll w.heap.size w [] from fun p hp => by cases hp)
  have B0 := Lib.hid (Below.refl w.heap.size w)
  go_enter Try.func29, Try.ntmps29
  go_wp2_with fail
  refine (rowOf_any _ _ _ _ _).mono ?_
  rintro e w1 ⟨rfl, hb⟩
  have H1 := Lib.hid (H0.out.step B0.out.size [⟨#[2]⟩, ⟨#[27,91,68]⟩] _ _ rfl hb)
  have B1 := Lib.hid (bthen (B0.out.alloc B0.out.size _) hb (Nat.le_trans B0.out.size (by simp)))
  clear hb H0 B0
  go_wp2_with fail
  refine (rowOf_any _ _ _ _ _).mono ?_
  rintro e w2 ⟨rfl, hb⟩
  have H2 := Lib.hid (H1.out.step B1.out.size [⟨#[6]⟩, ⟨#[27,91,67]⟩] _ _ rfl hb)
  have B2 := Lib.hid (bthen (B1.out.alloc B1.out.size _) hb (Nat.le_trans B1.out.size (by simp)))
  clear hb H1 B1
  go_wp2_with fail
  refine (rowOf_any _ _ _ _ _).mono ?_
  rintro e w3 ⟨rfl, hb⟩
  have H3 := Lib.hid (H2.out.step B2.out.size [⟨#[1]⟩] _ _ rfl hb)
  have B3 := Lib.hid (bthen (B2.out.alloc B2.out.size _) hb (Nat.le_trans B2.out.size (by simp)))
  clear hb H2 B2
  go_wp2_with fail
  refine (rowOf_any _ _ _ _ _).mono ?_
  rintro e w4 ⟨rfl, hb⟩
  have H4 := Lib.hid (H3.out.step B3.out.size [⟨#[5]⟩] _ _ rfl hb)
  have B4 := Lib.hid (bthen (B3.out.alloc B3.out.size _) hb (Nat.le_trans B3.out.size (by simp)))
  clear hb H3 B3
  go_wp2_with fail
  refine (rowOf_any _ _ _ _ _).mono ?_
  rintro e w5 ⟨rfl, hb⟩
  have H5 := Lib.hid (H4.out.step B4.out.size [⟨#[8]⟩, ⟨#[127]⟩] _ _ rfl hb)
  have B5 := Lib.hid (bthen (B4.out.alloc B4.out.size _) hb (Nat.le_trans B4.out.size (by simp)))
  clear hb H4 B4
  go_wp2_with fail
  refine (rowOf_any _ _ _ _ _).mono ?_
  rintro e w6 ⟨rfl, hb⟩
  have H6 := Lib.hid (H5.out.step B5.out.size [⟨#[4]⟩] _ _ rfl hb)
  have B6 := Lib.hid (bthen (B5.out.alloc B5.out.size _) hb (Nat.le_trans B5.out.size (by simp)))
  clear hb H5 B5
  go_wp2_with fail
  refine (rowOf_any _ _ _ _ _).mono ?_
  rintro e w7 ⟨rfl, hb⟩
  have H7 := Lib.hid (H6.out.step B6.out.size [⟨#[11]⟩] _ _ rfl hb)
  have B7 := Lib.hid (bthen (B6.out.alloc B6.out.size _) hb (Nat.le_trans B6.out.size (by simp)))
  clear hb H6 B6
  go_wp2_with fail
  refine (rowOf_any _ _ _ _ _).mono ?_
  rintro e w8 ⟨rfl, hb⟩
  have H8 := Lib.hid (H7.out.step B7.out.size [⟨#[23]⟩] _ _ rfl hb)
  have B8 := Lib.hid (bthen (B7.out.alloc B7.out.size _) hb (Nat.le_trans B7.out.size (by simp)))
  clear hb H7 B7
  go_wp2_with fail
  refine (rowOf_any _ _ _ _ _).mono ?_
  rintro e w9 ⟨rfl, hb⟩
  have H9 := Lib.hid (H8.out.step B8.out.size [⟨#[25]⟩] _ _ rfl hb)
  have B9 := Lib.hid (bthen (B8.out.alloc B8.out.size _) hb (Nat.le_trans B8.out.size (by simp)))
  clear hb H8 B8
  go_wp2_with fail
  refine (rowOf_any _ _ _ _ _).mono ?_
  rintro e w10 ⟨rfl, hb⟩
  have H10 := Lib.hid (H9.out.step B9.out.size [⟨#[27,121]⟩] _ _ rfl hb)
  have B10 := Lib.hid (bthen (B9.out.alloc B9.out.size _) hb (Nat.le_trans B9.out.size (by simp)))
  clear hb H9 B9
  go_wp2_with fail
  refine (rowOf_any _ _ _ _ _).mono ?_
  rintro e w11 ⟨rfl, hb⟩
  have H11 := Lib.hid (H10.out.step B10.out.size [⟨#[31]⟩] _ _ rfl hb)
  have B11 := Lib.hid (bthen (B10.out.alloc B10.out.size _) hb (Nat.le_trans B10.out.size (by simp)))
  clear hb H10 B10
  go_wp2_with fail
  refine (rowOf_any _ _ _ _ _).mono ?_
  rintro e w12 ⟨rfl, hb⟩
  have H12 := Lib.hid (H11.out.step B11.out.size [⟨#[20]⟩] _ _ rfl hb)
  have B12 := Lib.hid (bthen (B11.out.alloc B11.out.size _) hb (Nat.le_trans B11.out.size (by simp)))
  clear hb H11 B11
  go_wp2_with fail
  refine (rowOf_any _ _ _ _ _).mono ?_
  rintro e w13 ⟨rfl, hb⟩
  have H13 := Lib.hid (H12.out.step B12.out.size [⟨#[27,98]⟩] _ _ rfl hb)
  have B13 := Lib.hid (bthen (B12.out.alloc B12.out.size _) hb (Nat.le_trans B12.out.size (by simp)))
  clear hb H12 B12
  go_wp2_with fail
  refine (rowOf_any _ _ _ _ _).mono ?_
  rintro e w14 ⟨rfl, hb⟩
  have H14 := Lib.hid (H13.out.step B13.out.size [⟨#[27,102]⟩] _ _ rfl hb)
  have B14 := Lib.hid (bthen (B13.out.alloc B13.out.size _) hb (Nat.le_trans B13.out.size (by simp)))
  clear hb H13 B13
  go_wp2_with fail
  refine (rowOf_any _ _ _ _ _).mono ?_
  rintro e w15 ⟨rfl, hb⟩
  have H15 := Lib.hid (H14.out.step B14.out.size [⟨#[27,117]⟩] _ _ rfl hb)
  have B15 := Lib.hid (bthen (B14.out.alloc B14.out.size _) hb (Nat.le_trans B14.out.size (by simp)))
  clear hb H14 B14
  go_wp2_with fail
  refine (rowOf_any _ _ _ _ _).mono ?_
  rintro e w16 ⟨rfl, hb⟩
  have H16 := Lib.hid (H15.out.step B15.out.size [⟨#[27,108]⟩] _ _ rfl hb)
  have B16 := Lib.hid (bthen (B15.out.alloc B15.out.size _) hb (Nat.le_trans B15.out.size (by simp)))
  clear hb H15 B15
  go_wp2_with fail
  refine (rowOf_any _ _ _ _ _).mono ?_
  rintro e w17 ⟨rfl, hb⟩
  have H17 := Lib.hid (H16.out.step B16.out.size [⟨#[16]⟩, ⟨#[27,91,65]⟩] _ _ rfl hb)
  have B17 := Lib.hid (bthen (B16.out.alloc B16.out.size _) hb (Nat.le_trans B16.out.size (by simp)))
  clear hb H16 B16
  go_wp2_with fail
  refine (rowOf_any _ _ _ _ _).mono ?_
  rintro e w18 ⟨rfl, hb⟩
  have H18 := Lib.hid (H17.out.step B17.out.size [⟨#[14]⟩, ⟨#[27,91,66]⟩] _ _ rfl hb)
  have B18 := Lib.hid (bthen (B17.out.alloc B17.out.size _) hb (Nat.le_trans B17.out.size (by simp)))
  clear hb H17 B17
  go_wp2_with fail
  refine (rowOf_any _ _ _ _ _).mono ?_
  rintro e w19 ⟨rfl, hb⟩
  have H19 := Lib.hid (H18.out.step B18.out.size [⟨#[13]⟩, ⟨#[10]⟩] _ _ rfl hb)
  have B19 := Lib.hid (bthen (B18.out.alloc B18.out.size _) hb (Nat.le_trans B18.out.size (by simp)))
  clear hb H18 B18
  go_wp2_with fail
  refine (rowOf_any _ _ _ _ _).mono ?_
  rintro e w20 ⟨rfl, hb⟩
  have H20 := Lib.hid (H19.out.step B19.out.size [⟨#[3]⟩] _ _ rfl hb)
  have B20 := Lib.hid (bthen (B19.out.alloc B19.out.size _) hb (Nat.le_trans B19.out.size (by simp)))
  clear hb H19 B19
  go_wp2_with fail
  refine (rowOf_any _ _ _ _ _).mono ?_
  rintro e w21 ⟨rfl, hb⟩
  have H21 := Lib.hid (H20.out.step B20.out.size [⟨#[27,99]⟩] _ _ rfl hb)
  have B21 := Lib.hid (bthen (B20.out.alloc B20.out.size _) hb (Nat.le_trans B20.out.size (by simp)))
  clear hb H20 B20
  go_wp2_with fail
  refine (rowOf_any _ _ _ _ _).mono ?_
  rintro e w22 ⟨rfl, hb⟩
  have H22 := Lib.hid (H21.out.step B21.out.size [⟨#[27,119]⟩] _ _ rfl hb)
  have B22 := Lib.hid (bthen (B21.out.alloc B21.out.size _) hb (Nat.le_trans B21.out.size (by simp)))
  clear hb H21 B21
  go_wp2_with fail
  refine (rowOf_any _ _ _ _ _).mono ?_
  rintro e w23 ⟨rfl, hb⟩
  have H23 := Lib.hid (H22.out.step B22.out.size [⟨#[27,115]⟩] _ _ rfl hb)
  have B23 := Lib.hid (bthen (B22.out.alloc B22.out.size _) hb (Nat.le_trans B22.out.size (by simp)))
  clear hb H22 B22
  go_wp2
  go_ret
  exact ⟨_, rfl, tab_done w.heap.size w w1 w2 w3 w4 w5 w6 w7 w8 w9 w10 w11 w12 w13 w14 w15 w16 w17 w18 w19 w20 w21 w22 w23 H23.out _ B23.out.size, B23.out.alloc B23.out.size _⟩
end Go.Proofs.Ytbefoalecogmbaa.key
