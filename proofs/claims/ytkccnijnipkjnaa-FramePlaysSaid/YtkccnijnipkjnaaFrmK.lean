/- Two frames are held against each other: the law's same. The document's stack: what is stored into it, what is cut off. -/
import Derived.Test.YtkccnijnipkjnaaFrmJ
namespace Go.Proofs.Ytkccnijnipkjnaa.Frm
open Go.RowKit Mem

set_option maxRecDepth 100000 in
theorem same_eq (f : Nat → Int) (w : World) :
    Calls Try.prog 12 #[frV f, frV f] w fun e w' => e = .returned (.bool true) ∧ Off [] w w' := by
  have heq := eql_eight f
  obtain ⟨hb, hb0⟩ : Blk ((w.alloc (.cells (frL f).toArray 37)).alloc (.cells (frL f).toArray 41)) w.heap.size 37 (frL f).toArray ∧
      Blk ((w.alloc (.cells (frL f).toArray 37)).alloc (.cells (frL f).toArray 41)) (w.heap.size + 1) 41 (frL f).toArray := by
    refine ⟨(Blk.new _ _ _).alloc _, ?_⟩
    have h5 := Blk.new (w.alloc (.cells (frL f).toArray 37)) 41 (frL f).toArray
    simpa using h5
  have ho := ((Off.refl [] w).alloc (.cells (frL f).toArray 37)).alloc (.cells (frL f).toArray 41)
  have HO := Lib.hid ho
  obtain ⟨-, x0, x1, x2, x3, x4, x5, x6, x7, x8, x9⟩ := ten_cells hb
  obtain ⟨-, y0, y1, y2, y3, y4, y5, y6, y7, y8, y9⟩ := ten_cells hb0
  clear hb hb0 ho
  go_enter Try.func12, Try.ntmps12
  go_wp2
  go_ret
  exact ⟨rfl, HO.out⟩

/-- As many as may be. -/
def most (m : Int) : Nat := if 0 ≤ m ∧ m ≤ 16 then m.toNat else 0
theorem most_in {m : Int} (h0 : 0 ≤ m) (h1 : m ≤ 16) : ((most m : Nat) : Int) = m := by unfold most; rw [if_pos ⟨h0, h1⟩]; omega
theorem most_out {m : Int} (h : m < 0 ∨ 16 < m) : most m = 0 := by unfold most; rw [if_neg (by omega)]
theorem most_cap (m : Int) : most m ≤ 16 := by unfold most; split <;> omega
theorem new_any (m : Int) (w : World) :
    Calls Try.prog 8 #[.int .i64 m] w fun e w' => e = .returned (.pointer (some ⟨w.heap.size, 0, none⟩)) ∧ IsS w' w.heap.size [] (most m) ∧ Off [] w w' := by
  by_cases h : 0 ≤ m ∧ m ≤ 16
  · have e := most_in h.1 h.2
    have := new_in (most m) (most_cap m) w
    rwa [e] at this
  · rw [most_out (by omega)]
    exact new_out m (by omega) w

theorem flat_len (l : List (Nat → Int)) : (l.flatMap frL).length = l.length * 10 := by
  induction l with
  | nil => rfl
  | cons a l ih => rw [List.flatMap_cons, List.length_append, ih, List.length_cons]; simp; omega
theorem frL_set (f : Nat → Int) (j : Nat) (hj : j < 10) (x : Int) : (frL f).set j (.int .i64 x) = frL (upd f j x) := by
  match j, hj with
  | 0, _ => simp [upd]
  | 1, _ => simp [upd]
  | 2, _ => simp [upd]
  | 3, _ => simp [upd]
  | 4, _ => simp [upd]
  | 5, _ => simp [upd]
  | 6, _ => simp [upd]
  | 7, _ => simp [upd]
  | 8, _ => simp [upd]
  | 9, _ => simp [upd]

section
variable {w w' : World} {base b m : Nat} {l : List (Nat → Int)} {f : Nat → Int}
theorem IsM.lt (h : IsM w base b l m) : b < w.heap.size := by
  obtain ⟨lv, hh, -⟩ := h.head
  exact hh.lt
/-- Its first cell: how many there are. -/
theorem IsM.first (h : IsM w base b l m) : ∃ a c, w.cell? ⟨b, 0, none⟩ = some (.slice a l.length c) ∧ w.frozen? ⟨b, 0, none⟩ = false := by
  obtain ⟨lv, hh, hown⟩ := h.head
  have c0 := hh.cell 0
  rcases hown.2 with ⟨rfl, h0⟩ | ⟨g, cap, cur, rfl, _⟩
  · exact ⟨none, 0, by rw [c0, h0]; rfl, hh.free 0⟩
  · exact ⟨_, _, c0, hh.free 0⟩
/-- Nothing is there. -/
theorem IsM.clear (h : IsM w base b l m) : IsM (w.setCell ⟨b, 0, none⟩ (.slice none 0 0)) base b [] m := by
  obtain ⟨lv, hh, hown⟩ := h.head
  exact ⟨⟨_, (hh.set 0 (.slice none 0 0)).to (by simp), World.ownsRow_nil _ _ _ _⟩, by simpa [World.setCell] using h.lo, h.hb, Nat.zero_le _, h.cap⟩

/-- The last frame's place, and what may be done there. -/
structure Last (w : World) (base b : Nat) (l : List (Nat → Int)) (f : Nat → Int) (m rg cap : Nat) : Prop where
  head : w.cell? ⟨b, 0, none⟩ = some (.slice (some ⟨rg, 0, none⟩) (l.length + 1) cap)
  lo : base ≤ rg
  fit : l.length + 1 ≤ cap
  capm : cap ≤ maxLen
  cells : ∀ j, j < 10 → w.cell? ⟨rg, l.length * 10 + j, none⟩ = some (.int .i64 (f j))
  free : ∀ i, w.frozen? ⟨rg, i, none⟩ = false
  kind : ∃ cur, Blk w rg 41 cur
  put : ∀ j x, j < 10 → IsM (w.setCell ⟨rg, l.length * 10 + j, none⟩ (.int .i64 x)) base b (l ++ [upd f j x]) m
  cut : IsM (w.setCell ⟨b, 0, none⟩ (.slice (some ⟨rg, 0, none⟩) l.length cap)) base b l m
theorem IsM.last (h : IsM w base b (l ++ [f]) m) : ∃ rg cap, Last w base b l f m rg cap := by
  obtain ⟨lv, hh, hown⟩ := h.head
  have hln : (l ++ [f]).length = l.length + 1 := by simp
  have hfl : (l ++ [f]).flatMap frL = l.flatMap frL ++ frL f := by simp
  rw [hln, hfl] at hown
  have hle := h.le
  rw [hln] at hle
  rcases hown.2 with ⟨_, h0⟩ | ⟨rg, cap, cur, rfl, hlo, hc, hn, hcm, hsz, htake⟩
  · omega
  · have hcur : ∀ j, j < 10 → cur[l.length * 10 + j]? = some (.int .i64 (f j)) := by
      intro j hj
      have e : (cur.toList.take ((l.length + 1) * 10))[l.length * 10 + j]? = (l.flatMap frL ++ frL f)[l.length * 10 + j]? := by rw [htake]
      rw [List.getElem?_take, if_pos (by omega), List.getElem?_append_right (by rw [flat_len]; omega), flat_len, Nat.add_sub_cancel_left, ← frL_mem, memL_get f hj] at e
      simpa using e
    have hB : Blk w rg 41 cur := ⟨hc⟩
    have hne : b ≠ rg := hh.ne hB (by decide)
    refine ⟨rg, cap, hh.cell 0, hlo, hn, hcm, fun j hj => by rw [hB.cell]; exact hcur j hj, hB.free, ⟨cur, hB⟩, fun j x hj => ?_, ?_⟩
    · refine ⟨⟨_, hh.far hne _ _, ?_⟩, by simpa [World.setCell] using h.lo, h.hb, by simpa using h.le, h.cap⟩
      rw [show (l ++ [upd f j x]).length = l.length + 1 from by simp, show (l ++ [upd f j x]).flatMap frL = l.flatMap frL ++ frL (upd f j x) from by simp]
      refine ⟨by rw [List.length_append, flat_len]; simp; omega, .inr ⟨rg, cap, _, rfl, hlo, (hB.set _ _).eq, hn, hcm, by simpa using hsz, ?_⟩⟩
      rw [Array.toList_setIfInBounds, List.take_set, htake, List.set_append_right _ _ (by rw [flat_len]; omega), flat_len, Nat.add_sub_cancel_left, frL_set f j hj]
    · refine ⟨⟨.slice (some ⟨rg, 0, none⟩) l.length cap, (hh.set 0 (.slice (some ⟨rg, 0, none⟩) l.length cap)).to (by simp), ?_⟩, by simpa [World.setCell] using h.lo, h.hb, by omega, h.cap⟩
      refine ⟨flat_len l, .inr ⟨rg, cap, cur, rfl, hlo, (hB.far hne.symm _ _).eq, by omega, hcm, hsz, ?_⟩⟩
      have e := congrArg (List.take (l.length * 10)) htake
      rw [List.take_take, Nat.min_eq_left (by omega), List.take_append_of_le_length (by rw [flat_len]; omega), List.take_of_length_le (l := l.flatMap frL) (by rw [flat_len]; omega)] at e
      exact e
end

end Go.Proofs.Ytkccnijnipkjnaa.Frm
