/- The program's model: slices.Insert over its row: contracts. -/
import Derived.Test.YtfgkjfneeggbjaaDevB
import Derived.Test.YtfgkjfneeggbjaaRowK
import Derived.Lib.Walk
namespace Go.Proofs.Ytfgkjfneeggbjaa.Mod
open Go.RowKit Mem Go.Proofs.Ytfgkjfneeggbjaa.RowK

/-- A row of blocks in block r, with room for cap. -/
structure Row (w : World) (r cap : Nat) (l : List Bk) : Prop where
  cells : ∃ L : List Value, Blk w r 46 L.toArray ∧ L.length = cap * 2 ∧ L.take (l.length * 2) = l.flatMap bkL
  le : l.length ≤ cap
  max : cap ≤ maxLen
theorem Row.own {w : World} {r cap : Nat} {l : List Bk} (h : Row w r cap l) : w.ownsRow 0 46 2 (.slice (some ⟨r, 0, none⟩) l.length cap) l.length (l.flatMap bkL) := by
  obtain ⟨L, h1, h2, h3⟩ := h.cells
  exact ⟨flat2_len l, .inr ⟨r, cap, L.toArray, rfl, Nat.zero_le _, h1.eq, h.le, h.max, by simpa using h2, by simpa using h3⟩⟩
theorem own_rows {w : World} {lv : Value} {l : List Bk} (h : w.ownsRow 0 46 2 lv l.length (l.flatMap bkL)) : (lv = .slice none 0 0 ∧ l = []) ∨ ∃ r cap, lv = .slice (some ⟨r, 0, none⟩) l.length cap ∧ Row w r cap l := by
  rcases h.2 with ⟨rfl, h0⟩ | ⟨r, cap, cur, rfl, _, hc, hn, hm, hs, ht⟩
  · exact .inl ⟨rfl, List.eq_nil_of_length_eq_zero h0⟩
  · exact .inr ⟨r, cap, rfl, ⟨cur.toList, ⟨by simpa using hc⟩, by simpa using hs, ht⟩, hn, hm⟩

/-- A row's cells, by its blocks. -/
theorem row_cells {w : World} {r n : Nat} {l : List Bk} {L : List Value} (hL : Blk w r 46 L.toArray) (ht : L.take (n * 2) = l.flatMap bkL) (i : Nat) :
    ∀ j u, ((l.drop i).flatMap bkL)[j]? = some u → w.cell? ((⟨r, i * 2, none⟩ : Addr).add j) = some u := by
  intro j u hu
  rw [addr_add, hL.cell]
  rw [flat2_drop, List.getElem?_drop, ← ht, List.getElem?_take] at hu
  split at hu
  · simpa using hu
  · cases hu
theorem row_take {n i : Nat} {l : List Bk} {L : List Value} (ht : L.take (n * 2) = l.flatMap bkL) (hi : i ≤ n) : L.take (i * 2) = (l.take i).flatMap bkL := by
  rw [flat2_take, ← ht, List.take_take]
  congr 1
  omega
theorem flat_ins (l : List Bk) (i : Nat) (b : Bk) : (l.take i ++ b :: l.drop i).flatMap bkL = (l.take i).flatMap bkL ++ (bkL b ++ (l.drop i).flatMap bkL) := by
  rw [List.flatMap_append, List.flatMap_cons]
theorem take_drop2 {A B C : List Value} {k : Nat} (hk : A.length = k) : (A ++ B ++ C).drop k = B ++ C := by
  rw [List.append_assoc, ← hk, List.drop_left]
/-- Moved up by one place, then written over. -/
theorem shift_row {L : List Value} {l : List Bk} {n i : Nat} {b : Bk} (ht : L.take (n * 2) = l.flatMap bkL) (hn : l.length = n) (hi : i < n) (hl : (n + 1) * 2 ≤ L.length) :
    (over (over L ((i + 1) * 2) ((l.drop i).flatMap bkL)) (i * 2) (bkL b)).length = L.length ∧
    (over (over L ((i + 1) * 2) ((l.drop i).flatMap bkL)) (i * 2) (bkL b)).take ((n + 1) * 2) = (l.take i ++ b :: l.drop i).flatMap bkL := by
  have hcl : ((l.drop i).flatMap bkL).length = (n - i) * 2 := by rw [flat2_len, List.length_drop, hn]
  have h1 : (over L ((i + 1) * 2) ((l.drop i).flatMap bkL)).length = L.length := over_len (by rw [hcl]; omega)
  have h2 : (bkL b).length = 2 := rfl
  refine ⟨by rw [over_len (by rw [h1, h2]; omega), h1], ?_⟩
  have e1 : (over L ((i + 1) * 2) ((l.drop i).flatMap bkL)).take (i * 2) = (l.take i).flatMap bkL := by
    unfold over
    rw [List.append_assoc, List.take_append_of_le_length (by rw [List.length_take]; omega), List.take_take, show min (i * 2) ((i + 1) * 2) = i * 2 from by omega]
    exact row_take ht (by omega)
  have e2 : (over L ((i + 1) * 2) ((l.drop i).flatMap bkL)).drop (i * 2 + (bkL b).length) = (l.drop i).flatMap bkL ++ L.drop ((i + 1) * 2 + ((l.drop i).flatMap bkL).length) := by
    unfold over
    exact take_drop2 (by rw [List.length_take, h2]; omega)
  rw [show over (over L ((i + 1) * 2) ((l.drop i).flatMap bkL)) (i * 2) (bkL b) = (over L ((i + 1) * 2) ((l.drop i).flatMap bkL)).take (i * 2) ++ bkL b ++ (over L ((i + 1) * 2) ((l.drop i).flatMap bkL)).drop (i * 2 + (bkL b).length) from rfl, e1, e2, flat_ins]
  rw [show (l.take i).flatMap bkL ++ bkL b ++ ((l.drop i).flatMap bkL ++ L.drop ((i + 1) * 2 + ((l.drop i).flatMap bkL).length)) = ((l.take i).flatMap bkL ++ (bkL b ++ (l.drop i).flatMap bkL)) ++ L.drop ((i + 1) * 2 + ((l.drop i).flatMap bkL).length) from by simp only [List.append_assoc]]
  rw [show (n + 1) * 2 = ((l.take i).flatMap bkL ++ (bkL b ++ (l.drop i).flatMap bkL)).length from by rw [List.length_append, List.length_append, hcl, h2, flat2_len, List.length_take]; omega]
  exact List.take_left
/-- A row of its own, filled. -/
theorem grow_row {R : List Value} {l : List Bk} {n i : Nat} {b : Bk} (ht : R.take (i * 2) = (l.take i).flatMap bkL) (hn : l.length = n) (hi : i < n) (hl : (n + 1) * 2 ≤ R.length) :
    (over (over R (i * 2) (bkL b)) ((i + 1) * 2) ((l.drop i).flatMap bkL)).length = R.length ∧
    (over (over R (i * 2) (bkL b)) ((i + 1) * 2) ((l.drop i).flatMap bkL)).take ((n + 1) * 2) = (l.take i ++ b :: l.drop i).flatMap bkL := by
  have hcl : ((l.drop i).flatMap bkL).length = (n - i) * 2 := by rw [flat2_len, List.length_drop, hn]
  have h2 : (bkL b).length = 2 := rfl
  have h1 : (over R (i * 2) (bkL b)).length = R.length := over_len (by rw [h2]; omega)
  refine ⟨by rw [over_len (by rw [h1, hcl]; omega), h1], ?_⟩
  have e1 : (over R (i * 2) (bkL b)).take ((i + 1) * 2) = (l.take i).flatMap bkL ++ bkL b := by
    unfold over
    rw [ht, show (i + 1) * 2 = ((l.take i).flatMap bkL ++ bkL b).length from by rw [List.length_append, flat2_len, List.length_take, h2]; omega]
    exact List.take_left
  rw [show over (over R (i * 2) (bkL b)) ((i + 1) * 2) ((l.drop i).flatMap bkL) = (over R (i * 2) (bkL b)).take ((i + 1) * 2) ++ (l.drop i).flatMap bkL ++ (over R (i * 2) (bkL b)).drop ((i + 1) * 2 + ((l.drop i).flatMap bkL).length) from rfl, e1, flat_ins]
  rw [List.append_assoc ((l.take i).flatMap bkL), show (n + 1) * 2 = ((l.take i).flatMap bkL ++ (bkL b ++ (l.drop i).flatMap bkL)).length from by rw [List.length_append, List.length_append, hcl, h2, flat2_len, List.length_take]; omega]
  exact List.take_left

theorem dblock_size : (Try.prog.info? 46).map (·.size) = some 2 := by kernel_rfl
theorem len_ins {l : List Bk} {i n : Nat} {b : Bk} (hn : l.length = n) (hi : i ≤ n) : (l.take i ++ b :: l.drop i).length = n + 1 := by
  rw [List.length_append, List.length_take, List.length_cons, List.length_drop]
  omega
theorem two_one (x y : Int) : ∀ u ∈ [Value.int .i64 x, Value.int .i64 y], u.oneCell' = true := by
  intro u hu
  simp at hu
  rcases hu with rfl | rfl <;> rfl
theorem two_src {w : World} {vb : Nat} {t : TypeId} {x y : Value} (h : Blk w vb t #[x, y]) : ∀ j u, [x, y][j]? = some u → w.cell? ((⟨vb, 0, none⟩ : Addr).add j) = some u := by
  intro j u hu
  rw [addr_add, h.cell, Nat.zero_add]
  simpa using hu

theorem overlaps_run {w : World} {r vb o lb cb : Nat} {L : List Value} {x y : Value} (hL : Blk w r 46 L.toArray) (h0 : 0 < L.length) (hv : Blk w vb 46 #[x, y]) (hne : vb ≠ r) :
    (callFunc 51 #[.slice (some ⟨vb, 0, none⟩) 1 1, .slice (some ⟨r, o, none⟩) lb cb]).run Try.prog w = .ok (.value (.bool false)) w := by
  obtain ⟨i0, hi, -, hz1, -⟩ := info_parts dblock_info
  rw [run_callFunc_extern Try.func51 (by kernel_rfl) (by kernel_rfl) (by kernel_rfl) (show Extern.find _ = some (Extern.SlicesOverlaps.overlaps #[43, 43] #[4]) by kernel_rfl),
    Lib.run_overlaps_apart w 43 4 46 Try.underlying43 2 (fun w => by simp [sizeOf, typeInfo, hi, hz1]) ⟨vb, 0, none⟩ ⟨r, o, none⟩ 1 1 lb cb hne 46 46 2 L.length (by simp [World.shape?, hv.eq]) (by simp [World.shape?, hL.eq]) (by omega) (hv.free 0) (hv.free 2)]
  rfl

end Go.Proofs.Ytfgkjfneeggbjaa.Mod
