/- WordsOne: the walk. (Written by wip/tools/one_gen.py.) -/
import Derived.Test.YtaegjkpodhkogaaWordsD
import Derived.Test.YtaegjkpodhkogaaCountsW
import Derived.BigQuiet
import Derived.Deep.QuietTactic
import Derived.Deep.RegionHeld3
import Derived.RegionTactic
namespace Go.Proofs.Ytaegjkpodhkogaa.Words
open Go.RowKit Mem Go.Proofs.Ytaegjkpodhkogaa.Open

/-- The words of z but the k-th, which is v. -/
structure Touched (s : St) (z : Nat → Int) (len k : Nat) (v : Int) : Prop where
  size : s.row.length = len
  other : ∀ i, i < len → i ≠ k → s.at i = z i
  same : s.at k = v
theorem touched_fill (z : Nat → Int) (len k : Nat) (h : k < len) : Touched (St.fill z len len) z len k (z k) :=
  ⟨filled_length z len len, fun i hi _ => filled_at z len i hi, filled_at z len k h⟩
theorem Touched.note {s : St} {z : Nat → Int} {len k : Nat} {v : Int} (h : Touched s z len k v) (a : Acc) : Touched (s.note a) z len k v := ⟨h.size, h.other, h.same⟩
theorem Touched.lay {s : St} {z : Nat → Int} {len k : Nat} {v : Int} (h : Touched s z len k v) (hk : k < len) (u : Int) : Touched (s.lay k u) z len k u :=
  ⟨by rw [length_lay, h.size], fun i hi hn => by rw [at_lay_other _ _ _ _ (Ne.symm hn)]; exact h.other i hi hn, at_lay_same _ _ _ (by rw [h.size]; exact hk)⟩
theorem Touched.to {s : St} {z : Nat → Int} {len k : Nat} {v u : Int} (h : Touched s z len k v) (e : v = u) : Touched s z len k u := e ▸ h
theorem Touched.cells {s : St} {z : Nat → Int} {len k : Nat} {v : Int} (h : Touched s z len k v) (hk : k < len) {w : World} {g : Nat}
    (hal : ∀ i, i < s.row.length → w.cell? ⟨g, i, none⟩ = some (.int .u64 (s.row.getD i 0))) :
    (∀ i, i < len → i ≠ k → w.cell? ⟨g, i, none⟩ = some (.int .u64 (z i))) ∧ w.cell? ⟨g, k, none⟩ = some (.int .u64 v) :=
  ⟨fun i hi hn => by rw [hal i (by rw [h.size]; exact hi)]; exact congrArg (fun x => some (Value.int .u64 x)) (h.other i hi hn),
   by rw [hal k (by rw [h.size]; exact hk)]; exact congrArg (fun x => some (Value.int .u64 x)) h.same⟩

def OneRel (len : Nat) (w3 : World) (i : Value) (wr : World) : Prop := ∃ j n : Nat, j ≤ len ∧ i = .int .i64 j ∧ wr = w3.drewN n

/-- A deed's five cells; an access's six. -/
theorem deed_cells {w : World} {g : Nat} {t : TypeId} {v0 v1 v2 v3 v4 : Value} (h : Blk w g t #[v0, v1, v2, v3, v4]) :
    w.cell? ⟨g, 0, none⟩ = some v0 ∧ w.cell? ⟨g, 1, none⟩ = some v1 ∧ w.cell? ⟨g, 2, none⟩ = some v2 ∧ w.cell? ⟨g, 3, none⟩ = some v3 ∧ w.cell? ⟨g, 4, none⟩ = some v4 :=
  ⟨h.cell 0, h.cell 1, h.cell 2, h.cell 3, h.cell 4⟩
theorem access_cells {w : World} {g : Nat} {t : TypeId} {v0 v1 v2 v3 v4 v5 : Value} (h : Blk w g t #[v0, v1, v2, v3, v4, v5]) :
    w.cell? ⟨g, 0, none⟩ = some v0 ∧ w.cell? ⟨g, 1, none⟩ = some v1 ∧ w.cell? ⟨g, 2, none⟩ = some v2 ∧ w.cell? ⟨g, 3, none⟩ = some v3 ∧ w.cell? ⟨g, 4, none⟩ = some v4 ∧ w.cell? ⟨g, 5, none⟩ = some v5 :=
  ⟨h.cell 0, h.cell 1, h.cell 2, h.cell 3, h.cell 4, h.cell 5⟩

set_option maxRecDepth 100000 in
set_option maxHeartbeats 4000000 in
theorem one_load (b off len cap : Nat) (z : Nat → Int) (o c p u x m : Int) (k : Nat) (w : World) (hbl : b < w.heap.size) (hcap : len ≤ cap) (hmax : cap ≤ 9223372036854775807)
    (hcell : ∀ i, i < len → w.cell? ⟨b, off + i, none⟩ = some (.int .u64 (z i))) (hnum : ∀ i, 0 ≤ z i ∧ z i < 18446744073709551616) (h1 : 0 < len) (h100 : len ≤ 100)
    (hm : p.tmod (len : Int) = m) (hm0 : -(len : Int) < m) (hm1 : m < (len : Int)) (hk : (m + (len : Int)) % (len : Int) = (k : Int)) (hkl : k < len) (ho : bits .and .i64 o 3 = 0) :
    Calls Try.prog 7 #[.slice (some ⟨b, off, none⟩) len cap, .agg #[.int .i64 o, .int .i64 c, .int .i64 p, .int .u64 u, .int .u64 x]] w fun e w' => e = .returned (.bool true) ∧ Below w.heap.size w w' := by
  have hrow : ∀ w' : World, Off [] w w' → IsRowU w' (some ⟨b, off, none⟩) len cap z := fun w' ho => ⟨hnum, fun _ => ⟨b, off, rfl, Nat.lt_of_lt_of_le hbl ho.size, hcap, hmax, fun i hi => by rw [ho.cell hbl (by simp)]; exact hcell i hi⟩⟩
  have hne : ((len : Int) == 0) = false := by simp; omega
  have hnz : ¬ (len : Int) = 0 := by omega
  have hd : decide (100 < (len : Int)) = false := by simp; omega
  have hb := (Off.refl [] w).alloc (.cells #[.int .i64 o, .int .i64 c, .int .i64 p, .int .u64 u, .int .u64 x] 41)
  have HB := Lib.hid (new_past' w 41 #[.int .i64 o, .int .i64 c, .int .i64 p, .int .u64 u, .int .u64 x])
  have hki : (k : Int) < (len : Int) := by omega
  have hlm : len ≤ 9223372036854775807 := by omega
  have HC := Lib.hid (fun (w' : World) (h : Off [] w w') => (h.cell (p := ⟨b, off + k, none⟩) hbl (by simp)).trans (hcell k hkl))
  have HR := Lib.hid hrow
  have HN := Lib.hid hnum
  have hrl : k < (St.fill z len len).row.length := by show k < (filled z len len).length; rw [filled_length]; exact hkl
  have HA := Lib.hid (show (St.fill z len len).at k = z k from filled_at z len k hkl)
  clear hrow hcell hnum
  go_enter Try.func7, Try.ntmps7
  go_wp2_with (first
      | (go_at_call 8; refine (awake_any _).mono ?_; rintro e w0 ⟨rfl, ho0⟩)
      | (go_at_call 21; refine (fill_any _ len cap z _ (HR.out _ (hb.trans ho0)) (by omega)).mono ?_; rintro e w1 ⟨g, h, rfl, hw1, ho1, hg, hh⟩; obtain ⟨d0, d1, d2, d3, d4⟩ := deed_cells ((ho0.trans ho1).blk HB.out (by simp)); have hl1 := HC.out w1 ((hb.trans ho0).trans ho1)))
  have hoff1 := (hb.trans ho0).trans ho1
  have hgw : w.heap.size < g := by
    have h5 := ho0.size
    simp at h5
    omega
  have hhw : w.heap.size < h := by
    have h5 := ho0.size
    simp at h5
    omega
  have hgd : w.heap.size ∉ [g, h] := by simp; omega
  have HB1 := Lib.hid ((ho0.trans ho1).blk HB.out (by simp))
  have hgs : ∀ i, i ∈ [g, h] → i ∈ ([] : List Nat) ∨ w.heap.size ≤ i := by intro i hi; simp at hi; omega
  have st0 : 0 ≤ (St.fill z len len).steps := by show (0 : Int) ≤ 0; omega
  have st1 : (St.fill z len len).steps < 9223372036854775807 := by show (0 : Int) < 9223372036854775807; omega
  go_region_held3 (fun w' => w'.cell? ⟨w.heap.size, 1, none⟩ = some (.int .i64 c) ∧ w'.cell? ⟨w.heap.size, 4, none⟩ = some (.int .u64 x) ∧ w'.cell? ⟨b, off + k, none⟩ = some (.int .u64 (z k))) (first | exact ⟨d1, d4, hl1⟩ | exact ⟨d1', d4', hl2⟩)
    (first | (go_at_call 11; refine (load_in (hw1.drewN _) c k hrl st0 st1).mono ?_; rintro e w2 ⟨he, hw2, ho2'⟩; obtain rfl : e = .returned (.int .u64 (z k)) := he.trans (congrArg (fun v => Ending.returned (.int .u64 v)) HA.out); have ho2 : Off [g, h] w1 w2 := ((Off.refl _ _).drewN _).trans (ho2'.more (by simp)); obtain ⟨d0', d1', d2', d3', d4'⟩ := deed_cells (ho2.blk HB1.out hgd); have hl2 := HC.out w2 (hoff1.trans' ho2 hgs)))
  have hoff2 := hoff1.trans' ho2 hgs
  have hT := Lib.hid ((touched_fill z len k hkl).note ⟨c, 0, k, (St.fill z len len).at k, 0, true⟩)
  have HB2 := Lib.hid (ho2.blk HB1.out hgd)
  go_wp2_with (first
    | (go_at_call 26; refine (all_any hw2).mono ?_; rintro e w3 ⟨ga, ca, he, hca, hcm, hal, ho3, hga⟩; obtain rfl : e = .returned (.slice (some ⟨ga, 0, none⟩) len ca) := (by rw [he, hT.out.size]); have HAL := Lib.hid (hT.out.cells hkl hal); rw [hT.out.size] at hca; clear hal he))
  have hoff3 := hoff2.trans ho3
  have HB3 := Lib.hid (ho3.blk HB2.out (by simp))
  go_loopw [10] (fun i wr => OneRel len w3 i wr) (fun i _ => len - (intOf i).toNat)
  case atStart => exact ⟨0, 0, Nat.zero_le _, rfl, rfl⟩
  case round =>
    obtain ⟨j, n, hj, rfl, rfl⟩ := hrel
    by_cases hlt : j < len
    · have hji : (j : Int) < (len : Int) := by omega
      have hjm : len ≤ 9223372036854775807 := by omega
      obtain ⟨b', off', hbo, _, _, _, hcl⟩ := (HR.out w3 hoff3).some_ h1
      obtain ⟨rfl, rfl⟩ : b = b' ∧ off = off' := by
        injection hbo with hbo
        injection hbo with e1 e2
        exact ⟨e1, e2⟩
      have hl3 := hcl j hlt
      clear hcl hbo
      by_cases hjk : j = k
      · obtain rfl := hjk
        have hn3 := HAL.out.2
        have hb1 : ((j : Int) != (j : Int)) = false := by simp
        go_wp2_with fail
        go_quiet (fail)
        go_wp2_with fail
        go_roundw
        case rel => exact ⟨j + 1, _, by omega, by go_num, rfl⟩
        case measure => simp [intOf]; omega
      · have hn3 := HAL.out.1 j hlt hjk
        have hb1 : ((j : Int) != (k : Int)) = true := by simp; omega
        have hb2 : ((j : Int) == (k : Int)) = false := by simp; omega
        go_wp2_with fail
        go_quiet (fail)
        go_wp2_with fail
        go_roundw
        case rel => exact ⟨j + 1, _, by omega, by go_num, rfl⟩
        case measure => simp [intOf]; omega
    · obtain rfl : j = len := by omega
      have hw3 := hw2.off ho3 (by simp) (by simp)
      go_wp2_with (first
        | (go_at_call 16; refine (last_any (hw3.drewN n)).mono ?_; rintro e w4 ⟨he, ho4⟩; obtain rfl : e = .returned (.agg #[.int .i64 c, .int .i64 0, .int .i64 k, .int .u64 (z k), .int .u64 0, .bool true]) := he.trans (congrArg (fun v => Ending.returned (.agg #[.int .i64 c, .int .i64 0, .int .i64 k, .int .u64 v, .int .u64 0, .bool true])) HA.out); obtain ⟨d0'', d1'', d2'', d3'', d4''⟩ := deed_cells (ho4.blk (HB3.out.drewN n) (by simp)); have hl4 := HC.out w4 ((hoff3.drewN n).trans ho4); have hw4 := Lib.hid ((hw3.drewN n).off ho4 (by simp) (by simp)); have hblt := (ho4.blk (HB3.out.drewN n) (by simp)).lt; have hoff4 := (hoff3.drewN n).trans ho4))
      obtain ⟨w5, h5⟩ : ∃ w5, w5 = w4.alloc (.cells #[.int .i64 c, .int .i64 0, .int .i64 k, .int .u64 (z k), .int .u64 0, .bool true] 30) := ⟨_, rfl⟩
      have W5 : Hid (IsW w5 g h _) := Lib.hid (by rw [h5]; exact hw4.out.alloc _)
      have hl5 : w5.cell? ⟨b, off + k, none⟩ = some (.int .u64 (z k)) := by rw [h5]; exact HC.out _ (hoff4.alloc _)
      have hoff5 : Off [] w w5 := by rw [h5]; exact hoff4.alloc _
      obtain ⟨e0, e1, e2, e3, e4⟩ := deed_cells (show Blk w5 _ _ _ by rw [h5]; exact (ho4.blk (HB3.out.drewN n) (by simp)).alloc _)
      obtain ⟨x0, x1, x2, x3, x4, x5⟩ := access_cells (show Blk w5 _ _ _ by rw [h5]; exact new_past' _ _ _)
      rw [← h5]
      clear h5
      have hst : ∀ n, Calls Try.prog 17 #[.pointer (some ⟨g, 0, none⟩)] (w5.drewN n) fun e w' => e = .returned (.int .i64 1) ∧ w5.drewN n = w' := fun n => (steps_any (W5.out.drewN n)).mono fun e w' g => ⟨g.1.trans rfl, g.2⟩
      have HST := Lib.hid hst
      clear hst
      go_quiet ((go_at_call 17; exact quiet_l (HST.out _)))
      go_wp2_with fail
      go_ret
      exact ⟨rfl, ((hoff5.drewN _).nil_below)⟩

set_option maxRecDepth 100000 in
set_option maxHeartbeats 4000000 in
theorem one_store (b off len cap : Nat) (z : Nat → Int) (o c p u x m : Int) (k : Nat) (w : World) (hbl : b < w.heap.size) (hcap : len ≤ cap) (hmax : cap ≤ 9223372036854775807)
    (hcell : ∀ i, i < len → w.cell? ⟨b, off + i, none⟩ = some (.int .u64 (z i))) (hnum : ∀ i, 0 ≤ z i ∧ z i < 18446744073709551616) (h1 : 0 < len) (h100 : len ≤ 100)
    (hm : p.tmod (len : Int) = m) (hm0 : -(len : Int) < m) (hm1 : m < (len : Int)) (hk : (m + (len : Int)) % (len : Int) = (k : Int)) (hkl : k < len) (ho : bits .and .i64 o 3 = 1) :
    Calls Try.prog 7 #[.slice (some ⟨b, off, none⟩) len cap, .agg #[.int .i64 o, .int .i64 c, .int .i64 p, .int .u64 u, .int .u64 x]] w fun e w' => e = .returned (.bool true) ∧ Below w.heap.size w w' := by
  have hrow : ∀ w' : World, Off [] w w' → IsRowU w' (some ⟨b, off, none⟩) len cap z := fun w' ho => ⟨hnum, fun _ => ⟨b, off, rfl, Nat.lt_of_lt_of_le hbl ho.size, hcap, hmax, fun i hi => by rw [ho.cell hbl (by simp)]; exact hcell i hi⟩⟩
  have hne : ((len : Int) == 0) = false := by simp; omega
  have hnz : ¬ (len : Int) = 0 := by omega
  have hd : decide (100 < (len : Int)) = false := by simp; omega
  have hb := (Off.refl [] w).alloc (.cells #[.int .i64 o, .int .i64 c, .int .i64 p, .int .u64 u, .int .u64 x] 41)
  have HB := Lib.hid (new_past' w 41 #[.int .i64 o, .int .i64 c, .int .i64 p, .int .u64 u, .int .u64 x])
  have hki : (k : Int) < (len : Int) := by omega
  have hlm : len ≤ 9223372036854775807 := by omega
  have HC := Lib.hid (fun (w' : World) (h : Off [] w w') => (h.cell (p := ⟨b, off + k, none⟩) hbl (by simp)).trans (hcell k hkl))
  have HR := Lib.hid hrow
  have HN := Lib.hid hnum
  have hrl : k < (St.fill z len len).row.length := by show k < (filled z len len).length; rw [filled_length]; exact hkl
  have HA := Lib.hid (show (St.fill z len len).at k = z k from filled_at z len k hkl)
  clear hrow hcell hnum
  go_enter Try.func7, Try.ntmps7
  go_wp2_with (first
      | (go_at_call 8; refine (awake_any _).mono ?_; rintro e w0 ⟨rfl, ho0⟩)
      | (go_at_call 21; refine (fill_any _ len cap z _ (HR.out _ (hb.trans ho0)) (by omega)).mono ?_; rintro e w1 ⟨g, h, rfl, hw1, ho1, hg, hh⟩; obtain ⟨d0, d1, d2, d3, d4⟩ := deed_cells ((ho0.trans ho1).blk HB.out (by simp)); have hl1 := HC.out w1 ((hb.trans ho0).trans ho1)))
  have hoff1 := (hb.trans ho0).trans ho1
  have hgw : w.heap.size < g := by
    have h5 := ho0.size
    simp at h5
    omega
  have hhw : w.heap.size < h := by
    have h5 := ho0.size
    simp at h5
    omega
  have hgd : w.heap.size ∉ [g, h] := by simp; omega
  have HB1 := Lib.hid ((ho0.trans ho1).blk HB.out (by simp))
  have hgs : ∀ i, i ∈ [g, h] → i ∈ ([] : List Nat) ∨ w.heap.size ≤ i := by intro i hi; simp at hi; omega
  have st0 : 0 ≤ (St.fill z len len).steps := by show (0 : Int) ≤ 0; omega
  have st1 : (St.fill z len len).steps < 9223372036854775807 := by show (0 : Int) < 9223372036854775807; omega
  go_wp2_with (first | (go_at_call 13; refine (store_in hw1 c x k hrl st0 st1).mono ?_; rintro e w2 ⟨rfl, hw2, ho2⟩; obtain ⟨d0', d1', d2', d3', d4'⟩ := deed_cells (ho2.blk HB1.out hgd); have hl2 := HC.out w2 (hoff1.trans' ho2 hgs)))
  have hoff2 := hoff1.trans' ho2 hgs
  have hT := Lib.hid (((touched_fill z len k hkl).note ⟨c, 1, k, (St.fill z len len).at k, x, true⟩).lay hkl x)
  have HB2 := Lib.hid (ho2.blk HB1.out hgd)
  go_wp2_with (first
    | (go_at_call 26; refine (all_any hw2).mono ?_; rintro e w3 ⟨ga, ca, he, hca, hcm, hal, ho3, hga⟩; obtain rfl : e = .returned (.slice (some ⟨ga, 0, none⟩) len ca) := (by rw [he, hT.out.size]); have HAL := Lib.hid (hT.out.cells hkl hal); rw [hT.out.size] at hca; clear hal he))
  have hoff3 := hoff2.trans ho3
  have HB3 := Lib.hid (ho3.blk HB2.out (by simp))
  go_loopw [10] (fun i wr => OneRel len w3 i wr) (fun i _ => len - (intOf i).toNat)
  case atStart => exact ⟨0, 0, Nat.zero_le _, rfl, rfl⟩
  case round =>
    obtain ⟨j, n, hj, rfl, rfl⟩ := hrel
    by_cases hlt : j < len
    · have hji : (j : Int) < (len : Int) := by omega
      have hjm : len ≤ 9223372036854775807 := by omega
      obtain ⟨b', off', hbo, _, _, _, hcl⟩ := (HR.out w3 hoff3).some_ h1
      obtain ⟨rfl, rfl⟩ : b = b' ∧ off = off' := by
        injection hbo with hbo
        injection hbo with e1 e2
        exact ⟨e1, e2⟩
      have hl3 := hcl j hlt
      clear hcl hbo
      by_cases hjk : j = k
      · obtain rfl := hjk
        have hn3 := HAL.out.2
        have hb1 : ((j : Int) != (j : Int)) = false := by simp
        go_wp2_with fail
        go_quiet (fail)
        go_wp2_with fail
        go_roundw
        case rel => exact ⟨j + 1, _, by omega, by go_num, rfl⟩
        case measure => simp [intOf]; omega
      · have hn3 := HAL.out.1 j hlt hjk
        have hb1 : ((j : Int) != (k : Int)) = true := by simp; omega
        have hb2 : ((j : Int) == (k : Int)) = false := by simp; omega
        go_wp2_with fail
        go_quiet (fail)
        go_wp2_with fail
        go_roundw
        case rel => exact ⟨j + 1, _, by omega, by go_num, rfl⟩
        case measure => simp [intOf]; omega
    · obtain rfl : j = len := by omega
      have hw3 := hw2.off ho3 (by simp) (by simp)
      go_wp2_with (first
        | (go_at_call 16; refine (last_any (hw3.drewN n)).mono ?_; rintro e w4 ⟨he, ho4⟩; obtain rfl : e = .returned (.agg #[.int .i64 c, .int .i64 1, .int .i64 k, .int .u64 (z k), .int .u64 x, .bool true]) := he.trans (congrArg (fun v => Ending.returned (.agg #[.int .i64 c, .int .i64 1, .int .i64 k, .int .u64 v, .int .u64 x, .bool true])) HA.out); obtain ⟨d0'', d1'', d2'', d3'', d4''⟩ := deed_cells (ho4.blk (HB3.out.drewN n) (by simp)); have hl4 := HC.out w4 ((hoff3.drewN n).trans ho4); have hw4 := Lib.hid ((hw3.drewN n).off ho4 (by simp) (by simp)); have hblt := (ho4.blk (HB3.out.drewN n) (by simp)).lt; have hoff4 := (hoff3.drewN n).trans ho4))
      obtain ⟨w5, h5⟩ : ∃ w5, w5 = w4.alloc (.cells #[.int .i64 c, .int .i64 1, .int .i64 k, .int .u64 (z k), .int .u64 x, .bool true] 30) := ⟨_, rfl⟩
      have W5 : Hid (IsW w5 g h _) := Lib.hid (by rw [h5]; exact hw4.out.alloc _)
      have hl5 : w5.cell? ⟨b, off + k, none⟩ = some (.int .u64 (z k)) := by rw [h5]; exact HC.out _ (hoff4.alloc _)
      have hoff5 : Off [] w w5 := by rw [h5]; exact hoff4.alloc _
      obtain ⟨e0, e1, e2, e3, e4⟩ := deed_cells (show Blk w5 _ _ _ by rw [h5]; exact (ho4.blk (HB3.out.drewN n) (by simp)).alloc _)
      obtain ⟨x0, x1, x2, x3, x4, x5⟩ := access_cells (show Blk w5 _ _ _ by rw [h5]; exact new_past' _ _ _)
      rw [← h5]
      clear h5
      have hst : ∀ n, Calls Try.prog 17 #[.pointer (some ⟨g, 0, none⟩)] (w5.drewN n) fun e w' => e = .returned (.int .i64 1) ∧ w5.drewN n = w' := fun n => (steps_any (W5.out.drewN n)).mono fun e w' g => ⟨g.1.trans rfl, g.2⟩
      have HST := Lib.hid hst
      clear hst
      go_quiet ((go_at_call 17; exact quiet_l (HST.out _)))
      go_wp2_with fail
      go_ret
      exact ⟨rfl, ((hoff5.drewN _).nil_below)⟩

set_option maxRecDepth 100000 in
set_option maxHeartbeats 4000000 in
theorem one_swap (b off len cap : Nat) (z : Nat → Int) (o c p u x m : Int) (k : Nat) (w : World) (hbl : b < w.heap.size) (hcap : len ≤ cap) (hmax : cap ≤ 9223372036854775807)
    (hcell : ∀ i, i < len → w.cell? ⟨b, off + i, none⟩ = some (.int .u64 (z i))) (hnum : ∀ i, 0 ≤ z i ∧ z i < 18446744073709551616) (h1 : 0 < len) (h100 : len ≤ 100)
    (hm : p.tmod (len : Int) = m) (hm0 : -(len : Int) < m) (hm1 : m < (len : Int)) (hk : (m + (len : Int)) % (len : Int) = (k : Int)) (hkl : k < len) (ho : bits .and .i64 o 3 = 2) (hq : z k = u) :
    Calls Try.prog 7 #[.slice (some ⟨b, off, none⟩) len cap, .agg #[.int .i64 o, .int .i64 c, .int .i64 p, .int .u64 u, .int .u64 x]] w fun e w' => e = .returned (.bool true) ∧ Below w.heap.size w w' := by
  have hrow : ∀ w' : World, Off [] w w' → IsRowU w' (some ⟨b, off, none⟩) len cap z := fun w' ho => ⟨hnum, fun _ => ⟨b, off, rfl, Nat.lt_of_lt_of_le hbl ho.size, hcap, hmax, fun i hi => by rw [ho.cell hbl (by simp)]; exact hcell i hi⟩⟩
  have hne : ((len : Int) == 0) = false := by simp; omega
  have hnz : ¬ (len : Int) = 0 := by omega
  have hd : decide (100 < (len : Int)) = false := by simp; omega
  have hb := (Off.refl [] w).alloc (.cells #[.int .i64 o, .int .i64 c, .int .i64 p, .int .u64 u, .int .u64 x] 41)
  have HB := Lib.hid (new_past' w 41 #[.int .i64 o, .int .i64 c, .int .i64 p, .int .u64 u, .int .u64 x])
  have hki : (k : Int) < (len : Int) := by omega
  have hlm : len ≤ 9223372036854775807 := by omega
  have HC := Lib.hid (fun (w' : World) (h : Off [] w w') => (h.cell (p := ⟨b, off + k, none⟩) hbl (by simp)).trans (hcell k hkl))
  have HR := Lib.hid hrow
  have HN := Lib.hid hnum
  have hrl : k < (St.fill z len len).row.length := by show k < (filled z len len).length; rw [filled_length]; exact hkl
  have HA := Lib.hid (show (St.fill z len len).at k = z k from filled_at z len k hkl)
  clear hrow hcell hnum
  go_enter Try.func7, Try.ntmps7
  go_wp2_with (first
      | (go_at_call 8; refine (awake_any _).mono ?_; rintro e w0 ⟨rfl, ho0⟩)
      | (go_at_call 21; refine (fill_any _ len cap z _ (HR.out _ (hb.trans ho0)) (by omega)).mono ?_; rintro e w1 ⟨g, h, rfl, hw1, ho1, hg, hh⟩; obtain ⟨d0, d1, d2, d3, d4⟩ := deed_cells ((ho0.trans ho1).blk HB.out (by simp)); have hl1 := HC.out w1 ((hb.trans ho0).trans ho1)))
  have hoff1 := (hb.trans ho0).trans ho1
  have hgw : w.heap.size < g := by
    have h5 := ho0.size
    simp at h5
    omega
  have hhw : w.heap.size < h := by
    have h5 := ho0.size
    simp at h5
    omega
  have hgd : w.heap.size ∉ [g, h] := by simp; omega
  have HB1 := Lib.hid ((ho0.trans ho1).blk HB.out (by simp))
  have hgs : ∀ i, i ∈ [g, h] → i ∈ ([] : List Nat) ∨ w.heap.size ≤ i := by intro i hi; simp at hi; omega
  have st0 : 0 ≤ (St.fill z len len).steps := by show (0 : Int) ≤ 0; omega
  have st1 : (St.fill z len len).steps < 9223372036854775807 := by show (0 : Int) < 9223372036854775807; omega
  have hq1 : ((St.fill z len len).at k == u) = true := by rw [HA.out, hq]; simp
  have HQ := Lib.hid hq
  have hq2 : (u == z k) = true := by rw [hq]; simp
  clear hq
  go_wp2_with (first | (go_at_call 28; refine (swap_yes hw1 c u x k hrl st0 st1 hq1).mono ?_; rintro e w2 ⟨rfl, hw2, ho2⟩; obtain ⟨d0', d1', d2', d3', d4'⟩ := deed_cells (ho2.blk HB1.out hgd); have hl2 := HC.out w2 (hoff1.trans' ho2 hgs)))
  go_quiet (fail)
  obtain ⟨n0, hn0⟩ : ∃ n0, n0 = nq := ⟨_, rfl⟩
  subst hn0
  go_wp2_with fail
  have hoff2 := hoff1.trans' ho2 hgs
  have hT := Lib.hid (((touched_fill z len k hkl).note ⟨c, 2, k, (St.fill z len len).at k, x, true⟩).lay hkl x)
  have HB2 := Lib.hid (ho2.blk HB1.out hgd)
  go_wp2_with (first
    | (go_at_call 26; refine (all_any (hw2.drewN n0)).mono ?_; rintro e w3 ⟨ga, ca, he, hca, hcm, hal, ho3, hga⟩; obtain rfl : e = .returned (.slice (some ⟨ga, 0, none⟩) len ca) := (by rw [he, hT.out.size]); have HAL := Lib.hid (hT.out.cells hkl hal); rw [hT.out.size] at hca; clear hal he))
  have hoff3 := (hoff2.drewN n0).trans ho3
  have HB3 := Lib.hid (ho3.blk (HB2.out.drewN n0) (by simp))
  go_loopw [10] (fun i wr => OneRel len w3 i wr) (fun i _ => len - (intOf i).toNat)
  case atStart => exact ⟨0, 0, Nat.zero_le _, rfl, rfl⟩
  case round =>
    obtain ⟨j, n, hj, rfl, rfl⟩ := hrel
    by_cases hlt : j < len
    · have hji : (j : Int) < (len : Int) := by omega
      have hjm : len ≤ 9223372036854775807 := by omega
      obtain ⟨b', off', hbo, _, _, _, hcl⟩ := (HR.out w3 hoff3).some_ h1
      obtain ⟨rfl, rfl⟩ : b = b' ∧ off = off' := by
        injection hbo with hbo
        injection hbo with e1 e2
        exact ⟨e1, e2⟩
      have hl3 := hcl j hlt
      clear hcl hbo
      by_cases hjk : j = k
      · obtain rfl := hjk
        have hn3 := HAL.out.2
        have hb1 : ((j : Int) != (j : Int)) = false := by simp
        go_wp2_with fail
        go_quiet (fail)
        go_wp2_with fail
        go_roundw
        case rel => exact ⟨j + 1, _, by omega, by go_num, rfl⟩
        case measure => simp [intOf]; omega
      · have hn3 := HAL.out.1 j hlt hjk
        have hb1 : ((j : Int) != (k : Int)) = true := by simp; omega
        have hb2 : ((j : Int) == (k : Int)) = false := by simp; omega
        go_wp2_with fail
        go_quiet (fail)
        go_wp2_with fail
        go_roundw
        case rel => exact ⟨j + 1, _, by omega, by go_num, rfl⟩
        case measure => simp [intOf]; omega
    · obtain rfl : j = len := by omega
      have hw3 := (hw2.drewN n0).off ho3 (by simp) (by simp)
      go_wp2_with (first
        | (go_at_call 16; refine (last_any (hw3.drewN n)).mono ?_; rintro e w4 ⟨he, ho4⟩; obtain rfl : e = .returned (.agg #[.int .i64 c, .int .i64 2, .int .i64 k, .int .u64 (z k), .int .u64 x, .bool true]) := he.trans (congrArg (fun v => Ending.returned (.agg #[.int .i64 c, .int .i64 2, .int .i64 k, .int .u64 v, .int .u64 x, .bool true])) HA.out); obtain ⟨d0'', d1'', d2'', d3'', d4''⟩ := deed_cells (ho4.blk (HB3.out.drewN n) (by simp)); have hl4 := HC.out w4 ((hoff3.drewN n).trans ho4); have hw4 := Lib.hid ((hw3.drewN n).off ho4 (by simp) (by simp)); have hblt := (ho4.blk (HB3.out.drewN n) (by simp)).lt; have hoff4 := (hoff3.drewN n).trans ho4))
      obtain ⟨w5, h5⟩ : ∃ w5, w5 = w4.alloc (.cells #[.int .i64 c, .int .i64 2, .int .i64 k, .int .u64 (z k), .int .u64 x, .bool true] 30) := ⟨_, rfl⟩
      have W5 : Hid (IsW w5 g h _) := Lib.hid (by rw [h5]; exact hw4.out.alloc _)
      have hl5 : w5.cell? ⟨b, off + k, none⟩ = some (.int .u64 (z k)) := by rw [h5]; exact HC.out _ (hoff4.alloc _)
      have hoff5 : Off [] w w5 := by rw [h5]; exact hoff4.alloc _
      obtain ⟨e0, e1, e2, e3, e4⟩ := deed_cells (show Blk w5 _ _ _ by rw [h5]; exact (ho4.blk (HB3.out.drewN n) (by simp)).alloc _)
      obtain ⟨x0, x1, x2, x3, x4, x5⟩ := access_cells (show Blk w5 _ _ _ by rw [h5]; exact new_past' _ _ _)
      rw [← h5]
      clear h5
      have hst : ∀ n, Calls Try.prog 17 #[.pointer (some ⟨g, 0, none⟩)] (w5.drewN n) fun e w' => e = .returned (.int .i64 1) ∧ w5.drewN n = w' := fun n => (steps_any (W5.out.drewN n)).mono fun e w' g => ⟨g.1.trans rfl, g.2⟩
      have HST := Lib.hid hst
      clear hst
      go_quiet ((go_at_call 17; exact quiet_l (HST.out _)))
      go_wp2_with fail
      go_ret
      exact ⟨rfl, ((hoff5.drewN _).nil_below)⟩

set_option maxRecDepth 100000 in
set_option maxHeartbeats 4000000 in
theorem one_keep (b off len cap : Nat) (z : Nat → Int) (o c p u x m : Int) (k : Nat) (w : World) (hbl : b < w.heap.size) (hcap : len ≤ cap) (hmax : cap ≤ 9223372036854775807)
    (hcell : ∀ i, i < len → w.cell? ⟨b, off + i, none⟩ = some (.int .u64 (z i))) (hnum : ∀ i, 0 ≤ z i ∧ z i < 18446744073709551616) (h1 : 0 < len) (h100 : len ≤ 100)
    (hm : p.tmod (len : Int) = m) (hm0 : -(len : Int) < m) (hm1 : m < (len : Int)) (hk : (m + (len : Int)) % (len : Int) = (k : Int)) (hkl : k < len) (ho : bits .and .i64 o 3 = 2) (hq : z k ≠ u) :
    Calls Try.prog 7 #[.slice (some ⟨b, off, none⟩) len cap, .agg #[.int .i64 o, .int .i64 c, .int .i64 p, .int .u64 u, .int .u64 x]] w fun e w' => e = .returned (.bool true) ∧ Below w.heap.size w w' := by
  have hrow : ∀ w' : World, Off [] w w' → IsRowU w' (some ⟨b, off, none⟩) len cap z := fun w' ho => ⟨hnum, fun _ => ⟨b, off, rfl, Nat.lt_of_lt_of_le hbl ho.size, hcap, hmax, fun i hi => by rw [ho.cell hbl (by simp)]; exact hcell i hi⟩⟩
  have hne : ((len : Int) == 0) = false := by simp; omega
  have hnz : ¬ (len : Int) = 0 := by omega
  have hd : decide (100 < (len : Int)) = false := by simp; omega
  have hb := (Off.refl [] w).alloc (.cells #[.int .i64 o, .int .i64 c, .int .i64 p, .int .u64 u, .int .u64 x] 41)
  have HB := Lib.hid (new_past' w 41 #[.int .i64 o, .int .i64 c, .int .i64 p, .int .u64 u, .int .u64 x])
  have hki : (k : Int) < (len : Int) := by omega
  have hlm : len ≤ 9223372036854775807 := by omega
  have HC := Lib.hid (fun (w' : World) (h : Off [] w w') => (h.cell (p := ⟨b, off + k, none⟩) hbl (by simp)).trans (hcell k hkl))
  have HR := Lib.hid hrow
  have HN := Lib.hid hnum
  have hrl : k < (St.fill z len len).row.length := by show k < (filled z len len).length; rw [filled_length]; exact hkl
  have HA := Lib.hid (show (St.fill z len len).at k = z k from filled_at z len k hkl)
  clear hrow hcell hnum
  go_enter Try.func7, Try.ntmps7
  go_wp2_with (first
      | (go_at_call 8; refine (awake_any _).mono ?_; rintro e w0 ⟨rfl, ho0⟩)
      | (go_at_call 21; refine (fill_any _ len cap z _ (HR.out _ (hb.trans ho0)) (by omega)).mono ?_; rintro e w1 ⟨g, h, rfl, hw1, ho1, hg, hh⟩; obtain ⟨d0, d1, d2, d3, d4⟩ := deed_cells ((ho0.trans ho1).blk HB.out (by simp)); have hl1 := HC.out w1 ((hb.trans ho0).trans ho1)))
  have hoff1 := (hb.trans ho0).trans ho1
  have hgw : w.heap.size < g := by
    have h5 := ho0.size
    simp at h5
    omega
  have hhw : w.heap.size < h := by
    have h5 := ho0.size
    simp at h5
    omega
  have hgd : w.heap.size ∉ [g, h] := by simp; omega
  have HB1 := Lib.hid ((ho0.trans ho1).blk HB.out (by simp))
  have hgs : ∀ i, i ∈ [g, h] → i ∈ ([] : List Nat) ∨ w.heap.size ≤ i := by intro i hi; simp at hi; omega
  have st0 : 0 ≤ (St.fill z len len).steps := by show (0 : Int) ≤ 0; omega
  have st1 : (St.fill z len len).steps < 9223372036854775807 := by show (0 : Int) < 9223372036854775807; omega
  have hq1 : ((St.fill z len len).at k == u) = false := by rw [HA.out]; simpa using hq
  have hq2 : (u == z k) = false := by simpa using Ne.symm hq
  clear hq
  go_wp2_with (first | (go_at_call 28; refine (swap_no hw1 c u x k hrl st0 st1 hq1).mono ?_; rintro e w2 ⟨rfl, hw2, ho2⟩; obtain ⟨d0', d1', d2', d3', d4'⟩ := deed_cells (ho2.blk HB1.out hgd); have hl2 := HC.out w2 (hoff1.trans' ho2 hgs)))
  go_quiet (fail)
  obtain ⟨n0, hn0⟩ : ∃ n0, n0 = nq := ⟨_, rfl⟩
  subst hn0
  go_wp2_with fail
  have hoff2 := hoff1.trans' ho2 hgs
  have hT := Lib.hid ((touched_fill z len k hkl).note ⟨c, 2, k, (St.fill z len len).at k, x, false⟩)
  have HB2 := Lib.hid (ho2.blk HB1.out hgd)
  go_wp2_with (first
    | (go_at_call 26; refine (all_any (hw2.drewN n0)).mono ?_; rintro e w3 ⟨ga, ca, he, hca, hcm, hal, ho3, hga⟩; obtain rfl : e = .returned (.slice (some ⟨ga, 0, none⟩) len ca) := (by rw [he, hT.out.size]); have HAL := Lib.hid (hT.out.cells hkl hal); rw [hT.out.size] at hca; clear hal he))
  have hoff3 := (hoff2.drewN n0).trans ho3
  have HB3 := Lib.hid (ho3.blk (HB2.out.drewN n0) (by simp))
  go_loopw [10] (fun i wr => OneRel len w3 i wr) (fun i _ => len - (intOf i).toNat)
  case atStart => exact ⟨0, 0, Nat.zero_le _, rfl, rfl⟩
  case round =>
    obtain ⟨j, n, hj, rfl, rfl⟩ := hrel
    by_cases hlt : j < len
    · have hji : (j : Int) < (len : Int) := by omega
      have hjm : len ≤ 9223372036854775807 := by omega
      obtain ⟨b', off', hbo, _, _, _, hcl⟩ := (HR.out w3 hoff3).some_ h1
      obtain ⟨rfl, rfl⟩ : b = b' ∧ off = off' := by
        injection hbo with hbo
        injection hbo with e1 e2
        exact ⟨e1, e2⟩
      have hl3 := hcl j hlt
      clear hcl hbo
      by_cases hjk : j = k
      · obtain rfl := hjk
        have hn3 := HAL.out.2
        have hb1 : ((j : Int) != (j : Int)) = false := by simp
        go_wp2_with fail
        go_quiet (fail)
        go_wp2_with fail
        go_roundw
        case rel => exact ⟨j + 1, _, by omega, by go_num, rfl⟩
        case measure => simp [intOf]; omega
      · have hn3 := HAL.out.1 j hlt hjk
        have hb1 : ((j : Int) != (k : Int)) = true := by simp; omega
        have hb2 : ((j : Int) == (k : Int)) = false := by simp; omega
        go_wp2_with fail
        go_quiet (fail)
        go_wp2_with fail
        go_roundw
        case rel => exact ⟨j + 1, _, by omega, by go_num, rfl⟩
        case measure => simp [intOf]; omega
    · obtain rfl : j = len := by omega
      have hw3 := (hw2.drewN n0).off ho3 (by simp) (by simp)
      go_wp2_with (first
        | (go_at_call 16; refine (last_any (hw3.drewN n)).mono ?_; rintro e w4 ⟨he, ho4⟩; obtain rfl : e = .returned (.agg #[.int .i64 c, .int .i64 2, .int .i64 k, .int .u64 (z k), .int .u64 x, .bool false]) := he.trans (congrArg (fun v => Ending.returned (.agg #[.int .i64 c, .int .i64 2, .int .i64 k, .int .u64 v, .int .u64 x, .bool false])) HA.out); obtain ⟨d0'', d1'', d2'', d3'', d4''⟩ := deed_cells (ho4.blk (HB3.out.drewN n) (by simp)); have hl4 := HC.out w4 ((hoff3.drewN n).trans ho4); have hw4 := Lib.hid ((hw3.drewN n).off ho4 (by simp) (by simp)); have hblt := (ho4.blk (HB3.out.drewN n) (by simp)).lt; have hoff4 := (hoff3.drewN n).trans ho4))
      obtain ⟨w5, h5⟩ : ∃ w5, w5 = w4.alloc (.cells #[.int .i64 c, .int .i64 2, .int .i64 k, .int .u64 (z k), .int .u64 x, .bool false] 30) := ⟨_, rfl⟩
      have W5 : Hid (IsW w5 g h _) := Lib.hid (by rw [h5]; exact hw4.out.alloc _)
      have hl5 : w5.cell? ⟨b, off + k, none⟩ = some (.int .u64 (z k)) := by rw [h5]; exact HC.out _ (hoff4.alloc _)
      have hoff5 : Off [] w w5 := by rw [h5]; exact hoff4.alloc _
      obtain ⟨e0, e1, e2, e3, e4⟩ := deed_cells (show Blk w5 _ _ _ by rw [h5]; exact (ho4.blk (HB3.out.drewN n) (by simp)).alloc _)
      obtain ⟨x0, x1, x2, x3, x4, x5⟩ := access_cells (show Blk w5 _ _ _ by rw [h5]; exact new_past' _ _ _)
      rw [← h5]
      clear h5
      have hst : ∀ n, Calls Try.prog 17 #[.pointer (some ⟨g, 0, none⟩)] (w5.drewN n) fun e w' => e = .returned (.int .i64 1) ∧ w5.drewN n = w' := fun n => (steps_any (W5.out.drewN n)).mono fun e w' g => ⟨g.1.trans rfl, g.2⟩
      have HST := Lib.hid hst
      clear hst
      go_quiet ((go_at_call 17; exact quiet_l (HST.out _)))
      go_wp2_with fail
      go_ret
      exact ⟨rfl, ((hoff5.drewN _).nil_below)⟩

set_option maxRecDepth 100000 in
set_option maxHeartbeats 4000000 in
theorem one_add (b off len cap : Nat) (z : Nat → Int) (o c p u x m : Int) (k : Nat) (w : World) (hbl : b < w.heap.size) (hcap : len ≤ cap) (hmax : cap ≤ 9223372036854775807)
    (hcell : ∀ i, i < len → w.cell? ⟨b, off + i, none⟩ = some (.int .u64 (z i))) (hnum : ∀ i, 0 ≤ z i ∧ z i < 18446744073709551616) (h1 : 0 < len) (h100 : len ≤ 100)
    (hm : p.tmod (len : Int) = m) (hm0 : -(len : Int) < m) (hm1 : m < (len : Int)) (hk : (m + (len : Int)) % (len : Int) = (k : Int)) (hkl : k < len) (ho : bits .and .i64 o 3 = 3) :
    Calls Try.prog 7 #[.slice (some ⟨b, off, none⟩) len cap, .agg #[.int .i64 o, .int .i64 c, .int .i64 p, .int .u64 u, .int .u64 x]] w fun e w' => e = .returned (.bool true) ∧ Below w.heap.size w w' := by
  have hrow : ∀ w' : World, Off [] w w' → IsRowU w' (some ⟨b, off, none⟩) len cap z := fun w' ho => ⟨hnum, fun _ => ⟨b, off, rfl, Nat.lt_of_lt_of_le hbl ho.size, hcap, hmax, fun i hi => by rw [ho.cell hbl (by simp)]; exact hcell i hi⟩⟩
  have hne : ((len : Int) == 0) = false := by simp; omega
  have hnz : ¬ (len : Int) = 0 := by omega
  have hd : decide (100 < (len : Int)) = false := by simp; omega
  have hb := (Off.refl [] w).alloc (.cells #[.int .i64 o, .int .i64 c, .int .i64 p, .int .u64 u, .int .u64 x] 41)
  have HB := Lib.hid (new_past' w 41 #[.int .i64 o, .int .i64 c, .int .i64 p, .int .u64 u, .int .u64 x])
  have hki : (k : Int) < (len : Int) := by omega
  have hlm : len ≤ 9223372036854775807 := by omega
  have HC := Lib.hid (fun (w' : World) (h : Off [] w w') => (h.cell (p := ⟨b, off + k, none⟩) hbl (by simp)).trans (hcell k hkl))
  have HR := Lib.hid hrow
  have HN := Lib.hid hnum
  have hrl : k < (St.fill z len len).row.length := by show k < (filled z len len).length; rw [filled_length]; exact hkl
  have HA := Lib.hid (show (St.fill z len len).at k = z k from filled_at z len k hkl)
  clear hrow hcell hnum
  go_enter Try.func7, Try.ntmps7
  go_wp2_with (first
      | (go_at_call 8; refine (awake_any _).mono ?_; rintro e w0 ⟨rfl, ho0⟩)
      | (go_at_call 21; refine (fill_any _ len cap z _ (HR.out _ (hb.trans ho0)) (by omega)).mono ?_; rintro e w1 ⟨g, h, rfl, hw1, ho1, hg, hh⟩; obtain ⟨d0, d1, d2, d3, d4⟩ := deed_cells ((ho0.trans ho1).blk HB.out (by simp)); have hl1 := HC.out w1 ((hb.trans ho0).trans ho1)))
  have hoff1 := (hb.trans ho0).trans ho1
  have hgw : w.heap.size < g := by
    have h5 := ho0.size
    simp at h5
    omega
  have hhw : w.heap.size < h := by
    have h5 := ho0.size
    simp at h5
    omega
  have hgd : w.heap.size ∉ [g, h] := by simp; omega
  have HB1 := Lib.hid ((ho0.trans ho1).blk HB.out (by simp))
  have hgs : ∀ i, i ∈ [g, h] → i ∈ ([] : List Nat) ∨ w.heap.size ≤ i := by intro i hi; simp at hi; omega
  have st0 : 0 ≤ (St.fill z len len).steps := by show (0 : Int) ≤ 0; omega
  have st1 : (St.fill z len len).steps < 9223372036854775807 := by show (0 : Int) < 9223372036854775807; omega
  go_region_held3 (fun w' => w'.cell? ⟨w.heap.size, 1, none⟩ = some (.int .i64 c) ∧ w'.cell? ⟨w.heap.size, 4, none⟩ = some (.int .u64 x) ∧ w'.cell? ⟨b, off + k, none⟩ = some (.int .u64 (z k))) (first | exact ⟨d1, d4, hl1⟩ | exact ⟨d1', d4', hl2⟩)
    (first | (go_at_call 27; refine (add_in (hw1.drewN _) c x k hrl st0 st1).mono ?_; rintro e w2 ⟨he, hw2, ho2'⟩; obtain rfl : e = .returned (.int .u64 (z k)) := he.trans (congrArg (fun v => Ending.returned (.int .u64 v)) HA.out); have ho2 : Off [g, h] w1 w2 := ((Off.refl _ _).drewN _).trans (ho2'.more (by simp)); obtain ⟨d0', d1', d2', d3', d4'⟩ := deed_cells (ho2.blk HB1.out hgd); have hl2 := HC.out w2 (hoff1.trans' ho2 hgs)))
  go_wp2_with fail
  go_quiet (fail)
  obtain ⟨n0, hn0⟩ : ∃ n0, n0 = nq := ⟨_, rfl⟩
  subst hn0
  go_wp2_with fail
  have hoff2 := hoff1.trans' ho2 hgs
  have hT := Lib.hid ((((touched_fill z len k hkl).note ⟨c, 3, k, (St.fill z len len).at k, x, true⟩).lay hkl (IntKind.u64.wrap ((St.fill z len len).at k + x))).to (congrArg (fun v => IntKind.u64.wrap (v + x)) HA.out))
  have HB2 := Lib.hid (ho2.blk HB1.out hgd)
  go_wp2_with (first
    | (go_at_call 26; refine (all_any (hw2.drewN n0)).mono ?_; rintro e w3 ⟨ga, ca, he, hca, hcm, hal, ho3, hga⟩; obtain rfl : e = .returned (.slice (some ⟨ga, 0, none⟩) len ca) := (by rw [he, hT.out.size]); have HAL := Lib.hid (hT.out.cells hkl hal); rw [hT.out.size] at hca; clear hal he))
  have hoff3 := (hoff2.drewN n0).trans ho3
  have HB3 := Lib.hid (ho3.blk (HB2.out.drewN n0) (by simp))
  go_loopw [10] (fun i wr => OneRel len w3 i wr) (fun i _ => len - (intOf i).toNat)
  case atStart => exact ⟨0, 0, Nat.zero_le _, rfl, rfl⟩
  case round =>
    obtain ⟨j, n, hj, rfl, rfl⟩ := hrel
    by_cases hlt : j < len
    · have hji : (j : Int) < (len : Int) := by omega
      have hjm : len ≤ 9223372036854775807 := by omega
      obtain ⟨b', off', hbo, _, _, _, hcl⟩ := (HR.out w3 hoff3).some_ h1
      obtain ⟨rfl, rfl⟩ : b = b' ∧ off = off' := by
        injection hbo with hbo
        injection hbo with e1 e2
        exact ⟨e1, e2⟩
      have hl3 := hcl j hlt
      clear hcl hbo
      by_cases hjk : j = k
      · obtain rfl := hjk
        have hn3 := HAL.out.2
        have hb1 : ((j : Int) != (j : Int)) = false := by simp
        go_wp2_with fail
        go_quiet (fail)
        go_wp2_with fail
        go_roundw
        case rel => exact ⟨j + 1, _, by omega, by go_num, rfl⟩
        case measure => simp [intOf]; omega
      · have hn3 := HAL.out.1 j hlt hjk
        have hb1 : ((j : Int) != (k : Int)) = true := by simp; omega
        have hb2 : ((j : Int) == (k : Int)) = false := by simp; omega
        go_wp2_with fail
        go_quiet (fail)
        go_wp2_with fail
        go_roundw
        case rel => exact ⟨j + 1, _, by omega, by go_num, rfl⟩
        case measure => simp [intOf]; omega
    · obtain rfl : j = len := by omega
      have hw3 := (hw2.drewN n0).off ho3 (by simp) (by simp)
      go_wp2_with (first
        | (go_at_call 16; refine (last_any (hw3.drewN n)).mono ?_; rintro e w4 ⟨he, ho4⟩; obtain rfl : e = .returned (.agg #[.int .i64 c, .int .i64 3, .int .i64 k, .int .u64 (z k), .int .u64 x, .bool true]) := he.trans (congrArg (fun v => Ending.returned (.agg #[.int .i64 c, .int .i64 3, .int .i64 k, .int .u64 v, .int .u64 x, .bool true])) HA.out); obtain ⟨d0'', d1'', d2'', d3'', d4''⟩ := deed_cells (ho4.blk (HB3.out.drewN n) (by simp)); have hl4 := HC.out w4 ((hoff3.drewN n).trans ho4); have hw4 := Lib.hid ((hw3.drewN n).off ho4 (by simp) (by simp)); have hblt := (ho4.blk (HB3.out.drewN n) (by simp)).lt; have hoff4 := (hoff3.drewN n).trans ho4))
      obtain ⟨w5, h5⟩ : ∃ w5, w5 = w4.alloc (.cells #[.int .i64 c, .int .i64 3, .int .i64 k, .int .u64 (z k), .int .u64 x, .bool true] 30) := ⟨_, rfl⟩
      have W5 : Hid (IsW w5 g h _) := Lib.hid (by rw [h5]; exact hw4.out.alloc _)
      have hl5 : w5.cell? ⟨b, off + k, none⟩ = some (.int .u64 (z k)) := by rw [h5]; exact HC.out _ (hoff4.alloc _)
      have hoff5 : Off [] w w5 := by rw [h5]; exact hoff4.alloc _
      obtain ⟨e0, e1, e2, e3, e4⟩ := deed_cells (show Blk w5 _ _ _ by rw [h5]; exact (ho4.blk (HB3.out.drewN n) (by simp)).alloc _)
      obtain ⟨x0, x1, x2, x3, x4, x5⟩ := access_cells (show Blk w5 _ _ _ by rw [h5]; exact new_past' _ _ _)
      rw [← h5]
      clear h5
      have hst : ∀ n, Calls Try.prog 17 #[.pointer (some ⟨g, 0, none⟩)] (w5.drewN n) fun e w' => e = .returned (.int .i64 1) ∧ w5.drewN n = w' := fun n => (steps_any (W5.out.drewN n)).mono fun e w' g => ⟨g.1.trans rfl, g.2⟩
      have HST := Lib.hid hst
      clear hst
      go_quiet ((go_at_call 17; exact quiet_l (HST.out _)))
      go_wp2_with fail
      go_ret
      exact ⟨rfl, ((hoff5.drewN _).nil_below)⟩

end Go.Proofs.Ytaegjkpodhkogaa.Words
