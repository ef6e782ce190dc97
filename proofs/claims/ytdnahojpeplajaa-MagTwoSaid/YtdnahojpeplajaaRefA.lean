/- The document's own words (allotmentref1): what such an object holds; its note: a contract. -/
import Derived.Test.YtdnahojpeplajaaWordsD
import Derived.Test.YtdnahojpeplajaaCountsW
import Derived.Deep.AppendLies
import Derived.Deep.RegionLaw
import Derived.RegionTactic
namespace Go.Proofs.Ytdnahojpeplajaa.Words
open Go.RowKit Mem Go.Proofs.Ytdnahojpeplajaa.Open

/-- Blocks of accesses that were made from base on may have turned, besides those of S. -/
structure Save (S : List Nat) (base : Nat) (w w' : World) : Prop where
  os : w'.os = w.os
  tape : w'.tape = w.tape
  output : w'.output = w.output
  size : w.heap.size ≤ w'.heap.size
  block : ∀ k, k < w.heap.size → k ∉ S → (k < base ∨ ∀ cs, w.heap[k]? ≠ some (.cells cs 81 (0, 0))) → w'.heap[k]? = w.heap[k]?

section
variable {S T : List Nat} {base : Nat} {a w w' : World}
theorem Save.refl (S : List Nat) (base : Nat) (w : World) : Save S base w w := ⟨rfl, rfl, rfl, Nat.le_refl _, fun _ _ _ _ => rfl⟩
theorem Save.trans (h : Save S base a w) (k : Save S base w w') : Save S base a w' :=
  ⟨k.os.trans h.os, k.tape.trans h.tape, k.output.trans h.output, Nat.le_trans h.size k.size, fun i hi hn ho => by
    have e := h.block i hi hn ho
    refine (k.block i (Nat.lt_of_lt_of_le hi h.size) hn ?_).trans e
    rw [e]; exact ho⟩
theorem Save.more (h : Save S base a w) (hs : ∀ k, k ∈ S → k ∈ T) : Save T base a w := ⟨h.os, h.tape, h.output, h.size, fun i hi hn ho => h.block i hi (fun m => hn (hs i m)) ho⟩
theorem Save.of_off (h : Off S w w') (base : Nat) : Save S base w w' := ⟨h.os, h.tape, h.output, h.size, fun i hi hn _ => h.block i hi hn⟩
theorem Save.blk {g : Nat} {t : TypeId} {cs : Array Value} (h : Save S base w w') (hb : Blk w g t cs) (hg : g ∉ S) (ht : t ≠ 81) : Blk w' g t cs :=
  ⟨(h.block g hb.lt hg (.inr (fun cs' e => by
    have e2 := hb.eq.symm.trans e
    injection e2 with e2
    injection e2 with _ e3
    exact ht e3))).trans hb.eq⟩
theorem Save.below (h : Save S base w w') (hB : base ≤ w.heap.size) (hs : ∀ k, k ∈ S → base ≤ k) : Below base w w' :=
  ⟨h.os, h.tape, h.output, h.size, fun k hk => h.block k (by omega) (fun m => by have := hs k m; omega) (.inl hk)⟩
theorem Save.drewN (h : Save S base a w) (n : Nat) : Save S base a (w.drewN n) := ⟨h.os, h.tape, h.output, h.size, h.block⟩
end

/-- What such an object says in its nine cells. -/
def refCells (h : Nat) (s : St) (lv : Value) : Array Value :=
  #[.slice (some ⟨h, 0, none⟩) s.row.length s.row.length, .int .i64 s.steps, .int .i64 s.last.client, .int .i64 s.last.kind, .int .i64 s.last.place, .int .u64 s.last.was, .int .u64 s.last.put, .bool s.last.ok, lv]

structure IsM (w : World) (base g h : Nat) (s : St) : Prop where
  head : ∃ (lv : Value) (n : Nat) (xs : List Value), Blk w g 87 (refCells h s lv) ∧ (n : Int) = s.steps ∧ n ≤ 1000 ∧ w.ownsRow base 81 6 lv n xs
  row : Blk w h 27 (rowCells s.row)
  small : s.row.length ≤ 2000
  lo : base ≤ w.heap.size
  hg : base ≤ g
  hh : base ≤ h

theorem own_keep {w w' : World} {base : Nat} {e : TypeId} {size : Nat} {v : Value} {n : Nat} {xs : List Value} (h : w.ownsRow base e size v n xs)
    (hk : ∀ g cur, w.heap[g]? = some (.cells cur e (0, 0)) → v.ownBlock = some g → w'.heap[g]? = w.heap[g]?) : w'.ownsRow base e size v n xs := by
  refine ⟨h.1, ?_⟩
  rcases h.2 with h2 | ⟨g, cap, cur, hv, hb, hh, r⟩
  · exact .inl h2
  · exact .inr ⟨g, cap, cur, hv, hb, (hk g cur hh (by rw [hv]; rfl)).trans hh, r⟩

section
variable {w w' : World} {base g h : Nat} {s : St}
theorem IsM.blk (hw : IsM w base g h s) : ∃ cs, Blk w g 87 cs := by
  obtain ⟨lv, n, xs, hb, _⟩ := hw.head
  exact ⟨_, hb⟩
theorem IsM.ne (hw : IsM w base g h s) : g ≠ h := by
  obtain ⟨cs, hb⟩ := hw.blk
  exact hb.ne hw.row (by decide)
/-- What turns blocks of other kinds leaves it. -/
theorem IsM.off {S : List Nat} (hw : IsM w base g h s) (ho : Off S w w') (hg : g ∉ S) (hh : h ∉ S) (hs : ∀ k, k ∈ S → ∃ t cs, Blk w k t cs ∧ t ≠ 81) : IsM w' base g h s := by
  obtain ⟨lv, n, xs, hb, hn, hn2, hown⟩ := hw.head
  refine ⟨⟨lv, n, xs, ho.blk hb hg, hn, hn2, own_keep hown (fun b cur hc _ => ?_)⟩, ho.blk hw.row hh, hw.small, Nat.le_trans hw.lo ho.size, hw.hg, hw.hh⟩
  have hl : b < w.heap.size := (⟨hc⟩ : Blk w b _ _).lt
  refine ho.block b hl (fun m => ?_)
  obtain ⟨t, cs, hb2, ht⟩ := hs b m
  exact (hb2.ne ⟨hc⟩ ht) rfl
theorem IsM.off0 (hw : IsM w base g h s) (ho : Off [] w w') : IsM w' base g h s := hw.off ho (by simp) (by simp) (fun k m => by cases m)
theorem IsM.cell_at (hw : IsM w base g h s) (k : Nat) (hk : k < s.row.length) : w.cell? ⟨h, k, none⟩ = some (.int .u64 (s.at k)) := by
  rw [hw.row.cell, row_cell _ _ hk]; rfl
theorem IsM.lay (hw : IsM w base g h s) (k : Nat) (x : Int) : IsM (w.setCell ⟨h, k, none⟩ (.int .u64 x)) base g h (s.lay k x) := by
  obtain ⟨lv, n, xs, hb, hn, hn2, hown⟩ := hw.head
  refine ⟨⟨lv, n, xs, (hb.far hw.ne k _).to ?_, hn, hn2, own_keep hown (fun b cur hc _ => ?_)⟩, (hw.row.set k _).to ?_, ?_, by simpa [World.setCell] using hw.lo, hw.hg, hw.hh⟩
  · simp [refCells, St.lay]
  · refine Below.heap_setCell _ _ _ _ ?_
    exact (hw.row.ne ⟨hc⟩ (by decide)).symm
  · simp [rowCells, St.lay]
  · simpa [St.lay] using hw.small
theorem IsM.drewN (hw : IsM w base g h s) (n : Nat) : IsM (w.drewN n) base g h s := hw.off0 ((Off.refl _ _).drewN n)
theorem IsM.alloc (hw : IsM w base g h s) (o : Obj) : IsM (w.alloc o) base g h s := hw.off0 ((Off.refl _ _).alloc o)
/-- The first cells. -/
theorem IsM.cells (hw : IsM w base g h s) : w.cell? ⟨g, 0, none⟩ = some (.slice (some ⟨h, 0, none⟩) s.row.length s.row.length) ∧ w.cell? ⟨g, 1, none⟩ = some (.int .i64 s.steps) ∧
    w.cell? ⟨g, 2, none⟩ = some (.int .i64 s.last.client) ∧ w.cell? ⟨g, 3, none⟩ = some (.int .i64 s.last.kind) ∧ w.cell? ⟨g, 4, none⟩ = some (.int .i64 s.last.place) ∧
    w.cell? ⟨g, 5, none⟩ = some (.int .u64 s.last.was) ∧ w.cell? ⟨g, 6, none⟩ = some (.int .u64 s.last.put) ∧ w.cell? ⟨g, 7, none⟩ = some (.bool s.last.ok) := by
  obtain ⟨lv, n, xs, hb, _⟩ := hw.head
  exact ⟨hb.cell 0, hb.cell 1, hb.cell 2, hb.cell 3, hb.cell 4, hb.cell 5, hb.cell 6, hb.cell 7⟩
end

/-- A block of another kind than the row that was appended to. -/
theorem grown_blk {w3 W w5 : World} {g : Nat} {t : TypeId} {cs : Array Value} {base : Nat} {e : TypeId} {size : Nat} {v : Value} {n : Nat} {xs : List Value} {row : Option Nat} (hb : Blk w3 g t cs) (hg : W.grownBy w5 row)
    (hown : w3.ownsRow base e size v n xs) (ht : t ≠ e) (hW : Off [] w3 W) (hrow : row = v.ownBlock) : Blk w5 g t cs := by
  have hbW : Blk W g t cs := hW.blk hb (by simp)
  refine ⟨(hg.block g hbW.lt ?_).trans hbW.eq⟩
  rw [hrow]
  rcases hown.2 with ⟨rfl, _⟩ | ⟨b, cap, cur, rfl, _, hc, _⟩
  · simp [Value.ownBlock]
  · have := hb.ne ⟨hc⟩ ht
    simp [Value.ownBlock, this]

theorem rnote_end {w w3 W w5 : World} {base g h : Nat} {s : St} {a : Acc} {lv : Value} {n lg cap : Nat} {xs ys : List Value} {row : Option Nat} (hw : IsM w base g h s) (_ : Blk w g 87 (refCells h s lv)) (hn : (n : Int) = s.steps) (hs1 : s.steps < 900)
    (hown : w.ownsRow base 81 6 lv n xs) (ho3 : Off [g] w w3) (hb3 : Blk w3 g 87 (refCells h (s.note a) lv)) (hrow3 : Blk w3 h 27 (rowCells s.row)) (own3 : w3.ownsRow base 81 6 lv n xs)
    (hW : Off [] w3 W) (hgrow : W.grownBy w5 row) (hrow : row = lv.ownBlock) (hown5 : w5.ownsRow base 81 6 (.slice (some ⟨lg, 0, none⟩) (n + 1) cap) (n + 1) (xs ++ ys)) :
    IsM (w5.setCell ⟨g, 8, none⟩ (.slice (some ⟨lg, 0, none⟩) (n + 1) cap)) base g h (s.note a) ∧ Save [g] base w (w5.setCell ⟨g, 8, none⟩ (.slice (some ⟨lg, 0, none⟩) (n + 1) cap)) := by
  have hb5 := grown_blk hb3 hgrow own3 (by decide) hW hrow
  have hr5 := grown_blk hrow3 hgrow own3 (by decide) hW hrow
  have hne := hw.ne
  have s1 : w.heap.size ≤ w5.heap.size := Nat.le_trans ho3.size (Nat.le_trans hW.size hgrow.size)
  refine ⟨⟨⟨.slice (some ⟨lg, 0, none⟩) (n + 1) cap, n + 1, xs ++ ys, (hb5.set 8 _).to (by simp [refCells, St.note]), ?_, by omega, own_keep hown5 (fun b cur hc _ => Below.heap_setCell _ _ _ _ ?_)⟩, hr5.far hne.symm _ _, hw.small, ?_, hw.hg, hw.hh⟩, ?_⟩
  · show ((n + 1 : Nat) : Int) = s.steps + 1
    omega
  · exact (hb5.ne ⟨hc⟩ (by decide)).symm
  · have := hw.lo
    simp only [World.setCell, Array.size_modify]
    omega
  · refine ⟨by show w5.os = _; exact hgrow.os.trans (hW.os.trans ho3.os), by show w5.tape = _; exact hgrow.tape.trans (hW.tape.trans ho3.tape), by show w5.output = _; exact hgrow.output.trans (hW.output.trans ho3.output), by simpa [World.setCell] using s1, fun k hk hn2 hc => ?_⟩
    have kg : k ≠ g := by simpa using hn2
    rw [Below.heap_setCell _ _ _ _ (by exact kg)]
    have k3 : k < w3.heap.size := Nat.lt_of_lt_of_le hk ho3.size
    rw [hgrow.block k (Nat.lt_of_lt_of_le k3 hW.size) ?_, hW.block k k3 (by simp), ho3.block k hk hn2]
    rw [hrow]
    rcases hown.2 with ⟨rfl, _⟩ | ⟨b, cap', cur, rfl, hb, hh, _⟩
    · simp [Value.ownBlock]
    · intro e
      have e2 : k = b := by simpa [Value.ownBlock] using e
      subst e2
      rcases hc with hc | hc
      · omega
      · exact hc _ hh

theorem access_info : (Try.prog.info? 81).map (fun i => (i.zero, i.size, i.bytes)) = some (some (.agg #[.int .i64 0, .int .i64 0, .int .i64 0, .int .u64 0, .int .u64 0, .bool false]), 6, 48) := by kernel_rfl

set_option maxRecDepth 100000 in
set_option maxHeartbeats 4000000 in
theorem rnote_any {w : World} {base g h : Nat} {s : St} (hw : IsM w base g h s) (a : Acc) (hs0 : 0 ≤ s.steps) (hs1 : s.steps < 900) :
    Calls Try.prog 62 #[.pointer (some ⟨g, 0, none⟩), .agg a.cells] w fun e w' => e = .returned (.tuple #[]) ∧ IsM w' base g h (s.note a) ∧ Save [g] base w w' := by
  obtain ⟨lv, n, xs, hb, hn, hn2, hown⟩ := hw.head
  have hgb := hw.hg
  have hlo := hw.lo
  have hwne := hw.ne
  have hrow := hw.row
  have c1 := hb.cell 1
  have c2 := hb.cell 2
  have c3 := hb.cell 3
  have c4 := hb.cell 4
  have c5 := hb.cell 5
  have c6 := hb.cell 6
  have c7 := hb.cell 7
  simp only [refCells] at c1 c2 c3 c4 c5 c6 c7
  have z := hb.free
  have z1 := z 1
  have z2 := z 2
  have z3 := z 3
  have z4 := z 4
  have z5 := z 5
  have z6 := z 6
  have z7 := z 7
  clear z
  have hg := hb.lt
  have hg' : ¬ g = w.heap.size := by omega
  have HN := Lib.hid hn
  clear hn
  unfold Acc.cells
  go_enter Try.func62, Try.ntmps62
  go_wp2_with fail
  generalize hW : World.alloc _ _ = w3
  have hb3 : Blk w3 g 87 (refCells h (s.note a) lv) := by
    rw [← hW]
    refine ((((((((hb.set 1 _).set 2 _).set 3 _).set 4 _).set 5 _).set 6 _).set 7 _).alloc _).to ?_
    simp [refCells, St.note]
  have hrow3 : Blk w3 h 27 (rowCells s.row) := by
    rw [← hW]
    exact (((((((hrow.far hwne.symm _ _).far hwne.symm _ _).far hwne.symm _ _).far hwne.symm _ _).far hwne.symm _ _).far hwne.symm _ _).far hwne.symm _ _).alloc _
  have ho3 : Off [g] w w3 := by
    rw [← hW]
    exact ((((((((Off.refl _ _).set (.inl (by simp)) _).set (.inl (by simp)) _).set (.inl (by simp)) _).set (.inl (by simp)) _).set (.inl (by simp)) _).set (.inl (by simp)) _).set (.inl (by simp)) _).alloc _
  have hx3 : Blk w3 w.heap.size 81 #[.int .i64 a.client, .int .i64 a.kind, .int .i64 a.place, .int .u64 a.was, .int .u64 a.put, .bool a.ok] := by
    rw [← hW]
    have h5 := Blk.new (((((((w.setCell ⟨g, 1, none⟩ (.int .i64 (s.steps + 1))).setCell ⟨g, 2, none⟩ (.int .i64 a.client)).setCell ⟨g, 3, none⟩ (.int .i64 a.kind)).setCell ⟨g, 4, none⟩ (.int .i64 a.place)).setCell ⟨g, 5, none⟩ (.int .u64 a.was)).setCell ⟨g, 6, none⟩ (.int .u64 a.put)).setCell ⟨g, 7, none⟩ (.bool a.ok)) 81 #[.int .i64 a.client, .int .i64 a.kind, .int .i64 a.place, .int .u64 a.was, .int .u64 a.put, .bool a.ok]
    simpa [World.setCell] using h5
  have hsz : w3.heap.size = w.heap.size + 1 := by rw [← hW]; simp [World.setCell]
  have own3 : w3.ownsRow base 81 6 lv n xs := own_keep hown (fun b cur hc _ => ho3.block b (⟨hc⟩ : Blk w b _ _).lt (by
    have := hb.ne ⟨hc⟩ (by decide)
    simp
    omega))
  clear hW c1 c2 c3 c4 c5 c6 c7 z1 z2 z3 z4 z5 z6 z7
  obtain ⟨i0, hi, hz0, hz1, hz2⟩ := info_parts access_info
  have L8 := hb3.cell 8
  simp only [refCells] at L8
  have L8a : (w3.alloc (.cells #[.int .i64 a.client, .int .i64 a.kind, .int .i64 a.place, .int .u64 a.was, .int .u64 a.put, .bool a.ok] 81)).cell? ⟨g, 8, none⟩ = some lv := (hb3.alloc _).cell 8
  have x0 := hx3.cell 0
  have x1 := hx3.cell 1
  have x2 := hx3.cell 2
  have x3 := hx3.cell 3
  have x4 := hx3.cell 4
  have x5 := hx3.cell 5
  have hgn : ¬ g = w3.heap.size := by omega
  have hxn : ¬ w.heap.size = w3.heap.size := by omega
  have OWN := Lib.hid (fun (W : World) (h : Off [] w3 W) => (own_keep own3 (fun b cur hc _ => h.block b (⟨hc⟩ : Blk w3 b _ _).lt (by simp)) : W.ownsRow base 81 6 lv n xs))
  have HB3 := Lib.hid hb3
  have HI := Lib.hid hi
  have HZ0 := Lib.hid hz0
  have HZ1 := Lib.hid hz1
  have HZ2 := Lib.hid hz2
  have HSZ := Lib.hid hsz
  clear hi hz0 hz1 hz2 hsz
  have hlo3 : base ≤ w3.heap.size := Nat.le_trans hlo ho3.size
  go_region_law (refine step_append_lies _ rfl _ _ 85 rfl base 81 i0 _ 6 48 Try.underlying85 HI.out HZ0.out HZ1.out HZ2.out rfl (by decide) _ n xs rfl (OWN.out _ (by first | exact ((Off.refl _ _).alloc _).drew | exact (Off.refl _ _).drew.alloc _)) ⟨w3.heap.size, 0, none⟩ 1 1 [.int .i64 a.client, .int .i64 a.kind, .int .i64 a.place, .int .u64 a.was, .int .u64 a.put, .bool a.ok] rfl rfl (World.news_of_block (Blk.new w3 81 #[.int .i64 a.client, .int .i64 a.kind, .int .i64 a.place, .int .u64 a.was, .int .u64 a.put, .bool a.ok]).eq) (by simp [Value.oneCell']) (by decide) (by unfold maxLen; omega) (by omega) (by simp; omega) _ rfl ?_; intro lg lcap w5 hown5 hgrow5 hat5 hlt5; have hb5 := grown_blk HB3.out hgrow5 (OWN.out w3 (Off.refl _ _)) (by decide) (by first | exact ((Off.refl _ _).alloc _).drew | exact (Off.refl _ _).drew.alloc _) rfl; have L5 : w5.cell? ⟨g, 8, none⟩ = some lv := hb5.cell 8; have z5 := hb5.free 8)
  all_goals
    go_end0
    first
      | exact ⟨rfl, rnote_end hw hb HN.out hs1 hown ho3 HB3.out hrow3 own3 ((Off.refl _ _).alloc _).drew hgrow5 rfl hown5⟩
      | exact ⟨rfl, rnote_end hw hb HN.out hs1 hown ho3 HB3.out hrow3 own3 ((Off.refl _ _).drew.alloc _) hgrow5 rfl hown5⟩

end Go.Proofs.Ytdnahojpeplajaa.Words
