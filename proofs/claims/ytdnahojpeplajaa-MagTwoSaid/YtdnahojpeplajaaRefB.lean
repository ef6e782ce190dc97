/- The document's own words (allotmentref1): Load, Store, Swap, Add, New; the law's Model; SameWords. -/
import Derived.Test.YtdnahojpeplajaaRefA
namespace Go.Proofs.Ytdnahojpeplajaa.Words
open Go.RowKit Mem Go.Proofs.Ytdnahojpeplajaa.Open

section
variable {base g h : Nat} {s : St} {w : World}

set_option maxHeartbeats 1000000 in
theorem rload_in (hw : IsM w base g h s) (c : Int)  (k : Nat) (hk : k < s.row.length) (hs0 : 0 ≤ s.steps) (hs1 : s.steps < 900) :
    Calls Try.prog 46 #[.pointer (some ⟨g, 0, none⟩), .int .i64 c, .int .i64 k] w fun e w' => e = .returned (.int .u64 (s.at k)) ∧ IsM w' base g h (s.note ⟨c, 0, k, s.at k, 0, true⟩) ∧ Save [g, h] base w w' := by
  have d := hw.cell_at k hk
  have c0 := hw.cells.1
  have hi : (k : Int) < (s.row.length : Int) := by omega
  go_enter Try.func46, Try.ntmps46
  go_wp2_with (go_at_call 62; refine (rnote_any hw ⟨c, 0, k, s.at k, 0, true⟩ hs0 hs1).mono ?_; rintro e w1 ⟨rfl, hw1, ho1⟩; have d1 := hw1.cell_at k hk; have c1 := hw1.cells.1; have z1 := hw1.row.free k)
  go_ret
  exact ⟨rfl, hw1, ho1.more (by simp)⟩

set_option maxHeartbeats 1000000 in
theorem rstore_in (hw : IsM w base g h s) (c : Int)  (x : Int) (k : Nat) (hk : k < s.row.length) (hs0 : 0 ≤ s.steps) (hs1 : s.steps < 900) :
    Calls Try.prog 44 #[.pointer (some ⟨g, 0, none⟩), .int .i64 c, .int .i64 k, .int .u64 x] w fun e w' => e = .returned (.tuple #[]) ∧ IsM w' base g h ((s.note ⟨c, 1, k, s.at k, x, true⟩).lay k x) ∧ Save [g, h] base w w' := by
  have d := hw.cell_at k hk
  have c0 := hw.cells.1
  have hi : (k : Int) < (s.row.length : Int) := by omega
  go_enter Try.func44, Try.ntmps44
  go_wp2_with (go_at_call 62; refine (rnote_any hw ⟨c, 1, k, s.at k, x, true⟩ hs0 hs1).mono ?_; rintro e w1 ⟨rfl, hw1, ho1⟩; have d1 := hw1.cell_at k hk; have c1 := hw1.cells.1; have z1 := hw1.row.free k)
  go_end0
  exact ⟨rfl, hw1.lay k _, (ho1.more (by simp)).trans (Save.of_off ((Off.refl _ _).set (.inl (by simp)) _) base)⟩

end

/-- A new object of the document's. -/
def RMade (w : World) (base : Nat) (s : St) (e : Ending) (w' : World) : Prop := ∃ g h, e = .returned (.pointer (some ⟨g, 0, none⟩)) ∧ IsM w' base g h s ∧ Off [] w w' ∧ w.heap.size ≤ g ∧ w.heap.size ≤ h

theorem rnew_in (base n : Nat) (hn : n ≤ 2000) (w : World) (hb : base ≤ w.heap.size) :
    Calls Try.prog 41 #[.int .i64 (n : Int)] w (RMade w base (St.new n)) := by
  have hd : decide (2000 < (n : Int)) = false := by simp; omega
  have hmk := make_row n hn
  go_enter Try.func41, Try.ntmps41
  go_wp2
  go_ret
  refine ⟨_, _, rfl, ⟨⟨.slice none 0 0, 0, [], (new_past _ _ _ _).to ?_, rfl, by omega, World.ownsRow_nil _ _ _ _⟩, (Blk.new _ _ _).alloc _, by simpa [St.new] using hn, by simp; omega, by omega, hb⟩, ((Off.refl _ _).alloc _).alloc _, by simp, Nat.le_refl _⟩
  simp [refCells, St.new]

end Go.Proofs.Ytdnahojpeplajaa.Words
