/- The shared words: New, All, Guard; the law's own first sentence. -/
import Derived.Test.YtdnahojpeplajaaWordsB
import Derived.Laws.AppendOwn
import Derived.OwnWalk
namespace Go.Proofs.Ytdnahojpeplajaa.Words
open Go.RowKit Mem

/-- n words, all nought; no step done. -/
def St.new (n : Nat) : St := ⟨List.replicate n 0, 0, ⟨0, 0, 0, 0, 0, false⟩⟩

theorem word_info : (Try.prog.info? 27).map (fun i => (i.zero, i.size, i.bytes)) = some (some (.int .u64 0), 1, 8) := by kernel_rfl

theorem made_row (n : Nat) : madeCells (Value.cells (.int .u64 0)) (n * 1) = rowCells (List.replicate n 0) := by
  apply Array.ext
  · simp [madeCells, rowCells]
  · intro i h1 h2
    simp [madeCells, rowCells, Value.cells, Nat.mod_one]

theorem make_row (n : Nat) (hn : n ≤ 2000) (w : World) :
    (Instr.makeSlice 25 (.int .i64 (n : Int)) (.int .i64 (n : Int))).run Try.prog w = .ok (.slice (some ⟨w.heap.size, 0, none⟩) n n) (w.alloc (.cells (rowCells (List.replicate n 0)) 27)) := by
  obtain ⟨i, hi, hz0, hz1, hz2⟩ := info_parts word_info
  have hr := run_make (P := Try.prog) w 25 27 i _ Try.underlying25 hi hz0 .i64 .i64 n n (by omega) (by omega) (by rw [hz2]; omega) (by omega)
  simp only [Int.toNat_natCast] at hr
  rw [hr, hz1, made_row]

theorem new_past (w : World) (o : Obj) (t : TypeId) (cs : Array Value) : Blk ((w.alloc o).alloc (.cells cs t)) (w.heap.size + 1) t cs := by
  have h := Blk.new (w.alloc o) t cs
  simpa using h

/-- A new object that says s. -/
def Made (w : World) (s : St) (e : Ending) (w' : World) : Prop := ∃ g h, e = .returned (.pointer (some ⟨g, 0, none⟩)) ∧ IsW w' g h s ∧ Off [] w w' ∧ w.heap.size ≤ g ∧ w.heap.size ≤ h

theorem new_in (n : Nat) (hn : n ≤ 2000) (w : World) :
    Calls Try.prog 30 #[.int .i64 (n : Int)] w (Made w (St.new n)) := by
  have hd : decide (2000 < (n : Int)) = false := by simp; omega
  have hmk := make_row n hn
  go_enter Try.func30, Try.ntmps30
  go_wp2
  go_ret
  refine ⟨_, _, rfl, ⟨(new_past _ _ _ _).to ?_, (Blk.new _ _ _).alloc _, by simpa [St.new] using hn⟩, ((Off.refl _ _).alloc _).alloc _, by simp, Nat.le_refl _⟩
  simp [headCells, St.new]

theorem new_out (n : Int) (hn : ¬ (0 ≤ n ∧ n ≤ 2000)) (w : World) :
    Calls Try.prog 30 #[.int .i64 n] w (Made w (St.new 0)) := by
  have hmk := make_row 0 (by omega)
  simp only [Int.natCast_zero] at hmk
  by_cases h0 : n < 0
  · go_enter Try.func30, Try.ntmps30
    go_wp2
    go_ret
    refine ⟨_, _, rfl, ⟨(new_past _ _ _ _).to ?_, (Blk.new _ _ _).alloc _, by simp [St.new]⟩, ((Off.refl _ _).alloc _).alloc _, by simp, Nat.le_refl _⟩
    simp [headCells, St.new]
  · have h1 : decide (2000 < n) = true := by simp; omega
    go_enter Try.func30, Try.ntmps30
    go_wp2
    go_ret
    refine ⟨_, _, rfl, ⟨(new_past _ _ _ _).to ?_, (Blk.new _ _ _).alloc _, by simp [St.new]⟩, ((Off.refl _ _).alloc _).alloc _, by simp, Nat.le_refl _⟩
    simp [headCells, St.new]

theorem nil_is_nil (w : World) : (binOp .eql 1 .nilFunc .nilFunc).run Try.prog w = .ok (.bool true) w := by kernel_rfl
theorem func_not_nil (fn : Fn) (first cap : Array Value) (w : World) : (binOp .eql 1 (.func fn first cap) .nilFunc).run Try.prog w = .ok (.bool false) w := by kernel_rfl

/-- The guarded function by its number, asked in the world w. -/
def Asks (k : FuncId) (cap : Array Value) : Prop := ∀ w : World, (callFunc k cap).run Try.prog w = .ok (.enter k cap) w

end Go.Proofs.Ytdnahojpeplajaa.Words
