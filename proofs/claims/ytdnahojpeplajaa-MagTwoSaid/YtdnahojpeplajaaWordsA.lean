/- The shared words: what an object of package words holds; Len, has, word, note: a contract each. -/
import Derived.Test.YtdnahojpeplajaaChecked
import Derived.Test.YtdnahojpeplajaaMem
import Derived.WalkLawsBesides
import Derived.WalkSpells
import Derived.Defers
import Derived.Recover
import Derived.Deep.RegionWith
namespace Go.Proofs.Ytdnahojpeplajaa.Words
open Go.RowKit Mem

/-- One access. -/
structure Acc where
  client : Int
  kind : Int
  place : Int
  was : Int
  put : Int
  ok : Bool

/-- What an object of package words says: its words, its steps, the last one. -/
structure St where
  row : List Int
  steps : Int
  last : Acc

def Acc.cells (a : Acc) : Array Value := #[.int .i64 a.client, .int .i64 a.kind, .int .i64 a.place, .int .u64 a.was, .int .u64 a.put, .bool a.ok]
def rowCells (l : List Int) : Array Value := (l.map (Value.int .u64)).toArray

/-- The object in block g, its row in block h. -/
def headCells (h : Nat) (s : St) : Array Value :=
  #[.slice (some ⟨h, 0, none⟩) s.row.length s.row.length, .int .i64 s.steps, .int .i64 s.last.client, .int .i64 s.last.kind, .int .i64 s.last.place, .int .u64 s.last.was, .int .u64 s.last.put, .bool s.last.ok]

structure IsW (w : World) (g h : Nat) (s : St) : Prop where
  head : Blk w g 83 (headCells h s)
  row : Blk w h 27 (rowCells s.row)
  small : s.row.length ≤ 2000

theorem IsW.ne {w : World} {g h : Nat} {s : St} (hw : IsW w g h s) : g ≠ h := hw.head.ne hw.row (by decide)

theorem row_cell (l : List Int) (k : Nat) (h : k < l.length) : (rowCells l)[k]? = some (.int .u64 (l.getD k 0)) := by
  simp [rowCells, h]

set_option maxRecDepth 100000 in
theorem len_any {g h : Nat} {s : St} {w : World} (hw : IsW w g h s) :
    Calls Try.prog 65 #[.pointer (some ⟨g, 0, none⟩)] w fun e w' => e = .returned (.int .i64 s.row.length) ∧ w = w' := by
  have c0 := hw.head.cell 0
  simp only [headCells] at c0
  clear hw
  go_enter Try.func65, Try.ntmps65
  go_wp2
  go_ret
  exact ⟨rfl, rfl⟩

theorem len_nil (w : World) :
    Calls Try.prog 65 #[.pointer none] w fun e w' => e = .returned (.int .i64 0) ∧ w = w' := by
  go_enter Try.func65, Try.ntmps65
  go_wp2
  go_ret
  exact ⟨rfl, rfl⟩

theorem has_in {g h : Nat} {s : St} {w : World} (hw : IsW w g h s) (k : Nat) (hk : k < s.row.length) :
    Calls Try.prog 51 #[.pointer (some ⟨g, 0, none⟩), .int .i64 k] w fun e w' => e = .returned (.bool true) ∧ w = w' := by
  have h1 : decide ((k : Int) < (s.row.length : Int)) = true := by simp; omega
  go_enter Try.func51, Try.ntmps51
  go_wp2_with (go_at_call 65; refine (len_any hw).mono ?_; rintro e w' ⟨rfl, rfl⟩)
  go_ret
  exact ⟨rfl, rfl⟩

theorem has_out {g h : Nat} {s : St} {w : World} (hw : IsW w g h s) (k : Int) (hk : ¬ (0 ≤ k ∧ k < s.row.length)) :
    Calls Try.prog 51 #[.pointer (some ⟨g, 0, none⟩), .int .i64 k] w fun e w' => e = .returned (.bool false) ∧ w = w' := by
  by_cases h0 : 0 ≤ k
  · have h1 : decide (k < (s.row.length : Int)) = false := by simp; omega
    clear hk
    go_enter Try.func51, Try.ntmps51
    go_wp2_with (go_at_call 65; refine (len_any hw).mono ?_; rintro e w' ⟨rfl, rfl⟩)
    go_ret
    exact ⟨rfl, rfl⟩
  · have h1 : decide (0 ≤ k) = false := by simp; omega
    clear hk
    go_enter Try.func51, Try.ntmps51
    go_wp2_with (go_at_call 65; refine (len_any hw).mono ?_; rintro e w' ⟨rfl, rfl⟩)
    go_ret
    exact ⟨rfl, rfl⟩

theorem has_nil (k : Int) (w : World) :
    Calls Try.prog 51 #[.pointer none, .int .i64 k] w fun e w' => e = .returned (.bool false) ∧ w = w' := by
  by_cases h0 : 0 ≤ k
  · have h1 : decide (k < 0) = false := by simp; omega
    go_enter Try.func51, Try.ntmps51
    go_wp2_with (go_at_call 65; refine (len_nil _).mono ?_; rintro e w' ⟨rfl, rfl⟩)
    go_ret
    exact ⟨rfl, rfl⟩
  · have h1 : decide (0 ≤ k) = false := by simp; omega
    go_enter Try.func51, Try.ntmps51
    go_wp2_with (go_at_call 65; refine (len_nil _).mono ?_; rintro e w' ⟨rfl, rfl⟩)
    go_ret
    exact ⟨rfl, rfl⟩

theorem word_in {g h : Nat} {s : St} {w : World} (hw : IsW w g h s) (k : Nat) (hk : k < s.row.length) :
    Calls Try.prog 59 #[.pointer (some ⟨g, 0, none⟩), .int .i64 k] w fun e w' => e = .returned (.pointer (some ⟨h, k, none⟩)) ∧ w = w' := by
  have c0 := hw.head.cell 0
  simp only [headCells] at c0
  have h1 : (k : Int) < (s.row.length : Int) := by omega
  go_enter Try.func59, Try.ntmps59
  go_wp2_with (go_at_call 51; refine (has_in hw k hk).mono ?_; rintro e w' ⟨rfl, rfl⟩)
  go_ret
  exact ⟨by simp, rfl⟩

/-- What is out of place panics with a text; nothing is done. -/
def Panics (w : World) (e : Ending) (w' : World) : Prop := w = w' ∧ ∃ t v, e = .panicked [{ v := .iface t v, recovered := false }]

theorem word_out {g h : Nat} {s : St} {w : World} (hw : IsW w g h s) (k : Int) (hk : ¬ (0 ≤ k ∧ k < s.row.length)) :
    Calls Try.prog 59 #[.pointer (some ⟨g, 0, none⟩), .int .i64 k] w (Panics w) := by
  go_enter Try.func59, Try.ntmps59
  go_wp2_with (go_at_call 51; refine (has_out hw k hk).mono ?_; rintro e w' ⟨rfl, rfl⟩)
  exact ⟨rfl, rfl, _, _, rfl⟩

theorem word_nil (k : Int) (w : World) :
    Calls Try.prog 59 #[.pointer none, .int .i64 k] w (Panics w) := by
  go_enter Try.func59, Try.ntmps59
  go_wp2_with (go_at_call 51; refine (has_nil k _).mono ?_; rintro e w' ⟨rfl, rfl⟩)
  exact ⟨rfl, rfl, _, _, rfl⟩

/-- A step noted; a word laid. -/
def St.note (s : St) (a : Acc) : St := { s with steps := s.steps + 1, last := a }
def St.lay (s : St) (k : Nat) (x : Int) : St := { s with row := s.row.set k x }
def St.at (s : St) (k : Nat) : Int := s.row.getD k 0

theorem IsW.cell_at {w : World} {g h : Nat} {s : St} (hw : IsW w g h s) (k : Nat) (hk : k < s.row.length) : w.cell? ⟨h, k, none⟩ = some (.int .u64 (s.at k)) := by
  rw [hw.row.cell, row_cell _ _ hk]; rfl

theorem IsW.lay {w : World} {g h : Nat} {s : St} (hw : IsW w g h s) (k : Nat) (x : Int) : IsW (w.setCell ⟨h, k, none⟩ (.int .u64 x)) g h (s.lay k x) := by
  refine ⟨(hw.head.far hw.ne k _).to ?_, (hw.row.set k _).to ?_, ?_⟩
  · simp [headCells, St.lay]
  · simp [rowCells, St.lay]
  · simpa [St.lay] using hw.small

theorem IsW.off {w w' : World} {g h : Nat} {s : St} {S : List Nat} (hw : IsW w g h s) (ho : Off S w w') (h1 : g ∉ S) (h2 : h ∉ S) : IsW w' g h s :=
  ⟨ho.blk hw.head h1, ho.blk hw.row h2, hw.small⟩

theorem IsW.drewN {w : World} {g h : Nat} {s : St} (hw : IsW w g h s) (n : Nat) : IsW (w.drewN n) g h s := ⟨hw.head.drewN n, hw.row.drewN n, hw.small⟩

theorem IsW.alloc {w : World} {g h : Nat} {s : St} (hw : IsW w g h s) (o : Obj) : IsW (w.alloc o) g h s := ⟨hw.head.alloc o, hw.row.alloc o, hw.small⟩

theorem note_any {g h : Nat} {s : St} {w : World} (hw : IsW w g h s) (a : Acc) (hs0 : 0 ≤ s.steps) (hs1 : s.steps < 9223372036854775807) :
    Calls Try.prog 60 #[.pointer (some ⟨g, 0, none⟩), .agg a.cells] w fun e w' => e = .returned (.tuple #[]) ∧ IsW w' g h (s.note a) ∧ Off [g] w w' := by
  have c1 := hw.head.cell 1
  have c2 := hw.head.cell 2
  have c3 := hw.head.cell 3
  have c4 := hw.head.cell 4
  have c5 := hw.head.cell 5
  have c6 := hw.head.cell 6
  have c7 := hw.head.cell 7
  simp only [headCells] at c1 c2 c3 c4 c5 c6 c7
  have z := hw.head.free
  have z1 := z 1
  have z2 := z 2
  have z3 := z 3
  have z4 := z 4
  have z5 := z 5
  have z6 := z 6
  have z7 := z 7
  clear z
  have hg := hw.head.lt
  have hg' : ¬ g = w.heap.size := by omega
  unfold Acc.cells
  go_enter Try.func60, Try.ntmps60
  go_wp2
  go_end0
  refine ⟨rfl, ⟨((((((((hw.head.set 1 _).set 2 _).set 3 _).set 4 _).set 5 _).set 6 _).set 7 _).alloc _).to ?_, ?_, hw.small⟩, ?_⟩
  · simp [headCells, St.note]
  · exact (((((((hw.row.far hw.ne.symm _ _).far hw.ne.symm _ _).far hw.ne.symm _ _).far hw.ne.symm _ _).far hw.ne.symm _ _).far hw.ne.symm _ _).far hw.ne.symm _ _).alloc _
  · exact ((((((((Off.refl _ _).set (.inl (by simp)) _).set (.inl (by simp)) _).set (.inl (by simp)) _).set (.inl (by simp)) _).set (.inl (by simp)) _).set (.inl (by simp)) _).set (.inl (by simp)) _).alloc _

end Go.Proofs.Ytdnahojpeplajaa.Words
