/- The shared words: Load, Store, Swap, Add, Steps, Last, Look, Put: a contract each, in place and out of it. -/
import Derived.Test.YtdnahojpeplajaaWordsA
namespace Go.Proofs.Ytdnahojpeplajaa.Words
open Go.RowKit Mem

section
variable {g h : Nat} {s : St} {w : World}

theorem load_in (hw : IsW w g h s) (c : Int) (k : Nat) (hk : k < s.row.length) (hs0 : 0 ≤ s.steps) (hs1 : s.steps < 9223372036854775807) :
    Calls Try.prog 37 #[.pointer (some ⟨g, 0, none⟩), .int .i64 c, .int .i64 k] w fun e w' => e = .returned (.int .u64 (s.at k)) ∧ IsW w' g h (s.note ⟨c, 0, k, s.at k, 0, true⟩) ∧ Off [g] w w' := by
  have d := hw.cell_at k hk
  go_enter Try.func37, Try.ntmps37
  go_wp2_with (first
    | (go_at_call 59; refine (word_in hw k hk).mono ?_; rintro e w' ⟨rfl, rfl⟩)
    | (go_at_call 60; refine (note_any hw ⟨c, 0, k, s.at k, 0, true⟩ hs0 hs1).mono ?_; rintro e w' ⟨rfl, hw1, ho1⟩))
  go_ret
  exact ⟨rfl, hw1, ho1⟩

theorem load_out (hw : IsW w g h s) (c : Int) (k : Int) (hk : ¬ (0 ≤ k ∧ k < s.row.length)) :
    Calls Try.prog 37 #[.pointer (some ⟨g, 0, none⟩), .int .i64 c, .int .i64 k] w (Panics w) := by
  go_enter Try.func37, Try.ntmps37
  go_wp2_with (go_at_call 59; refine (word_out hw k hk).mono ?_; rintro e w' ⟨rfl, t, v, rfl⟩)
  exact ⟨rfl, rfl, _, _, rfl⟩

theorem load_nil (c k : Int) (w : World) :
    Calls Try.prog 37 #[.pointer none, .int .i64 c, .int .i64 k] w (Panics w) := by
  go_enter Try.func37, Try.ntmps37
  go_wp2_with (go_at_call 59; refine (word_nil k _).mono ?_; rintro e w' ⟨rfl, t, v, rfl⟩)
  exact ⟨rfl, rfl, _, _, rfl⟩

theorem store_in (hw : IsW w g h s) (c x : Int) (k : Nat) (hk : k < s.row.length) (hs0 : 0 ≤ s.steps) (hs1 : s.steps < 9223372036854775807) :
    Calls Try.prog 39 #[.pointer (some ⟨g, 0, none⟩), .int .i64 c, .int .i64 k, .int .u64 x] w fun e w' => e = .returned (.tuple #[]) ∧ IsW w' g h ((s.note ⟨c, 1, k, s.at k, x, true⟩).lay k x) ∧ Off [g, h] w w' := by
  have d := hw.cell_at k hk
  go_enter Try.func39, Try.ntmps39
  go_wp2_with (first
    | (go_at_call 59; refine (word_in hw k hk).mono ?_; rintro e w' ⟨rfl, rfl⟩)
    | (go_at_call 60; refine (note_any hw ⟨c, 1, k, s.at k, x, true⟩ hs0 hs1).mono ?_; rintro e w' ⟨rfl, hw1, ho1⟩; have d1 := hw1.cell_at k hk; have z1 := hw1.row.free k))
  go_end0
  exact ⟨rfl, hw1.lay k x, (ho1.more (by simp)).set (.inl (by simp)) _⟩

theorem store_out (hw : IsW w g h s) (c x : Int) (k : Int) (hk : ¬ (0 ≤ k ∧ k < s.row.length)) :
    Calls Try.prog 39 #[.pointer (some ⟨g, 0, none⟩), .int .i64 c, .int .i64 k, .int .u64 x] w (Panics w) := by
  go_enter Try.func39, Try.ntmps39
  go_wp2_with (go_at_call 59; refine (word_out hw k hk).mono ?_; rintro e w' ⟨rfl, t, v, rfl⟩)
  exact ⟨rfl, rfl, _, _, rfl⟩

/-- A swap, done or not. -/
def St.swap (s : St) (c : Int) (k : Nat) (was x : Int) : St :=
  if (s.at k == was) = true then (s.note ⟨c, 2, k, s.at k, x, true⟩).lay k x else s.note ⟨c, 2, k, s.at k, x, false⟩

theorem steps_any (hw : IsW w g h s) :
    Calls Try.prog 17 #[.pointer (some ⟨g, 0, none⟩)] w fun e w' => e = .returned (.int .i64 s.steps) ∧ w = w' := by
  have c1 := hw.head.cell 1
  simp only [headCells] at c1
  go_enter Try.func17, Try.ntmps17
  go_wp2
  go_ret
  exact ⟨rfl, rfl⟩

theorem last_any (hw : IsW w g h s) :
    Calls Try.prog 47 #[.pointer (some ⟨g, 0, none⟩)] w fun e w' => e = .returned (.agg s.last.cells) ∧ Off [] w w' := by
  have c2 := hw.head.cell 2
  have c3 := hw.head.cell 3
  have c4 := hw.head.cell 4
  have c5 := hw.head.cell 5
  have c6 := hw.head.cell 6
  have c7 := hw.head.cell 7
  simp only [headCells] at c2 c3 c4 c5 c6 c7
  have hg := hw.head.lt
  have hg' : ¬ g = w.heap.size := by omega
  go_enter Try.func47, Try.ntmps47
  go_wp2
  exact bodyPost_ret (v := .agg s.last.cells) (by simp [results, Try.results47, go_sem, Acc.cells]) rfl ⟨rfl, (Off.refl _ _).alloc _⟩

theorem look_in (hw : IsW w g h s) (k : Nat) (hk : k < s.row.length) :
    Calls Try.prog 28 #[.pointer (some ⟨g, 0, none⟩), .int .i64 k] w fun e w' => e = .returned (.int .u64 (s.at k)) ∧ w = w' := by
  have d := hw.cell_at k hk
  have c0 := hw.head.cell 0
  simp only [headCells] at c0
  have h1 : (k : Int) < (s.row.length : Int) := by omega
  go_enter Try.func28, Try.ntmps28
  go_wp2_with (go_at_call 51; refine (has_in hw k hk).mono ?_; rintro e w' ⟨rfl, rfl⟩)
  go_ret
  exact ⟨rfl, rfl⟩

theorem look_out (hw : IsW w g h s) (k : Int) (hk : ¬ (0 ≤ k ∧ k < s.row.length)) :
    Calls Try.prog 28 #[.pointer (some ⟨g, 0, none⟩), .int .i64 k] w fun e w' => e = .returned (.int .u64 0) ∧ w = w' := by
  go_enter Try.func28, Try.ntmps28
  go_wp2_with (go_at_call 51; refine (has_out hw k hk).mono ?_; rintro e w' ⟨rfl, rfl⟩)
  go_ret
  exact ⟨rfl, rfl⟩

theorem put_in (hw : IsW w g h s) (k : Nat) (x : Int) (hk : k < s.row.length) :
    Calls Try.prog 31 #[.pointer (some ⟨g, 0, none⟩), .int .i64 k, .int .u64 x] w fun e w' => e = .returned (.bool true) ∧ IsW w' g h (s.lay k x) ∧ Off [h] w w' := by
  have d := hw.cell_at k hk
  have z := hw.row.free k
  have c0 := hw.head.cell 0
  simp only [headCells] at c0
  have h1 : (k : Int) < (s.row.length : Int) := by omega
  go_enter Try.func31, Try.ntmps31
  go_wp2_with (go_at_call 51; refine (has_in hw k hk).mono ?_; rintro e w' ⟨rfl, rfl⟩)
  go_ret
  exact ⟨rfl, hw.lay k x, (Off.refl _ _).set (.inl (by simp)) _⟩

theorem put_out (hw : IsW w g h s) (k x : Int) (hk : ¬ (0 ≤ k ∧ k < s.row.length)) :
    Calls Try.prog 31 #[.pointer (some ⟨g, 0, none⟩), .int .i64 k, .int .u64 x] w fun e w' => e = .returned (.bool false) ∧ w = w' := by
  go_enter Try.func31, Try.ntmps31
  go_wp2_with (go_at_call 51; refine (has_out hw k hk).mono ?_; rintro e w' ⟨rfl, rfl⟩)
  go_ret
  exact ⟨rfl, rfl⟩
end
end Go.Proofs.Ytdnahojpeplajaa.Words
