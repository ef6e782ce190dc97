/- WordsCounts: the walk. -/
import Derived.Test.YtdnahojpeplajaaWordsC
import Derived.Test.YtdnahojpeplajaaOpenU
namespace Go.Proofs.Ytdnahojpeplajaa.Words
open Go.RowKit Mem Go.Proofs.Ytdnahojpeplajaa.Open

theorem at_note (s : St) (a : Acc) (k : Nat) : (s.note a).at k = s.at k := rfl
theorem at_lay_same (s : St) (k : Nat) (x : Int) (h : k < s.row.length) : (s.lay k x).at k = x := by simp [St.at, St.lay, h]
theorem at_lay_other (s : St) (k j : Nat) (x : Int) (h : k ≠ j) : (s.lay k x).at j = s.at j := by simp [St.at, St.lay, h]
theorem length_note (s : St) (a : Acc) : (s.note a).row.length = s.row.length := rfl
theorem length_lay (s : St) (k : Nat) (x : Int) : (s.lay k x).row.length = s.row.length := by simp [St.lay]
theorem at_new (n k : Nat) : (St.new n).at k = 0 := by
  rcases Nat.lt_or_ge k n with c | c <;> simp [St.at, St.new, c]

theorem look_i {g h : Nat} {s : St} {w : World} (hw : IsW w g h s) (a : Int) (k : Nat) (e : a = k) (hk : k < s.row.length) :
    Calls Try.prog 28 #[.pointer (some ⟨g, 0, none⟩), .int .i64 a] w fun e w' => e = .returned (.int .u64 (s.at k)) ∧ w = w' := by
  subst e; exact look_in hw k hk

section
variable {g h : Nat} {s : St} {w : World}
theorem load_i (hw : IsW w g h s) (c a : Int) (k : Nat) (e : a = k) (hk : k < s.row.length) (hs0 : 0 ≤ s.steps) (hs1 : s.steps < 9223372036854775807) :
    Calls Try.prog 37 #[.pointer (some ⟨g, 0, none⟩), .int .i64 c, .int .i64 a] w fun e w' => e = .returned (.int .u64 (s.at k)) ∧ IsW w' g h (s.note ⟨c, 0, k, s.at k, 0, true⟩) ∧ Off [g] w w' := by
  subst e; exact load_in hw c k hk hs0 hs1
theorem store_i (hw : IsW w g h s) (c a x : Int) (k : Nat) (e : a = k) (hk : k < s.row.length) (hs0 : 0 ≤ s.steps) (hs1 : s.steps < 9223372036854775807) :
    Calls Try.prog 39 #[.pointer (some ⟨g, 0, none⟩), .int .i64 c, .int .i64 a, .int .u64 x] w fun e w' => e = .returned (.tuple #[]) ∧ IsW w' g h ((s.note ⟨c, 1, k, s.at k, x, true⟩).lay k x) ∧ Off [g, h] w w' := by
  subst e; exact store_in hw c x k hk hs0 hs1
end

/-- How many steps j words take. -/
def stepsOf (j : Nat) : Int := (j + 1) / 2 + 3 * (j / 2)

/-- What holds when j words are done. -/
structure Counted (w : World) (g h k j : Nat) (wr : World) (s : St) : Prop where
  isw : IsW wr g h s
  len : s.row.length = 3
  lo : 0 ≤ s.at k
  hi : s.at k < 18446744073709551616
  next : s.at ((k + 1) % 3) = 0
  steps : s.steps = stepsOf j
  off : Off [] w wr

theorem wrap_u64 (n : Int) : IntKind.u64.wrap n = n % 18446744073709551616 := rfl

theorem Counted.add {w wr w' : World} {g h k j : Nat} {s : St} {x : Int} {a : Acc} (hc : Counted w g h k j wr s) (hk : k < 3) (hj : j % 2 = 0) (hg : w.heap.size ≤ g) (hh : w.heap.size ≤ h)
    (hw : IsW w' g h ((s.note a).lay k (IntKind.u64.wrap (s.at k + x)))) (ho : Off [g, h] wr w') : Counted w g h k (j + 1) w' ((s.note a).lay k (IntKind.u64.wrap (s.at k + x))) := by
  have hl : k < (s.note a).row.length := by rw [length_note, hc.len]; exact hk
  refine ⟨hw, ?_, ?_, ?_, ?_, ?_, hc.off.trans' ho ?_⟩
  · rw [length_lay, length_note, hc.len]
  · rw [at_lay_same _ _ _ hl, wrap_u64]; omega
  · rw [at_lay_same _ _ _ hl, wrap_u64]; omega
  · rw [at_lay_other _ _ _ _ (by omega), at_note, hc.next]
  · show s.steps + 1 = _
    rw [hc.steps]; unfold stepsOf; omega
  · intro i hi
    simp at hi
    omega

theorem Counted.swap {w wr w' : World} {g h k j : Nat} {s : St} {x : Int} {a b c : Acc} (hc : Counted w g h k j wr s) (hk : k < 3) (hj : j % 2 = 1) (hx : 0 ≤ x ∧ x < 18446744073709551616) (hg : w.heap.size ≤ g) (hh : w.heap.size ≤ h)
    (hw : IsW w' g h ((((s.note a).note b).note c).lay k x)) (ho : Off [g, h] wr w') : Counted w g h k (j + 1) w' ((((s.note a).note b).note c).lay k x) := by
  have hl : k < (((s.note a).note b).note c).row.length := by rw [length_note, length_note, length_note, hc.len]; exact hk
  refine ⟨hw, ?_, ?_, ?_, ?_, ?_, hc.off.trans' ho ?_⟩
  · rw [length_lay, length_note, length_note, length_note, hc.len]
  · rw [at_lay_same _ _ _ hl]; exact hx.1
  · rw [at_lay_same _ _ _ hl]; exact hx.2
  · rw [at_lay_other _ _ _ _ (by omega), at_note, at_note, at_note, hc.next]
  · show s.steps + 1 + 1 + 1 = _
    rw [hc.steps]; unfold stepsOf; omega
  · intro i hi
    simp at hi
    omega

theorem stepsOf_bound (j : Nat) (h : j ≤ 100) : 0 ≤ stepsOf j ∧ stepsOf j < 1000 := by unfold stepsOf; omega

def CountRel (w : World) (g h k len : Nat) (u i : Value) (wr : World) : Prop :=
  ∃ (j : Nat) (s : St), j ≤ len ∧ i = .int .i64 j ∧ u = .int .u64 (s.at k) ∧ Counted w g h k j wr s

end Go.Proofs.Ytdnahojpeplajaa.Words
