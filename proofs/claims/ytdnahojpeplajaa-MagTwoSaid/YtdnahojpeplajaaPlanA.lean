/- Package plan, and the document's: what takes no shape: a contract each. -/
import Derived.Test.YtdnahojpeplajaaChecked
import Derived.Test.YtdnahojpeplajaaMem
import Derived.Test.YtdnahojpeplajaaPlanM
import Derived.WalkLawsBesides
import Derived.WalkSpells
namespace Go.Proofs.Ytdnahojpeplajaa.Plan
open Go.RowKit Mem

theorem from_any (lo n hi : Int) (w : World) :
    Calls Try.prog 71 #[.int .i64 lo, .int .i64 n, .int .i64 hi] w fun e w' => e = .returned (.bool (fromB lo n hi)) ∧ w = w' := by
  by_cases h1 : lo ≤ n <;> by_cases h2 : n ≤ hi
  · rw [fromB_t h1 h2]
    go_enter Try.func71, Try.ntmps71
    go_wp2
    go_ret
    exact ⟨rfl, rfl⟩
  · rw [fromB_f (.inr (by omega))]
    have d : decide (n ≤ hi) = false := by simp; omega
    go_enter Try.func71, Try.ntmps71
    go_wp2
    go_ret
    exact ⟨rfl, rfl⟩
  all_goals
    rw [fromB_f (.inl (by omega))]
    have d : decide (lo ≤ n) = false := by simp; omega
    go_enter Try.func71, Try.ntmps71
    go_wp2
    go_ret
    exact ⟨rfl, rfl⟩

theorem below_any (n b : Int) (w : World) :
    Calls Try.prog 52 #[.int .i64 n, .int .i64 b] w fun e w' => e = .returned (.bool (belowB n b)) ∧ w = w' := by
  by_cases h1 : 0 ≤ n <;> by_cases h2 : n < b
  · rw [belowB_t h1 h2]
    go_enter Try.func52, Try.ntmps52
    go_wp2
    go_ret
    exact ⟨rfl, rfl⟩
  · rw [belowB_f (.inr (by omega))]
    have d : decide (n < b) = false := by simp; omega
    go_enter Try.func52, Try.ntmps52
    go_wp2
    go_ret
    exact ⟨rfl, rfl⟩
  all_goals
    rw [belowB_f (.inl (by omega))]
    have d : decide (0 ≤ n) = false := by simp; omega
    go_enter Try.func52, Try.ntmps52
    go_wp2
    go_ret
    exact ⟨rfl, rfl⟩

theorem slots_any (k : Int) (w : World) :
    Calls Try.prog 32 #[.int .i64 k] w fun e w' => e = .returned (.int .i64 (slotsI k)) ∧ w = w' := by
  by_cases h : 0 ≤ k ∧ k < 4
  · obtain rfl | rfl | rfl | rfl := four_cases h
    all_goals
      have hf := belowB_t h.1 h.2
      clear h
      go_enter Try.func32, Try.ntmps32
      go_wp2_with (go_at_call 52; refine (below_any _ _ _).mono ?_; rintro e w' ⟨rfl, rfl⟩)
      go_ret
      exact ⟨rfl, rfl⟩
  · have hf : belowB k 4 = false := belowB_f (by omega)
    rw [slotsI_out h]
    clear h
    go_enter Try.func32, Try.ntmps32
    go_wp2_with (go_at_call 52; refine (below_any _ _ _).mono ?_; rintro e w' ⟨rfl, rfl⟩)
    go_ret
    exact ⟨rfl, rfl⟩

end Go.Proofs.Ytdnahojpeplajaa.Plan
