/- Package plan, and the document's: what takes no shape: a contract each. -/
import Derived.Test.YtfgkjfneeggbjaaChecked
import Derived.Test.YtfgkjfneeggbjaaMem
import Derived.Test.YtfgkjfneeggbjaaPlanM
import Derived.WalkLawsBesides
import Derived.WalkSpells
namespace Go.Proofs.Ytfgkjfneeggbjaa.Plan
open Go.RowKit Mem

theorem from_any (lo n hi : Int) (w : World) :
    Calls Try.prog 27 #[.int .i64 lo, .int .i64 n, .int .i64 hi] w fun e w' => e = .returned (.bool (fromB lo n hi)) ∧ w = w' := by
  by_cases h1 : lo ≤ n <;> by_cases h2 : n ≤ hi
  · rw [fromB_t h1 h2]
    go_enter Try.func27, Try.ntmps27
    go_wp2
    go_ret
    exact ⟨rfl, rfl⟩
  · rw [fromB_f (.inr (by omega))]
    have d : decide (n ≤ hi) = false := by simp; omega
    go_enter Try.func27, Try.ntmps27
    go_wp2
    go_ret
    exact ⟨rfl, rfl⟩
  all_goals
    rw [fromB_f (.inl (by omega))]
    have d : decide (lo ≤ n) = false := by simp; omega
    go_enter Try.func27, Try.ntmps27
    go_wp2
    go_ret
    exact ⟨rfl, rfl⟩

theorem below_any (n b : Int) (w : World) :
    Calls Try.prog 54 #[.int .i64 n, .int .i64 b] w fun e w' => e = .returned (.bool (belowB n b)) ∧ w = w' := by
  by_cases h1 : 0 ≤ n <;> by_cases h2 : n < b
  · rw [belowB_t h1 h2]
    go_enter Try.func54, Try.ntmps54
    go_wp2
    go_ret
    exact ⟨rfl, rfl⟩
  · rw [belowB_f (.inr (by omega))]
    have d : decide (n < b) = false := by simp; omega
    go_enter Try.func54, Try.ntmps54
    go_wp2
    go_ret
    exact ⟨rfl, rfl⟩
  all_goals
    rw [belowB_f (.inl (by omega))]
    have d : decide (0 ≤ n) = false := by simp; omega
    go_enter Try.func54, Try.ntmps54
    go_wp2
    go_ret
    exact ⟨rfl, rfl⟩

set_option maxRecDepth 100000 in
theorem len64_0 (w : World) :
    Calls Try.prog 57 #[.int .u64 0] w fun e w' => e = .returned (.int .i64 (lenI 0)) ∧ w = w' := by
  go_enter Try.func57, Try.ntmps57
  go_wp2
  go_ret
  exact ⟨by kernel_rfl, rfl⟩
set_option maxRecDepth 100000 in
theorem len64_1 (w : World) :
    Calls Try.prog 57 #[.int .u64 1] w fun e w' => e = .returned (.int .i64 (lenI 1)) ∧ w = w' := by
  go_enter Try.func57, Try.ntmps57
  go_wp2
  go_ret
  exact ⟨by kernel_rfl, rfl⟩
set_option maxRecDepth 100000 in
theorem len64_2 (w : World) :
    Calls Try.prog 57 #[.int .u64 2] w fun e w' => e = .returned (.int .i64 (lenI 2)) ∧ w = w' := by
  go_enter Try.func57, Try.ntmps57
  go_wp2
  go_ret
  exact ⟨by kernel_rfl, rfl⟩
set_option maxRecDepth 100000 in
theorem len64_3 (w : World) :
    Calls Try.prog 57 #[.int .u64 3] w fun e w' => e = .returned (.int .i64 (lenI 3)) ∧ w = w' := by
  go_enter Try.func57, Try.ntmps57
  go_wp2
  go_ret
  exact ⟨by kernel_rfl, rfl⟩
set_option maxRecDepth 100000 in
theorem len64_4 (w : World) :
    Calls Try.prog 57 #[.int .u64 4] w fun e w' => e = .returned (.int .i64 (lenI 4)) ∧ w = w' := by
  go_enter Try.func57, Try.ntmps57
  go_wp2
  go_ret
  exact ⟨by kernel_rfl, rfl⟩
set_option maxRecDepth 100000 in
theorem len64_5 (w : World) :
    Calls Try.prog 57 #[.int .u64 5] w fun e w' => e = .returned (.int .i64 (lenI 5)) ∧ w = w' := by
  go_enter Try.func57, Try.ntmps57
  go_wp2
  go_ret
  exact ⟨by kernel_rfl, rfl⟩
set_option maxRecDepth 100000 in
theorem len64_6 (w : World) :
    Calls Try.prog 57 #[.int .u64 6] w fun e w' => e = .returned (.int .i64 (lenI 6)) ∧ w = w' := by
  go_enter Try.func57, Try.ntmps57
  go_wp2
  go_ret
  exact ⟨by kernel_rfl, rfl⟩
set_option maxRecDepth 100000 in
theorem len64_7 (w : World) :
    Calls Try.prog 57 #[.int .u64 7] w fun e w' => e = .returned (.int .i64 (lenI 7)) ∧ w = w' := by
  go_enter Try.func57, Try.ntmps57
  go_wp2
  go_ret
  exact ⟨by kernel_rfl, rfl⟩

theorem len64_any (x : Int) (h1 : 0 ≤ x) (h2 : x < 8) (w : World) :
    Calls Try.prog 57 #[.int .u64 x] w fun e w' => e = .returned (.int .i64 (lenI x)) ∧ w = w' := by
  obtain rfl | rfl | rfl | rfl | rfl | rfl | rfl | rfl : x = 0 ∨ x = 1 ∨ x = 2 ∨ x = 3 ∨ x = 4 ∨ x = 5 ∨ x = 6 ∨ x = 7 := by omega
  · exact len64_0 w
  · exact len64_1 w
  · exact len64_2 w
  · exact len64_3 w
  · exact len64_4 w
  · exact len64_5 w
  · exact len64_6 w
  · exact len64_7 w

theorem len_any (x : Int) (h1 : 0 ≤ x) (h2 : x < 8) (w : World) :
    Calls Try.prog 53 #[.int .u64 x] w fun e w' => e = .returned (.int .i64 (lenI x)) ∧ w = w' := by
  go_enter Try.func53, Try.ntmps53
  go_wp2_with (go_at_call 57; refine (len64_any x h1 h2 _).mono ?_; rintro e w' ⟨rfl, rfl⟩)
  go_ret
  exact ⟨rfl, rfl⟩

theorem class_any (n : Int) (w : World) :
    Calls Try.prog 48 #[.int .i64 n] w fun e w' => e = .returned (.tuple #[.int .i64 (classI n), .bool (classB n)]) ∧ w = w' := by
  by_cases h : 1 ≤ n ∧ n ≤ 32
  · obtain ⟨h1, h2⟩ := h
    have hb : classB n = true := fromB_t h1 h2
    rw [hb, ← classI_len h1 h2]
    have hf : fromB 1 n 32 = true := hb
    clear hb
    go_enter Try.func48, Try.ntmps48
    go_wp2_with (first | (go_at_call 27; refine (from_any _ _ _ _).mono ?_; rintro e w' ⟨rfl, rfl⟩) | (go_at_call 53; refine (len_any _ (by omega) (by omega) _).mono ?_; rintro e w' ⟨rfl, rfl⟩))
    go_ret2
    exact ⟨rfl, rfl⟩
  · have hb : classB n = false := fromB_f (by omega)
    rw [hb, classI_out (by omega)]
    have hf : fromB 1 n 32 = false := hb
    clear hb h
    go_enter Try.func48, Try.ntmps48
    go_wp2_with (go_at_call 27; refine (from_any _ _ _ _).mono ?_; rintro e w' ⟨rfl, rfl⟩)
    go_ret2
    exact ⟨rfl, rfl⟩

theorem run_any (n : Int) (w : World) :
    Calls Try.prog 50 #[.int .i64 n] w fun e w' => e = .returned (.tuple #[.int .i64 (runI n), .bool (runB n)]) ∧ w = w' := by
  by_cases h : 33 ≤ n ∧ n ≤ 512
  · obtain ⟨h1, h2⟩ := h
    have hb : runB n = true := fromB_t h1 h2
    rw [hb, show runI n = (n + 64 - 1) / 64 from by rw [runI_in h1 h2]; omega]
    have hf : fromB 33 n 512 = true := hb
    clear hb
    go_enter Try.func50, Try.ntmps50
    go_wp2_with (go_at_call 27; refine (from_any _ _ _ _).mono ?_; rintro e w' ⟨rfl, rfl⟩)
    go_ret2
    exact ⟨rfl, rfl⟩
  · have hb : runB n = false := fromB_f (by omega)
    rw [hb, runI_out (by omega)]
    have hf : fromB 33 n 512 = false := hb
    clear hb h
    go_enter Try.func50, Try.ntmps50
    go_wp2_with (go_at_call 27; refine (from_any _ _ _ _).mono ?_; rintro e w' ⟨rfl, rfl⟩)
    go_ret2
    exact ⟨rfl, rfl⟩

theorem size_any (k : Int) (w : World) :
    Calls Try.prog 49 #[.int .i64 k] w fun e w' => e = .returned (.int .i64 (sizeI k)) ∧ w = w' := by
  by_cases h : 0 ≤ k ∧ k < 4
  · obtain rfl | rfl | rfl | rfl := four_cases h
    all_goals
      have hf := belowB_t h.1 h.2
      clear h
      go_enter Try.func49, Try.ntmps49
      go_wp2_with (go_at_call 54; refine (below_any _ _ _).mono ?_; rintro e w' ⟨rfl, rfl⟩)
      go_ret
      exact ⟨rfl, rfl⟩
  · have hf : belowB k 4 = false := belowB_f (by omega)
    rw [sizeI_out h]
    clear h
    go_enter Try.func49, Try.ntmps49
    go_wp2_with (go_at_call 54; refine (below_any _ _ _).mono ?_; rintro e w' ⟨rfl, rfl⟩)
    go_ret
    exact ⟨rfl, rfl⟩

theorem length_any (n : Int) (w : World) :
    Calls Try.prog 42 #[.int .i64 n] w fun e w' => e = .returned (.tuple #[.int .i64 (lengthI n), .bool (lengthB n)]) ∧ w = w' := by
  by_cases h : 1 ≤ n ∧ n ≤ 32
  · have hb : lengthB n = true := fromB_t h.1 (by omega)
    have hc : classB n = true := fromB_t h.1 h.2
    rw [hb, length_class h.1 h.2]
    clear hb h
    go_enter Try.func42, Try.ntmps42
    go_wp2_with (first | (go_at_call 48; refine (class_any _ _).mono ?_; rintro e w' ⟨rfl, rfl⟩) | (go_at_call 49; refine (size_any _ _).mono ?_; rintro e w' ⟨rfl, rfl⟩))
    go_ret2
    exact ⟨rfl, rfl⟩
  · have hc : classB n = false := fromB_f (by omega)
    rw [lengthB_run h, length_run h]
    have hr := runI_bd n
    have hr1 := hr.1
    have hr2 := hr.2
    clear h hr
    go_enter Try.func42, Try.ntmps42
    go_wp2_with (first | (go_at_call 48; refine (class_any _ _).mono ?_; rintro e w' ⟨rfl, rfl⟩) | (go_at_call 50; refine (run_any _ _).mono ?_; rintro e w' ⟨rfl, rfl⟩))
    go_ret2
    exact ⟨rfl, rfl⟩

end Go.Proofs.Ytfgkjfneeggbjaa.Plan
