/- EdgeRatios: the walk. -/
import Derived.Test.YthpbdgdbgohooaaFt
import Derived.Test.YthpbdgdbgohooaaReckonsW
namespace Go.Proofs.Ythpbdgdbgohooaa.Edge
open Go.RowKit Fl

theorem int32_range {a : Int} (h : (Lit.int .i32 a).wf = true) : -2147483648 ≤ a ∧ a ≤ 2147483647 := by
  simpa [Lit.wf, IntKind.min, IntKind.max, IntKind.signed, IntKind.bits] using h

set_option maxHeartbeats 1000000 in
set_option maxRecDepth 100000 in
theorem ratios_zero (a : Int) (w : World) (a1 : -2147483648 ≤ a) (a2 : a ≤ 2147483647) :
    Calls Try.prog 8 #[.int .i32 a, .int .i32 0] w fun e w' => e = .returned (.bool true) ∧ w = w' := by
  have ha : a.natAbs ≤ 9223372036854775808 := by omega
  have hr : ratioB a 0 = (if a = 0 then 9221120237041090561 else if a < 0 then 18442240474082181120 else 9218868437227405312) := by unfold ratioB; rw [if_pos rfl]
  rcases Int.lt_trichotomy a 0 with c | c | c
  · rw [if_neg (by omega), if_pos c] at hr
    have k := show kindI 18442240474082181120 = 1 by decide
    have K := Lib.hid k
    have R := Lib.hid hr
    clear k hr
    go_enter Try.func8, Try.ntmps8
    go_wp2_with (first | (go_at_call 9; refine (awake_any _).mono ?_; rintro e w' ⟨rfl, rfl⟩) | (go_at_call 16; refine (ratio_any _ _ ha (by decide) _).mono ?_; rintro e w' ⟨rfl, rfl⟩; rw [R.out]) | (go_at_call 20; refine (kind_any _ (by decide) _).mono ?_; rintro e w' ⟨rfl, rfl⟩; rw [K.out]))
    go_ret
    exact ⟨rfl, rfl⟩
  · subst c
    rw [if_pos rfl] at hr
    have k := show kindI 9221120237041090561 = 0 by decide
    have K := Lib.hid k
    have R := Lib.hid hr
    clear k hr
    go_enter Try.func8, Try.ntmps8
    go_wp2_with (first | (go_at_call 9; refine (awake_any _).mono ?_; rintro e w' ⟨rfl, rfl⟩) | (go_at_call 16; refine (ratio_any _ _ ha (by decide) _).mono ?_; rintro e w' ⟨rfl, rfl⟩; rw [R.out]) | (go_at_call 20; refine (kind_any _ (by decide) _).mono ?_; rintro e w' ⟨rfl, rfl⟩; rw [K.out]))
    go_ret
    exact ⟨rfl, rfl⟩
  · rw [if_neg (by omega), if_neg (by omega)] at hr
    have k := show kindI 9218868437227405312 = 5 by decide
    have K := Lib.hid k
    have R := Lib.hid hr
    clear k hr
    go_enter Try.func8, Try.ntmps8
    go_wp2_with (first | (go_at_call 9; refine (awake_any _).mono ?_; rintro e w' ⟨rfl, rfl⟩) | (go_at_call 16; refine (ratio_any _ _ ha (by decide) _).mono ?_; rintro e w' ⟨rfl, rfl⟩; rw [R.out]) | (go_at_call 20; refine (kind_any _ (by decide) _).mono ?_; rintro e w' ⟨rfl, rfl⟩; rw [K.out]))
    go_ret
    exact ⟨rfl, rfl⟩

set_option maxHeartbeats 4000000 in
set_option maxRecDepth 100000 in
theorem ratios_any (a b : Int) (w : World) (a1 : -2147483648 ≤ a) (a2 : a ≤ 2147483647) (b1 : -2147483648 ≤ b) (b2 : b ≤ 2147483647) (h0 : b ≠ 0) :
    Calls Try.prog 8 #[.int .i32 a, .int .i32 b] w fun e w' => e = .returned (.bool true) ∧ w = w' := by
  have ha : a.natAbs ≤ 9223372036854775808 := by omega
  have hn : (-a).natAbs ≤ 9223372036854775808 := by omega
  have hb : b.natAbs ≤ 9223372036854775808 := by omega
  obtain ⟨X, Y, z, d, x1, x2, x3, x4, x5, x6, x7, x8, x9, x10, x11⟩ := ratio_facts a b (by omega) (by omega) h0
  have m1 : ∀ W : World, (binOp .mul 23 (.float .f64 X) (.float .f64 (floatOfInt .f64 b))).run Try.prog W = .ok (.float .f64 z) W := fun W => run_float_arith W _ _ _ _ _ _ x8
  have m2 : ∀ W : World, (binOp .sub 23 (.float .f64 z) (.float .f64 (floatOfInt .f64 a))).run Try.prog W = .ok (.float .f64 d) W := fun W => run_float_arith W _ _ _ _ _ _ x9
  have R1 := Lib.hid x1
  have R2 := Lib.hid x2
  have hbz : (b == 0) = false := by simpa using h0
  clear x1 x2 x8 x9
  rcases Int.lt_trichotomy a 0 with c | c | c
  · have hz : (a == 0) = false := by simp; omega
    have ha0 : a ≠ 0 := by omega
    rw [if_neg ha0] at x6
    have s1 := x7 ha0
    have ca : decide (a < 0) = true := by simp; omega
    clear x7 ha0
    rcases Int.lt_or_gt_of_ne h0 with g | g
    · have cb : decide (b < 0) = true := by simp; omega
      have cs : (decide (0 < a) == decide (0 < b)) = true := by rw [decide_eq_false (by omega), decide_eq_false (by omega)]; rfl
      rw [ca, cb] at x6
      replace x6 : kindI X = 4 := x6
      clear h0 ca cb
      go_enter Try.func8, Try.ntmps8
      go_wp2_with (first | (go_at_call 9; refine (awake_any _).mono ?_; rintro e w' ⟨rfl, rfl⟩) | (go_at_call_of 16 (Value.int .i64 a); refine (ratio_any _ _ ha hb _).mono ?_; rintro e w' ⟨rfl, rfl⟩; rw [R1.out]) | (go_at_call_of 16 (Value.int .i64 (-a)); refine (ratio_any _ _ hn hb _).mono ?_; rintro e w' ⟨rfl, rfl⟩; rw [R2.out]) | (go_at_call 20; refine (kind_any _ x3 _).mono ?_; rintro e w' ⟨rfl, rfl⟩) | (go_at_call 15; refine (lsame_any _ _ x4 x5 _).mono ?_; rintro e w' ⟨rfl, rfl⟩))
      go_ret
      exact ⟨rfl, rfl⟩
    · have cb : decide (b < 0) = false := by simp; omega
      have cs : (decide (0 < a) == decide (0 < b)) = false := by rw [decide_eq_false (by omega), decide_eq_true (by omega)]; rfl
      rw [ca, cb] at x6
      replace x6 : kindI X = 2 := x6
      clear h0 ca cb
      go_enter Try.func8, Try.ntmps8
      go_wp2_with (first | (go_at_call 9; refine (awake_any _).mono ?_; rintro e w' ⟨rfl, rfl⟩) | (go_at_call_of 16 (Value.int .i64 a); refine (ratio_any _ _ ha hb _).mono ?_; rintro e w' ⟨rfl, rfl⟩; rw [R1.out]) | (go_at_call_of 16 (Value.int .i64 (-a)); refine (ratio_any _ _ hn hb _).mono ?_; rintro e w' ⟨rfl, rfl⟩; rw [R2.out]) | (go_at_call 20; refine (kind_any _ x3 _).mono ?_; rintro e w' ⟨rfl, rfl⟩) | (go_at_call 15; refine (lsame_any _ _ x4 x5 _).mono ?_; rintro e w' ⟨rfl, rfl⟩))
      go_ret
      exact ⟨rfl, rfl⟩
  · subst c
    rw [if_pos rfl] at x6
    clear x7 R2
    rcases Int.lt_or_gt_of_ne h0 with g | g
    all_goals
      clear h0
      go_enter Try.func8, Try.ntmps8
      go_wp2_with (first | (go_at_call 9; refine (awake_any _).mono ?_; rintro e w' ⟨rfl, rfl⟩) | (go_at_call 16; refine (ratio_any _ _ ha hb _).mono ?_; rintro e w' ⟨rfl, rfl⟩; rw [R1.out]) | (go_at_call 20; refine (kind_any _ x3 _).mono ?_; rintro e w' ⟨rfl, rfl⟩))
      go_ret
      exact ⟨rfl, rfl⟩
  · have hz : (a == 0) = false := by simp; omega
    have ha0 : a ≠ 0 := by omega
    rw [if_neg ha0] at x6
    have s1 := x7 ha0
    have ca : decide (a < 0) = false := by simp; omega
    clear x7 ha0
    rcases Int.lt_or_gt_of_ne h0 with g | g
    · have cb : decide (b < 0) = true := by simp; omega
      have cs : (decide (0 < a) == decide (0 < b)) = false := by rw [decide_eq_true (by omega), decide_eq_false (by omega)]; rfl
      rw [ca, cb] at x6
      replace x6 : kindI X = 2 := x6
      clear h0 ca cb
      go_enter Try.func8, Try.ntmps8
      go_wp2_with (first | (go_at_call 9; refine (awake_any _).mono ?_; rintro e w' ⟨rfl, rfl⟩) | (go_at_call_of 16 (Value.int .i64 a); refine (ratio_any _ _ ha hb _).mono ?_; rintro e w' ⟨rfl, rfl⟩; rw [R1.out]) | (go_at_call_of 16 (Value.int .i64 (-a)); refine (ratio_any _ _ hn hb _).mono ?_; rintro e w' ⟨rfl, rfl⟩; rw [R2.out]) | (go_at_call 20; refine (kind_any _ x3 _).mono ?_; rintro e w' ⟨rfl, rfl⟩) | (go_at_call 15; refine (lsame_any _ _ x4 x5 _).mono ?_; rintro e w' ⟨rfl, rfl⟩))
      go_ret
      exact ⟨rfl, rfl⟩
    · have cb : decide (b < 0) = false := by simp; omega
      have cs : (decide (0 < a) == decide (0 < b)) = true := by rw [decide_eq_true (by omega), decide_eq_true (by omega)]; rfl
      rw [ca, cb] at x6
      replace x6 : kindI X = 4 := x6
      clear h0 ca cb
      go_enter Try.func8, Try.ntmps8
      go_wp2_with (first | (go_at_call 9; refine (awake_any _).mono ?_; rintro e w' ⟨rfl, rfl⟩) | (go_at_call_of 16 (Value.int .i64 a); refine (ratio_any _ _ ha hb _).mono ?_; rintro e w' ⟨rfl, rfl⟩; rw [R1.out]) | (go_at_call_of 16 (Value.int .i64 (-a)); refine (ratio_any _ _ hn hb _).mono ?_; rintro e w' ⟨rfl, rfl⟩; rw [R2.out]) | (go_at_call 20; refine (kind_any _ x3 _).mono ?_; rintro e w' ⟨rfl, rfl⟩) | (go_at_call 15; refine (lsame_any _ _ x4 x5 _).mono ?_; rintro e w' ⟨rfl, rfl⟩))
      go_ret
      exact ⟨rfl, rfl⟩

theorem ratios_walk (a b : Int) (w : World) (ha : (Lit.int .i32 a).wf = true) (hb : (Lit.int .i32 b).wf = true) :
    Calls Try.prog 8 #[.int .i32 a, .int .i32 b] w fun e w' => e = .returned (.bool true) ∧ Below w.heap.size w w' := by
  obtain ⟨a1, a2⟩ := int32_range ha
  obtain ⟨b1, b2⟩ := int32_range hb
  by_cases h : b = 0
  · subst h
    exact (ratios_zero a w a1 a2).mono fun e w' ⟨h, g⟩ => ⟨h, by rw [g]; exact Below.refl _ _⟩
  · exact (ratios_any a b w a1 a2 b1 b2 h).mono fun e w' ⟨h, g⟩ => ⟨h, by rw [g]; exact Below.refl _ _⟩

end Go.Proofs.Ythpbdgdbgohooaa.Edge
