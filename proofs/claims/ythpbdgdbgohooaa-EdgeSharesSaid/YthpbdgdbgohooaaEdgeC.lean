/- The document's own functions on floats, and the program's that stand on the order: one contract each. -/
import Derived.Test.YthpbdgdbgohooaaEdgeB
import Derived.Test.YthpbdgdbgohooaaFs
namespace Go.Proofs.Ythpbdgdbgohooaa.Edge
open Go.RowKit Fl

theorem eq_zero (b : Nat) : (FloatKind.f64.format.order b 0 == some .eq) = (!nanB b && !ltB b 0 && !ltB 0 b) := by
  rw [order_eq]; unfold eqB ltB
  rw [nan_zero, key_zero]
  cases nanB b
  · simp only [Bool.not_false, Bool.true_and, Bool.and_true]
    by_cases h : key b = 0
    · rw [h]; rfl
    · rw [decide_eq_false h]
      rcases Int.lt_or_gt_of_ne h with g | g
      · rw [decide_eq_true g]; rfl
      · rw [decide_eq_true g]; simp
  · rfl

theorem rkind_any (b : Nat) (hb : b < 18446744073709551616) (w : World) :
    Calls Try.prog 21 #[.float .f64 b] w fun e w' => e = .returned (.int .i64 (kindI b)) ∧ w = w' := by
  have g0 := order_self b
  have g1 := order_lt b 0
  have g2 := eq_zero b
  rcases kinds b with ⟨k, h1, h2, h3, h4, h5⟩ | ⟨k, h1, h2, h3, h4, h5⟩ | ⟨k, h1, h2, h3, h4, h5⟩ | ⟨k, h1, h2, h3, h4, h5⟩ | ⟨k, h1, h2, h3, h4, h5⟩ | ⟨k, h1, h2, h3, h4, h5⟩
  all_goals
    rw [k]
    rw [h1] at g0
    rw [h3] at g1
    rw [h1, h3, h5] at g2
    simp only [Bool.not_true, Bool.not_false, Bool.and_true, Bool.and_false] at g2
    clear k h1 h3 h5
    go_enter Try.func21, Try.ntmps21
    go_wp2_with (first | (go_at_call_of 35 (Value.int .i64 1); refine (isHigh_any _ _).mono ?_; rintro e w' ⟨rfl, rfl⟩) | (go_at_call 35; refine (isLow_any _ hb _).mono ?_; rintro e w' ⟨rfl, rfl⟩))
    go_ret
    exact ⟨rfl, rfl⟩

theorem kind_zero (b : Nat) : (kindI b == 0) = nanB b := by
  rcases kinds b with h | h | h | h | h | h <;> (rw [h.1, h.2.1]; rfl)

theorem rcompare_any (x y : Nat) (hx : x < 18446744073709551616) (hy : y < 18446744073709551616) (w : World) :
    Calls Try.prog 22 #[.float .f64 x, .float .f64 y] w fun e w' => e = .returned (.int .i64 (cmpI (tkey x) (tkey y))) ∧ w = w' := by
  have kx := kind_zero x
  have ky := kind_zero y
  have g1 := order_lt x y
  have g2 := order_gt x y
  unfold ltB at g1 g2
  cases nx : nanB x
  · cases ny : nanB y
    · rw [nx, ny] at g1 g2
      rw [nx] at kx
      rw [ny] at ky
      simp only [Bool.not_false, Bool.true_and] at g1 g2
      rcases Int.lt_trichotomy (key x) (key y) with c | c | c
      · rw [cmpI_lt (tkey_lt nx ny c)]
        rw [decide_eq_true c] at g1
        clear g2 c
        go_enter Try.func22, Try.ntmps22
        go_wp2_with (first | (go_at_call_of 21 x; refine (rkind_any _ hx _).mono ?_; rintro e w' ⟨rfl, rfl⟩) | (go_at_call_of 21 y; refine (rkind_any _ hy _).mono ?_; rintro e w' ⟨rfl, rfl⟩) | (go_at_call_of 36 x; refine (signbit_any _ hx _).mono ?_; rintro e w' ⟨rfl, rfl⟩) | (go_at_call_of 36 y; refine (signbit_any _ hy _).mono ?_; rintro e w' ⟨rfl, rfl⟩))
        go_ret
        exact ⟨rfl, rfl⟩
      · rw [decide_eq_false (by omega)] at g1 g2
        rw [tkey_same nx ny c]
        clear c
        cases sx : sg x <;> cases sy : sg y
        all_goals
          go_enter Try.func22, Try.ntmps22
          go_wp2_with (first | (go_at_call_of 21 x; refine (rkind_any _ hx _).mono ?_; rintro e w' ⟨rfl, rfl⟩) | (go_at_call_of 21 y; refine (rkind_any _ hy _).mono ?_; rintro e w' ⟨rfl, rfl⟩) | (go_at_call_of 36 x; refine (signbit_any _ hx _).mono ?_; rintro e w' ⟨rfl, rfl⟩) | (go_at_call_of 36 y; refine (signbit_any _ hy _).mono ?_; rintro e w' ⟨rfl, rfl⟩))
          go_ret
          exact ⟨rfl, rfl⟩
      · rw [cmpI_gt (tkey_lt ny nx c)]
        rw [decide_eq_true c] at g2
        rw [decide_eq_false (by omega)] at g1
        clear c
        go_enter Try.func22, Try.ntmps22
        go_wp2_with (first | (go_at_call_of 21 x; refine (rkind_any _ hx _).mono ?_; rintro e w' ⟨rfl, rfl⟩) | (go_at_call_of 21 y; refine (rkind_any _ hy _).mono ?_; rintro e w' ⟨rfl, rfl⟩) | (go_at_call_of 36 x; refine (signbit_any _ hx _).mono ?_; rintro e w' ⟨rfl, rfl⟩) | (go_at_call_of 36 y; refine (signbit_any _ hy _).mono ?_; rintro e w' ⟨rfl, rfl⟩))
        go_ret
        exact ⟨rfl, rfl⟩
    · rw [nx] at kx
      rw [ny] at ky
      rw [show cmpI (tkey x) (tkey y) = 1 from cmpI_gt (by have := rg_lt x; unfold tkey; rw [nx, ny]; simp only [if_true, Bool.false_eq_true, if_false]; split <;> omega)]
      have kq : (kindI x == kindI y) = false := by
        have z := kind_zero x; have z2 := kind_zero y
        rw [nx] at z; rw [ny] at z2
        simp at z z2 ⊢; omega
      clear g1 g2
      go_enter Try.func22, Try.ntmps22
      go_wp2_with (first | (go_at_call_of 21 x; refine (rkind_any _ hx _).mono ?_; rintro e w' ⟨rfl, rfl⟩) | (go_at_call_of 21 y; refine (rkind_any _ hy _).mono ?_; rintro e w' ⟨rfl, rfl⟩) | (go_at_call_of 36 x; refine (signbit_any _ hx _).mono ?_; rintro e w' ⟨rfl, rfl⟩) | (go_at_call_of 36 y; refine (signbit_any _ hy _).mono ?_; rintro e w' ⟨rfl, rfl⟩))
      go_ret
      exact ⟨rfl, rfl⟩
  · cases ny : nanB y
    · rw [nx] at kx
      rw [ny] at ky
      rw [show cmpI (tkey x) (tkey y) = -1 from cmpI_lt (by have := rg_lt y; unfold tkey; rw [nx, ny]; simp only [if_true, Bool.false_eq_true, if_false]; split <;> omega)]
      have kq : (kindI x == kindI y) = false := by
        have z := kind_zero x; have z2 := kind_zero y
        rw [nx] at z; rw [ny] at z2
        simp at z z2 ⊢; omega
      clear g1 g2
      go_enter Try.func22, Try.ntmps22
      go_wp2_with (first | (go_at_call_of 21 x; refine (rkind_any _ hx _).mono ?_; rintro e w' ⟨rfl, rfl⟩) | (go_at_call_of 21 y; refine (rkind_any _ hy _).mono ?_; rintro e w' ⟨rfl, rfl⟩) | (go_at_call_of 36 x; refine (signbit_any _ hx _).mono ?_; rintro e w' ⟨rfl, rfl⟩) | (go_at_call_of 36 y; refine (signbit_any _ hy _).mono ?_; rintro e w' ⟨rfl, rfl⟩))
      go_ret
      exact ⟨rfl, rfl⟩
    · rw [nx] at kx
      rw [ny] at ky
      rw [show cmpI (tkey x) (tkey y) = 0 from by unfold tkey; rw [nx, ny]; exact cmpI_self _]
      have kq : (kindI x == kindI y) = true := by
        have z := kind_zero x; have z2 := kind_zero y
        rw [nx] at z; rw [ny] at z2
        simp at z z2 ⊢; omega
      clear g1 g2
      go_enter Try.func22, Try.ntmps22
      go_wp2_with (first | (go_at_call_of 21 x; refine (rkind_any _ hx _).mono ?_; rintro e w' ⟨rfl, rfl⟩) | (go_at_call_of 21 y; refine (rkind_any _ hy _).mono ?_; rintro e w' ⟨rfl, rfl⟩) | (go_at_call_of 36 x; refine (signbit_any _ hx _).mono ?_; rintro e w' ⟨rfl, rfl⟩) | (go_at_call_of 36 y; refine (signbit_any _ hy _).mono ?_; rintro e w' ⟨rfl, rfl⟩))
      go_ret
      exact ⟨rfl, rfl⟩

theorem rsame_any (x y : Nat) (hx : x < 18446744073709551616) (hy : y < 18446744073709551616) (w : World) :
    Calls Try.prog 24 #[.float .f64 x, .float .f64 y] w fun e w' => e = .returned (.bool (sameB x y)) ∧ w = w' := by
  unfold sameB
  rcases Int.lt_trichotomy (tkey x) (tkey y) with c | c | c
  · rw [decide_eq_false (by omega)]
    have hq := cmpI_lt c
    clear c
    go_enter Try.func24, Try.ntmps24
    go_wp2_with (go_at_call 22; refine (rcompare_any _ _ hx hy _).mono ?_; rintro e w' ⟨rfl, rfl⟩)
    go_ret
    exact ⟨rfl, rfl⟩
  · rw [decide_eq_true c]
    have hq : cmpI (tkey x) (tkey y) = 0 := by rw [c]; exact cmpI_self _
    clear c
    go_enter Try.func24, Try.ntmps24
    go_wp2_with (go_at_call 22; refine (rcompare_any _ _ hx hy _).mono ?_; rintro e w' ⟨rfl, rfl⟩)
    go_ret
    exact ⟨rfl, rfl⟩
  · rw [decide_eq_false (by omega)]
    have hq := cmpI_gt c
    clear c
    go_enter Try.func24, Try.ntmps24
    go_wp2_with (go_at_call 22; refine (rcompare_any _ _ hx hy _).mono ?_; rintro e w' ⟨rfl, rfl⟩)
    go_ret
    exact ⟨rfl, rfl⟩

theorem lsame_any (x y : Nat) (hx : x < 18446744073709551616) (hy : y < 18446744073709551616) (w : World) :
    Calls Try.prog 15 #[.float .f64 x, .float .f64 y] w fun e w' => e = .returned (.bool (sameB x y)) ∧ w = w' := by
  go_enter Try.func15, Try.ntmps15
  go_wp2_with (go_at_call 24; refine (rsame_any _ _ hx hy _).mono ?_; rintro e w' ⟨rfl, rfl⟩)
  go_ret
  exact ⟨rfl, rfl⟩

theorem nan_any (w : World) : Calls Try.prog 10 #[] w fun e w' => e = .returned (.float .f64 9221120237041090561) ∧ w = w' := by
  have hr := frombits_run
  go_enter Try.func10, Try.ntmps10
  go_wp2
  go_ret
  exact ⟨rfl, rfl⟩

theorem inf_any (n : Int) (w : World) : Calls Try.prog 11 #[.int .i64 n] w fun e w' => e = .returned (.float .f64 (if n < 0 then 18442240474082181120 else 9218868437227405312)) ∧ w = w' := by
  have hr := frombits_run
  by_cases h : n < 0
  · rw [if_pos h]
    go_enter Try.func11, Try.ntmps11
    go_wp2
    go_ret
    exact ⟨rfl, rfl⟩
  · rw [if_neg h]
    go_enter Try.func11, Try.ntmps11
    go_wp2
    go_ret
    exact ⟨rfl, rfl⟩

theorem ratio_any (a b : Int) (ha : a.natAbs ≤ 9223372036854775808) (hb : b.natAbs ≤ 9223372036854775808) (w : World) :
    Calls Try.prog 16 #[.int .i64 a, .int .i64 b] w fun e w' => e = .returned (.float .f64 (ratioB a b)) ∧ w = w' := by
  unfold ratioB
  by_cases h : b = 0
  · rw [if_pos h]
    subst h
    by_cases h1 : a = 0
    · rw [if_pos h1]
      subst h1
      clear ha hb
      go_enter Try.func16, Try.ntmps16
      go_wp2_with (first | (go_at_call 11; refine (inf_any _ _).mono ?_; rintro e w' ⟨rfl, rfl⟩) | (go_at_call 10; refine (nan_any _).mono ?_; rintro e w' ⟨rfl, rfl⟩))
      go_ret
      exact ⟨rfl, rfl⟩
    · rw [if_neg h1]
      have hz : (a == 0) = false := by simpa using h1
      have hz2 : (a != 0) = true := by simpa using h1
      clear h1 ha hb
      by_cases h2 : a < 0
      · rw [if_pos h2]
        go_enter Try.func16, Try.ntmps16
        go_wp2_with (first | (go_at_call 11; refine (inf_any _ _).mono ?_; rintro e w' ⟨rfl, rfl⟩) | (go_at_call 10; refine (nan_any _).mono ?_; rintro e w' ⟨rfl, rfl⟩))
        go_ret
        exact ⟨by simp, rfl⟩
      · rw [if_neg h2]
        go_enter Try.func16, Try.ntmps16
        go_wp2_with (first | (go_at_call 11; refine (inf_any _ _).mono ?_; rintro e w' ⟨rfl, rfl⟩) | (go_at_call 10; refine (nan_any _).mono ?_; rintro e w' ⟨rfl, rfl⟩))
        go_ret
        exact ⟨by simp, rfl⟩
  · rw [if_neg h]
    have hq : ∀ W : World, (binOp .quo 23 (.float .f64 (floatOfInt .f64 a)) (.float .f64 (floatOfInt .f64 b))).run Try.prog W = .ok (.float .f64 (quoB (ofI a) (ofI b))) W :=
      fun W => run_float_arith W _ _ _ _ _ _ (quo_is a b ha hb h).1
    have hz : (b != 0) = true := by simpa using h
    clear h ha hb
    go_enter Try.func16, Try.ntmps16
    go_wp2
    go_ret
    exact ⟨rfl, rfl⟩

theorem rratio_any (a b : Int) (ha : a.natAbs ≤ 9223372036854775808) (hb : b.natAbs ≤ 9223372036854775808) (w : World) :
    Calls Try.prog 26 #[.int .i64 a, .int .i64 b] w fun e w' => e = .returned (.float .f64 (ratioB a b)) ∧ w = w' := by
  unfold ratioB
  by_cases h : b = 0
  · rw [if_pos h]
    subst h
    by_cases h1 : a = 0
    · rw [if_pos h1]
      subst h1
      clear ha hb
      go_enter Try.func26, Try.ntmps26
      go_wp2_with (first | (go_at_call 11; refine (inf_any _ _).mono ?_; rintro e w' ⟨rfl, rfl⟩) | (go_at_call 10; refine (nan_any _).mono ?_; rintro e w' ⟨rfl, rfl⟩))
      go_ret
      exact ⟨rfl, rfl⟩
    · rw [if_neg h1]
      have hz : (a == 0) = false := by simpa using h1
      have hz2 : (a != 0) = true := by simpa using h1
      clear h1 ha hb
      by_cases h2 : a < 0
      · rw [if_pos h2]
        go_enter Try.func26, Try.ntmps26
        go_wp2_with (first | (go_at_call 11; refine (inf_any _ _).mono ?_; rintro e w' ⟨rfl, rfl⟩) | (go_at_call 10; refine (nan_any _).mono ?_; rintro e w' ⟨rfl, rfl⟩))
        go_ret
        exact ⟨by simp, rfl⟩
      · rw [if_neg h2]
        go_enter Try.func26, Try.ntmps26
        go_wp2_with (first | (go_at_call 11; refine (inf_any _ _).mono ?_; rintro e w' ⟨rfl, rfl⟩) | (go_at_call 10; refine (nan_any _).mono ?_; rintro e w' ⟨rfl, rfl⟩))
        go_ret
        exact ⟨by simp, rfl⟩
  · rw [if_neg h]
    have hq : ∀ W : World, (binOp .quo 23 (.float .f64 (floatOfInt .f64 a)) (.float .f64 (floatOfInt .f64 b))).run Try.prog W = .ok (.float .f64 (quoB (ofI a) (ofI b))) W :=
      fun W => run_float_arith W _ _ _ _ _ _ (quo_is a b ha hb h).1
    have hz : (b != 0) = true := by simpa using h
    clear h ha hb
    go_enter Try.func26, Try.ntmps26
    go_wp2
    go_ret
    exact ⟨rfl, rfl⟩

end Go.Proofs.Ythpbdgdbgohooaa.Edge
