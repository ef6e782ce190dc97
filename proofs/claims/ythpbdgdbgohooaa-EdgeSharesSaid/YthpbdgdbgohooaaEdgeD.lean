/- Shares, what lies between two bounds, and what every statement asks first: one contract each. -/
import Derived.Test.YthpbdgdbgohooaaEdgeC
namespace Go.Proofs.Ythpbdgdbgohooaa.Edge
open Go.RowKit Fl

theorem ge_one (x : Nat) (h : nanB x = false) : (FloatKind.f64.format.order x 4607182418800017408 == some .gt || FloatKind.f64.format.order x 4607182418800017408 == some .eq) = decide (4607182418800017408 ≤ key x) := by
  rw [order_gt, order_eq]; unfold ltB eqB
  rw [h, show nanB 4607182418800017408 = false from by decide, show key 4607182418800017408 = 4607182418800017408 from by decide]
  simp only [Bool.not_false, Bool.true_and]
  by_cases c : 4607182418800017408 ≤ key x
  · rw [decide_eq_true c]
    by_cases e : key x = 4607182418800017408
    · rw [decide_eq_true e]; simp
    · rw [decide_eq_true (show 4607182418800017408 < key x by omega)]; rfl
  · rw [decide_eq_false c, decide_eq_false (by omega), decide_eq_false (by omega)]; rfl

theorem kind_three (x : Nat) (h : 3 ≤ kindI x) : nanB x = false ∧ ltB x 0 = false := by
  rcases kinds x with k | k | k | k | k | k
  · omega
  · omega
  · omega
  · exact ⟨k.2.1, k.2.2.2.1⟩
  · exact ⟨k.2.1, k.2.2.2.1⟩
  · exact ⟨k.2.1, k.2.2.2.1⟩

theorem kind_under (x : Nat) (h : kindI x < 3) : (nanB x = true ∧ ltB x 0 = false) ∨ (nanB x = false ∧ ltB x 0 = true) := by
  rcases kinds x with k | k | k | k | k | k
  · exact .inl ⟨k.2.1, k.2.2.2.1⟩
  · exact .inr ⟨k.2.1, k.2.2.2.1⟩
  · exact .inr ⟨k.2.1, k.2.2.2.1⟩
  · omega
  · omega
  · omega

theorem share_any (x : Nat) (n : Int) (hx : x < 18446744073709551616) (hn0 : -9223372036854775808 ≤ n) (hn1 : n ≤ 9223372036854775807) (w : World) :
    Calls Try.prog 17 #[.float .f64 x, .int .i64 n] w fun e w' => e = .returned (.int .i64 (shareI x n)) ∧ w = w' := by
  unfold shareI
  by_cases h1 : n < 1
  · rw [if_pos (.inl h1)]
    go_enter Try.func17, Try.ntmps17
    go_wp2_with (go_at_call 20; refine (kind_any _ hx _).mono ?_; rintro e w' ⟨rfl, rfl⟩)
    go_ret
    exact ⟨rfl, rfl⟩
  · by_cases h2 : kindI x < 3
    · rw [if_pos (.inr h2)]
      go_enter Try.func17, Try.ntmps17
      go_wp2_with (go_at_call 20; refine (kind_any _ hx _).mono ?_; rintro e w' ⟨rfl, rfl⟩)
      go_ret
      exact ⟨rfl, rfl⟩
    · rw [if_neg (by omega)]
      have h3 := kind_three x (by omega)
      have g := ge_one x h3.1
      by_cases h4 : 4607182418800017408 ≤ key x
      · rw [if_pos h4]
        rw [decide_eq_true h4] at g
        clear h3 h4
        go_enter Try.func17, Try.ntmps17
        go_wp2_with (go_at_call 20; refine (kind_any _ hx _).mono ?_; rintro e w' ⟨rfl, rfl⟩)
        go_ret
        exact ⟨rfl, rfl⟩
      · rw [if_neg h4]
        rw [decide_eq_false h4] at g
        obtain ⟨d1, d2⟩ := share_dom x (by omega) (by omega)
        obtain ⟨c1, c2, c3, c4⟩ := cut_is x n d1 d2 (by omega) hn1
        have m1 : ∀ W : World, (binOp .mul 23 (.float .f64 x) (.float .f64 (floatOfInt .f64 n))).run Try.prog W = .ok (.float .f64 (prodB x (ofI n))) W :=
          fun W => run_float_arith W _ _ _ _ _ _ c1
        have m2 : ∀ W : World, (convert 23 3 (.float .f64 (prodB x (ofI n)))).run Try.prog W = .ok (.int .i64 (cutI x n)) W :=
          fun W => run_convert_float_int W _ _ _ _ _ _ (by kernel_rfl) Try.underlying3 c2
        clear h3 h4 d1 d2 c1 c2
        by_cases h5 : n - 1 < cutI x n
        · rw [if_pos h5]
          go_enter Try.func17, Try.ntmps17
          go_wp2_with (go_at_call 20; refine (kind_any _ hx _).mono ?_; rintro e w' ⟨rfl, rfl⟩)
          go_ret
          exact ⟨rfl, rfl⟩
        · rw [if_neg h5]
          go_enter Try.func17, Try.ntmps17
          go_wp2_with (go_at_call 20; refine (kind_any _ hx _).mono ?_; rintro e w' ⟨rfl, rfl⟩)
          go_ret
          exact ⟨rfl, rfl⟩

theorem rshare_any (x : Nat) (n : Int) (hx : x < 18446744073709551616) (hn0 : -9223372036854775808 ≤ n) (hn1 : n ≤ 9223372036854775807) (w : World) :
    Calls Try.prog 27 #[.float .f64 x, .int .i64 n] w fun e w' => e = .returned (.int .i64 (shareI x n)) ∧ w = w' := by
  unfold shareI
  by_cases h1 : n < 1
  · rw [if_pos (.inl h1)]
    go_enter Try.func27, Try.ntmps27
    go_wp2_with (go_at_call 21; refine (rkind_any _ hx _).mono ?_; rintro e w' ⟨rfl, rfl⟩)
    go_ret
    exact ⟨rfl, rfl⟩
  · by_cases h2 : kindI x < 3
    · rw [if_pos (.inr h2)]
      have g0 := kind_zero x
      have g1 := order_lt x 0
      rcases kind_under x h2 with ⟨k1, k2⟩ | ⟨k1, k2⟩
      all_goals
        rw [k1] at g0
        rw [k2] at g1
        clear k1 k2 h2
        go_enter Try.func27, Try.ntmps27
        go_wp2_with (go_at_call 21; refine (rkind_any _ hx _).mono ?_; rintro e w' ⟨rfl, rfl⟩)
        go_ret
        exact ⟨rfl, rfl⟩
    · rw [if_neg (by omega)]
      have h3 := kind_three x (by omega)
      have g := ge_one x h3.1
      have g0 := kind_zero x
      have g1 := order_lt x 0
      rw [h3.1] at g0
      rw [h3.2] at g1
      by_cases h4 : 4607182418800017408 ≤ key x
      · rw [if_pos h4]
        rw [decide_eq_true h4] at g
        clear h3 h4
        clear h2
        go_enter Try.func27, Try.ntmps27
        go_wp2_with (go_at_call 21; refine (rkind_any _ hx _).mono ?_; rintro e w' ⟨rfl, rfl⟩)
        go_ret
        exact ⟨rfl, rfl⟩
      · rw [if_neg h4]
        rw [decide_eq_false h4] at g
        obtain ⟨d1, d2⟩ := share_dom x (by omega) (by omega)
        obtain ⟨c1, c2, c3, c4⟩ := cut_is x n d1 d2 (by omega) hn1
        have m1 : ∀ W : World, (binOp .mul 23 (.float .f64 x) (.float .f64 (floatOfInt .f64 n))).run Try.prog W = .ok (.float .f64 (prodB x (ofI n))) W :=
          fun W => run_float_arith W _ _ _ _ _ _ c1
        have m2 : ∀ W : World, (convert 23 3 (.float .f64 (prodB x (ofI n)))).run Try.prog W = .ok (.int .i64 (cutI x n)) W :=
          fun W => run_convert_float_int W _ _ _ _ _ _ (by kernel_rfl) Try.underlying3 c2
        clear h3 h4 d1 d2 c1 c2
        clear h2
        by_cases h5 : n - 1 < cutI x n
        · rw [if_pos h5]
          go_enter Try.func27, Try.ntmps27
          go_wp2_with (go_at_call 21; refine (rkind_any _ hx _).mono ?_; rintro e w' ⟨rfl, rfl⟩)
          go_ret
          exact ⟨rfl, rfl⟩
        · rw [if_neg h5]
          go_enter Try.func27, Try.ntmps27
          go_wp2_with (go_at_call 21; refine (rkind_any _ hx _).mono ?_; rintro e w' ⟨rfl, rfl⟩)
          go_ret
          exact ⟨rfl, rfl⟩

/-- What lies between two bounds. -/
def clampB (x lo hi : Nat) : Nat := if nanB x ∨ nanB lo ∨ nanB hi ∨ tkey hi < tkey lo ∨ tkey x < tkey lo then lo else if tkey hi < tkey x then hi else x

theorem pos_cmp {x y : Int} (h : ¬ y < x) : decide (0 < cmpI x y) = false := by
  rw [decide_eq_false]
  unfold cmpI
  rw [← Int.not_le]
  split
  · omega
  · split <;> omega
theorem neg_cmp {x y : Int} (h : ¬ x < y) : decide (cmpI x y < 0) = false := by
  rw [decide_eq_false]
  unfold cmpI
  split
  · omega
  · split <;> omega
theorem pos_cmp' {x y : Int} (h : y < x) : decide (0 < cmpI x y) = true := by rw [cmpI_gt h]; rfl
theorem neg_cmp' {x y : Int} (h : x < y) : decide (cmpI x y < 0) = true := by rw [cmpI_lt h]; rfl

theorem clamp_any (x lo hi : Nat) (hx : x < 18446744073709551616) (hl : lo < 18446744073709551616) (hh : hi < 18446744073709551616) (w : World) :
    Calls Try.prog 18 #[.float .f64 x, .float .f64 lo, .float .f64 hi] w fun e w' => e = .returned (.float .f64 (clampB x lo hi)) ∧ w = w' := by
  have kx := kind_zero x
  have kl := kind_zero lo
  have kh := kind_zero hi
  unfold clampB
  by_cases n1 : nanB x = true
  · rw [if_pos (.inl n1)]
    rw [n1] at kx
    go_enter Try.func18, Try.ntmps18
    go_wp2_with (first | (go_at_call_of 20 x; refine (kind_any _ hx _).mono ?_; rintro e w' ⟨rfl, rfl⟩) | (go_at_call_of 20 lo; refine (kind_any _ hl _).mono ?_; rintro e w' ⟨rfl, rfl⟩) | (go_at_call_of 20 hi; refine (kind_any _ hh _).mono ?_; rintro e w' ⟨rfl, rfl⟩) | (go_at_call 14; first | (go_at_call_of 14 lo; go_at_call_of 14 hi; refine (compare_any _ _ hl hh _).mono ?_; rintro e w' ⟨rfl, rfl⟩) | (go_at_call_of 14 x; go_at_call_of 14 lo; refine (compare_any _ _ hx hl _).mono ?_; rintro e w' ⟨rfl, rfl⟩) | (refine (compare_any _ _ hx hh _).mono ?_; rintro e w' ⟨rfl, rfl⟩)))
    go_ret
    exact ⟨rfl, rfl⟩
  · rw [Bool.eq_false_iff.2 n1] at kx
    by_cases n2 : nanB lo = true
    · rw [if_pos (.inr (.inl n2))]
      rw [n2] at kl
      clear n1
      go_enter Try.func18, Try.ntmps18
      go_wp2_with (first | (go_at_call_of 20 x; refine (kind_any _ hx _).mono ?_; rintro e w' ⟨rfl, rfl⟩) | (go_at_call_of 20 lo; refine (kind_any _ hl _).mono ?_; rintro e w' ⟨rfl, rfl⟩) | (go_at_call_of 20 hi; refine (kind_any _ hh _).mono ?_; rintro e w' ⟨rfl, rfl⟩) | (go_at_call 14; first | (go_at_call_of 14 lo; go_at_call_of 14 hi; refine (compare_any _ _ hl hh _).mono ?_; rintro e w' ⟨rfl, rfl⟩) | (go_at_call_of 14 x; go_at_call_of 14 lo; refine (compare_any _ _ hx hl _).mono ?_; rintro e w' ⟨rfl, rfl⟩) | (refine (compare_any _ _ hx hh _).mono ?_; rintro e w' ⟨rfl, rfl⟩)))
      go_ret
      exact ⟨rfl, rfl⟩
    · rw [Bool.eq_false_iff.2 n2] at kl
      by_cases n3 : nanB hi = true
      · rw [if_pos (.inr (.inr (.inl n3)))]
        rw [n3] at kh
        clear n1 n2
        go_enter Try.func18, Try.ntmps18
        go_wp2_with (first | (go_at_call_of 20 x; refine (kind_any _ hx _).mono ?_; rintro e w' ⟨rfl, rfl⟩) | (go_at_call_of 20 lo; refine (kind_any _ hl _).mono ?_; rintro e w' ⟨rfl, rfl⟩) | (go_at_call_of 20 hi; refine (kind_any _ hh _).mono ?_; rintro e w' ⟨rfl, rfl⟩) | (go_at_call 14; first | (go_at_call_of 14 lo; go_at_call_of 14 hi; refine (compare_any _ _ hl hh _).mono ?_; rintro e w' ⟨rfl, rfl⟩) | (go_at_call_of 14 x; go_at_call_of 14 lo; refine (compare_any _ _ hx hl _).mono ?_; rintro e w' ⟨rfl, rfl⟩) | (refine (compare_any _ _ hx hh _).mono ?_; rintro e w' ⟨rfl, rfl⟩)))
        go_ret
        exact ⟨rfl, rfl⟩
      · rw [Bool.eq_false_iff.2 n3] at kh
        by_cases c1 : tkey hi < tkey lo
        · rw [if_pos (.inr (.inr (.inr (.inl c1))))]
          have q1 := pos_cmp' c1
          clear n1 n2 n3 c1
          go_enter Try.func18, Try.ntmps18
          go_wp2_with (first | (go_at_call_of 20 x; refine (kind_any _ hx _).mono ?_; rintro e w' ⟨rfl, rfl⟩) | (go_at_call_of 20 lo; refine (kind_any _ hl _).mono ?_; rintro e w' ⟨rfl, rfl⟩) | (go_at_call_of 20 hi; refine (kind_any _ hh _).mono ?_; rintro e w' ⟨rfl, rfl⟩) | (go_at_call 14; first | (go_at_call_of 14 lo; go_at_call_of 14 hi; refine (compare_any _ _ hl hh _).mono ?_; rintro e w' ⟨rfl, rfl⟩) | (go_at_call_of 14 x; go_at_call_of 14 lo; refine (compare_any _ _ hx hl _).mono ?_; rintro e w' ⟨rfl, rfl⟩) | (refine (compare_any _ _ hx hh _).mono ?_; rintro e w' ⟨rfl, rfl⟩)))
          go_ret
          exact ⟨rfl, rfl⟩
        · have q1 := pos_cmp c1
          by_cases c2 : tkey x < tkey lo
          · rw [if_pos (.inr (.inr (.inr (.inr c2))))]
            have q2 := neg_cmp' c2
            clear n1 n2 n3 c1 c2
            go_enter Try.func18, Try.ntmps18
            go_wp2_with (first | (go_at_call_of 20 x; refine (kind_any _ hx _).mono ?_; rintro e w' ⟨rfl, rfl⟩) | (go_at_call_of 20 lo; refine (kind_any _ hl _).mono ?_; rintro e w' ⟨rfl, rfl⟩) | (go_at_call_of 20 hi; refine (kind_any _ hh _).mono ?_; rintro e w' ⟨rfl, rfl⟩) | (go_at_call 14; first | (go_at_call_of 14 lo; go_at_call_of 14 hi; refine (compare_any _ _ hl hh _).mono ?_; rintro e w' ⟨rfl, rfl⟩) | (go_at_call_of 14 x; go_at_call_of 14 lo; refine (compare_any _ _ hx hl _).mono ?_; rintro e w' ⟨rfl, rfl⟩) | (refine (compare_any _ _ hx hh _).mono ?_; rintro e w' ⟨rfl, rfl⟩)))
            go_ret
            exact ⟨rfl, rfl⟩
          · have q2 := neg_cmp c2
            rw [if_neg (by rintro (h | h | h | h | h) <;> contradiction)]
            by_cases c3 : tkey hi < tkey x
            · rw [if_pos c3]
              have q3 := pos_cmp' c3
              clear n1 n2 n3 c1 c2 c3
              go_enter Try.func18, Try.ntmps18
              go_wp2_with (first | (go_at_call_of 20 x; refine (kind_any _ hx _).mono ?_; rintro e w' ⟨rfl, rfl⟩) | (go_at_call_of 20 lo; refine (kind_any _ hl _).mono ?_; rintro e w' ⟨rfl, rfl⟩) | (go_at_call_of 20 hi; refine (kind_any _ hh _).mono ?_; rintro e w' ⟨rfl, rfl⟩) | (go_at_call 14; first | (go_at_call_of 14 lo; go_at_call_of 14 hi; refine (compare_any _ _ hl hh _).mono ?_; rintro e w' ⟨rfl, rfl⟩) | (go_at_call_of 14 x; go_at_call_of 14 lo; refine (compare_any _ _ hx hl _).mono ?_; rintro e w' ⟨rfl, rfl⟩) | (refine (compare_any _ _ hx hh _).mono ?_; rintro e w' ⟨rfl, rfl⟩)))
              go_ret
              exact ⟨rfl, rfl⟩
            · rw [if_neg c3]
              have q3 := pos_cmp c3
              clear n1 n2 n3 c1 c2 c3
              go_enter Try.func18, Try.ntmps18
              go_wp2_with (first | (go_at_call_of 20 x; refine (kind_any _ hx _).mono ?_; rintro e w' ⟨rfl, rfl⟩) | (go_at_call_of 20 lo; refine (kind_any _ hl _).mono ?_; rintro e w' ⟨rfl, rfl⟩) | (go_at_call_of 20 hi; refine (kind_any _ hh _).mono ?_; rintro e w' ⟨rfl, rfl⟩) | (go_at_call 14; first | (go_at_call_of 14 lo; go_at_call_of 14 hi; refine (compare_any _ _ hl hh _).mono ?_; rintro e w' ⟨rfl, rfl⟩) | (go_at_call_of 14 x; go_at_call_of 14 lo; refine (compare_any _ _ hx hl _).mono ?_; rintro e w' ⟨rfl, rfl⟩) | (refine (compare_any _ _ hx hh _).mono ?_; rintro e w' ⟨rfl, rfl⟩)))
              go_ret
              exact ⟨rfl, rfl⟩

theorem rclamp_any (x lo hi : Nat) (hx : x < 18446744073709551616) (hl : lo < 18446744073709551616) (hh : hi < 18446744073709551616) (w : World) :
    Calls Try.prog 25 #[.float .f64 x, .float .f64 lo, .float .f64 hi] w fun e w' => e = .returned (.float .f64 (clampB x lo hi)) ∧ w = w' := by
  have kx := kind_zero x
  have kl := kind_zero lo
  have kh := kind_zero hi
  unfold clampB
  by_cases n1 : nanB x = true
  · rw [if_pos (.inl n1)]
    rw [n1] at kx
    go_enter Try.func25, Try.ntmps25
    go_wp2_with (first | (go_at_call_of 21 x; refine (rkind_any _ hx _).mono ?_; rintro e w' ⟨rfl, rfl⟩) | (go_at_call_of 21 lo; refine (rkind_any _ hl _).mono ?_; rintro e w' ⟨rfl, rfl⟩) | (go_at_call_of 21 hi; refine (rkind_any _ hh _).mono ?_; rintro e w' ⟨rfl, rfl⟩) | (go_at_call 22; first | (go_at_call_of 22 lo; go_at_call_of 22 hi; refine (rcompare_any _ _ hl hh _).mono ?_; rintro e w' ⟨rfl, rfl⟩) | (go_at_call_of 22 x; go_at_call_of 22 lo; refine (rcompare_any _ _ hx hl _).mono ?_; rintro e w' ⟨rfl, rfl⟩) | (refine (rcompare_any _ _ hx hh _).mono ?_; rintro e w' ⟨rfl, rfl⟩)))
    go_ret
    exact ⟨rfl, rfl⟩
  · rw [Bool.eq_false_iff.2 n1] at kx
    by_cases n2 : nanB lo = true
    · rw [if_pos (.inr (.inl n2))]
      rw [n2] at kl
      clear n1
      go_enter Try.func25, Try.ntmps25
      go_wp2_with (first | (go_at_call_of 21 x; refine (rkind_any _ hx _).mono ?_; rintro e w' ⟨rfl, rfl⟩) | (go_at_call_of 21 lo; refine (rkind_any _ hl _).mono ?_; rintro e w' ⟨rfl, rfl⟩) | (go_at_call_of 21 hi; refine (rkind_any _ hh _).mono ?_; rintro e w' ⟨rfl, rfl⟩) | (go_at_call 22; first | (go_at_call_of 22 lo; go_at_call_of 22 hi; refine (rcompare_any _ _ hl hh _).mono ?_; rintro e w' ⟨rfl, rfl⟩) | (go_at_call_of 22 x; go_at_call_of 22 lo; refine (rcompare_any _ _ hx hl _).mono ?_; rintro e w' ⟨rfl, rfl⟩) | (refine (rcompare_any _ _ hx hh _).mono ?_; rintro e w' ⟨rfl, rfl⟩)))
      go_ret
      exact ⟨rfl, rfl⟩
    · rw [Bool.eq_false_iff.2 n2] at kl
      by_cases n3 : nanB hi = true
      · rw [if_pos (.inr (.inr (.inl n3)))]
        rw [n3] at kh
        clear n1 n2
        go_enter Try.func25, Try.ntmps25
        go_wp2_with (first | (go_at_call_of 21 x; refine (rkind_any _ hx _).mono ?_; rintro e w' ⟨rfl, rfl⟩) | (go_at_call_of 21 lo; refine (rkind_any _ hl _).mono ?_; rintro e w' ⟨rfl, rfl⟩) | (go_at_call_of 21 hi; refine (rkind_any _ hh _).mono ?_; rintro e w' ⟨rfl, rfl⟩) | (go_at_call 22; first | (go_at_call_of 22 lo; go_at_call_of 22 hi; refine (rcompare_any _ _ hl hh _).mono ?_; rintro e w' ⟨rfl, rfl⟩) | (go_at_call_of 22 x; go_at_call_of 22 lo; refine (rcompare_any _ _ hx hl _).mono ?_; rintro e w' ⟨rfl, rfl⟩) | (refine (rcompare_any _ _ hx hh _).mono ?_; rintro e w' ⟨rfl, rfl⟩)))
        go_ret
        exact ⟨rfl, rfl⟩
      · rw [Bool.eq_false_iff.2 n3] at kh
        by_cases c1 : tkey hi < tkey lo
        · rw [if_pos (.inr (.inr (.inr (.inl c1))))]
          have q1 := pos_cmp' c1
          clear n1 n2 n3 c1
          go_enter Try.func25, Try.ntmps25
          go_wp2_with (first | (go_at_call_of 21 x; refine (rkind_any _ hx _).mono ?_; rintro e w' ⟨rfl, rfl⟩) | (go_at_call_of 21 lo; refine (rkind_any _ hl _).mono ?_; rintro e w' ⟨rfl, rfl⟩) | (go_at_call_of 21 hi; refine (rkind_any _ hh _).mono ?_; rintro e w' ⟨rfl, rfl⟩) | (go_at_call 22; first | (go_at_call_of 22 lo; go_at_call_of 22 hi; refine (rcompare_any _ _ hl hh _).mono ?_; rintro e w' ⟨rfl, rfl⟩) | (go_at_call_of 22 x; go_at_call_of 22 lo; refine (rcompare_any _ _ hx hl _).mono ?_; rintro e w' ⟨rfl, rfl⟩) | (refine (rcompare_any _ _ hx hh _).mono ?_; rintro e w' ⟨rfl, rfl⟩)))
          go_ret
          exact ⟨rfl, rfl⟩
        · have q1 := pos_cmp c1
          by_cases c2 : tkey x < tkey lo
          · rw [if_pos (.inr (.inr (.inr (.inr c2))))]
            have q2 := neg_cmp' c2
            clear n1 n2 n3 c1 c2
            go_enter Try.func25, Try.ntmps25
            go_wp2_with (first | (go_at_call_of 21 x; refine (rkind_any _ hx _).mono ?_; rintro e w' ⟨rfl, rfl⟩) | (go_at_call_of 21 lo; refine (rkind_any _ hl _).mono ?_; rintro e w' ⟨rfl, rfl⟩) | (go_at_call_of 21 hi; refine (rkind_any _ hh _).mono ?_; rintro e w' ⟨rfl, rfl⟩) | (go_at_call 22; first | (go_at_call_of 22 lo; go_at_call_of 22 hi; refine (rcompare_any _ _ hl hh _).mono ?_; rintro e w' ⟨rfl, rfl⟩) | (go_at_call_of 22 x; go_at_call_of 22 lo; refine (rcompare_any _ _ hx hl _).mono ?_; rintro e w' ⟨rfl, rfl⟩) | (refine (rcompare_any _ _ hx hh _).mono ?_; rintro e w' ⟨rfl, rfl⟩)))
            go_ret
            exact ⟨rfl, rfl⟩
          · have q2 := neg_cmp c2
            rw [if_neg (by rintro (h | h | h | h | h) <;> contradiction)]
            by_cases c3 : tkey hi < tkey x
            · rw [if_pos c3]
              have q3 := pos_cmp' c3
              clear n1 n2 n3 c1 c2 c3
              go_enter Try.func25, Try.ntmps25
              go_wp2_with (first | (go_at_call_of 21 x; refine (rkind_any _ hx _).mono ?_; rintro e w' ⟨rfl, rfl⟩) | (go_at_call_of 21 lo; refine (rkind_any _ hl _).mono ?_; rintro e w' ⟨rfl, rfl⟩) | (go_at_call_of 21 hi; refine (rkind_any _ hh _).mono ?_; rintro e w' ⟨rfl, rfl⟩) | (go_at_call 22; first | (go_at_call_of 22 lo; go_at_call_of 22 hi; refine (rcompare_any _ _ hl hh _).mono ?_; rintro e w' ⟨rfl, rfl⟩) | (go_at_call_of 22 x; go_at_call_of 22 lo; refine (rcompare_any _ _ hx hl _).mono ?_; rintro e w' ⟨rfl, rfl⟩) | (refine (rcompare_any _ _ hx hh _).mono ?_; rintro e w' ⟨rfl, rfl⟩)))
              go_ret
              exact ⟨rfl, rfl⟩
            · rw [if_neg c3]
              have q3 := pos_cmp c3
              clear n1 n2 n3 c1 c2 c3
              go_enter Try.func25, Try.ntmps25
              go_wp2_with (first | (go_at_call_of 21 x; refine (rkind_any _ hx _).mono ?_; rintro e w' ⟨rfl, rfl⟩) | (go_at_call_of 21 lo; refine (rkind_any _ hl _).mono ?_; rintro e w' ⟨rfl, rfl⟩) | (go_at_call_of 21 hi; refine (rkind_any _ hh _).mono ?_; rintro e w' ⟨rfl, rfl⟩) | (go_at_call 22; first | (go_at_call_of 22 lo; go_at_call_of 22 hi; refine (rcompare_any _ _ hl hh _).mono ?_; rintro e w' ⟨rfl, rfl⟩) | (go_at_call_of 22 x; go_at_call_of 22 lo; refine (rcompare_any _ _ hx hl _).mono ?_; rintro e w' ⟨rfl, rfl⟩) | (refine (rcompare_any _ _ hx hh _).mono ?_; rintro e w' ⟨rfl, rfl⟩)))
              go_ret
              exact ⟨rfl, rfl⟩

theorem copysign_any (w : World) : Calls Try.prog 13 #[.float .f64 0, .float .f64 13830554455654793216] w fun e w' => e = .returned (.float .f64 9223372036854775808) ∧ w = w' := by
  have hr := frombits_run
  have hb := bits_run
  go_enter Try.func13, Try.ntmps13
  go_wp2
  go_ret
  exact ⟨rfl, rfl⟩

theorem awake_any (w : World) : Calls Try.prog 9 #[] w fun e w' => e = .returned (.bool true) ∧ w = w' := by
  have k1 : kindI 9221120237041090561 = 0 := by decide
  have k2 : cmpI (tkey 9223372036854775808) (tkey 0) = -1 := by decide
  have k3 : shareI 4602678819172646912 8 = 4 := half_of_eight
  have k4 : kindI 9218868437227405312 = 5 := by decide
  have K1 := Lib.hid k1
  have K2 := Lib.hid k2
  have K3 := Lib.hid k3
  have K4 := Lib.hid k4
  clear k1 k2 k3 k4
  go_enter Try.func9, Try.ntmps9
  go_wp2_with (first | (go_at_call 10; refine (nan_any _).mono ?_; rintro e w' ⟨rfl, rfl⟩) | (go_at_call_of 20 (9221120237041090561 : Nat); refine (kind_any _ (by decide) _).mono ?_; rintro e w' ⟨rfl, rfl⟩; rw [K1.out]) | (go_at_call 13; refine (copysign_any _).mono ?_; rintro e w' ⟨rfl, rfl⟩) | (go_at_call 14; refine (compare_any _ _ (by decide) (by decide) _).mono ?_; rintro e w' ⟨rfl, rfl⟩; rw [K2.out]) | (go_at_call 17; refine (share_any _ _ (by decide) (by decide) (by decide) _).mono ?_; rintro e w' ⟨rfl, rfl⟩; rw [K3.out]) | (go_at_call 11; refine (inf_any _ _).mono ?_; rintro e w' ⟨rfl, rfl⟩) | (go_at_call 20; refine (kind_any _ (by decide) _).mono ?_; rintro e w' ⟨rfl, rfl⟩; rw [K4.out]))
  go_ret
  exact ⟨rfl, rfl⟩

end Go.Proofs.Ythpbdgdbgohooaa.Edge
