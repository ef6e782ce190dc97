/- The order of floats and what stands on it: one contract each. -/
import Derived.Test.YthpbdgdbgohooaaEdgeA
namespace Go.Proofs.Ythpbdgdbgohooaa.Edge
open Go.RowKit Fl

theorem isNaNint_any (n : Int) (w : World) :
    Calls Try.prog 37 #[.int .i64 n] w fun e w' => e = .returned (.bool false) ∧ w = w' := by
  go_enter Try.func37, Try.ntmps37
  go_wp2
  go_ret
  exact ⟨by simp, rfl⟩

theorem cmpInt_any (a b : Int) (w : World) :
    Calls Try.prog 31 #[.int .i64 a, .int .i64 b] w fun e w' => e = .returned (.int .i64 (cmpI a b)) ∧ w = w' := by
  rcases Int.lt_trichotomy a b with c | c | c
  · rw [cmpI_lt c]
    go_enter Try.func31, Try.ntmps31
    go_wp2_with (go_at_call 37; refine (isNaNint_any _ _).mono ?_; rintro e w' ⟨rfl, rfl⟩)
    go_ret
    exact ⟨rfl, rfl⟩
  · subst c
    rw [cmpI_self a]
    go_enter Try.func31, Try.ntmps31
    go_wp2_with (go_at_call 37; refine (isNaNint_any _ _).mono ?_; rintro e w' ⟨rfl, rfl⟩)
    go_ret
    exact ⟨rfl, rfl⟩
  · rw [cmpI_gt c]
    go_enter Try.func31, Try.ntmps31
    go_wp2_with (go_at_call 37; refine (isNaNint_any _ _).mono ?_; rintro e w' ⟨rfl, rfl⟩)
    go_ret
    exact ⟨rfl, rfl⟩

theorem cmpFloat_any (x y : Nat) (hx : nanB x = false) (hy : nanB y = false) (w : World) :
    Calls Try.prog 33 #[.float .f64 x, .float .f64 y] w fun e w' => e = .returned (.int .i64 (cmpI (key x) (key y))) ∧ w = w' := by
  have g1 := order_lt x y
  have g2 := order_gt x y
  unfold ltB at g1 g2
  rw [hx, hy] at g1 g2
  simp only [Bool.not_false, Bool.true_and] at g1 g2
  rcases Int.lt_trichotomy (key x) (key y) with c | c | c
  · rw [cmpI_lt c]
    rw [decide_eq_true c] at g1
    clear g2 c
    go_enter Try.func33, Try.ntmps33
    go_wp2_with (go_at_call 38; refine (isNaN2_any _ _).mono ?_; rintro e w' ⟨rfl, rfl⟩)
    go_ret
    exact ⟨rfl, rfl⟩
  · rw [c, cmpI_self]
    rw [decide_eq_false (by omega)] at g1
    rw [decide_eq_false (by omega)] at g2
    clear c
    go_enter Try.func33, Try.ntmps33
    go_wp2_with (go_at_call 38; refine (isNaN2_any _ _).mono ?_; rintro e w' ⟨rfl, rfl⟩)
    go_ret
    exact ⟨rfl, rfl⟩
  · rw [cmpI_gt c]
    rw [decide_eq_false (by omega)] at g1
    rw [decide_eq_true c] at g2
    clear c
    go_enter Try.func33, Try.ntmps33
    go_wp2_with (go_at_call 38; refine (isNaN2_any _ _).mono ?_; rintro e w' ⟨rfl, rfl⟩)
    go_ret
    exact ⟨rfl, rfl⟩

theorem bits_run (b : Nat) (w : World) : (callFunc 30 #[.float .f64 b]).run Try.prog w = .ok (.value (.int .u64 b)) w := by
  rw [run_callFunc_extern Try.func30 (by kernel_rfl) (by kernel_rfl) (by kernel_rfl) (show Extern.find _ = some Extern.MathFloatBits.float64bits by kernel_rfl)]
  rfl

theorem frombits_run (n : Int) (w : World) : (callFunc 29 #[.int .u64 n]).run Try.prog w = .ok (.value (.float .f64 n.toNat)) w := by
  rw [run_callFunc_extern Try.func29 (by kernel_rfl) (by kernel_rfl) (by kernel_rfl) (show Extern.find _ = some Extern.MathFloatBits.float64frombits by kernel_rfl)]
  rfl

theorem signbit_any (b : Nat) (hb : b < 18446744073709551616) (w : World) :
    Calls Try.prog 36 #[.float .f64 b] w fun e w' => e = .returned (.bool (sg b)) ∧ w = w' := by
  have h : decide (wrap64 (b : Int) < 0) = sg b := by
    unfold wrap64 sg
    by_cases hl : b < 9223372036854775808
    · have : b / 9223372036854775808 = 0 := by omega
      rw [this, decide_eq_false (by omega)]; rfl
    · have : b / 9223372036854775808 = 1 := by omega
      rw [this, decide_eq_true (by omega)]; rfl
  have H := Lib.hid h
  clear h
  have hr := bits_run b
  go_enter Try.func36, Try.ntmps36
  go_wp2
  go_ret
  exact ⟨by rw [← H.out]; rfl, rfl⟩

theorem place_any (b : Nat) (hb : b < 18446744073709551616) (w : World) :
    Calls Try.prog 32 #[.float .f64 b] w fun e w' => e = .returned (.int .i64 (place b)) ∧ w = w' := by
  cases h : sg b
  · rw [show place b = 1 from by simp [place, h]]
    go_enter Try.func32, Try.ntmps32
    go_wp2_with (go_at_call 36; refine (signbit_any _ hb _).mono ?_; rintro e w' ⟨rfl, rfl⟩)
    go_ret
    exact ⟨rfl, rfl⟩
  · rw [show place b = 0 from by simp [place, h]]
    go_enter Try.func32, Try.ntmps32
    go_wp2_with (go_at_call 36; refine (signbit_any _ hb _).mono ?_; rintro e w' ⟨rfl, rfl⟩)
    go_ret
    exact ⟨rfl, rfl⟩

theorem compare_any (x y : Nat) (hx : x < 18446744073709551616) (hy : y < 18446744073709551616) (w : World) :
    Calls Try.prog 14 #[.float .f64 x, .float .f64 y] w fun e w' => e = .returned (.int .i64 (cmpI (tkey x) (tkey y))) ∧ w = w' := by
  by_cases hk : kindI x = kindI y
  · rcases kind_says x with h | h | h | h | h | h
    · have h1 := h.1
      have h2 : kindI y = 0 := by rw [← hk]; exact h1
      rw [tkey_flat hk (by omega) (by omega) (by omega), cmpI_self]
      have hq : cmpI 0 0 = 0 := cmpI_self _
      clear hk h
      go_enter Try.func14, Try.ntmps14
      go_wp2_with (first | (go_at_call_of 20 x; refine (kind_any _ hx _).mono ?_; rintro e w' ⟨rfl, rfl⟩) | (go_at_call_of 20 y; refine (kind_any _ hy _).mono ?_; rintro e w' ⟨rfl, rfl⟩) | (go_at_call_of 32 x; refine (place_any _ hx _).mono ?_; rintro e w' ⟨rfl, rfl⟩) | (go_at_call_of 32 y; refine (place_any _ hy _).mono ?_; rintro e w' ⟨rfl, rfl⟩) | (go_at_call 33; refine (cmpFloat_any _ _ nx ny _).mono ?_; rintro e w' ⟨rfl, rfl⟩) | (go_at_call 31; refine (cmpInt_any _ _ _).mono ?_; rintro e w' ⟨rfl, rfl⟩))
      go_ret
      exact ⟨rfl, rfl⟩
    · have h1 := h.1
      have h2 : kindI y = 1 := by rw [← hk]; exact h1
      rw [tkey_flat hk (by omega) (by omega) (by omega), cmpI_self]
      have hq : cmpI 1 1 = 0 := cmpI_self _
      clear hk h
      go_enter Try.func14, Try.ntmps14
      go_wp2_with (first | (go_at_call_of 20 x; refine (kind_any _ hx _).mono ?_; rintro e w' ⟨rfl, rfl⟩) | (go_at_call_of 20 y; refine (kind_any _ hy _).mono ?_; rintro e w' ⟨rfl, rfl⟩) | (go_at_call_of 32 x; refine (place_any _ hx _).mono ?_; rintro e w' ⟨rfl, rfl⟩) | (go_at_call_of 32 y; refine (place_any _ hy _).mono ?_; rintro e w' ⟨rfl, rfl⟩) | (go_at_call 33; refine (cmpFloat_any _ _ nx ny _).mono ?_; rintro e w' ⟨rfl, rfl⟩) | (go_at_call 31; refine (cmpInt_any _ _ _).mono ?_; rintro e w' ⟨rfl, rfl⟩))
      go_ret
      exact ⟨rfl, rfl⟩
    · have h1 := h.1
      have h2 : kindI y = 2 := by rw [← hk]; exact h1
      obtain ⟨nx, tx⟩ := tkey_neg h1
      obtain ⟨ny, ty⟩ := tkey_neg h2
      rw [tx, ty, Int.sub_eq_add_neg, Int.sub_eq_add_neg, cmpI_shift]
      have hq : cmpI 2 2 = 0 := cmpI_self _
      clear hk h tx ty
      go_enter Try.func14, Try.ntmps14
      go_wp2_with (first | (go_at_call_of 20 x; refine (kind_any _ hx _).mono ?_; rintro e w' ⟨rfl, rfl⟩) | (go_at_call_of 20 y; refine (kind_any _ hy _).mono ?_; rintro e w' ⟨rfl, rfl⟩) | (go_at_call_of 32 x; refine (place_any _ hx _).mono ?_; rintro e w' ⟨rfl, rfl⟩) | (go_at_call_of 32 y; refine (place_any _ hy _).mono ?_; rintro e w' ⟨rfl, rfl⟩) | (go_at_call 33; refine (cmpFloat_any _ _ nx ny _).mono ?_; rintro e w' ⟨rfl, rfl⟩) | (go_at_call 31; refine (cmpInt_any _ _ _).mono ?_; rintro e w' ⟨rfl, rfl⟩))
      go_ret
      exact ⟨rfl, rfl⟩
    · have h1 := h.1
      have h2 : kindI y = 3 := by rw [← hk]; exact h1
      rw [tkey_nought h1, tkey_nought h2, Int.sub_eq_add_neg, Int.sub_eq_add_neg, cmpI_shift]
      have hq : cmpI 3 3 = 0 := cmpI_self _
      clear hk h
      go_enter Try.func14, Try.ntmps14
      go_wp2_with (first | (go_at_call_of 20 x; refine (kind_any _ hx _).mono ?_; rintro e w' ⟨rfl, rfl⟩) | (go_at_call_of 20 y; refine (kind_any _ hy _).mono ?_; rintro e w' ⟨rfl, rfl⟩) | (go_at_call_of 32 x; refine (place_any _ hx _).mono ?_; rintro e w' ⟨rfl, rfl⟩) | (go_at_call_of 32 y; refine (place_any _ hy _).mono ?_; rintro e w' ⟨rfl, rfl⟩) | (go_at_call 33; refine (cmpFloat_any _ _ nx ny _).mono ?_; rintro e w' ⟨rfl, rfl⟩) | (go_at_call 31; refine (cmpInt_any _ _ _).mono ?_; rintro e w' ⟨rfl, rfl⟩))
      go_ret
      exact ⟨rfl, rfl⟩
    · have h1 := h.1
      have h2 : kindI y = 4 := by rw [← hk]; exact h1
      obtain ⟨nx, tx⟩ := tkey_pos h1
      obtain ⟨ny, ty⟩ := tkey_pos h2
      rw [tx, ty]
      have hq : cmpI 4 4 = 0 := cmpI_self _
      clear hk h tx ty
      go_enter Try.func14, Try.ntmps14
      go_wp2_with (first | (go_at_call_of 20 x; refine (kind_any _ hx _).mono ?_; rintro e w' ⟨rfl, rfl⟩) | (go_at_call_of 20 y; refine (kind_any _ hy _).mono ?_; rintro e w' ⟨rfl, rfl⟩) | (go_at_call_of 32 x; refine (place_any _ hx _).mono ?_; rintro e w' ⟨rfl, rfl⟩) | (go_at_call_of 32 y; refine (place_any _ hy _).mono ?_; rintro e w' ⟨rfl, rfl⟩) | (go_at_call 33; refine (cmpFloat_any _ _ nx ny _).mono ?_; rintro e w' ⟨rfl, rfl⟩) | (go_at_call 31; refine (cmpInt_any _ _ _).mono ?_; rintro e w' ⟨rfl, rfl⟩))
      go_ret
      exact ⟨rfl, rfl⟩
    · have h1 := h.1
      have h2 : kindI y = 5 := by rw [← hk]; exact h1
      rw [tkey_flat hk (by omega) (by omega) (by omega), cmpI_self]
      have hq : cmpI 5 5 = 0 := cmpI_self _
      clear hk h
      go_enter Try.func14, Try.ntmps14
      go_wp2_with (first | (go_at_call_of 20 x; refine (kind_any _ hx _).mono ?_; rintro e w' ⟨rfl, rfl⟩) | (go_at_call_of 20 y; refine (kind_any _ hy _).mono ?_; rintro e w' ⟨rfl, rfl⟩) | (go_at_call_of 32 x; refine (place_any _ hx _).mono ?_; rintro e w' ⟨rfl, rfl⟩) | (go_at_call_of 32 y; refine (place_any _ hy _).mono ?_; rintro e w' ⟨rfl, rfl⟩) | (go_at_call 33; refine (cmpFloat_any _ _ nx ny _).mono ?_; rintro e w' ⟨rfl, rfl⟩) | (go_at_call 31; refine (cmpInt_any _ _ _).mono ?_; rintro e w' ⟨rfl, rfl⟩))
      go_ret
      exact ⟨rfl, rfl⟩
  · rw [← cmpI_kind hk]
    rcases Int.lt_trichotomy (kindI x) (kindI y) with c | c | c
    · have hq := cmpI_lt c
      rw [hq]
      clear hk c
      go_enter Try.func14, Try.ntmps14
      go_wp2_with (first | (go_at_call_of 20 x; refine (kind_any _ hx _).mono ?_; rintro e w' ⟨rfl, rfl⟩) | (go_at_call_of 20 y; refine (kind_any _ hy _).mono ?_; rintro e w' ⟨rfl, rfl⟩) | (go_at_call_of 32 x; refine (place_any _ hx _).mono ?_; rintro e w' ⟨rfl, rfl⟩) | (go_at_call_of 32 y; refine (place_any _ hy _).mono ?_; rintro e w' ⟨rfl, rfl⟩) | (go_at_call 33; refine (cmpFloat_any _ _ nx ny _).mono ?_; rintro e w' ⟨rfl, rfl⟩) | (go_at_call 31; refine (cmpInt_any _ _ _).mono ?_; rintro e w' ⟨rfl, rfl⟩))
      go_ret
      exact ⟨rfl, rfl⟩
    · exact absurd c hk
    · have hq := cmpI_gt c
      rw [hq]
      clear hk c
      go_enter Try.func14, Try.ntmps14
      go_wp2_with (first | (go_at_call_of 20 x; refine (kind_any _ hx _).mono ?_; rintro e w' ⟨rfl, rfl⟩) | (go_at_call_of 20 y; refine (kind_any _ hy _).mono ?_; rintro e w' ⟨rfl, rfl⟩) | (go_at_call_of 32 x; refine (place_any _ hx _).mono ?_; rintro e w' ⟨rfl, rfl⟩) | (go_at_call_of 32 y; refine (place_any _ hy _).mono ?_; rintro e w' ⟨rfl, rfl⟩) | (go_at_call 33; refine (cmpFloat_any _ _ nx ny _).mono ?_; rintro e w' ⟨rfl, rfl⟩) | (go_at_call 31; refine (cmpInt_any _ _ _).mono ?_; rintro e w' ⟨rfl, rfl⟩))
      go_ret
      exact ⟨rfl, rfl⟩

theorem same_any (x y : Nat) (hx : x < 18446744073709551616) (hy : y < 18446744073709551616) (w : World) :
    Calls Try.prog 23 #[.float .f64 x, .float .f64 y] w fun e w' => e = .returned (.bool (sameB x y)) ∧ w = w' := by
  unfold sameB
  rcases Int.lt_trichotomy (tkey x) (tkey y) with c | c | c
  · rw [decide_eq_false (by omega)]
    have hq := cmpI_lt c
    clear c
    go_enter Try.func23, Try.ntmps23
    go_wp2_with (go_at_call 14; refine (compare_any _ _ hx hy _).mono ?_; rintro e w' ⟨rfl, rfl⟩)
    go_ret
    exact ⟨rfl, rfl⟩
  · rw [decide_eq_true c]
    have hq : cmpI (tkey x) (tkey y) = 0 := by rw [c]; exact cmpI_self _
    clear c
    go_enter Try.func23, Try.ntmps23
    go_wp2_with (go_at_call 14; refine (compare_any _ _ hx hy _).mono ?_; rintro e w' ⟨rfl, rfl⟩)
    go_ret
    exact ⟨rfl, rfl⟩
  · rw [decide_eq_false (by omega)]
    have hq := cmpI_gt c
    clear c
    go_enter Try.func23, Try.ntmps23
    go_wp2_with (go_at_call 14; refine (compare_any _ _ hx hy _).mono ?_; rintro e w' ⟨rfl, rfl⟩)
    go_ret
    exact ⟨rfl, rfl⟩

end Go.Proofs.Ythpbdgdbgohooaa.Edge
