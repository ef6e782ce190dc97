/- The document's own sizes and places: a contract each. -/
import Derived.Test.YtfgkjfneeggbjaaPlanB
namespace Go.Proofs.Ytfgkjfneeggbjaa.Plan
open Go.RowKit Mem

theorem not_fit {P C M : Int} (h : ¬ Fit P C M) : ¬ 1 ≤ P ∨ (1 ≤ P ∧ ¬ P ≤ 64) ∨ (1 ≤ P ∧ P ≤ 64 ∧ ¬ 1 ≤ C) ∨ (1 ≤ P ∧ P ≤ 64 ∧ 1 ≤ C ∧ ¬ C ≤ 12) ∨ (1 ≤ P ∧ P ≤ 64 ∧ 1 ≤ C ∧ C ≤ 12 ∧ ¬ 0 ≤ M) ∨ (1 ≤ P ∧ P ≤ 64 ∧ 1 ≤ C ∧ C ≤ 12 ∧ 0 ≤ M ∧ ¬ M ≤ 8) := by
  by_cases a : 1 ≤ P
  · by_cases b : P ≤ 64
    · by_cases c : 1 ≤ C
      · by_cases d : C ≤ 12
        · by_cases e : 0 ≤ M
          · by_cases f : M ≤ 8
            · exact absurd ⟨a, b, c, d, e, f⟩ h
            · exact .inr (.inr (.inr (.inr (.inr ⟨a, b, c, d, e, f⟩))))
          · exact .inr (.inr (.inr (.inr (.inl ⟨a, b, c, d, e⟩))))
        · exact .inr (.inr (.inr (.inl ⟨a, b, c, d⟩)))
      · exact .inr (.inr (.inl ⟨a, b, c⟩))
    · exact .inr (.inl ⟨a, b⟩)
  · exact .inl a

theorem rmay_any (P C M : Int) (w : World) :
    Calls Try.prog 22 #[.agg #[.int .i64 P, .int .i64 C, .int .i64 M]] w fun e w' => e = .returned (.bool (mayB P C M)) ∧ Off [] w w' := by
  rcases fit_cases P C M with hf | hf
  · rw [mayB_t hf]
    obtain ⟨p1, p2, c1, c2, m1, m2⟩ := hf
    go_enter Try.func22, Try.ntmps22
    go_wp2
    go_ret
    exact ⟨rfl, (Off.refl _ _).alloc _⟩
  · rw [mayB_f hf]
    rcases not_fit hf with a | ⟨a, b⟩ | ⟨a, b, c⟩ | ⟨a, b, c, d⟩ | ⟨a, b, c, d, f⟩ | ⟨a, b, c, d, f, g⟩
    · have q : decide (1 ≤ P) = false := by simp; omega
      clear hf a
      go_enter Try.func22, Try.ntmps22
      go_wp2
      go_ret
      exact ⟨rfl, (Off.refl _ _).alloc _⟩
    · have q : decide (P ≤ 64) = false := by simp; omega
      clear hf b
      go_enter Try.func22, Try.ntmps22
      go_wp2
      go_ret
      exact ⟨rfl, (Off.refl _ _).alloc _⟩
    · have q : decide (1 ≤ C) = false := by simp; omega
      clear hf c
      go_enter Try.func22, Try.ntmps22
      go_wp2
      go_ret
      exact ⟨rfl, (Off.refl _ _).alloc _⟩
    · have q : decide (C ≤ 12) = false := by simp; omega
      clear hf d
      go_enter Try.func22, Try.ntmps22
      go_wp2
      go_ret
      exact ⟨rfl, (Off.refl _ _).alloc _⟩
    · have q : decide (0 ≤ M) = false := by simp; omega
      clear hf f
      go_enter Try.func22, Try.ntmps22
      go_wp2
      go_ret
      exact ⟨rfl, (Off.refl _ _).alloc _⟩
    · have q : decide (M ≤ 8) = false := by simp; omega
      clear hf g
      go_enter Try.func22, Try.ntmps22
      go_wp2
      go_ret
      exact ⟨rfl, (Off.refl _ _).alloc _⟩

theorem rsize_any (k : Int) (w : World) :
    Calls Try.prog 25 #[.int .i64 k] w fun e w' => e = .returned (.int .i64 (sizeI k)) ∧ w = w' := by
  by_cases h : 0 ≤ k ∧ k < 4
  · obtain rfl | rfl | rfl | rfl := four_cases h
    all_goals
      clear h
      go_enter Try.func25, Try.ntmps25
      go_wp2
      go_ret
      exact ⟨rfl, rfl⟩
  · rw [sizeI_out h]
    by_cases h0 : 0 ≤ k
    · have q : decide (4 ≤ k) = true := by simp; omega
      clear h
      go_enter Try.func25, Try.ntmps25
      go_wp2
      go_ret
      exact ⟨rfl, rfl⟩
    · have q : decide (k < 0) = true := by simp; omega
      clear h h0
      go_enter Try.func25, Try.ntmps25
      go_wp2
      go_ret
      exact ⟨rfl, rfl⟩

theorem rclass_any (n : Int) (w : World) :
    Calls Try.prog 24 #[.int .i64 n] w fun e w' => e = .returned (.tuple #[.int .i64 (classI n), .bool (classB n)]) ∧ w = w' := by
  by_cases h : 1 ≤ n ∧ n ≤ 32
  · obtain ⟨h1, h2⟩ := h
    have hb : classB n = true := fromB_t h1 h2
    rw [hb]
    clear hb
    go_enter Try.func24, Try.ntmps24
    go_wp2
    go_loop [4] (fun k => ∃ j : Int, 0 ≤ j ∧ j ≤ classI n ∧ k = .int .i64 j) (fun k => (3 - intOf k).toNat)
    case atStart => exact ⟨0, by omega, (classI_bd n).1, rfl⟩
    case round =>
      obtain ⟨j, hj0, hj1, rfl⟩ := hrel
      have hj3 := Int.le_trans hj1 (classI_bd n).2
      by_cases hlt : j < classI n
      · have q : decide (sizeI j < n) = true := decide_eq_true (class_least h1 h2 hlt)
        go_wp2_with (go_at_call 25; refine (rsize_any _ _).mono ?_; rintro e w' ⟨rfl, rfl⟩)
        go_round
        case rel => exact ⟨j + 1, by omega, by omega, by go_num⟩
        case measure => have := (classI_bd n).2; simp [intOf]; omega
      · obtain rfl : j = classI n := by omega
        have q : decide (sizeI (classI n) < n) = false := decide_eq_false (by have := class_size h1 h2; omega)
        go_wp2_with (go_at_call 25; refine (rsize_any _ _).mono ?_; rintro e w' ⟨rfl, rfl⟩)
        go_ret2
        exact ⟨rfl, rfl⟩
  · have hb : classB n = false := fromB_f (by omega)
    rw [hb, classI_out (by omega)]
    clear hb
    by_cases h0 : n < 1
    · go_enter Try.func24, Try.ntmps24
      go_wp2
      go_ret2
      exact ⟨rfl, rfl⟩
    · have q1 : decide (n < 1) = false := by simp; omega
      have q2 : decide (32 < n) = true := by simp; omega
      clear h h0
      go_enter Try.func24, Try.ntmps24
      go_wp2
      go_ret2
      exact ⟨rfl, rfl⟩

theorem rrun_any (n : Int) (w : World) :
    Calls Try.prog 26 #[.int .i64 n] w fun e w' => e = .returned (.tuple #[.int .i64 (runI n), .bool (runB n)]) ∧ w = w' := by
  by_cases h : 33 ≤ n ∧ n ≤ 512
  · obtain ⟨h1, h2⟩ := h
    have hb : runB n = true := fromB_t h1 h2
    rw [hb, show runI n = (n + 64 - 1) / 64 from by rw [runI_in h1 h2]; omega]
    clear hb
    go_enter Try.func26, Try.ntmps26
    go_wp2
    go_ret2
    exact ⟨rfl, rfl⟩
  · have hb : runB n = false := fromB_f (by omega)
    rw [hb, runI_out (by omega)]
    clear hb
    by_cases h0 : n < 33
    · go_enter Try.func26, Try.ntmps26
      go_wp2
      go_ret2
      exact ⟨rfl, rfl⟩
    · have q1 : decide (n < 33) = false := by simp; omega
      have q2 : decide (512 < n) = true := by simp; omega
      clear h h0
      go_enter Try.func26, Try.ntmps26
      go_wp2
      go_ret2
      exact ⟨rfl, rfl⟩

theorem rlength_any (n : Int) (w : World) :
    Calls Try.prog 15 #[.int .i64 n] w fun e w' => e = .returned (.tuple #[.int .i64 (lengthI n), .bool (lengthB n)]) ∧ w = w' := by
  by_cases h : 1 ≤ n ∧ n ≤ 32
  · have hb : lengthB n = true := fromB_t h.1 (by omega)
    have hc : classB n = true := fromB_t h.1 h.2
    rw [hb, length_class h.1 h.2]
    clear hb h
    go_enter Try.func15, Try.ntmps15
    go_wp2_with (first | (go_at_call 24; refine (rclass_any _ _).mono ?_; rintro e w' ⟨rfl, rfl⟩) | (go_at_call 25; refine (rsize_any _ _).mono ?_; rintro e w' ⟨rfl, rfl⟩))
    go_ret2
    exact ⟨rfl, rfl⟩
  · have hc : classB n = false := fromB_f (by omega)
    rw [lengthB_run h, length_run h]
    have hr := runI_bd n
    have hr1 := hr.1
    have hr2 := hr.2
    clear h hr
    go_enter Try.func15, Try.ntmps15
    go_wp2_with (first | (go_at_call 24; refine (rclass_any _ _).mono ?_; rintro e w' ⟨rfl, rfl⟩) | (go_at_call 26; refine (rrun_any _ _).mono ?_; rintro e w' ⟨rfl, rfl⟩))
    go_ret2
    exact ⟨rfl, rfl⟩

end Go.Proofs.Ytfgkjfneeggbjaa.Plan
