/- The document's own sizes and places: a contract each. -/
import Derived.Test.YtadnehblklpphaaPlanB
namespace Go.Proofs.Ytadnehblklpphaa.Plan
open Go.RowKit Mem

theorem not_fit {P C M : Int} (h : ¬ Fit P C M) : ¬ 1 ≤ P ∨ (1 ≤ P ∧ ¬ P ≤ 64) ∨ (1 ≤ P ∧ P ≤ 64 ∧ ¬ 1 ≤ C) ∨ (1 ≤ P ∧ P ≤ 64 ∧ 1 ≤ C ∧ ¬ C ≤ 12) ∨ (1 ≤ P ∧ P ≤ 64 ∧ 1 ≤ C ∧ C ≤ 12 ∧ ¬ 0 ≤ M) ∨ (1 ≤ P ∧ P ≤ 64 ∧ 1 ≤ C ∧ C ≤ 12 ∧ 0 ≤ M ∧ ¬ M ≤ 8) := by
  by_cases a : 1 ≤ P
  · by_cases b : P ≤ 64
    · by_cases c : 1 ≤ C
      · by_cases d : C ≤ 12
        · by_cases e : 0 ≤ M
          · by_cases f : M ≤ 8
            · exact absurd ⟨a, b, c, d, e, f⟩ h
            · exact .inr (.inr (.inr (.inr (.inr ⟨a, b, c, d, e, f⟩))))
          · exact .inr (.inr (.inr (.inr (.inl ⟨a, b, c, d, e⟩))))
        · exact .inr (.inr (.inr (.inl ⟨a, b, c, d⟩)))
      · exact .inr (.inr (.inl ⟨a, b, c⟩))
    · exact .inr (.inl ⟨a, b⟩)
  · exact .inl a

theorem rmay_any (P C M : Int) (w : World) :
    Calls Try.prog 24 #[.agg #[.int .i64 P, .int .i64 C, .int .i64 M]] w fun e w' => e = .returned (.bool (mayB P C M)) ∧ Off [] w w' := by
  rcases fit_cases P C M with hf | hf
  · rw [mayB_t hf]
    obtain ⟨p1, p2, c1, c2, m1, m2⟩ := hf
    go_enter Try.func24, Try.ntmps24
    go_wp2
    go_ret
    exact ⟨rfl, (Off.refl _ _).alloc _⟩
  · rw [mayB_f hf]
    rcases not_fit hf with a | ⟨a, b⟩ | ⟨a, b, c⟩ | ⟨a, b, c, d⟩ | ⟨a, b, c, d, f⟩ | ⟨a, b, c, d, f, g⟩
    · have q : decide (1 ≤ P) = false := by simp; omega
      clear hf a
      go_enter Try.func24, Try.ntmps24
      go_wp2
      go_ret
      exact ⟨rfl, (Off.refl _ _).alloc _⟩
    · have q : decide (P ≤ 64) = false := by simp; omega
      clear hf b
      go_enter Try.func24, Try.ntmps24
      go_wp2
      go_ret
      exact ⟨rfl, (Off.refl _ _).alloc _⟩
    · have q : decide (1 ≤ C) = false := by simp; omega
      clear hf c
      go_enter Try.func24, Try.ntmps24
      go_wp2
      go_ret
      exact ⟨rfl, (Off.refl _ _).alloc _⟩
    · have q : decide (C ≤ 12) = false := by simp; omega
      clear hf d
      go_enter Try.func24, Try.ntmps24
      go_wp2
      go_ret
      exact ⟨rfl, (Off.refl _ _).alloc _⟩
    · have q : decide (0 ≤ M) = false := by simp; omega
      clear hf f
      go_enter Try.func24, Try.ntmps24
      go_wp2
      go_ret
      exact ⟨rfl, (Off.refl _ _).alloc _⟩
    · have q : decide (M ≤ 8) = false := by simp; omega
      clear hf g
      go_enter Try.func24, Try.ntmps24
      go_wp2
      go_ret
      exact ⟨rfl, (Off.refl _ _).alloc _⟩

theorem rsize_any (k : Int) (w : World) :
    Calls Try.prog 26 #[.int .i64 k] w fun e w' => e = .returned (.int .i64 (sizeI k)) ∧ w = w' := by
  by_cases h : 0 ≤ k ∧ k < 4
  · obtain rfl | rfl | rfl | rfl := four_cases h
    all_goals
      clear h
      go_enter Try.func26, Try.ntmps26
      go_wp2
      go_ret
      exact ⟨rfl, rfl⟩
  · rw [sizeI_out h]
    by_cases h0 : 0 ≤ k
    · have q : decide (4 ≤ k) = true := by simp; omega
      clear h
      go_enter Try.func26, Try.ntmps26
      go_wp2
      go_ret
      exact ⟨rfl, rfl⟩
    · have q : decide (k < 0) = true := by simp; omega
      clear h h0
      go_enter Try.func26, Try.ntmps26
      go_wp2
      go_ret
      exact ⟨rfl, rfl⟩

theorem rslots_any (k : Int) (w : World) :
    Calls Try.prog 28 #[.int .i64 k] w fun e w' => e = .returned (.int .i64 (slotsI k)) ∧ w = w' := by
  by_cases h : 0 ≤ k ∧ k < 4
  · obtain rfl | rfl | rfl | rfl := four_cases h
    all_goals
      clear h
      go_enter Try.func28, Try.ntmps28
      go_wp2
      go_ret
      exact ⟨rfl, rfl⟩
  · rw [slotsI_out h]
    by_cases h0 : 0 ≤ k
    · have q : decide (4 ≤ k) = true := by simp; omega
      clear h
      go_enter Try.func28, Try.ntmps28
      go_wp2
      go_ret
      exact ⟨rfl, rfl⟩
    · have q : decide (k < 0) = true := by simp; omega
      clear h h0
      go_enter Try.func28, Try.ntmps28
      go_wp2
      go_ret
      exact ⟨rfl, rfl⟩

theorem rclass_any (n : Int) (w : World) :
    Calls Try.prog 20 #[.int .i64 n] w fun e w' => e = .returned (.tuple #[.int .i64 (classI n), .bool (classB n)]) ∧ w = w' := by
  by_cases h : 1 ≤ n ∧ n ≤ 32
  · obtain ⟨h1, h2⟩ := h
    have hb : classB n = true := fromB_t h1 h2
    rw [hb]
    clear hb
    go_enter Try.func20, Try.ntmps20
    go_wp2
    go_loop [4] (fun k => ∃ j : Int, 0 ≤ j ∧ j ≤ classI n ∧ k = .int .i64 j) (fun k => (3 - intOf k).toNat)
    case atStart => exact ⟨0, by omega, (classI_bd n).1, rfl⟩
    case round =>
      obtain ⟨j, hj0, hj1, rfl⟩ := hrel
      have hj3 := Int.le_trans hj1 (classI_bd n).2
      by_cases hlt : j < classI n
      · have q : decide (sizeI j < n) = true := decide_eq_true (class_least h1 h2 hlt)
        go_wp2_with (go_at_call 26; refine (rsize_any _ _).mono ?_; rintro e w' ⟨rfl, rfl⟩)
        go_round
        case rel => exact ⟨j + 1, by omega, by omega, by go_num⟩
        case measure => have := (classI_bd n).2; simp [intOf]; omega
      · obtain rfl : j = classI n := by omega
        have q : decide (sizeI (classI n) < n) = false := decide_eq_false (by have := class_size h1 h2; omega)
        go_wp2_with (go_at_call 26; refine (rsize_any _ _).mono ?_; rintro e w' ⟨rfl, rfl⟩)
        go_ret2
        exact ⟨rfl, rfl⟩
  · have hb : classB n = false := fromB_f (by omega)
    rw [hb, classI_out (by omega)]
    clear hb
    by_cases h0 : n < 1
    · go_enter Try.func20, Try.ntmps20
      go_wp2
      go_ret2
      exact ⟨rfl, rfl⟩
    · have q1 : decide (n < 1) = false := by simp; omega
      have q2 : decide (32 < n) = true := by simp; omega
      clear h h0
      go_enter Try.func20, Try.ntmps20
      go_wp2
      go_ret2
      exact ⟨rfl, rfl⟩

theorem rrun_any (n : Int) (w : World) :
    Calls Try.prog 21 #[.int .i64 n] w fun e w' => e = .returned (.tuple #[.int .i64 (runI n), .bool (runB n)]) ∧ w = w' := by
  by_cases h : 33 ≤ n ∧ n ≤ 512
  · obtain ⟨h1, h2⟩ := h
    have hb : runB n = true := fromB_t h1 h2
    rw [hb, show runI n = (n + 64 - 1) / 64 from by rw [runI_in h1 h2]; omega]
    clear hb
    go_enter Try.func21, Try.ntmps21
    go_wp2
    go_ret2
    exact ⟨rfl, rfl⟩
  · have hb : runB n = false := fromB_f (by omega)
    rw [hb, runI_out (by omega)]
    clear hb
    by_cases h0 : n < 33
    · go_enter Try.func21, Try.ntmps21
      go_wp2
      go_ret2
      exact ⟨rfl, rfl⟩
    · have q1 : decide (n < 33) = false := by simp; omega
      have q2 : decide (512 < n) = true := by simp; omega
      clear h h0
      go_enter Try.func21, Try.ntmps21
      go_wp2
      go_ret2
      exact ⟨rfl, rfl⟩

theorem rlength_any (n : Int) (w : World) :
    Calls Try.prog 22 #[.int .i64 n] w fun e w' => e = .returned (.tuple #[.int .i64 (lengthI n), .bool (lengthB n)]) ∧ w = w' := by
  by_cases h : 1 ≤ n ∧ n ≤ 32
  · have hb : lengthB n = true := fromB_t h.1 (by omega)
    have hc : classB n = true := fromB_t h.1 h.2
    rw [hb, length_class h.1 h.2]
    clear hb h
    go_enter Try.func22, Try.ntmps22
    go_wp2_with (first | (go_at_call 20; refine (rclass_any _ _).mono ?_; rintro e w' ⟨rfl, rfl⟩) | (go_at_call 26; refine (rsize_any _ _).mono ?_; rintro e w' ⟨rfl, rfl⟩))
    go_ret2
    exact ⟨rfl, rfl⟩
  · have hc : classB n = false := fromB_f (by omega)
    rw [lengthB_run h, length_run h]
    have hr := runI_bd n
    have hr1 := hr.1
    have hr2 := hr.2
    clear h hr
    go_enter Try.func22, Try.ntmps22
    go_wp2_with (first | (go_at_call 20; refine (rclass_any _ _).mono ?_; rintro e w' ⟨rfl, rfl⟩) | (go_at_call 21; refine (rrun_any _ _).mono ?_; rintro e w' ⟨rfl, rfl⟩))
    go_ret2
    exact ⟨rfl, rfl⟩

theorem total_any (P C M : Int) (w : World) :
    Calls Try.prog 29 #[.agg #[.int .i64 P, .int .i64 C, .int .i64 M]] w fun e w' => e = .returned (.int .i64 (wordsI P C M)) ∧ Off [] w w' := by
  rcases fit_cases P C M with hf | hf
  · have hm := mayB_t hf
    have hcm := fit_bd hf
    have HV := Lib.hid (show C + P + 16 * P + C * M = wordsI P C M from by unfold wordsI; rw [if_pos hm])
    obtain ⟨p1, p2, c1, c2, m1, m2⟩ := hf
    obtain ⟨b1, b2⟩ := hcm
    obtain ⟨hb, hb0⟩ := box_new w 24 #[.int .i64 P, .int .i64 C, .int .i64 M]
    have HB := Lib.hid hb
    clear hb
    go_enter Try.func29, Try.ntmps29
    go_wp2_with (go_at_call 24; refine (rmay_any _ _ _ _).mono ?_; rintro e w1 ⟨rfl, ho1⟩; obtain ⟨d0, d1, d2⟩ := shp_cells (ho1.blk HB.out (by simp)))
    go_ret
    exact ⟨by rw [← HV.out]; rfl, hb0.trans ho1⟩
  · have hm := mayB_f hf
    rw [show wordsI P C M = 0 from by unfold wordsI; rw [hm]; rfl]
    clear hf
    obtain ⟨hb, hb0⟩ := box_new w 24 #[.int .i64 P, .int .i64 C, .int .i64 M]
    have HB := Lib.hid hb
    clear hb
    go_enter Try.func29, Try.ntmps29
    go_wp2_with (go_at_call 24; refine (rmay_any _ _ _ _).mono ?_; rintro e w1 ⟨rfl, ho1⟩; obtain ⟨d0, d1, d2⟩ := shp_cells (ho1.blk HB.out (by simp)))
    go_ret
    exact ⟨rfl, hb0.trans ho1⟩

theorem rstatus_any (P C M c : Int) (w : World) :
    Calls Try.prog 35 #[.agg #[.int .i64 P, .int .i64 C, .int .i64 M], .int .i64 c] w fun e w' => e = .returned (.int .i64 (statusI P C M c)) ∧ Off [] w w' := by
  rcases fit_cases P C M with hf | hf
  · by_cases hc : 0 ≤ c ∧ c < C
    · have hm := mayB_t hf
      rw [show statusI P C M c = c from by unfold statusI; rw [if_pos ⟨hm, hc⟩]]
      obtain ⟨hb, hb0⟩ := box_new w 24 #[.int .i64 P, .int .i64 C, .int .i64 M]
      have HB := Lib.hid hb
      clear hb
      obtain ⟨p1, p2, c1, c2, m1, m2⟩ := hf
      obtain ⟨hc1, hc2⟩ := hc
      go_enter Try.func35, Try.ntmps35
      go_wp2_with (first | (go_at_call 24; refine (rmay_any _ _ _ _).mono ?_; rintro e w1 ⟨rfl, ho1⟩; obtain ⟨d0, d1, d2⟩ := shp_cells (ho1.blk HB.out (by simp))))
      go_ret
      exact ⟨rfl, hb0.trans ho1⟩
    · rw [show statusI P C M c = -1 from by unfold statusI; rw [if_neg (by intro h; exact hc h.2)]]
      by_cases h0 : c < 0
      · have hm := mayB_t hf
        obtain ⟨hb, hb0⟩ := box_new w 24 #[.int .i64 P, .int .i64 C, .int .i64 M]
        have HB := Lib.hid hb
        clear hb
        clear hf hc
        go_enter Try.func35, Try.ntmps35
        go_wp2_with (first | (go_at_call 24; refine (rmay_any _ _ _ _).mono ?_; rintro e w1 ⟨rfl, ho1⟩; obtain ⟨d0, d1, d2⟩ := shp_cells (ho1.blk HB.out (by simp))))
        go_ret
        exact ⟨rfl, hb0.trans ho1⟩
      · have hm := mayB_t hf
        have q0 : decide (c < 0) = false := by simp; omega
        have q : decide (C ≤ c) = true := by simp; omega
        obtain ⟨hb, hb0⟩ := box_new w 24 #[.int .i64 P, .int .i64 C, .int .i64 M]
        have HB := Lib.hid hb
        clear hb
        clear hf hc h0
        go_enter Try.func35, Try.ntmps35
        go_wp2_with (first | (go_at_call 24; refine (rmay_any _ _ _ _).mono ?_; rintro e w1 ⟨rfl, ho1⟩; obtain ⟨d0, d1, d2⟩ := shp_cells (ho1.blk HB.out (by simp))))
        go_ret
        exact ⟨rfl, hb0.trans ho1⟩
  · have hm := mayB_f hf
    rw [show statusI P C M c = -1 from by unfold statusI; rw [if_neg (by rw [hm]; simp)]]
    obtain ⟨hb, hb0⟩ := box_new w 24 #[.int .i64 P, .int .i64 C, .int .i64 M]
    have HB := Lib.hid hb
    clear hb
    clear hf
    go_enter Try.func35, Try.ntmps35
    go_wp2_with (first | (go_at_call 24; refine (rmay_any _ _ _ _).mono ?_; rintro e w1 ⟨rfl, ho1⟩; obtain ⟨d0, d1, d2⟩ := shp_cells (ho1.blk HB.out (by simp))))
    go_ret
    exact ⟨rfl, hb0.trans ho1⟩

theorem rpage_any (P C M p : Int) (w : World) :
    Calls Try.prog 31 #[.agg #[.int .i64 P, .int .i64 C, .int .i64 M], .int .i64 p] w fun e w' => e = .returned (.int .i64 (pageI P C M p)) ∧ Off [] w w' := by
  rcases fit_cases P C M with hf | hf
  · by_cases hc : 0 ≤ p ∧ p < P
    · have hm := mayB_t hf
      rw [show pageI P C M p = C + p from by unfold pageI; rw [if_pos ⟨hm, hc⟩]]
      obtain ⟨hb, hb0⟩ := box_new w 24 #[.int .i64 P, .int .i64 C, .int .i64 M]
      have HB := Lib.hid hb
      clear hb
      obtain ⟨p1, p2, c1, c2, m1, m2⟩ := hf
      obtain ⟨hc1, hc2⟩ := hc
      go_enter Try.func31, Try.ntmps31
      go_wp2_with (first | (go_at_call 24; refine (rmay_any _ _ _ _).mono ?_; rintro e w1 ⟨rfl, ho1⟩; obtain ⟨d0, d1, d2⟩ := shp_cells (ho1.blk HB.out (by simp))))
      go_ret
      exact ⟨rfl, hb0.trans ho1⟩
    · rw [show pageI P C M p = -1 from by unfold pageI; rw [if_neg (by intro h; exact hc h.2)]]
      by_cases h0 : p < 0
      · have hm := mayB_t hf
        obtain ⟨hb, hb0⟩ := box_new w 24 #[.int .i64 P, .int .i64 C, .int .i64 M]
        have HB := Lib.hid hb
        clear hb
        clear hf hc
        go_enter Try.func31, Try.ntmps31
        go_wp2_with (first | (go_at_call 24; refine (rmay_any _ _ _ _).mono ?_; rintro e w1 ⟨rfl, ho1⟩; obtain ⟨d0, d1, d2⟩ := shp_cells (ho1.blk HB.out (by simp))))
        go_ret
        exact ⟨rfl, hb0.trans ho1⟩
      · have hm := mayB_t hf
        have q0 : decide (p < 0) = false := by simp; omega
        have q : decide (P ≤ p) = true := by simp; omega
        obtain ⟨hb, hb0⟩ := box_new w 24 #[.int .i64 P, .int .i64 C, .int .i64 M]
        have HB := Lib.hid hb
        clear hb
        clear hf hc h0
        go_enter Try.func31, Try.ntmps31
        go_wp2_with (first | (go_at_call 24; refine (rmay_any _ _ _ _).mono ?_; rintro e w1 ⟨rfl, ho1⟩; obtain ⟨d0, d1, d2⟩ := shp_cells (ho1.blk HB.out (by simp))))
        go_ret
        exact ⟨rfl, hb0.trans ho1⟩
  · have hm := mayB_f hf
    rw [show pageI P C M p = -1 from by unfold pageI; rw [if_neg (by rw [hm]; simp)]]
    obtain ⟨hb, hb0⟩ := box_new w 24 #[.int .i64 P, .int .i64 C, .int .i64 M]
    have HB := Lib.hid hb
    clear hb
    clear hf
    go_enter Try.func31, Try.ntmps31
    go_wp2_with (first | (go_at_call 24; refine (rmay_any _ _ _ _).mono ?_; rintro e w1 ⟨rfl, ho1⟩; obtain ⟨d0, d1, d2⟩ := shp_cells (ho1.blk HB.out (by simp))))
    go_ret
    exact ⟨rfl, hb0.trans ho1⟩

theorem rslot_any (P C M p i : Int) (w : World) :
    Calls Try.prog 32 #[.agg #[.int .i64 P, .int .i64 C, .int .i64 M], .int .i64 p, .int .i64 i] w fun e w' => e = .returned (.int .i64 (slotI P C M p i)) ∧ Off [] w w' := by
  rcases fit_cases P C M with hf | hf
  · have hm := mayB_t hf
    by_cases hc : 0 ≤ p ∧ p < P
    · have hp : decide (pageI P C M p < 0) = false := decide_eq_false (by unfold pageI; rw [if_pos ⟨hm, hc⟩]; have := hf.c1; omega)
      by_cases hi : 0 ≤ i ∧ i < 16
      · rw [show slotI P C M p i = C + P + 16 * p + i from by unfold slotI; rw [if_pos ⟨hm, hc, hi⟩]]
        obtain ⟨hb, hb0⟩ := box_new w 24 #[.int .i64 P, .int .i64 C, .int .i64 M]
        have HB := Lib.hid hb
        clear hb
        obtain ⟨p1, p2, c1, c2, m1, m2⟩ := hf
        obtain ⟨hc1, hc2⟩ := hc
        obtain ⟨hi1, hi2⟩ := hi
        go_enter Try.func32, Try.ntmps32
        go_wp2_with (first | (go_at_call 31; refine (rpage_any _ _ _ _ _).mono ?_; rintro e w1 ⟨rfl, ho1⟩; obtain ⟨d0, d1, d2⟩ := shp_cells (ho1.blk HB.out (by simp))))
        go_ret
        exact ⟨rfl, hb0.trans ho1⟩
      · rw [show slotI P C M p i = -1 from by unfold slotI; rw [if_neg (by intro h; exact hi h.2.2)]]
        by_cases h0 : i < 0
        · obtain ⟨hb, hb0⟩ := box_new w 24 #[.int .i64 P, .int .i64 C, .int .i64 M]
          have HB := Lib.hid hb
          clear hb
          clear hf hc hi
          go_enter Try.func32, Try.ntmps32
          go_wp2_with (first | (go_at_call 31; refine (rpage_any _ _ _ _ _).mono ?_; rintro e w1 ⟨rfl, ho1⟩; obtain ⟨d0, d1, d2⟩ := shp_cells (ho1.blk HB.out (by simp))))
          go_ret
          exact ⟨rfl, hb0.trans ho1⟩
        · have q0 : decide (i < 0) = false := by simp; omega
          have q : decide (16 ≤ i) = true := by simp; omega
          obtain ⟨hb, hb0⟩ := box_new w 24 #[.int .i64 P, .int .i64 C, .int .i64 M]
          have HB := Lib.hid hb
          clear hb
          clear hf hc hi h0
          go_enter Try.func32, Try.ntmps32
          go_wp2_with (first | (go_at_call 31; refine (rpage_any _ _ _ _ _).mono ?_; rintro e w1 ⟨rfl, ho1⟩; obtain ⟨d0, d1, d2⟩ := shp_cells (ho1.blk HB.out (by simp))))
          go_ret
          exact ⟨rfl, hb0.trans ho1⟩
    · have hp : decide (pageI P C M p < 0) = true := decide_eq_true (by unfold pageI; rw [if_neg (by intro h; exact hc h.2)]; decide)
      rw [show slotI P C M p i = -1 from by unfold slotI; rw [if_neg (by intro h; exact hc h.2.1)]]
      obtain ⟨hb, hb0⟩ := box_new w 24 #[.int .i64 P, .int .i64 C, .int .i64 M]
      have HB := Lib.hid hb
      clear hb
      clear hf hc
      go_enter Try.func32, Try.ntmps32
      go_wp2_with (first | (go_at_call 31; refine (rpage_any _ _ _ _ _).mono ?_; rintro e w1 ⟨rfl, ho1⟩; obtain ⟨d0, d1, d2⟩ := shp_cells (ho1.blk HB.out (by simp))))
      go_ret
      exact ⟨rfl, hb0.trans ho1⟩
  · have hm := mayB_f hf
    have hp : decide (pageI P C M p < 0) = true := decide_eq_true (by unfold pageI; rw [if_neg (by rw [hm]; simp)]; decide)
    rw [show slotI P C M p i = -1 from by unfold slotI; rw [if_neg (by rw [hm]; simp)]]
    obtain ⟨hb, hb0⟩ := box_new w 24 #[.int .i64 P, .int .i64 C, .int .i64 M]
    have HB := Lib.hid hb
    clear hb
    clear hf
    go_enter Try.func32, Try.ntmps32
    go_wp2_with (first | (go_at_call 31; refine (rpage_any _ _ _ _ _).mono ?_; rintro e w1 ⟨rfl, ho1⟩; obtain ⟨d0, d1, d2⟩ := shp_cells (ho1.blk HB.out (by simp))))
    go_ret
    exact ⟨rfl, hb0.trans ho1⟩

theorem rmag_any (P C M c i : Int) (w : World) :
    Calls Try.prog 33 #[.agg #[.int .i64 P, .int .i64 C, .int .i64 M], .int .i64 c, .int .i64 i] w fun e w' => e = .returned (.int .i64 (magI P C M c i)) ∧ Off [] w w' := by
  rcases fit_cases P C M with hf | hf
  · have hm := mayB_t hf
    by_cases hc : 0 ≤ c ∧ c < C
    · have hp : decide (statusI P C M c < 0) = false := decide_eq_false (by unfold statusI; rw [if_pos ⟨hm, hc⟩]; have := hf.c1; omega)
      by_cases hi : 0 ≤ i ∧ i < M
      · have hmc := mul_bd (A := 8) (B := 12) hf.m1 hf.m2 hc.1 (Int.le_of_lt (Int.lt_of_lt_of_le hc.2 hf.c2))
        obtain ⟨b1, b2⟩ := hmc
        rw [show magI P C M c i = C + P + 16 * P + M * c + i from by unfold magI; rw [if_pos ⟨hm, hc, hi⟩]]
        obtain ⟨hb, hb0⟩ := box_new w 24 #[.int .i64 P, .int .i64 C, .int .i64 M]
        have HB := Lib.hid hb
        clear hb
        obtain ⟨p1, p2, c1, c2, m1, m2⟩ := hf
        obtain ⟨hc1, hc2⟩ := hc
        obtain ⟨hi1, hi2⟩ := hi
        go_enter Try.func33, Try.ntmps33
        go_wp2_with (first | (go_at_call 35; refine (rstatus_any _ _ _ _ _).mono ?_; rintro e w1 ⟨rfl, ho1⟩; obtain ⟨d0, d1, d2⟩ := shp_cells (ho1.blk HB.out (by simp))))
        go_ret
        exact ⟨rfl, hb0.trans ho1⟩
      · rw [show magI P C M c i = -1 from by unfold magI; rw [if_neg (by intro h; exact hi h.2.2)]]
        by_cases h0 : i < 0
        · obtain ⟨hb, hb0⟩ := box_new w 24 #[.int .i64 P, .int .i64 C, .int .i64 M]
          have HB := Lib.hid hb
          clear hb
          clear hf hc hi
          go_enter Try.func33, Try.ntmps33
          go_wp2_with (first | (go_at_call 35; refine (rstatus_any _ _ _ _ _).mono ?_; rintro e w1 ⟨rfl, ho1⟩; obtain ⟨d0, d1, d2⟩ := shp_cells (ho1.blk HB.out (by simp))))
          go_ret
          exact ⟨rfl, hb0.trans ho1⟩
        · have q0 : decide (i < 0) = false := by simp; omega
          have q : decide (M ≤ i) = true := by simp; omega
          obtain ⟨hb, hb0⟩ := box_new w 24 #[.int .i64 P, .int .i64 C, .int .i64 M]
          have HB := Lib.hid hb
          clear hb
          clear hf hc hi h0
          go_enter Try.func33, Try.ntmps33
          go_wp2_with (first | (go_at_call 35; refine (rstatus_any _ _ _ _ _).mono ?_; rintro e w1 ⟨rfl, ho1⟩; obtain ⟨d0, d1, d2⟩ := shp_cells (ho1.blk HB.out (by simp))))
          go_ret
          exact ⟨rfl, hb0.trans ho1⟩
    · have hp : decide (statusI P C M c < 0) = true := decide_eq_true (by unfold statusI; rw [if_neg (by intro h; exact hc h.2)]; decide)
      rw [show magI P C M c i = -1 from by unfold magI; rw [if_neg (by intro h; exact hc h.2.1)]]
      obtain ⟨hb, hb0⟩ := box_new w 24 #[.int .i64 P, .int .i64 C, .int .i64 M]
      have HB := Lib.hid hb
      clear hb
      clear hf hc
      go_enter Try.func33, Try.ntmps33
      go_wp2_with (first | (go_at_call 35; refine (rstatus_any _ _ _ _ _).mono ?_; rintro e w1 ⟨rfl, ho1⟩; obtain ⟨d0, d1, d2⟩ := shp_cells (ho1.blk HB.out (by simp))))
      go_ret
      exact ⟨rfl, hb0.trans ho1⟩
  · have hm := mayB_f hf
    have hp : decide (statusI P C M c < 0) = true := decide_eq_true (by unfold statusI; rw [if_neg (by rw [hm]; simp)]; decide)
    rw [show magI P C M c i = -1 from by unfold magI; rw [if_neg (by rw [hm]; simp)]]
    obtain ⟨hb, hb0⟩ := box_new w 24 #[.int .i64 P, .int .i64 C, .int .i64 M]
    have HB := Lib.hid hb
    clear hb
    clear hf
    go_enter Try.func33, Try.ntmps33
    go_wp2_with (first | (go_at_call 35; refine (rstatus_any _ _ _ _ _).mono ?_; rintro e w1 ⟨rfl, ho1⟩; obtain ⟨d0, d1, d2⟩ := shp_cells (ho1.blk HB.out (by simp))))
    go_ret
    exact ⟨rfl, hb0.trans ho1⟩

theorem rsplit_any (P C M a : Int) (w : World) :
    Calls Try.prog 23 #[.agg #[.int .i64 P, .int .i64 C, .int .i64 M], .int .i64 a] w fun e w' => e = .returned (.tuple #[.int .i64 (splitP P C M a), .int .i64 (splitO P C M a), .bool (splitB P C M a)]) ∧ Off [] w w' := by
  rcases fit_cases P C M with hf | hf
  · have hm := mayB_t hf
    by_cases hc : 0 ≤ a ∧ a < P * 64
    · have hs := splitB_t hf hc.1 hc.2
      rw [show splitP P C M a = a / 64 from by unfold splitP; rw [hs]; rfl, show splitO P C M a = a % 64 from by unfold splitO; rw [hs]; rfl, hs]
      obtain ⟨hb, hb0⟩ := box_new w 24 #[.int .i64 P, .int .i64 C, .int .i64 M]
      have HB := Lib.hid hb
      clear hb
      clear hs
      obtain ⟨p1, p2, c1, c2, m1, m2⟩ := hf
      obtain ⟨hc1, hc2⟩ := hc
      go_enter Try.func23, Try.ntmps23
      go_wp2_with (first | (go_at_call 24; refine (rmay_any _ _ _ _).mono ?_; rintro e w1 ⟨rfl, ho1⟩; obtain ⟨d0, d1, d2⟩ := shp_cells (ho1.blk HB.out (by simp))))
      go_ret3
      exact ⟨rfl, hb0.trans ho1⟩
    · have hs : splitB P C M a = false := splitB_f (fun h => hc h.2)
      rw [show splitP P C M a = 0 from by unfold splitP; rw [hs]; rfl, show splitO P C M a = 0 from by unfold splitO; rw [hs]; rfl, hs]
      by_cases h0 : a < 0
      · obtain ⟨hb, hb0⟩ := box_new w 24 #[.int .i64 P, .int .i64 C, .int .i64 M]
        have HB := Lib.hid hb
        clear hb
        clear hs hf hc
        go_enter Try.func23, Try.ntmps23
        go_wp2_with (first | (go_at_call 24; refine (rmay_any _ _ _ _).mono ?_; rintro e w1 ⟨rfl, ho1⟩; obtain ⟨d0, d1, d2⟩ := shp_cells (ho1.blk HB.out (by simp))))
        go_ret3
        exact ⟨rfl, hb0.trans ho1⟩
      · have q0 : decide (a < 0) = false := by simp; omega
        have q : decide (P * 64 ≤ a) = true := by simp; omega
        obtain ⟨hb, hb0⟩ := box_new w 24 #[.int .i64 P, .int .i64 C, .int .i64 M]
        have HB := Lib.hid hb
        clear hb
        clear hs hc h0
        obtain ⟨p1, p2, c1, c2, m1, m2⟩ := hf
        go_enter Try.func23, Try.ntmps23
        go_wp2_with (first | (go_at_call 24; refine (rmay_any _ _ _ _).mono ?_; rintro e w1 ⟨rfl, ho1⟩; obtain ⟨d0, d1, d2⟩ := shp_cells (ho1.blk HB.out (by simp))))
        go_ret3
        exact ⟨rfl, hb0.trans ho1⟩
  · have hm := mayB_f hf
    have hs : splitB P C M a = false := splitB_f (fun h => hf h.1)
    rw [show splitP P C M a = 0 from by unfold splitP; rw [hs]; rfl, show splitO P C M a = 0 from by unfold splitO; rw [hs]; rfl, hs]
    obtain ⟨hb, hb0⟩ := box_new w 24 #[.int .i64 P, .int .i64 C, .int .i64 M]
    have HB := Lib.hid hb
    clear hb
    clear hs hf
    go_enter Try.func23, Try.ntmps23
    go_wp2_with (first | (go_at_call 24; refine (rmay_any _ _ _ _).mono ?_; rintro e w1 ⟨rfl, ho1⟩; obtain ⟨d0, d1, d2⟩ := shp_cells (ho1.blk HB.out (by simp))))
    go_ret3
    exact ⟨rfl, hb0.trans ho1⟩

end Go.Proofs.Ytadnehblklpphaa.Plan
