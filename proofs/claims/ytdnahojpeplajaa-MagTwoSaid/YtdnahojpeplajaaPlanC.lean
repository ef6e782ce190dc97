/- The document's own sizes and places: a contract each. -/
import Derived.Test.YtdnahojpeplajaaPlanB
namespace Go.Proofs.Ytdnahojpeplajaa.Plan
open Go.RowKit Mem

theorem not_fit {P C M : Int} (h : ¬ Fit P C M) : ¬ 1 ≤ P ∨ (1 ≤ P ∧ ¬ P ≤ 64) ∨ (1 ≤ P ∧ P ≤ 64 ∧ ¬ 1 ≤ C) ∨ (1 ≤ P ∧ P ≤ 64 ∧ 1 ≤ C ∧ ¬ C ≤ 12) ∨ (1 ≤ P ∧ P ≤ 64 ∧ 1 ≤ C ∧ C ≤ 12 ∧ ¬ 0 ≤ M) ∨ (1 ≤ P ∧ P ≤ 64 ∧ 1 ≤ C ∧ C ≤ 12 ∧ 0 ≤ M ∧ ¬ M ≤ 8) := by
  by_cases a : 1 ≤ P
  · by_cases b : P ≤ 64
    · by_cases c : 1 ≤ C
      · by_cases d : C ≤ 12
        · by_cases e : 0 ≤ M
          · by_cases f : M ≤ 8
            · exact absurd ⟨a, b, c, d, e, f⟩ h
            · exact .inr (.inr (.inr (.inr (.inr ⟨a, b, c, d, e, f⟩))))
          · exact .inr (.inr (.inr (.inr (.inl ⟨a, b, c, d, e⟩))))
        · exact .inr (.inr (.inr (.inl ⟨a, b, c, d⟩)))
      · exact .inr (.inr (.inl ⟨a, b, c⟩))
    · exact .inr (.inl ⟨a, b⟩)
  · exact .inl a

theorem rmay_any (P C M : Int) (w : World) :
    Calls Try.prog 20 #[.agg #[.int .i64 P, .int .i64 C, .int .i64 M]] w fun e w' => e = .returned (.bool (mayB P C M)) ∧ Off [] w w' := by
  rcases fit_cases P C M with hf | hf
  · rw [mayB_t hf]
    obtain ⟨p1, p2, c1, c2, m1, m2⟩ := hf
    go_enter Try.func20, Try.ntmps20
    go_wp2
    go_ret
    exact ⟨rfl, (Off.refl _ _).alloc _⟩
  · rw [mayB_f hf]
    rcases not_fit hf with a | ⟨a, b⟩ | ⟨a, b, c⟩ | ⟨a, b, c, d⟩ | ⟨a, b, c, d, f⟩ | ⟨a, b, c, d, f, g⟩
    · have q : decide (1 ≤ P) = false := by simp; omega
      clear hf a
      go_enter Try.func20, Try.ntmps20
      go_wp2
      go_ret
      exact ⟨rfl, (Off.refl _ _).alloc _⟩
    · have q : decide (P ≤ 64) = false := by simp; omega
      clear hf b
      go_enter Try.func20, Try.ntmps20
      go_wp2
      go_ret
      exact ⟨rfl, (Off.refl _ _).alloc _⟩
    · have q : decide (1 ≤ C) = false := by simp; omega
      clear hf c
      go_enter Try.func20, Try.ntmps20
      go_wp2
      go_ret
      exact ⟨rfl, (Off.refl _ _).alloc _⟩
    · have q : decide (C ≤ 12) = false := by simp; omega
      clear hf d
      go_enter Try.func20, Try.ntmps20
      go_wp2
      go_ret
      exact ⟨rfl, (Off.refl _ _).alloc _⟩
    · have q : decide (0 ≤ M) = false := by simp; omega
      clear hf f
      go_enter Try.func20, Try.ntmps20
      go_wp2
      go_ret
      exact ⟨rfl, (Off.refl _ _).alloc _⟩
    · have q : decide (M ≤ 8) = false := by simp; omega
      clear hf g
      go_enter Try.func20, Try.ntmps20
      go_wp2
      go_ret
      exact ⟨rfl, (Off.refl _ _).alloc _⟩

theorem rslots_any (k : Int) (w : World) :
    Calls Try.prog 43 #[.int .i64 k] w fun e w' => e = .returned (.int .i64 (slotsI k)) ∧ w = w' := by
  by_cases h : 0 ≤ k ∧ k < 4
  · obtain rfl | rfl | rfl | rfl := four_cases h
    all_goals
      clear h
      go_enter Try.func43, Try.ntmps43
      go_wp2
      go_ret
      exact ⟨rfl, rfl⟩
  · rw [slotsI_out h]
    by_cases h0 : 0 ≤ k
    · have q : decide (4 ≤ k) = true := by simp; omega
      clear h
      go_enter Try.func43, Try.ntmps43
      go_wp2
      go_ret
      exact ⟨rfl, rfl⟩
    · have q : decide (k < 0) = true := by simp; omega
      clear h h0
      go_enter Try.func43, Try.ntmps43
      go_wp2
      go_ret
      exact ⟨rfl, rfl⟩

theorem total_any (P C M : Int) (w : World) :
    Calls Try.prog 8 #[.agg #[.int .i64 P, .int .i64 C, .int .i64 M]] w fun e w' => e = .returned (.int .i64 (wordsI P C M)) ∧ Off [] w w' := by
  rcases fit_cases P C M with hf | hf
  · have hm := mayB_t hf
    have hcm := fit_bd hf
    have HV := Lib.hid (show C + P + 16 * P + C * M = wordsI P C M from by unfold wordsI; rw [if_pos hm])
    obtain ⟨p1, p2, c1, c2, m1, m2⟩ := hf
    obtain ⟨b1, b2⟩ := hcm
    obtain ⟨hb, hb0⟩ := box_new w 24 #[.int .i64 P, .int .i64 C, .int .i64 M]
    have HB := Lib.hid hb
    clear hb
    go_enter Try.func8, Try.ntmps8
    go_wp2_with (go_at_call 20; refine (rmay_any _ _ _ _).mono ?_; rintro e w1 ⟨rfl, ho1⟩; obtain ⟨d0, d1, d2⟩ := shp_cells (ho1.blk HB.out (by simp)))
    go_ret
    exact ⟨by rw [← HV.out]; rfl, hb0.trans ho1⟩
  · have hm := mayB_f hf
    rw [show wordsI P C M = 0 from by unfold wordsI; rw [hm]; rfl]
    clear hf
    obtain ⟨hb, hb0⟩ := box_new w 24 #[.int .i64 P, .int .i64 C, .int .i64 M]
    have HB := Lib.hid hb
    clear hb
    go_enter Try.func8, Try.ntmps8
    go_wp2_with (go_at_call 20; refine (rmay_any _ _ _ _).mono ?_; rintro e w1 ⟨rfl, ho1⟩; obtain ⟨d0, d1, d2⟩ := shp_cells (ho1.blk HB.out (by simp)))
    go_ret
    exact ⟨rfl, hb0.trans ho1⟩

theorem rstatus_any (P C M c : Int) (w : World) :
    Calls Try.prog 50 #[.agg #[.int .i64 P, .int .i64 C, .int .i64 M], .int .i64 c] w fun e w' => e = .returned (.int .i64 (statusI P C M c)) ∧ Off [] w w' := by
  rcases fit_cases P C M with hf | hf
  · by_cases hc : 0 ≤ c ∧ c < C
    · have hm := mayB_t hf
      rw [show statusI P C M c = c from by unfold statusI; rw [if_pos ⟨hm, hc⟩]]
      obtain ⟨hb, hb0⟩ := box_new w 24 #[.int .i64 P, .int .i64 C, .int .i64 M]
      have HB := Lib.hid hb
      clear hb
      obtain ⟨p1, p2, c1, c2, m1, m2⟩ := hf
      obtain ⟨hc1, hc2⟩ := hc
      go_enter Try.func50, Try.ntmps50
      go_wp2_with (first | (go_at_call 20; refine (rmay_any _ _ _ _).mono ?_; rintro e w1 ⟨rfl, ho1⟩; obtain ⟨d0, d1, d2⟩ := shp_cells (ho1.blk HB.out (by simp))))
      go_ret
      exact ⟨rfl, hb0.trans ho1⟩
    · rw [show statusI P C M c = -1 from by unfold statusI; rw [if_neg (by intro h; exact hc h.2)]]
      by_cases h0 : c < 0
      · have hm := mayB_t hf
        obtain ⟨hb, hb0⟩ := box_new w 24 #[.int .i64 P, .int .i64 C, .int .i64 M]
        have HB := Lib.hid hb
        clear hb
        clear hf hc
        go_enter Try.func50, Try.ntmps50
        go_wp2_with (first | (go_at_call 20; refine (rmay_any _ _ _ _).mono ?_; rintro e w1 ⟨rfl, ho1⟩; obtain ⟨d0, d1, d2⟩ := shp_cells (ho1.blk HB.out (by simp))))
        go_ret
        exact ⟨rfl, hb0.trans ho1⟩
      · have hm := mayB_t hf
        have q0 : decide (c < 0) = false := by simp; omega
        have q : decide (C ≤ c) = true := by simp; omega
        obtain ⟨hb, hb0⟩ := box_new w 24 #[.int .i64 P, .int .i64 C, .int .i64 M]
        have HB := Lib.hid hb
        clear hb
        clear hf hc h0
        go_enter Try.func50, Try.ntmps50
        go_wp2_with (first | (go_at_call 20; refine (rmay_any _ _ _ _).mono ?_; rintro e w1 ⟨rfl, ho1⟩; obtain ⟨d0, d1, d2⟩ := shp_cells (ho1.blk HB.out (by simp))))
        go_ret
        exact ⟨rfl, hb0.trans ho1⟩
  · have hm := mayB_f hf
    rw [show statusI P C M c = -1 from by unfold statusI; rw [if_neg (by rw [hm]; simp)]]
    obtain ⟨hb, hb0⟩ := box_new w 24 #[.int .i64 P, .int .i64 C, .int .i64 M]
    have HB := Lib.hid hb
    clear hb
    clear hf
    go_enter Try.func50, Try.ntmps50
    go_wp2_with (first | (go_at_call 20; refine (rmay_any _ _ _ _).mono ?_; rintro e w1 ⟨rfl, ho1⟩; obtain ⟨d0, d1, d2⟩ := shp_cells (ho1.blk HB.out (by simp))))
    go_ret
    exact ⟨rfl, hb0.trans ho1⟩

theorem rpage_any (P C M p : Int) (w : World) :
    Calls Try.prog 63 #[.agg #[.int .i64 P, .int .i64 C, .int .i64 M], .int .i64 p] w fun e w' => e = .returned (.int .i64 (pageI P C M p)) ∧ Off [] w w' := by
  rcases fit_cases P C M with hf | hf
  · by_cases hc : 0 ≤ p ∧ p < P
    · have hm := mayB_t hf
      rw [show pageI P C M p = C + p from by unfold pageI; rw [if_pos ⟨hm, hc⟩]]
      obtain ⟨hb, hb0⟩ := box_new w 24 #[.int .i64 P, .int .i64 C, .int .i64 M]
      have HB := Lib.hid hb
      clear hb
      obtain ⟨p1, p2, c1, c2, m1, m2⟩ := hf
      obtain ⟨hc1, hc2⟩ := hc
      go_enter Try.func63, Try.ntmps63
      go_wp2_with (first | (go_at_call 20; refine (rmay_any _ _ _ _).mono ?_; rintro e w1 ⟨rfl, ho1⟩; obtain ⟨d0, d1, d2⟩ := shp_cells (ho1.blk HB.out (by simp))))
      go_ret
      exact ⟨rfl, hb0.trans ho1⟩
    · rw [show pageI P C M p = -1 from by unfold pageI; rw [if_neg (by intro h; exact hc h.2)]]
      by_cases h0 : p < 0
      · have hm := mayB_t hf
        obtain ⟨hb, hb0⟩ := box_new w 24 #[.int .i64 P, .int .i64 C, .int .i64 M]
        have HB := Lib.hid hb
        clear hb
        clear hf hc
        go_enter Try.func63, Try.ntmps63
        go_wp2_with (first | (go_at_call 20; refine (rmay_any _ _ _ _).mono ?_; rintro e w1 ⟨rfl, ho1⟩; obtain ⟨d0, d1, d2⟩ := shp_cells (ho1.blk HB.out (by simp))))
        go_ret
        exact ⟨rfl, hb0.trans ho1⟩
      · have hm := mayB_t hf
        have q0 : decide (p < 0) = false := by simp; omega
        have q : decide (P ≤ p) = true := by simp; omega
        obtain ⟨hb, hb0⟩ := box_new w 24 #[.int .i64 P, .int .i64 C, .int .i64 M]
        have HB := Lib.hid hb
        clear hb
        clear hf hc h0
        go_enter Try.func63, Try.ntmps63
        go_wp2_with (first | (go_at_call 20; refine (rmay_any _ _ _ _).mono ?_; rintro e w1 ⟨rfl, ho1⟩; obtain ⟨d0, d1, d2⟩ := shp_cells (ho1.blk HB.out (by simp))))
        go_ret
        exact ⟨rfl, hb0.trans ho1⟩
  · have hm := mayB_f hf
    rw [show pageI P C M p = -1 from by unfold pageI; rw [if_neg (by rw [hm]; simp)]]
    obtain ⟨hb, hb0⟩ := box_new w 24 #[.int .i64 P, .int .i64 C, .int .i64 M]
    have HB := Lib.hid hb
    clear hb
    clear hf
    go_enter Try.func63, Try.ntmps63
    go_wp2_with (first | (go_at_call 20; refine (rmay_any _ _ _ _).mono ?_; rintro e w1 ⟨rfl, ho1⟩; obtain ⟨d0, d1, d2⟩ := shp_cells (ho1.blk HB.out (by simp))))
    go_ret
    exact ⟨rfl, hb0.trans ho1⟩

theorem rmag_any (P C M c i : Int) (w : World) :
    Calls Try.prog 27 #[.agg #[.int .i64 P, .int .i64 C, .int .i64 M], .int .i64 c, .int .i64 i] w fun e w' => e = .returned (.int .i64 (magI P C M c i)) ∧ Off [] w w' := by
  rcases fit_cases P C M with hf | hf
  · have hm := mayB_t hf
    by_cases hc : 0 ≤ c ∧ c < C
    · have hp : decide (statusI P C M c < 0) = false := decide_eq_false (by unfold statusI; rw [if_pos ⟨hm, hc⟩]; have := hf.c1; omega)
      by_cases hi : 0 ≤ i ∧ i < M
      · have hmc := mul_bd (A := 8) (B := 12) hf.m1 hf.m2 hc.1 (Int.le_of_lt (Int.lt_of_lt_of_le hc.2 hf.c2))
        obtain ⟨b1, b2⟩ := hmc
        rw [show magI P C M c i = C + P + 16 * P + M * c + i from by unfold magI; rw [if_pos ⟨hm, hc, hi⟩]]
        obtain ⟨hb, hb0⟩ := box_new w 24 #[.int .i64 P, .int .i64 C, .int .i64 M]
        have HB := Lib.hid hb
        clear hb
        obtain ⟨p1, p2, c1, c2, m1, m2⟩ := hf
        obtain ⟨hc1, hc2⟩ := hc
        obtain ⟨hi1, hi2⟩ := hi
        go_enter Try.func27, Try.ntmps27
        go_wp2_with (first | (go_at_call 50; refine (rstatus_any _ _ _ _ _).mono ?_; rintro e w1 ⟨rfl, ho1⟩; obtain ⟨d0, d1, d2⟩ := shp_cells (ho1.blk HB.out (by simp))))
        go_ret
        exact ⟨rfl, hb0.trans ho1⟩
      · rw [show magI P C M c i = -1 from by unfold magI; rw [if_neg (by intro h; exact hi h.2.2)]]
        by_cases h0 : i < 0
        · obtain ⟨hb, hb0⟩ := box_new w 24 #[.int .i64 P, .int .i64 C, .int .i64 M]
          have HB := Lib.hid hb
          clear hb
          clear hf hc hi
          go_enter Try.func27, Try.ntmps27
          go_wp2_with (first | (go_at_call 50; refine (rstatus_any _ _ _ _ _).mono ?_; rintro e w1 ⟨rfl, ho1⟩; obtain ⟨d0, d1, d2⟩ := shp_cells (ho1.blk HB.out (by simp))))
          go_ret
          exact ⟨rfl, hb0.trans ho1⟩
        · have q0 : decide (i < 0) = false := by simp; omega
          have q : decide (M ≤ i) = true := by simp; omega
          obtain ⟨hb, hb0⟩ := box_new w 24 #[.int .i64 P, .int .i64 C, .int .i64 M]
          have HB := Lib.hid hb
          clear hb
          clear hf hc hi h0
          go_enter Try.func27, Try.ntmps27
          go_wp2_with (first | (go_at_call 50; refine (rstatus_any _ _ _ _ _).mono ?_; rintro e w1 ⟨rfl, ho1⟩; obtain ⟨d0, d1, d2⟩ := shp_cells (ho1.blk HB.out (by simp))))
          go_ret
          exact ⟨rfl, hb0.trans ho1⟩
    · have hp : decide (statusI P C M c < 0) = true := decide_eq_true (by unfold statusI; rw [if_neg (by intro h; exact hc h.2)]; decide)
      rw [show magI P C M c i = -1 from by unfold magI; rw [if_neg (by intro h; exact hc h.2.1)]]
      obtain ⟨hb, hb0⟩ := box_new w 24 #[.int .i64 P, .int .i64 C, .int .i64 M]
      have HB := Lib.hid hb
      clear hb
      clear hf hc
      go_enter Try.func27, Try.ntmps27
      go_wp2_with (first | (go_at_call 50; refine (rstatus_any _ _ _ _ _).mono ?_; rintro e w1 ⟨rfl, ho1⟩; obtain ⟨d0, d1, d2⟩ := shp_cells (ho1.blk HB.out (by simp))))
      go_ret
      exact ⟨rfl, hb0.trans ho1⟩
  · have hm := mayB_f hf
    have hp : decide (statusI P C M c < 0) = true := decide_eq_true (by unfold statusI; rw [if_neg (by rw [hm]; simp)]; decide)
    rw [show magI P C M c i = -1 from by unfold magI; rw [if_neg (by rw [hm]; simp)]]
    obtain ⟨hb, hb0⟩ := box_new w 24 #[.int .i64 P, .int .i64 C, .int .i64 M]
    have HB := Lib.hid hb
    clear hb
    clear hf
    go_enter Try.func27, Try.ntmps27
    go_wp2_with (first | (go_at_call 50; refine (rstatus_any _ _ _ _ _).mono ?_; rintro e w1 ⟨rfl, ho1⟩; obtain ⟨d0, d1, d2⟩ := shp_cells (ho1.blk HB.out (by simp))))
    go_ret
    exact ⟨rfl, hb0.trans ho1⟩

end Go.Proofs.Ytdnahojpeplajaa.Plan
