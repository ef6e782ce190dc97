/- Package plan: what takes a shape: a contract each. -/
import Derived.Test.YtadnehblklpphaaPlanA
import Derived.Deep.RegionHeld3
import Derived.Deep.RegionWith
import Derived.IntWalk
namespace Go.Proofs.Ytadnehblklpphaa.Plan
open Go.RowKit Mem

theorem may_any (P C M : Int) (w : World) :
    Calls Try.prog 17 #[.agg #[.int .i64 P, .int .i64 C, .int .i64 M]] w fun e w' => e = .returned (.bool (mayB P C M)) ∧ Off [] w w' := by
  unfold mayB
  cases h1 : fromB 1 P 64 <;> cases h2 : fromB 1 C 12 <;> cases h3 : fromB 0 M 8
  all_goals
    go_enter Try.func17, Try.ntmps17
    go_wp2_with (go_at_call 37; refine (from_any _ _ _ _).mono ?_; rintro e w' ⟨rfl, rfl⟩)
    go_ret
    exact ⟨rfl, (Off.refl _ _).alloc _⟩

theorem pages_any (P C M : Int) (w : World) :
    Calls Try.prog 42 #[.agg #[.int .i64 P, .int .i64 C, .int .i64 M]] w fun e w' => e = .returned (.int .i64 C) ∧ Off [] w w' := by
  go_enter Try.func42, Try.ntmps42
  go_wp2
  go_ret
  exact ⟨rfl, (Off.refl _ _).alloc _⟩

/-- What was boxed; its cells. -/
theorem box_new (w : World) (t : TypeId) (cs : Array Value) : Blk (w.alloc (.cells cs t)) w.heap.size t cs ∧ Off [] w (w.alloc (.cells cs t)) := ⟨Blk.new w t cs, (Off.refl _ _).alloc _⟩
theorem shp_cells {w : World} {g : Nat} {t : TypeId} {P C M : Int} (h : Blk w g t #[.int .i64 P, .int .i64 C, .int .i64 M]) :
    w.cell? ⟨g, 0, none⟩ = some (.int .i64 P) ∧ w.cell? ⟨g, 1, none⟩ = some (.int .i64 C) ∧ w.cell? ⟨g, 2, none⟩ = some (.int .i64 M) := ⟨h.cell 0, h.cell 1, h.cell 2⟩

/-- The last six bits. -/
theorem and63 {a : Int} (h1 : 0 ≤ a) (h2 : a < 4096) : bits .and .i64 a 63 = a % 64 := by
  obtain ⟨n, rfl⟩ := Int.eq_ofNat_of_zero_le h1
  show IntKind.i64.wrap ((BitVec.ofInt 64 (n : Int) &&& BitVec.ofInt 64 63).toNat : Int) = _
  rw [BitVec.toNat_and, BitVec.ofInt_natCast, BitVec.toNat_ofNat, Nat.mod_eq_of_lt (by omega), show (BitVec.ofInt 64 63).toNat = 2 ^ 6 - 1 from rfl, Nat.and_two_pow_sub_one_eq_mod]
  exact IntWalk.i64_in _ (by omega)

/-- What stays when a shape that may be is reckoned with. -/
theorem fit_bd {P C M : Int} (hf : Fit P C M) : 0 ≤ C * M ∧ C * M ≤ 96 := mul_bd (Int.le_trans (by decide) hf.c1) hf.c2 hf.m1 hf.m2

theorem slots0_any (P C M : Int) (hf : Fit P C M) (w : World) :
    Calls Try.prog 40 #[.agg #[.int .i64 P, .int .i64 C, .int .i64 M]] w fun e w' => e = .returned (.int .i64 (C + P)) ∧ Off [] w w' := by
  have HF := Lib.hid hf
  obtain ⟨p1, p2, c1, c2, m1, m2⟩ := hf
  obtain ⟨hb, hb0⟩ := box_new w 24 #[.int .i64 P, .int .i64 C, .int .i64 M]
  obtain ⟨d0, d1, d2⟩ := shp_cells hb
  have HB := Lib.hid hb
  clear hb
  have wr0 : IntKind.i64.wrap (C + P) = C + P := IntWalk.i64_in _ (by omega)
  go_enter Try.func40, Try.ntmps40
  go_wp2
  go_region_held3 (fun w' => w'.cell? ⟨w.heap.size, 0, none⟩ = some (.int .i64 P) ∧ w'.cell? ⟨w.heap.size, 1, none⟩ = some (.int .i64 C) ∧ w'.cell? ⟨w.heap.size, 2, none⟩ = some (.int .i64 M)) (first | exact ⟨d0, d1, d2⟩ | exact ⟨d0', d1', d2'⟩)
    (first | (go_at_call 42; refine (pages_any _ _ _ _).mono ?_; rintro e w2 ⟨rfl, ho2'⟩; have ho2 := ((Off.refl _ _).drewN _).trans ho2'; obtain ⟨d0', d1', d2'⟩ := shp_cells (ho2.blk HB.out (by simp))))
  go_wp2
  go_ret
  exact ⟨rfl, hb0.trans ho2⟩

theorem mags_any (P C M : Int) (hf : Fit P C M) (w : World) :
    Calls Try.prog 41 #[.agg #[.int .i64 P, .int .i64 C, .int .i64 M]] w fun e w' => e = .returned (.int .i64 (C + P + P * 16)) ∧ Off [] w w' := by
  have HF := Lib.hid hf
  obtain ⟨p1, p2, c1, c2, m1, m2⟩ := hf
  obtain ⟨hb, hb0⟩ := box_new w 24 #[.int .i64 P, .int .i64 C, .int .i64 M]
  obtain ⟨d0, d1, d2⟩ := shp_cells hb
  have HB := Lib.hid hb
  clear hb
  have wr0 : IntKind.i64.wrap (P * 16) = P * 16 := IntWalk.i64_in _ (by omega)
  have wr1 : IntKind.i64.wrap (C + P + P * 16) = C + P + P * 16 := IntWalk.i64_in _ (by omega)
  go_enter Try.func41, Try.ntmps41
  go_wp2
  go_region_held3 (fun w' => w'.cell? ⟨w.heap.size, 0, none⟩ = some (.int .i64 P) ∧ w'.cell? ⟨w.heap.size, 1, none⟩ = some (.int .i64 C) ∧ w'.cell? ⟨w.heap.size, 2, none⟩ = some (.int .i64 M)) (first | exact ⟨d0, d1, d2⟩ | exact ⟨d0', d1', d2'⟩)
    (first | (go_at_call 40; refine (slots0_any _ _ _ HF.out _).mono ?_; rintro e w2 ⟨rfl, ho2'⟩; have ho2 := ((Off.refl _ _).drewN _).trans ho2'; obtain ⟨d0', d1', d2'⟩ := shp_cells (ho2.blk HB.out (by simp))))
  go_wp2
  go_ret
  exact ⟨rfl, hb0.trans ho2⟩

theorem words_any (P C M : Int) (w : World) :
    Calls Try.prog 18 #[.agg #[.int .i64 P, .int .i64 C, .int .i64 M]] w fun e w' => e = .returned (.int .i64 (wordsI P C M)) ∧ Off [] w w' := by
  rcases fit_cases P C M with hf | hf
  · have hm := mayB_t hf
    have hcm := fit_bd hf
    have HV := Lib.hid (show C + P + P * 16 + C * M = wordsI P C M from by unfold wordsI; rw [if_pos hm]; omega)
    have HF := Lib.hid hf
    obtain ⟨p1, p2, c1, c2, m1, m2⟩ := hf
    obtain ⟨hb, hb0⟩ := box_new w 24 #[.int .i64 P, .int .i64 C, .int .i64 M]
    have HB := Lib.hid hb
    clear hb
    have wr0 : IntKind.i64.wrap (C * M) = C * M := IntWalk.i64_in _ (by omega)
    have wr1 : IntKind.i64.wrap (C + P + P * 16 + C * M) = C + P + P * 16 + C * M := IntWalk.i64_in _ (by omega)
    go_enter Try.func18, Try.ntmps18
    go_wp2_with (go_at_call 17; refine (may_any _ _ _ _).mono ?_; rintro e w1 ⟨rfl, ho1⟩; obtain ⟨d0, d1, d2⟩ := shp_cells (ho1.blk HB.out (by simp)))
    have HB1 := Lib.hid (ho1.blk HB.out (by simp))
    go_region_held3 (fun w' => w'.cell? ⟨w.heap.size, 0, none⟩ = some (.int .i64 P) ∧ w'.cell? ⟨w.heap.size, 1, none⟩ = some (.int .i64 C) ∧ w'.cell? ⟨w.heap.size, 2, none⟩ = some (.int .i64 M)) (first | exact ⟨d0, d1, d2⟩ | exact ⟨d0', d1', d2'⟩)
      (first | (go_at_call 41; refine (mags_any _ _ _ HF.out _).mono ?_; rintro e w2 ⟨rfl, ho2'⟩; have ho2 := ((Off.refl _ _).drewN _).trans ho2'; obtain ⟨d0', d1', d2'⟩ := shp_cells (ho2.blk HB1.out (by simp))))
    go_wp2
    go_ret
    exact ⟨by rw [← HV.out]; rfl, (hb0.trans ho1).trans ho2⟩
  · have hm := mayB_f hf
    rw [show wordsI P C M = 0 from by unfold wordsI; rw [hm]; rfl]
    obtain ⟨hb, hb0⟩ := box_new w 24 #[.int .i64 P, .int .i64 C, .int .i64 M]
    have HB := Lib.hid hb
    clear hb hf
    go_enter Try.func18, Try.ntmps18
    go_wp2_with (go_at_call 17; refine (may_any _ _ _ _).mono ?_; rintro e w1 ⟨rfl, ho1⟩; obtain ⟨d0, d1, d2⟩ := shp_cells (ho1.blk HB.out (by simp)))
    go_ret
    exact ⟨rfl, hb0.trans ho1⟩

theorem status_any (P C M c : Int) (w : World) :
    Calls Try.prog 34 #[.agg #[.int .i64 P, .int .i64 C, .int .i64 M], .int .i64 c] w fun e w' => e = .returned (.int .i64 (statusI P C M c)) ∧ Off [] w w' := by
  rcases fit_cases P C M with hf | hf
  · by_cases hc : 0 ≤ c ∧ c < C
    · have hm := mayB_t hf
      have hq := belowB_t hc.1 hc.2
      rw [show statusI P C M c = c from by unfold statusI; rw [if_pos ⟨hm, hc⟩]]
      obtain ⟨hb, hb0⟩ := box_new w 24 #[.int .i64 P, .int .i64 C, .int .i64 M]
      have HB := Lib.hid hb
      clear hb
      clear hf hc
      go_enter Try.func34, Try.ntmps34
      go_wp2_with (first | (go_at_call 17; refine (may_any _ _ _ _).mono ?_; rintro e w1 ⟨rfl, ho1⟩; obtain ⟨d0, d1, d2⟩ := shp_cells (ho1.blk HB.out (by simp))) | (go_at_call 39; refine (below_any _ _ _).mono ?_; rintro e w' ⟨rfl, rfl⟩))
      go_ret
      exact ⟨rfl, hb0.trans ho1⟩
    · have hm := mayB_t hf
      have hq : belowB c C = false := belowB_f (by omega)
      rw [show statusI P C M c = -1 from by unfold statusI; rw [if_neg (by intro h; exact hc h.2)]]
      obtain ⟨hb, hb0⟩ := box_new w 24 #[.int .i64 P, .int .i64 C, .int .i64 M]
      have HB := Lib.hid hb
      clear hb
      clear hf
      go_enter Try.func34, Try.ntmps34
      go_wp2_with (first | (go_at_call 17; refine (may_any _ _ _ _).mono ?_; rintro e w1 ⟨rfl, ho1⟩; obtain ⟨d0, d1, d2⟩ := shp_cells (ho1.blk HB.out (by simp))) | (go_at_call 39; refine (below_any _ _ _).mono ?_; rintro e w' ⟨rfl, rfl⟩))
      go_ret
      exact ⟨rfl, hb0.trans ho1⟩
  · have hm := mayB_f hf
    rw [show statusI P C M c = -1 from by unfold statusI; rw [if_neg (by rw [hm]; simp)]]
    obtain ⟨hb, hb0⟩ := box_new w 24 #[.int .i64 P, .int .i64 C, .int .i64 M]
    have HB := Lib.hid hb
    clear hb
    clear hf
    go_enter Try.func34, Try.ntmps34
    go_wp2_with (first | (go_at_call 17; refine (may_any _ _ _ _).mono ?_; rintro e w1 ⟨rfl, ho1⟩; obtain ⟨d0, d1, d2⟩ := shp_cells (ho1.blk HB.out (by simp))) | (go_at_call 39; refine (below_any _ _ _).mono ?_; rintro e w' ⟨rfl, rfl⟩))
    go_ret
    exact ⟨rfl, hb0.trans ho1⟩

theorem page_any (P C M p : Int) (w : World) :
    Calls Try.prog 30 #[.agg #[.int .i64 P, .int .i64 C, .int .i64 M], .int .i64 p] w fun e w' => e = .returned (.int .i64 (pageI P C M p)) ∧ Off [] w w' := by
  rcases fit_cases P C M with hf | hf
  · by_cases hc : 0 ≤ p ∧ p < P
    · have hm := mayB_t hf
      have hq := belowB_t hc.1 hc.2
      rw [show pageI P C M p = C + p from by unfold pageI; rw [if_pos ⟨hm, hc⟩]]
      obtain ⟨hb, hb0⟩ := box_new w 24 #[.int .i64 P, .int .i64 C, .int .i64 M]
      have HB := Lib.hid hb
      clear hb
      obtain ⟨p1, p2, c1, c2, m1, m2⟩ := hf
      obtain ⟨hc1, hc2⟩ := hc
      go_enter Try.func30, Try.ntmps30
      go_wp2_with (first | (go_at_call 17; refine (may_any _ _ _ _).mono ?_; rintro e w1 ⟨rfl, ho1⟩; obtain ⟨d0, d1, d2⟩ := shp_cells (ho1.blk HB.out (by simp))) | (go_at_call 39; refine (below_any _ _ _).mono ?_; rintro e w' ⟨rfl, rfl⟩) | (go_at_call 42; refine (pages_any _ _ _ _).mono ?_; rintro e w2 ⟨rfl, ho2⟩))
      go_ret
      exact ⟨rfl, (hb0.trans ho1).trans ho2⟩
    · have hm := mayB_t hf
      have hq : belowB p P = false := belowB_f (by omega)
      rw [show pageI P C M p = -1 from by unfold pageI; rw [if_neg (by intro h; exact hc h.2)]]
      obtain ⟨hb, hb0⟩ := box_new w 24 #[.int .i64 P, .int .i64 C, .int .i64 M]
      have HB := Lib.hid hb
      clear hb
      clear hf
      go_enter Try.func30, Try.ntmps30
      go_wp2_with (first | (go_at_call 17; refine (may_any _ _ _ _).mono ?_; rintro e w1 ⟨rfl, ho1⟩; obtain ⟨d0, d1, d2⟩ := shp_cells (ho1.blk HB.out (by simp))) | (go_at_call 39; refine (below_any _ _ _).mono ?_; rintro e w' ⟨rfl, rfl⟩))
      go_ret
      exact ⟨rfl, hb0.trans ho1⟩
  · have hm := mayB_f hf
    rw [show pageI P C M p = -1 from by unfold pageI; rw [if_neg (by rw [hm]; simp)]]
    obtain ⟨hb, hb0⟩ := box_new w 24 #[.int .i64 P, .int .i64 C, .int .i64 M]
    have HB := Lib.hid hb
    clear hb
    clear hf
    go_enter Try.func30, Try.ntmps30
    go_wp2_with (first | (go_at_call 17; refine (may_any _ _ _ _).mono ?_; rintro e w1 ⟨rfl, ho1⟩; obtain ⟨d0, d1, d2⟩ := shp_cells (ho1.blk HB.out (by simp))) | (go_at_call 39; refine (below_any _ _ _).mono ?_; rintro e w' ⟨rfl, rfl⟩))
    go_ret
    exact ⟨rfl, hb0.trans ho1⟩

theorem slot_any (P C M p i : Int) (w : World) :
    Calls Try.prog 15 #[.agg #[.int .i64 P, .int .i64 C, .int .i64 M], .int .i64 p, .int .i64 i] w fun e w' => e = .returned (.int .i64 (slotI P C M p i)) ∧ Off [] w w' := by
  rcases fit_cases P C M with hf | hf
  · by_cases hc : 0 ≤ p ∧ p < P
    · by_cases hi : 0 ≤ i ∧ i < 16
      · have hm := mayB_t hf
        have hq := belowB_t hc.1 hc.2
        have hr := belowB_t hi.1 hi.2
        have HV := Lib.hid (show C + P + p * 16 + i = slotI P C M p i from by unfold slotI; rw [if_pos ⟨hm, hc, hi⟩]; omega)
        have HF := Lib.hid hf
        obtain ⟨hb, hb0⟩ := box_new w 24 #[.int .i64 P, .int .i64 C, .int .i64 M]
        have HB := Lib.hid hb
        clear hb
        obtain ⟨p1, p2, c1, c2, m1, m2⟩ := hf
        obtain ⟨hc1, hc2⟩ := hc
        obtain ⟨hi1, hi2⟩ := hi
        go_enter Try.func15, Try.ntmps15
        go_wp2_with (first | (go_at_call 17; refine (may_any _ _ _ _).mono ?_; rintro e w1 ⟨rfl, ho1⟩; obtain ⟨d0, d1, d2⟩ := shp_cells (ho1.blk HB.out (by simp))) | (go_at_call 39; refine (below_any _ _ _).mono ?_; rintro e w' ⟨rfl, rfl⟩) | (go_at_call 40; refine (slots0_any _ _ _ HF.out _).mono ?_; rintro e w2 ⟨rfl, ho2⟩))
        go_ret
        exact ⟨by rw [← HV.out]; rfl, (hb0.trans ho1).trans ho2⟩
      · have hm := mayB_t hf
        have hq2 := belowB_t hc.1 hc.2
        have hq : belowB i 16 = false := belowB_f (by omega)
        rw [show slotI P C M p i = -1 from by unfold slotI; rw [if_neg (by intro h; exact hi h.2.2)]]
        obtain ⟨hb, hb0⟩ := box_new w 24 #[.int .i64 P, .int .i64 C, .int .i64 M]
        have HB := Lib.hid hb
        clear hb
        clear hf
        go_enter Try.func15, Try.ntmps15
        go_wp2_with (first | (go_at_call 17; refine (may_any _ _ _ _).mono ?_; rintro e w1 ⟨rfl, ho1⟩; obtain ⟨d0, d1, d2⟩ := shp_cells (ho1.blk HB.out (by simp))) | (go_at_call 39; refine (below_any _ _ _).mono ?_; rintro e w' ⟨rfl, rfl⟩))
        go_ret
        exact ⟨rfl, hb0.trans ho1⟩
    · have hm := mayB_t hf
      have hq : belowB p P = false := belowB_f (by omega)
      rw [show slotI P C M p i = -1 from by unfold slotI; rw [if_neg (by intro h; exact hc h.2.1)]]
      obtain ⟨hb, hb0⟩ := box_new w 24 #[.int .i64 P, .int .i64 C, .int .i64 M]
      have HB := Lib.hid hb
      clear hb
      clear hf
      go_enter Try.func15, Try.ntmps15
      go_wp2_with (first | (go_at_call 17; refine (may_any _ _ _ _).mono ?_; rintro e w1 ⟨rfl, ho1⟩; obtain ⟨d0, d1, d2⟩ := shp_cells (ho1.blk HB.out (by simp))) | (go_at_call 39; refine (below_any _ _ _).mono ?_; rintro e w' ⟨rfl, rfl⟩))
      go_ret
      exact ⟨rfl, hb0.trans ho1⟩
  · have hm := mayB_f hf
    rw [show slotI P C M p i = -1 from by unfold slotI; rw [if_neg (by rw [hm]; simp)]]
    obtain ⟨hb, hb0⟩ := box_new w 24 #[.int .i64 P, .int .i64 C, .int .i64 M]
    have HB := Lib.hid hb
    clear hb
    clear hf
    go_enter Try.func15, Try.ntmps15
    go_wp2_with (first | (go_at_call 17; refine (may_any _ _ _ _).mono ?_; rintro e w1 ⟨rfl, ho1⟩; obtain ⟨d0, d1, d2⟩ := shp_cells (ho1.blk HB.out (by simp))) | (go_at_call 39; refine (below_any _ _ _).mono ?_; rintro e w' ⟨rfl, rfl⟩))
    go_ret
    exact ⟨rfl, hb0.trans ho1⟩

theorem mag_any (P C M c i : Int) (w : World) :
    Calls Try.prog 16 #[.agg #[.int .i64 P, .int .i64 C, .int .i64 M], .int .i64 c, .int .i64 i] w fun e w' => e = .returned (.int .i64 (magI P C M c i)) ∧ Off [] w w' := by
  rcases fit_cases P C M with hf | hf
  · by_cases hc : 0 ≤ c ∧ c < C
    · by_cases hi : 0 ≤ i ∧ i < M
      · have hm := mayB_t hf
        have hq := belowB_t hc.1 hc.2
        have hr := belowB_t hi.1 hi.2
        have hmc := mul_bd (A := 8) (B := 12) hf.m1 hf.m2 hc.1 (Int.le_of_lt (Int.lt_of_lt_of_le hc.2 hf.c2))
        have HV := Lib.hid (show C + P + P * 16 + M * c + i = magI P C M c i from by unfold magI; rw [if_pos ⟨hm, hc, hi⟩]; omega)
        have HF := Lib.hid hf
        obtain ⟨hb, hb0⟩ := box_new w 24 #[.int .i64 P, .int .i64 C, .int .i64 M]
        have HB := Lib.hid hb
        clear hb
        obtain ⟨p1, p2, c1, c2, m1, m2⟩ := hf
        obtain ⟨hc1, hc2⟩ := hc
        obtain ⟨hi1, hi2⟩ := hi
        have wr0 : IntKind.i64.wrap (M * c) = M * c := IntWalk.i64_in _ (by omega)
        have wr1 : IntKind.i64.wrap (C + P + P * 16 + M * c) = C + P + P * 16 + M * c := IntWalk.i64_in _ (by omega)
        have wr2 : IntKind.i64.wrap (C + P + P * 16 + M * c + i) = C + P + P * 16 + M * c + i := IntWalk.i64_in _ (by omega)
        go_enter Try.func16, Try.ntmps16
        go_wp2_with (first | (go_at_call 17; refine (may_any _ _ _ _).mono ?_; rintro e w1 ⟨rfl, ho1⟩; obtain ⟨d0, d1, d2⟩ := shp_cells (ho1.blk HB.out (by simp))) | (go_at_call 39; refine (below_any _ _ _).mono ?_; rintro e w' ⟨rfl, rfl⟩))
        have HB1 := Lib.hid (ho1.blk HB.out (by simp))
        go_region_held3 (fun w' => w'.cell? ⟨w.heap.size, 0, none⟩ = some (.int .i64 P) ∧ w'.cell? ⟨w.heap.size, 1, none⟩ = some (.int .i64 C) ∧ w'.cell? ⟨w.heap.size, 2, none⟩ = some (.int .i64 M)) (first | exact ⟨d0, d1, d2⟩ | exact ⟨d0', d1', d2'⟩)
          (first | (go_at_call 41; refine (mags_any _ _ _ HF.out _).mono ?_; rintro e w2 ⟨rfl, ho2'⟩; have ho2 := ((Off.refl _ _).drewN _).trans ho2'; obtain ⟨d0', d1', d2'⟩ := shp_cells (ho2.blk HB1.out (by simp))))
        go_wp2
        go_ret
        exact ⟨by rw [← HV.out]; rfl, (hb0.trans ho1).trans ho2⟩
      · have hm := mayB_t hf
        have hq2 := belowB_t hc.1 hc.2
        have hq : belowB i M = false := belowB_f (by omega)
        rw [show magI P C M c i = -1 from by unfold magI; rw [if_neg (by intro h; exact hi h.2.2)]]
        obtain ⟨hb, hb0⟩ := box_new w 24 #[.int .i64 P, .int .i64 C, .int .i64 M]
        have HB := Lib.hid hb
        clear hb
        clear hf
        go_enter Try.func16, Try.ntmps16
        go_wp2_with (first | (go_at_call 17; refine (may_any _ _ _ _).mono ?_; rintro e w1 ⟨rfl, ho1⟩; obtain ⟨d0, d1, d2⟩ := shp_cells (ho1.blk HB.out (by simp))) | (go_at_call 39; refine (below_any _ _ _).mono ?_; rintro e w' ⟨rfl, rfl⟩))
        go_ret
        exact ⟨rfl, hb0.trans ho1⟩
    · have hm := mayB_t hf
      have hq : belowB c C = false := belowB_f (by omega)
      rw [show magI P C M c i = -1 from by unfold magI; rw [if_neg (by intro h; exact hc h.2.1)]]
      obtain ⟨hb, hb0⟩ := box_new w 24 #[.int .i64 P, .int .i64 C, .int .i64 M]
      have HB := Lib.hid hb
      clear hb
      clear hf
      go_enter Try.func16, Try.ntmps16
      go_wp2_with (first | (go_at_call 17; refine (may_any _ _ _ _).mono ?_; rintro e w1 ⟨rfl, ho1⟩; obtain ⟨d0, d1, d2⟩ := shp_cells (ho1.blk HB.out (by simp))) | (go_at_call 39; refine (below_any _ _ _).mono ?_; rintro e w' ⟨rfl, rfl⟩))
      go_ret
      exact ⟨rfl, hb0.trans ho1⟩
  · have hm := mayB_f hf
    rw [show magI P C M c i = -1 from by unfold magI; rw [if_neg (by rw [hm]; simp)]]
    obtain ⟨hb, hb0⟩ := box_new w 24 #[.int .i64 P, .int .i64 C, .int .i64 M]
    have HB := Lib.hid hb
    clear hb
    clear hf
    go_enter Try.func16, Try.ntmps16
    go_wp2_with (first | (go_at_call 17; refine (may_any _ _ _ _).mono ?_; rintro e w1 ⟨rfl, ho1⟩; obtain ⟨d0, d1, d2⟩ := shp_cells (ho1.blk HB.out (by simp))) | (go_at_call 39; refine (below_any _ _ _).mono ?_; rintro e w' ⟨rfl, rfl⟩))
    go_ret
    exact ⟨rfl, hb0.trans ho1⟩

theorem split_any (P C M a : Int) (w : World) :
    Calls Try.prog 14 #[.agg #[.int .i64 P, .int .i64 C, .int .i64 M], .int .i64 a] w fun e w' => e = .returned (.tuple #[.int .i64 (splitP P C M a), .int .i64 (splitO P C M a), .bool (splitB P C M a)]) ∧ Off [] w w' := by
  rcases fit_cases P C M with hf | hf
  · by_cases hc : 0 ≤ a ∧ a < P * 64
    · have hm := mayB_t hf
      have hq := belowB_t hc.1 hc.2
      have hs := splitB_t hf hc.1 hc.2
      rw [show splitP P C M a = a / 64 from by unfold splitP; rw [hs]; rfl, show splitO P C M a = a % 64 from by unfold splitO; rw [hs]; rfl, hs]
      obtain ⟨hb, hb0⟩ := box_new w 24 #[.int .i64 P, .int .i64 C, .int .i64 M]
      have HB := Lib.hid hb
      clear hb
      clear hs
      obtain ⟨p1, p2, c1, c2, m1, m2⟩ := hf
      obtain ⟨hc1, hc2⟩ := hc
      have h63 := and63 hc1 (by omega)
      go_enter Try.func14, Try.ntmps14
      go_wp2_with (first | (go_at_call 17; refine (may_any _ _ _ _).mono ?_; rintro e w1 ⟨rfl, ho1⟩; obtain ⟨d0, d1, d2⟩ := shp_cells (ho1.blk HB.out (by simp))) | (go_at_call 39; refine (below_any _ _ _).mono ?_; rintro e w' ⟨rfl, rfl⟩))
      go_ret3
      exact ⟨rfl, hb0.trans ho1⟩
    · have hm := mayB_t hf
      have hq : belowB a (P * 64) = false := belowB_f (by omega)
      have hs : splitB P C M a = false := splitB_f (fun h => hc h.2)
      rw [show splitP P C M a = 0 from by unfold splitP; rw [hs]; rfl, show splitO P C M a = 0 from by unfold splitO; rw [hs]; rfl, hs]
      obtain ⟨hb, hb0⟩ := box_new w 24 #[.int .i64 P, .int .i64 C, .int .i64 M]
      have HB := Lib.hid hb
      clear hb
      clear hs hc
      obtain ⟨p1, p2, c1, c2, m1, m2⟩ := hf
      go_enter Try.func14, Try.ntmps14
      go_wp2_with (first | (go_at_call 17; refine (may_any _ _ _ _).mono ?_; rintro e w1 ⟨rfl, ho1⟩; obtain ⟨d0, d1, d2⟩ := shp_cells (ho1.blk HB.out (by simp))) | (go_at_call 39; refine (below_any _ _ _).mono ?_; rintro e w' ⟨rfl, rfl⟩))
      go_ret3
      exact ⟨rfl, hb0.trans ho1⟩
  · have hm := mayB_f hf
    have hs : splitB P C M a = false := splitB_f (fun h => hf h.1)
    rw [show splitP P C M a = 0 from by unfold splitP; rw [hs]; rfl, show splitO P C M a = 0 from by unfold splitO; rw [hs]; rfl, hs]
    obtain ⟨hb, hb0⟩ := box_new w 24 #[.int .i64 P, .int .i64 C, .int .i64 M]
    have HB := Lib.hid hb
    clear hb
    clear hs hf
    go_enter Try.func14, Try.ntmps14
    go_wp2_with (first | (go_at_call 17; refine (may_any _ _ _ _).mono ?_; rintro e w1 ⟨rfl, ho1⟩; obtain ⟨d0, d1, d2⟩ := shp_cells (ho1.blk HB.out (by simp))) | (go_at_call 39; refine (below_any _ _ _).mono ?_; rintro e w' ⟨rfl, rfl⟩))
    go_ret3
    exact ⟨rfl, hb0.trans ho1⟩

end Go.Proofs.Ytadnehblklpphaa.Plan
