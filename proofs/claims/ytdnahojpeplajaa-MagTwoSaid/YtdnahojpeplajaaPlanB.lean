/- Package plan: what takes a shape: a contract each. -/
import Derived.Test.YtdnahojpeplajaaPlanA
import Derived.Deep.RegionHeld3
import Derived.Deep.RegionWith
import Derived.IntWalk
namespace Go.Proofs.Ytdnahojpeplajaa.Plan
open Go.RowKit Mem

theorem may_any (P C M : Int) (w : World) :
    Calls Try.prog 68 #[.agg #[.int .i64 P, .int .i64 C, .int .i64 M]] w fun e w' => e = .returned (.bool (mayB P C M)) ∧ Off [] w w' := by
  unfold mayB
  cases h1 : fromB 1 P 64 <;> cases h2 : fromB 1 C 12 <;> cases h3 : fromB 0 M 8
  all_goals
    go_enter Try.func68, Try.ntmps68
    go_wp2_with (go_at_call 71; refine (from_any _ _ _ _).mono ?_; rintro e w' ⟨rfl, rfl⟩)
    go_ret
    exact ⟨rfl, (Off.refl _ _).alloc _⟩

theorem pages_any (P C M : Int) (w : World) :
    Calls Try.prog 70 #[.agg #[.int .i64 P, .int .i64 C, .int .i64 M]] w fun e w' => e = .returned (.int .i64 C) ∧ Off [] w w' := by
  go_enter Try.func70, Try.ntmps70
  go_wp2
  go_ret
  exact ⟨rfl, (Off.refl _ _).alloc _⟩

/-- What was boxed; its cells. -/
theorem box_new (w : World) (t : TypeId) (cs : Array Value) : Blk (w.alloc (.cells cs t)) w.heap.size t cs ∧ Off [] w (w.alloc (.cells cs t)) := ⟨Blk.new w t cs, (Off.refl _ _).alloc _⟩
theorem shp_cells {w : World} {g : Nat} {t : TypeId} {P C M : Int} (h : Blk w g t #[.int .i64 P, .int .i64 C, .int .i64 M]) :
    w.cell? ⟨g, 0, none⟩ = some (.int .i64 P) ∧ w.cell? ⟨g, 1, none⟩ = some (.int .i64 C) ∧ w.cell? ⟨g, 2, none⟩ = some (.int .i64 M) := ⟨h.cell 0, h.cell 1, h.cell 2⟩

/-- The last six bits. -/
theorem and63 {a : Int} (h1 : 0 ≤ a) (h2 : a < 4096) : bits .and .i64 a 63 = a % 64 := by
  obtain ⟨n, rfl⟩ := Int.eq_ofNat_of_zero_le h1
  show IntKind.i64.wrap ((BitVec.ofInt 64 (n : Int) &&& BitVec.ofInt 64 63).toNat : Int) = _
  rw [BitVec.toNat_and, BitVec.ofInt_natCast, BitVec.toNat_ofNat, Nat.mod_eq_of_lt (by omega), show (BitVec.ofInt 64 63).toNat = 2 ^ 6 - 1 from rfl, Nat.and_two_pow_sub_one_eq_mod]
  exact IntWalk.i64_in _ (by omega)

/-- What stays when a shape that may be is reckoned with. -/
theorem fit_bd {P C M : Int} (hf : Fit P C M) : 0 ≤ C * M ∧ C * M ≤ 96 := mul_bd (Int.le_trans (by decide) hf.c1) hf.c2 hf.m1 hf.m2

theorem slots0_any (P C M : Int) (hf : Fit P C M) (w : World) :
    Calls Try.prog 72 #[.agg #[.int .i64 P, .int .i64 C, .int .i64 M]] w fun e w' => e = .returned (.int .i64 (C + P)) ∧ Off [] w w' := by
  have HF := Lib.hid hf
  obtain ⟨p1, p2, c1, c2, m1, m2⟩ := hf
  obtain ⟨hb, hb0⟩ := box_new w 24 #[.int .i64 P, .int .i64 C, .int .i64 M]
  obtain ⟨d0, d1, d2⟩ := shp_cells hb
  have HB := Lib.hid hb
  clear hb
  have wr0 : IntKind.i64.wrap (C + P) = C + P := IntWalk.i64_in _ (by omega)
  go_enter Try.func72, Try.ntmps72
  go_wp2
  go_region_held3 (fun w' => w'.cell? ⟨w.heap.size, 0, none⟩ = some (.int .i64 P) ∧ w'.cell? ⟨w.heap.size, 1, none⟩ = some (.int .i64 C) ∧ w'.cell? ⟨w.heap.size, 2, none⟩ = some (.int .i64 M)) (first | exact ⟨d0, d1, d2⟩ | exact ⟨d0', d1', d2'⟩)
    (first | (go_at_call 70; refine (pages_any _ _ _ _).mono ?_; rintro e w2 ⟨rfl, ho2'⟩; have ho2 := ((Off.refl _ _).drewN _).trans ho2'; obtain ⟨d0', d1', d2'⟩ := shp_cells (ho2.blk HB.out (by simp))))
  go_wp2
  go_ret
  exact ⟨rfl, hb0.trans ho2⟩

theorem mags_any (P C M : Int) (hf : Fit P C M) (w : World) :
    Calls Try.prog 69 #[.agg #[.int .i64 P, .int .i64 C, .int .i64 M]] w fun e w' => e = .returned (.int .i64 (C + P + P * 16)) ∧ Off [] w w' := by
  have HF := Lib.hid hf
  obtain ⟨p1, p2, c1, c2, m1, m2⟩ := hf
  obtain ⟨hb, hb0⟩ := box_new w 24 #[.int .i64 P, .int .i64 C, .int .i64 M]
  obtain ⟨d0, d1, d2⟩ := shp_cells hb
  have HB := Lib.hid hb
  clear hb
  have wr0 : IntKind.i64.wrap (P * 16) = P * 16 := IntWalk.i64_in _ (by omega)
  have wr1 : IntKind.i64.wrap (C + P + P * 16) = C + P + P * 16 := IntWalk.i64_in _ (by omega)
  go_enter Try.func69, Try.ntmps69
  go_wp2
  go_region_held3 (fun w' => w'.cell? ⟨w.heap.size, 0, none⟩ = some (.int .i64 P) ∧ w'.cell? ⟨w.heap.size, 1, none⟩ = some (.int .i64 C) ∧ w'.cell? ⟨w.heap.size, 2, none⟩ = some (.int .i64 M)) (first | exact ⟨d0, d1, d2⟩ | exact ⟨d0', d1', d2'⟩)
    (first | (go_at_call 72; refine (slots0_any _ _ _ HF.out _).mono ?_; rintro e w2 ⟨rfl, ho2'⟩; have ho2 := ((Off.refl _ _).drewN _).trans ho2'; obtain ⟨d0', d1', d2'⟩ := shp_cells (ho2.blk HB.out (by simp))))
  go_wp2
  go_ret
  exact ⟨rfl, hb0.trans ho2⟩

theorem page_any (P C M p : Int) (w : World) :
    Calls Try.prog 67 #[.agg #[.int .i64 P, .int .i64 C, .int .i64 M], .int .i64 p] w fun e w' => e = .returned (.int .i64 (pageI P C M p)) ∧ Off [] w w' := by
  rcases fit_cases P C M with hf | hf
  · by_cases hc : 0 ≤ p ∧ p < P
    · have hm := mayB_t hf
      have hq := belowB_t hc.1 hc.2
      rw [show pageI P C M p = C + p from by unfold pageI; rw [if_pos ⟨hm, hc⟩]]
      obtain ⟨hb, hb0⟩ := box_new w 24 #[.int .i64 P, .int .i64 C, .int .i64 M]
      have HB := Lib.hid hb
      clear hb
      obtain ⟨p1, p2, c1, c2, m1, m2⟩ := hf
      obtain ⟨hc1, hc2⟩ := hc
      go_enter Try.func67, Try.ntmps67
      go_wp2_with (first | (go_at_call 68; refine (may_any _ _ _ _).mono ?_; rintro e w1 ⟨rfl, ho1⟩; obtain ⟨d0, d1, d2⟩ := shp_cells (ho1.blk HB.out (by simp))) | (go_at_call 52; refine (below_any _ _ _).mono ?_; rintro e w' ⟨rfl, rfl⟩) | (go_at_call 70; refine (pages_any _ _ _ _).mono ?_; rintro e w2 ⟨rfl, ho2⟩))
      go_ret
      exact ⟨rfl, (hb0.trans ho1).trans ho2⟩
    · have hm := mayB_t hf
      have hq : belowB p P = false := belowB_f (by omega)
      rw [show pageI P C M p = -1 from by unfold pageI; rw [if_neg (by intro h; exact hc h.2)]]
      obtain ⟨hb, hb0⟩ := box_new w 24 #[.int .i64 P, .int .i64 C, .int .i64 M]
      have HB := Lib.hid hb
      clear hb
      clear hf
      go_enter Try.func67, Try.ntmps67
      go_wp2_with (first | (go_at_call 68; refine (may_any _ _ _ _).mono ?_; rintro e w1 ⟨rfl, ho1⟩; obtain ⟨d0, d1, d2⟩ := shp_cells (ho1.blk HB.out (by simp))) | (go_at_call 52; refine (below_any _ _ _).mono ?_; rintro e w' ⟨rfl, rfl⟩))
      go_ret
      exact ⟨rfl, hb0.trans ho1⟩
  · have hm := mayB_f hf
    rw [show pageI P C M p = -1 from by unfold pageI; rw [if_neg (by rw [hm]; simp)]]
    obtain ⟨hb, hb0⟩ := box_new w 24 #[.int .i64 P, .int .i64 C, .int .i64 M]
    have HB := Lib.hid hb
    clear hb
    clear hf
    go_enter Try.func67, Try.ntmps67
    go_wp2_with (first | (go_at_call 68; refine (may_any _ _ _ _).mono ?_; rintro e w1 ⟨rfl, ho1⟩; obtain ⟨d0, d1, d2⟩ := shp_cells (ho1.blk HB.out (by simp))) | (go_at_call 52; refine (below_any _ _ _).mono ?_; rintro e w' ⟨rfl, rfl⟩))
    go_ret
    exact ⟨rfl, hb0.trans ho1⟩

theorem mag_any (P C M c i : Int) (w : World) :
    Calls Try.prog 61 #[.agg #[.int .i64 P, .int .i64 C, .int .i64 M], .int .i64 c, .int .i64 i] w fun e w' => e = .returned (.int .i64 (magI P C M c i)) ∧ Off [] w w' := by
  rcases fit_cases P C M with hf | hf
  · by_cases hc : 0 ≤ c ∧ c < C
    · by_cases hi : 0 ≤ i ∧ i < M
      · have hm := mayB_t hf
        have hq := belowB_t hc.1 hc.2
        have hr := belowB_t hi.1 hi.2
        have hmc := mul_bd (A := 8) (B := 12) hf.m1 hf.m2 hc.1 (Int.le_of_lt (Int.lt_of_lt_of_le hc.2 hf.c2))
        have HV := Lib.hid (show C + P + P * 16 + M * c + i = magI P C M c i from by unfold magI; rw [if_pos ⟨hm, hc, hi⟩]; omega)
        have HF := Lib.hid hf
        obtain ⟨hb, hb0⟩ := box_new w 24 #[.int .i64 P, .int .i64 C, .int .i64 M]
        have HB := Lib.hid hb
        clear hb
        obtain ⟨p1, p2, c1, c2, m1, m2⟩ := hf
        obtain ⟨hc1, hc2⟩ := hc
        obtain ⟨hi1, hi2⟩ := hi
        have wr0 : IntKind.i64.wrap (M * c) = M * c := IntWalk.i64_in _ (by omega)
        have wr1 : IntKind.i64.wrap (C + P + P * 16 + M * c) = C + P + P * 16 + M * c := IntWalk.i64_in _ (by omega)
        have wr2 : IntKind.i64.wrap (C + P + P * 16 + M * c + i) = C + P + P * 16 + M * c + i := IntWalk.i64_in _ (by omega)
        go_enter Try.func61, Try.ntmps61
        go_wp2_with (first | (go_at_call 68; refine (may_any _ _ _ _).mono ?_; rintro e w1 ⟨rfl, ho1⟩; obtain ⟨d0, d1, d2⟩ := shp_cells (ho1.blk HB.out (by simp))) | (go_at_call 52; refine (below_any _ _ _).mono ?_; rintro e w' ⟨rfl, rfl⟩))
        have HB1 := Lib.hid (ho1.blk HB.out (by simp))
        go_region_held3 (fun w' => w'.cell? ⟨w.heap.size, 0, none⟩ = some (.int .i64 P) ∧ w'.cell? ⟨w.heap.size, 1, none⟩ = some (.int .i64 C) ∧ w'.cell? ⟨w.heap.size, 2, none⟩ = some (.int .i64 M)) (first | exact ⟨d0, d1, d2⟩ | exact ⟨d0', d1', d2'⟩)
          (first | (go_at_call 69; refine (mags_any _ _ _ HF.out _).mono ?_; rintro e w2 ⟨rfl, ho2'⟩; have ho2 := ((Off.refl _ _).drewN _).trans ho2'; obtain ⟨d0', d1', d2'⟩ := shp_cells (ho2.blk HB1.out (by simp))))
        go_wp2
        go_ret
        exact ⟨by rw [← HV.out]; rfl, (hb0.trans ho1).trans ho2⟩
      · have hm := mayB_t hf
        have hq2 := belowB_t hc.1 hc.2
        have hq : belowB i M = false := belowB_f (by omega)
        rw [show magI P C M c i = -1 from by unfold magI; rw [if_neg (by intro h; exact hi h.2.2)]]
        obtain ⟨hb, hb0⟩ := box_new w 24 #[.int .i64 P, .int .i64 C, .int .i64 M]
        have HB := Lib.hid hb
        clear hb
        clear hf
        go_enter Try.func61, Try.ntmps61
        go_wp2_with (first | (go_at_call 68; refine (may_any _ _ _ _).mono ?_; rintro e w1 ⟨rfl, ho1⟩; obtain ⟨d0, d1, d2⟩ := shp_cells (ho1.blk HB.out (by simp))) | (go_at_call 52; refine (below_any _ _ _).mono ?_; rintro e w' ⟨rfl, rfl⟩))
        go_ret
        exact ⟨rfl, hb0.trans ho1⟩
    · have hm := mayB_t hf
      have hq : belowB c C = false := belowB_f (by omega)
      rw [show magI P C M c i = -1 from by unfold magI; rw [if_neg (by intro h; exact hc h.2.1)]]
      obtain ⟨hb, hb0⟩ := box_new w 24 #[.int .i64 P, .int .i64 C, .int .i64 M]
      have HB := Lib.hid hb
      clear hb
      clear hf
      go_enter Try.func61, Try.ntmps61
      go_wp2_with (first | (go_at_call 68; refine (may_any _ _ _ _).mono ?_; rintro e w1 ⟨rfl, ho1⟩; obtain ⟨d0, d1, d2⟩ := shp_cells (ho1.blk HB.out (by simp))) | (go_at_call 52; refine (below_any _ _ _).mono ?_; rintro e w' ⟨rfl, rfl⟩))
      go_ret
      exact ⟨rfl, hb0.trans ho1⟩
  · have hm := mayB_f hf
    rw [show magI P C M c i = -1 from by unfold magI; rw [if_neg (by rw [hm]; simp)]]
    obtain ⟨hb, hb0⟩ := box_new w 24 #[.int .i64 P, .int .i64 C, .int .i64 M]
    have HB := Lib.hid hb
    clear hb
    clear hf
    go_enter Try.func61, Try.ntmps61
    go_wp2_with (first | (go_at_call 68; refine (may_any _ _ _ _).mono ?_; rintro e w1 ⟨rfl, ho1⟩; obtain ⟨d0, d1, d2⟩ := shp_cells (ho1.blk HB.out (by simp))) | (go_at_call 52; refine (below_any _ _ _).mono ?_; rintro e w' ⟨rfl, rfl⟩))
    go_ret
    exact ⟨rfl, hb0.trans ho1⟩

end Go.Proofs.Ytdnahojpeplajaa.Plan
