/- Package plan: what takes a shape: a contract each. -/
import Derived.Test.YtmiodkcabjfbbaaPlanA
import Derived.Deep.RegionHeld3
import Derived.Deep.RegionWith
import Derived.IntWalk
namespace Go.Proofs.Ytmiodkcabjfbbaa.Plan
open Go.RowKit Mem

theorem may_any (P C M : Int) (w : World) :
    Calls Try.prog 29 #[.agg #[.int .i64 P, .int .i64 C, .int .i64 M]] w fun e w' => e = .returned (.bool (mayB P C M)) ∧ Off [] w w' := by
  unfold mayB
  cases h1 : fromB 1 P 64 <;> cases h2 : fromB 1 C 12 <;> cases h3 : fromB 0 M 8
  all_goals
    go_enter Try.func29, Try.ntmps29
    go_wp2_with (go_at_call 31; refine (from_any _ _ _ _).mono ?_; rintro e w' ⟨rfl, rfl⟩)
    go_ret
    exact ⟨rfl, (Off.refl _ _).alloc _⟩

theorem pages_any (P C M : Int) (w : World) :
    Calls Try.prog 30 #[.agg #[.int .i64 P, .int .i64 C, .int .i64 M]] w fun e w' => e = .returned (.int .i64 C) ∧ Off [] w w' := by
  go_enter Try.func30, Try.ntmps30
  go_wp2
  go_ret
  exact ⟨rfl, (Off.refl _ _).alloc _⟩

/-- What was boxed; its cells. -/
theorem box_new (w : World) (t : TypeId) (cs : Array Value) : Blk (w.alloc (.cells cs t)) w.heap.size t cs ∧ Off [] w (w.alloc (.cells cs t)) := ⟨Blk.new w t cs, (Off.refl _ _).alloc _⟩
theorem shp_cells {w : World} {g : Nat} {t : TypeId} {P C M : Int} (h : Blk w g t #[.int .i64 P, .int .i64 C, .int .i64 M]) :
    w.cell? ⟨g, 0, none⟩ = some (.int .i64 P) ∧ w.cell? ⟨g, 1, none⟩ = some (.int .i64 C) ∧ w.cell? ⟨g, 2, none⟩ = some (.int .i64 M) := ⟨h.cell 0, h.cell 1, h.cell 2⟩

/-- The last six bits. -/
theorem and63 {a : Int} (h1 : 0 ≤ a) (h2 : a < 4096) : bits .and .i64 a 63 = a % 64 := by
  obtain ⟨n, rfl⟩ := Int.eq_ofNat_of_zero_le h1
  show IntKind.i64.wrap ((BitVec.ofInt 64 (n : Int) &&& BitVec.ofInt 64 63).toNat : Int) = _
  rw [BitVec.toNat_and, BitVec.ofInt_natCast, BitVec.toNat_ofNat, Nat.mod_eq_of_lt (by omega), show (BitVec.ofInt 64 63).toNat = 2 ^ 6 - 1 from rfl, Nat.and_two_pow_sub_one_eq_mod]
  exact IntWalk.i64_in _ (by omega)

/-- What stays when a shape that may be is reckoned with. -/
theorem fit_bd {P C M : Int} (hf : Fit P C M) : 0 ≤ C * M ∧ C * M ≤ 96 := mul_bd (Int.le_trans (by decide) hf.c1) hf.c2 hf.m1 hf.m2

theorem status_any (P C M c : Int) (w : World) :
    Calls Try.prog 28 #[.agg #[.int .i64 P, .int .i64 C, .int .i64 M], .int .i64 c] w fun e w' => e = .returned (.int .i64 (statusI P C M c)) ∧ Off [] w w' := by
  rcases fit_cases P C M with hf | hf
  · by_cases hc : 0 ≤ c ∧ c < C
    · have hm := mayB_t hf
      have hq := belowB_t hc.1 hc.2
      rw [show statusI P C M c = c from by unfold statusI; rw [if_pos ⟨hm, hc⟩]]
      obtain ⟨hb, hb0⟩ := box_new w 37 #[.int .i64 P, .int .i64 C, .int .i64 M]
      have HB := Lib.hid hb
      clear hb
      clear hf hc
      go_enter Try.func28, Try.ntmps28
      go_wp2_with (first | (go_at_call 29; refine (may_any _ _ _ _).mono ?_; rintro e w1 ⟨rfl, ho1⟩; obtain ⟨d0, d1, d2⟩ := shp_cells (ho1.blk HB.out (by simp))) | (go_at_call 27; refine (below_any _ _ _).mono ?_; rintro e w' ⟨rfl, rfl⟩))
      go_ret
      exact ⟨rfl, hb0.trans ho1⟩
    · have hm := mayB_t hf
      have hq : belowB c C = false := belowB_f (by omega)
      rw [show statusI P C M c = -1 from by unfold statusI; rw [if_neg (by intro h; exact hc h.2)]]
      obtain ⟨hb, hb0⟩ := box_new w 37 #[.int .i64 P, .int .i64 C, .int .i64 M]
      have HB := Lib.hid hb
      clear hb
      clear hf
      go_enter Try.func28, Try.ntmps28
      go_wp2_with (first | (go_at_call 29; refine (may_any _ _ _ _).mono ?_; rintro e w1 ⟨rfl, ho1⟩; obtain ⟨d0, d1, d2⟩ := shp_cells (ho1.blk HB.out (by simp))) | (go_at_call 27; refine (below_any _ _ _).mono ?_; rintro e w' ⟨rfl, rfl⟩))
      go_ret
      exact ⟨rfl, hb0.trans ho1⟩
  · have hm := mayB_f hf
    rw [show statusI P C M c = -1 from by unfold statusI; rw [if_neg (by rw [hm]; simp)]]
    obtain ⟨hb, hb0⟩ := box_new w 37 #[.int .i64 P, .int .i64 C, .int .i64 M]
    have HB := Lib.hid hb
    clear hb
    clear hf
    go_enter Try.func28, Try.ntmps28
    go_wp2_with (first | (go_at_call 29; refine (may_any _ _ _ _).mono ?_; rintro e w1 ⟨rfl, ho1⟩; obtain ⟨d0, d1, d2⟩ := shp_cells (ho1.blk HB.out (by simp))) | (go_at_call 27; refine (below_any _ _ _).mono ?_; rintro e w' ⟨rfl, rfl⟩))
    go_ret
    exact ⟨rfl, hb0.trans ho1⟩

theorem page_any (P C M p : Int) (w : World) :
    Calls Try.prog 26 #[.agg #[.int .i64 P, .int .i64 C, .int .i64 M], .int .i64 p] w fun e w' => e = .returned (.int .i64 (pageI P C M p)) ∧ Off [] w w' := by
  rcases fit_cases P C M with hf | hf
  · by_cases hc : 0 ≤ p ∧ p < P
    · have hm := mayB_t hf
      have hq := belowB_t hc.1 hc.2
      rw [show pageI P C M p = C + p from by unfold pageI; rw [if_pos ⟨hm, hc⟩]]
      obtain ⟨hb, hb0⟩ := box_new w 37 #[.int .i64 P, .int .i64 C, .int .i64 M]
      have HB := Lib.hid hb
      clear hb
      obtain ⟨p1, p2, c1, c2, m1, m2⟩ := hf
      obtain ⟨hc1, hc2⟩ := hc
      go_enter Try.func26, Try.ntmps26
      go_wp2_with (first | (go_at_call 29; refine (may_any _ _ _ _).mono ?_; rintro e w1 ⟨rfl, ho1⟩; obtain ⟨d0, d1, d2⟩ := shp_cells (ho1.blk HB.out (by simp))) | (go_at_call 27; refine (below_any _ _ _).mono ?_; rintro e w' ⟨rfl, rfl⟩) | (go_at_call 30; refine (pages_any _ _ _ _).mono ?_; rintro e w2 ⟨rfl, ho2⟩))
      go_ret
      exact ⟨rfl, (hb0.trans ho1).trans ho2⟩
    · have hm := mayB_t hf
      have hq : belowB p P = false := belowB_f (by omega)
      rw [show pageI P C M p = -1 from by unfold pageI; rw [if_neg (by intro h; exact hc h.2)]]
      obtain ⟨hb, hb0⟩ := box_new w 37 #[.int .i64 P, .int .i64 C, .int .i64 M]
      have HB := Lib.hid hb
      clear hb
      clear hf
      go_enter Try.func26, Try.ntmps26
      go_wp2_with (first | (go_at_call 29; refine (may_any _ _ _ _).mono ?_; rintro e w1 ⟨rfl, ho1⟩; obtain ⟨d0, d1, d2⟩ := shp_cells (ho1.blk HB.out (by simp))) | (go_at_call 27; refine (below_any _ _ _).mono ?_; rintro e w' ⟨rfl, rfl⟩))
      go_ret
      exact ⟨rfl, hb0.trans ho1⟩
  · have hm := mayB_f hf
    rw [show pageI P C M p = -1 from by unfold pageI; rw [if_neg (by rw [hm]; simp)]]
    obtain ⟨hb, hb0⟩ := box_new w 37 #[.int .i64 P, .int .i64 C, .int .i64 M]
    have HB := Lib.hid hb
    clear hb
    clear hf
    go_enter Try.func26, Try.ntmps26
    go_wp2_with (first | (go_at_call 29; refine (may_any _ _ _ _).mono ?_; rintro e w1 ⟨rfl, ho1⟩; obtain ⟨d0, d1, d2⟩ := shp_cells (ho1.blk HB.out (by simp))) | (go_at_call 27; refine (below_any _ _ _).mono ?_; rintro e w' ⟨rfl, rfl⟩))
    go_ret
    exact ⟨rfl, hb0.trans ho1⟩

end Go.Proofs.Ytmiodkcabjfbbaa.Plan
