/- Package pack: words read: a contract each. -/
import Derived.Test.YtmiodkcabjfbbaaPackC
namespace Go.Proofs.Ytmiodkcabjfbbaa.Pack
open Go.RowKit Mem Plan

/-- What a page may say where it stands. -/
def standB (P C M at_ k a b : Int) : Bool :=
  hasPageB P C M at_ && (if k = 1 then hasClientB P C M a else if k = 2 then hasClassB a && hasClientB P C M b else if k = 3 then decide (1 ≤ a ∧ a ≤ 8 ∧ a ≤ P - at_) else if k = 4 then decide (a < at_ ∧ at_ - a < 8) else true)

theorem mayStand_any (P C M at_ k a b : Int) (ha : 0 ≤ a) (ha2 : a ≤ 255) (w : World) :
    Calls Try.prog 20 #[.agg #[.int .i64 P, .int .i64 C, .int .i64 M], .int .i64 at_, .agg #[.int .i64 k, .int .i64 a, .int .i64 b]] w fun e w' => e = .returned (.bool (standB P C M at_ k a b)) ∧ Off [] w w' := by
  obtain ⟨h1, h0, hof⟩ := box_two w 37 25 #[.int .i64 P, .int .i64 C, .int .i64 M] #[.int .i64 k, .int .i64 a, .int .i64 b]
  have HS := Lib.hid h0
  have HP := Lib.hid h1
  have HO := Lib.hid hof
  clear h0 h1 hof
  unfold standB
  cases hp : hasPageB P C M at_
  · simp only [Bool.false_and]
    go_enter Try.func20, Try.ntmps20
    go_wp2_with (go_at_call 21; refine (hasPage_any _ _ _ _ _).mono ?_; rintro e w1 ⟨rfl, ho⟩; obtain ⟨c0, c1, c2⟩ := shp_cells (ho.blk HP.out (by simp)); obtain ⟨d0, d1, d2⟩ := shp_cells (ho.blk HS.out (by simp)))
    go_ret
    exact ⟨rfl, HO.out.trans ho⟩
  · have HF := Lib.hid (hasPage_iff.1 hp)
    simp only [Bool.true_and]
    by_cases k1 : k = 1
    · subst k1
      rw [if_pos rfl]
      go_enter Try.func20, Try.ntmps20
      go_wp2_with (first | (go_at_call 21; refine (hasPage_any _ _ _ _ _).mono ?_; rintro e w1 ⟨rfl, ho⟩; obtain ⟨c0, c1, c2⟩ := shp_cells (ho.blk HP.out (by simp)); obtain ⟨d0, d1, d2⟩ := shp_cells (ho.blk HS.out (by simp))) | (go_at_call 24; refine (hasClient_any _ _ _ _ _).mono ?_; rintro e w2 ⟨rfl, ho2⟩))
      go_ret
      exact ⟨rfl, (HO.out.trans ho).trans ho2⟩
    · have q1 : (k == 1) = false := by simp; omega
      rw [if_neg k1]
      clear k1
      by_cases k2 : k = 2
      · subst k2
        rw [if_pos rfl]
        cases hc : hasClassB a
        · simp only [Bool.false_and]
          go_enter Try.func20, Try.ntmps20
          go_wp2_with (first | (go_at_call 21; refine (hasPage_any _ _ _ _ _).mono ?_; rintro e w1 ⟨rfl, ho⟩; obtain ⟨c0, c1, c2⟩ := shp_cells (ho.blk HP.out (by simp)); obtain ⟨d0, d1, d2⟩ := shp_cells (ho.blk HS.out (by simp))) | (go_at_call 25; refine (hasClass_any _ _).mono ?_; rintro e w3 ⟨rfl, rfl⟩))
          go_ret
          exact ⟨rfl, HO.out.trans ho⟩
        · simp only [Bool.true_and]
          go_enter Try.func20, Try.ntmps20
          go_wp2_with (first | (go_at_call 21; refine (hasPage_any _ _ _ _ _).mono ?_; rintro e w1 ⟨rfl, ho⟩; obtain ⟨c0, c1, c2⟩ := shp_cells (ho.blk HP.out (by simp)); obtain ⟨d0, d1, d2⟩ := shp_cells (ho.blk HS.out (by simp))) | (go_at_call 25; refine (hasClass_any _ _).mono ?_; rintro e w3 ⟨rfl, rfl⟩) | (go_at_call 24; refine (hasClient_any _ _ _ _ _).mono ?_; rintro e w2 ⟨rfl, ho2⟩))
          go_ret
          exact ⟨rfl, (HO.out.trans ho).trans ho2⟩
      · have q2 : (k == 2) = false := by simp; omega
        rw [if_neg k2]
        clear k2
        by_cases k3 : k = 3
        · subst k3
          rw [if_pos rfl]
          obtain ⟨hf, hat0, hat1⟩ := HF.out
          have hp2 := hf.p2
          clear hf
          by_cases a1 : 1 ≤ a
          · by_cases a2 : a ≤ 8
            · by_cases a3 : a ≤ P - at_
              · rw [decide_eq_true (⟨a1, a2, a3⟩ : 1 ≤ a ∧ a ≤ 8 ∧ a ≤ P - at_)]
                go_enter Try.func20, Try.ntmps20
                go_wp2_with (go_at_call 21; refine (hasPage_any _ _ _ _ _).mono ?_; rintro e w1 ⟨rfl, ho⟩; obtain ⟨c0, c1, c2⟩ := shp_cells (ho.blk HP.out (by simp)); obtain ⟨d0, d1, d2⟩ := shp_cells (ho.blk HS.out (by simp)))
                go_ret
                exact ⟨rfl, HO.out.trans ho⟩
              · rw [decide_eq_false (show ¬ (1 ≤ a ∧ a ≤ 8 ∧ a ≤ P - at_) from fun h => a3 h.2.2)]
                have q : decide (a ≤ P - at_) = false := decide_eq_false a3
                go_enter Try.func20, Try.ntmps20
                go_wp2_with (go_at_call 21; refine (hasPage_any _ _ _ _ _).mono ?_; rintro e w1 ⟨rfl, ho⟩; obtain ⟨c0, c1, c2⟩ := shp_cells (ho.blk HP.out (by simp)); obtain ⟨d0, d1, d2⟩ := shp_cells (ho.blk HS.out (by simp)))
                go_ret
                exact ⟨rfl, HO.out.trans ho⟩
            · rw [decide_eq_false (show ¬ (1 ≤ a ∧ a ≤ 8 ∧ a ≤ P - at_) from fun h => a2 h.2.1)]
              have q : decide (a ≤ 8) = false := decide_eq_false a2
              go_enter Try.func20, Try.ntmps20
              go_wp2_with (go_at_call 21; refine (hasPage_any _ _ _ _ _).mono ?_; rintro e w1 ⟨rfl, ho⟩; obtain ⟨c0, c1, c2⟩ := shp_cells (ho.blk HP.out (by simp)); obtain ⟨d0, d1, d2⟩ := shp_cells (ho.blk HS.out (by simp)))
              go_ret
              exact ⟨rfl, HO.out.trans ho⟩
          · rw [decide_eq_false (show ¬ (1 ≤ a ∧ a ≤ 8 ∧ a ≤ P - at_) from fun h => a1 h.1)]
            have q : decide (1 ≤ a) = false := decide_eq_false a1
            go_enter Try.func20, Try.ntmps20
            go_wp2_with (go_at_call 21; refine (hasPage_any _ _ _ _ _).mono ?_; rintro e w1 ⟨rfl, ho⟩; obtain ⟨c0, c1, c2⟩ := shp_cells (ho.blk HP.out (by simp)); obtain ⟨d0, d1, d2⟩ := shp_cells (ho.blk HS.out (by simp)))
            go_ret
            exact ⟨rfl, HO.out.trans ho⟩
        · have q3 : (k == 3) = false := by simp; omega
          rw [if_neg k3]
          clear k3
          by_cases k4 : k = 4
          · subst k4
            rw [if_pos rfl]
            obtain ⟨hf, hat0, hat1⟩ := HF.out
            have hp2 := hf.p2
            clear hf
            by_cases a1 : a < at_
            · rw [show decide (a < at_ ∧ at_ - a < 8) = decide (at_ - a < 8) from by simp [a1]]
              go_enter Try.func20, Try.ntmps20
              go_wp2_with (go_at_call 21; refine (hasPage_any _ _ _ _ _).mono ?_; rintro e w1 ⟨rfl, ho⟩; obtain ⟨c0, c1, c2⟩ := shp_cells (ho.blk HP.out (by simp)); obtain ⟨d0, d1, d2⟩ := shp_cells (ho.blk HS.out (by simp)))
              go_ret
              exact ⟨rfl, HO.out.trans ho⟩
            · rw [decide_eq_false (show ¬ (a < at_ ∧ at_ - a < 8) from fun h => a1 h.1)]
              have q : decide (a < at_) = false := decide_eq_false a1
              go_enter Try.func20, Try.ntmps20
              go_wp2_with (go_at_call 21; refine (hasPage_any _ _ _ _ _).mono ?_; rintro e w1 ⟨rfl, ho⟩; obtain ⟨c0, c1, c2⟩ := shp_cells (ho.blk HP.out (by simp)); obtain ⟨d0, d1, d2⟩ := shp_cells (ho.blk HS.out (by simp)))
              go_ret
              exact ⟨rfl, HO.out.trans ho⟩
          · have q4 : (k == 4) = false := by simp; omega
            rw [if_neg k4]
            clear k4
            go_enter Try.func20, Try.ntmps20
            go_wp2_with (go_at_call 21; refine (hasPage_any _ _ _ _ _).mono ?_; rintro e w1 ⟨rfl, ho⟩; obtain ⟨c0, c1, c2⟩ := shp_cells (ho.blk HP.out (by simp)); obtain ⟨d0, d1, d2⟩ := shp_cells (ho.blk HS.out (by simp)))
            go_ret
            exact ⟨rfl, HO.out.trans ho⟩

end Go.Proofs.Ytmiodkcabjfbbaa.Pack
