/- PackApart: the walk. -/
import Derived.Test.YtmiodkcabjfbbaaPackG
import Derived.Deep.RegionHeld3
import Derived.RegionTactic
import Derived.ChangeAlike
import Derived.Deep.DeepCutAuto
import Derived.Laws.StructEq
namespace Go.Proofs.Ytmiodkcabjfbbaa.Pack
open Go.RowKit Mem Plan

theorem eq_page (a b c x y z : Int) (w : World) : (binOp .eql 25 (.agg #[.int .i64 a, .int .i64 b, .int .i64 c]) (.agg #[.int .i64 x, .int .i64 y, .int .i64 z])).run Try.prog w = .ok (.bool (a == x && (b == y && c == z))) w := by
  have h1 : Try.prog.underlying 25 = some (.struct (Try.prog.fieldsOf 25)) := by kernel_rfl
  have h2 : Try.prog.stoodInHeld 25 = false := by kernel_rfl
  rw [run_eql_struct, run_equalIn_agg _ _ _ _ _ h1 h2]
  have h3 := Try.underlying25
  rw [h1] at h3
  injection h3 with h3
  injection h3 with h3
  rw [h3]
  cases e1 : a == x <;> cases e2 : b == y <;> cases e3 : c == z <;> simp [Op.eqFields, go_sem, Try.underlying3, e1, e2, e3]
theorem eq_slot (a b x y : Int) (w : World) : (binOp .eql 27 (.agg #[.int .i64 a, .int .i64 b]) (.agg #[.int .i64 x, .int .i64 y])).run Try.prog w = .ok (.bool (a == x && b == y)) w := by
  have h1 : Try.prog.underlying 27 = some (.struct (Try.prog.fieldsOf 27)) := by kernel_rfl
  have h2 : Try.prog.stoodInHeld 27 = false := by kernel_rfl
  rw [run_eql_struct, run_equalIn_agg _ _ _ _ _ h1 h2]
  have h3 := Try.underlying27
  rw [h1] at h3
  injection h3 with h3
  injection h3 with h3
  rw [h3]
  cases e1 : a == x <;> cases e2 : b == y <;> simp [Op.eqFields, go_sem, Try.underlying3, e1, e2]
theorem eq_entry (a b c x y z : Int) (w : World) : (binOp .eql 29 (.agg #[.int .i64 a, .int .i64 b, .int .i64 c]) (.agg #[.int .i64 x, .int .i64 y, .int .i64 z])).run Try.prog w = .ok (.bool (a == x && (b == y && c == z))) w := by
  have h1 : Try.prog.underlying 29 = some (.struct (Try.prog.fieldsOf 29)) := by kernel_rfl
  have h2 : Try.prog.stoodInHeld 29 = false := by kernel_rfl
  rw [run_eql_struct, run_equalIn_agg _ _ _ _ _ h1 h2]
  have h3 := Try.underlying29
  rw [h1] at h3
  injection h3 with h3
  injection h3 with h3
  rw [h3]
  cases e1 : a == x <;> cases e2 : b == y <;> cases e3 : c == z <;> simp [Op.eqFields, go_sem, Try.underlying3, e1, e2, e3]

/-- Words of two are one just if they are. -/
theorem page_alike {a b x y : Int} (ha : 0 ≤ a ∧ a ≤ 255) (hb : 0 ≤ b ∧ b ≤ 255) (hx : 0 ≤ x ∧ x ≤ 255) (hy : 0 ≤ y ∧ y ≤ 255) :
    ∃ t : Bool, (pageW 2 a b == pageW 2 x y) = t ∧ ∀ w, (binOp .eql 25 (.agg #[.int .i64 2, .int .i64 a, .int .i64 b]) (.agg #[.int .i64 2, .int .i64 x, .int .i64 y])).run Try.prog w = .ok (.bool t) w := by
  refine ⟨_, rfl, fun w => ?_⟩
  rw [eq_page]
  have h : isPageB 2 a b 0 = true := by unfold isPageB; rw [if_neg (by omega), if_neg (by omega), if_pos rfl]; exact fit_iff.2 (by omega)
  have g : isPageB 2 x y 0 = true := by unfold isPageB; rw [if_neg (by omega), if_neg (by omega), if_pos rfl]; exact fit_iff.2 (by omega)
  have e := word_eq (page_parts h) (page_parts g)
  rw [show pageW 2 a b = wordI 2 a b 0 from if_pos h, show pageW 2 x y = wordI 2 x y 0 from if_pos g]
  rw [show ((2 : Int) == 2 && (a == x && b == y)) = (wordI 2 a b 0 == wordI 2 x y 0) from by
    rw [Bool.eq_iff_iff]; simp only [Bool.and_eq_true, beq_iff_eq]; rw [e]; simp]
theorem slot_alike {a b x y : Int} (ha : 1 ≤ a ∧ a ≤ 3) (hb : 0 ≤ b ∧ b ≤ 255) (hx : 1 ≤ x ∧ x ≤ 3) (hy : 0 ≤ y ∧ y ≤ 255) :
    ∃ t : Bool, (slotW a b == slotW x y) = t ∧ ∀ w, (binOp .eql 27 (.agg #[.int .i64 a, .int .i64 b]) (.agg #[.int .i64 x, .int .i64 y])).run Try.prog w = .ok (.bool t) w := by
  refine ⟨_, rfl, fun w => ?_⟩
  rw [eq_slot]
  have h : isSlotB a b 0 0 = true := by unfold isSlotB; rw [if_neg (by omega), if_pos (by omega)]; exact fit_iff.2 (by omega)
  have g : isSlotB x y 0 0 = true := by unfold isSlotB; rw [if_neg (by omega), if_pos (by omega)]; exact fit_iff.2 (by omega)
  have e := word_eq (slot_parts h) (slot_parts g)
  rw [show slotW a b = wordI a b 0 0 from if_pos h, show slotW x y = wordI x y 0 0 from if_pos g]
  rw [show (a == x && b == y) = (wordI a b 0 0 == wordI x y 0 0) from by
    rw [Bool.eq_iff_iff]; simp only [Bool.and_eq_true, beq_iff_eq]; rw [e]; simp]
theorem entry_alike {a b c x y z : Int} (ha : 0 ≤ a ∧ a ≤ 255) (hb : 0 ≤ b ∧ b ≤ 255) (hc : 0 ≤ c ∧ c ≤ 255) (hx : 0 ≤ x ∧ x ≤ 255) (hy : 0 ≤ y ∧ y ≤ 255) (hz : 0 ≤ z ∧ z ≤ 255) :
    ∃ t : Bool, (entryW a b c == entryW x y z) = t ∧ ∀ w, (binOp .eql 29 (.agg #[.int .i64 a, .int .i64 b, .int .i64 c]) (.agg #[.int .i64 x, .int .i64 y, .int .i64 z])).run Try.prog w = .ok (.bool t) w := by
  refine ⟨_, rfl, fun w => ?_⟩
  rw [eq_entry]
  have h : isEntryB 1 a b c = true := by unfold isEntryB; rw [if_pos rfl]; exact fit_iff.2 (by omega)
  have g : isEntryB 1 x y z = true := by unfold isEntryB; rw [if_pos rfl]; exact fit_iff.2 (by omega)
  have e := word_eq (entry_parts h) (entry_parts g)
  rw [show entryW a b c = wordI 1 a b c from if_pos h, show entryW x y z = wordI 1 x y z from if_pos g]
  rw [show (a == x && (b == y && c == z)) = (wordI 1 a b c == wordI 1 x y z) from by
    rw [Bool.eq_iff_iff]; simp only [Bool.and_eq_true, beq_iff_eq]; rw [e]; simp]
theorem status_alike {a x : Int} (ha : 0 ≤ a ∧ a ≤ 255) (hx : 0 ≤ x ∧ x ≤ 255) : ∃ t : Bool, (statusW 3 a == statusW 3 x) = t ∧ (a == x) = t := by
  refine ⟨_, rfl, ?_⟩
  have h : isStatusB 3 a 0 0 = true := by unfold isStatusB; rw [if_neg (by omega), if_pos rfl]; exact fit_iff.2 (by omega)
  have g : isStatusB 3 x 0 0 = true := by unfold isStatusB; rw [if_neg (by omega), if_pos rfl]; exact fit_iff.2 (by omega)
  have e := word_eq (status_parts h) (status_parts g)
  rw [show statusW 3 a = wordI 3 a 0 0 from if_pos h, show statusW 3 x = wordI 3 x 0 0 from if_pos g]
  rw [Bool.eq_iff_iff]; simp only [beq_iff_eq]; rw [e]; simp
theorem some_words {a b c k : Int} (ha : 0 ≤ a ∧ a ≤ 255) (hb : 0 ≤ b ∧ b ≤ 255) (hc : 0 ≤ c ∧ c ≤ 255) (hk : 1 ≤ k ∧ k ≤ 3) : ((entryW a b c != 0) = true ∧ (pageW 2 a b != 0) = true) ∧ (slotW k b != 0) = true := by
  have h : isPageB 2 a b 0 = true := by unfold isPageB; rw [if_neg (by omega), if_neg (by omega), if_pos rfl]; exact fit_iff.2 (by omega)
  have g : isSlotB k b 0 0 = true := by unfold isSlotB; rw [if_neg (by omega), if_pos (by omega)]; exact fit_iff.2 (by omega)
  have e : isEntryB 1 a b c = true := by unfold isEntryB; rw [if_pos rfl]; exact fit_iff.2 (by omega)
  rw [show pageW 2 a b = wordI 2 a b 0 from if_pos h, show slotW k b = wordI k b 0 0 from if_pos g, show entryW a b c = wordI 1 a b c from if_pos e]
  unfold wordI
  simp only [bne_iff_ne, ne_eq]
  omega

end Go.Proofs.Ytmiodkcabjfbbaa.Pack
