/- EdgeKnown: what it asks. -/
import Derived.Test.YthpbdgdbgohooaaEdgeE
import Derived.Test.YthpbdgdbgohooaaReckonsW
namespace Go.Proofs.Ythpbdgdbgohooaa.Edge
open Go.RowKit Fl

theorem neg_inf : Op.negFloat .f64 9218868437227405312 = 18442240474082181120 := by decide
theorem int_eq {k : IntKind} {a b : Int} (h : a = b) : Ending.returned (.int k a) = .returned (.int k b) := by rw [h]
theorem float_eq {k : FloatKind} {a b : Nat} (h : a = b) : Ending.returned (.float k a) = .returned (.float k b) := by rw [h]
theorem bool_eq {a b : Bool} (h : a = b) : Ending.returned (.bool a) = .returned (.bool b) := by rw [h]

theorem kn1 (w : World) : Calls Try.prog 14 #[(.float .f64 9221120237041090561), (.float .f64 18442240474082181120)] w fun e w' => e = .returned (.int .i64 (-1)) ∧ w = w' :=
  (compare_any _ _ (by decide) (by decide) w).mono fun _ _ ⟨h, g⟩ => ⟨by rw [h]; exact int_eq (by decide +kernel), g⟩

theorem kn2 (w : World) : Calls Try.prog 14 #[(.float .f64 9221120237041090561), (.float .f64 9221120237041090561)] w fun e w' => e = .returned (.int .i64 0) ∧ w = w' :=
  (compare_any _ _ (by decide) (by decide) w).mono fun _ _ ⟨h, g⟩ => ⟨by rw [h]; exact int_eq (by decide +kernel), g⟩

theorem kn3 (w : World) : Calls Try.prog 16 #[(.int .i64 0), (.int .i64 0)] w fun e w' => e = .returned (.float .f64 9221120237041090561) ∧ w = w' :=
  (ratio_any 0 0 (by decide) (by decide) w).mono fun _ _ ⟨h, g⟩ => ⟨by rw [h]; exact float_eq (by decide +kernel), g⟩

theorem kn4 (w : World) : Calls Try.prog 16 #[(.int .i64 (-3)), (.int .i64 0)] w fun e w' => e = .returned (.float .f64 18442240474082181120) ∧ w = w' :=
  (ratio_any (-3) 0 (by decide) (by decide) w).mono fun _ _ ⟨h, g⟩ => ⟨by rw [h]; exact float_eq (by decide +kernel), g⟩

theorem kn5 (w : World) : Calls Try.prog 17 #[(.float .f64 9221120237041090561), (.int .i64 8)] w fun e w' => e = .returned (.int .i64 0) ∧ w = w' :=
  (share_any _ _ (by decide) (by decide) (by decide) w).mono fun _ _ ⟨h, g⟩ => ⟨by rw [h]; exact int_eq (by decide +kernel), g⟩

theorem kn6 (w : World) : Calls Try.prog 17 #[(.float .f64 9218868437227405312), (.int .i64 8)] w fun e w' => e = .returned (.int .i64 7) ∧ w = w' :=
  (share_any _ _ (by decide) (by decide) (by decide) w).mono fun _ _ ⟨h, g⟩ => ⟨by rw [h]; exact int_eq (by decide +kernel), g⟩

theorem kn7 (w : World) : Calls Try.prog 17 #[(.float .f64 13830554455654793216), (.int .i64 8)] w fun e w' => e = .returned (.int .i64 0) ∧ w = w' :=
  (share_any _ _ (by decide) (by decide) (by decide) w).mono fun _ _ ⟨h, g⟩ => ⟨by rw [h]; exact int_eq (by decide +kernel), g⟩

theorem kn8 (w : World) : Calls Try.prog 18 #[(.float .f64 9221120237041090561), (.float .f64 4607182418800017408), (.float .f64 4611686018427387904)] w fun e w' => e = .returned (.float .f64 4607182418800017408) ∧ w = w' :=
  (clamp_any _ _ _ (by decide) (by decide) (by decide) w).mono fun _ _ ⟨h, g⟩ => ⟨by rw [h]; exact float_eq (by decide +kernel), g⟩

theorem kn9 (w : World) : Calls Try.prog 18 #[(.float .f64 4617315517961601024), (.float .f64 4607182418800017408), (.float .f64 4611686018427387904)] w fun e w' => e = .returned (.float .f64 4611686018427387904) ∧ w = w' :=
  (clamp_any _ _ _ (by decide) (by decide) (by decide) w).mono fun _ _ ⟨h, g⟩ => ⟨by rw [h]; exact float_eq (by decide +kernel), g⟩

theorem kn10 (w : World) : Calls Try.prog 15 #[(.float .f64 9221120237041090561), (.float .f64 9221120237041090561)] w fun e w' => e = .returned (.bool true) ∧ w = w' :=
  (lsame_any _ _ (by decide) (by decide) w).mono fun _ _ ⟨h, g⟩ => ⟨by rw [h]; exact bool_eq (by decide +kernel), g⟩

theorem kn11 (w : World) : Calls Try.prog 15 #[(.float .f64 18442240474082181120), (.float .f64 18442240474082181120)] w fun e w' => e = .returned (.bool true) ∧ w = w' :=
  (lsame_any _ _ (by decide) (by decide) w).mono fun _ _ ⟨h, g⟩ => ⟨by rw [h]; exact bool_eq (by decide +kernel), g⟩

theorem kn12 (w : World) : Calls Try.prog 15 #[(.float .f64 4607182418800017408), (.float .f64 4607182418800017408)] w fun e w' => e = .returned (.bool true) ∧ w = w' :=
  (lsame_any _ _ (by decide) (by decide) w).mono fun _ _ ⟨h, g⟩ => ⟨by rw [h]; exact bool_eq (by decide +kernel), g⟩

theorem kn13 (w : World) : Calls Try.prog 15 #[(.float .f64 4611686018427387904), (.float .f64 4611686018427387904)] w fun e w' => e = .returned (.bool true) ∧ w = w' :=
  (lsame_any _ _ (by decide) (by decide) w).mono fun _ _ ⟨h, g⟩ => ⟨by rw [h]; exact bool_eq (by decide +kernel), g⟩

theorem kn14 (w : World) : Calls Try.prog 15 #[(.float .f64 0), (.float .f64 0)] w fun e w' => e = .returned (.bool true) ∧ w = w' :=
  (lsame_any _ _ (by decide) (by decide) w).mono fun _ _ ⟨h, g⟩ => ⟨by rw [h]; exact bool_eq (by decide +kernel), g⟩

theorem kn15 (w : World) : Calls Try.prog 20 #[(.float .f64 13826050856027422720)] w fun e w' => e = .returned (.int .i64 2) ∧ w = w' :=
  (kind_any _ (by decide) w).mono fun _ _ ⟨h, g⟩ => ⟨by rw [h]; exact int_eq (by decide +kernel), g⟩

theorem kn16 (w : World) : Calls Try.prog 20 #[(.float .f64 9223372036854775808)] w fun e w' => e = .returned (.int .i64 3) ∧ w = w' :=
  (kind_any _ (by decide) w).mono fun _ _ ⟨h, g⟩ => ⟨by rw [h]; exact int_eq (by decide +kernel), g⟩

/-- The row of the example. -/
def row4 (i : Nat) : Nat := if i = 0 then 9221120237041090561 else if i = 1 then 18442240474082181120 else if i = 2 then 9223372036854775808 else 0

theorem knMax (w : World) (b : Nat) (h0 : w.cell? ⟨b, 0, none⟩ = some (.float .f64 9221120237041090561)) (h1 : w.cell? ⟨b, 1, none⟩ = some (.float .f64 18442240474082181120)) (h2 : w.cell? ⟨b, 2, none⟩ = some (.float .f64 9223372036854775808)) (h3 : w.cell? ⟨b, 3, none⟩ = some (.float .f64 0)) :
    Calls Try.prog 12 #[.slice (some ⟨b, 0, none⟩) 4 4] w fun e w' => e = .returned (.tuple #[.float .f64 0, .bool true]) ∧ w = w' := by
  refine (max_any b 0 3 4 row4 w (by decide) (by decide) (fun i hi => ?_) (fun i hi => ?_)).mono fun e w' ⟨h, g⟩ => ⟨?_, g⟩
  · match i, hi with
    | 0, _ => exact h0
    | 1, _ => exact h1
    | 2, _ => exact h2
    | 3, _ => exact h3
  · match i, hi with
    | 0, _ => decide
    | 1, _ => decide
    | 2, _ => decide
    | 3, _ => decide
  · rw [h, show maxF row4 3 = 0 from by decide +kernel]

/-- A number that is none, of two infinities: whatever its bits. -/
theorem add_none (w : World) : ∃ b, nanB b = true ∧ b < 18446744073709551616 ∧ (binOp .add 23 (.float .f64 9218868437227405312) (.float .f64 18442240474082181120)).run Try.prog w = .ok (.float .f64 b) w.drew := by
  have e : FloatKind.f64.format.add 9218868437227405312 18442240474082181120 = none := by decide +kernel
  refine ⟨(Question.nanBits .f64 9218868437227405312 18442240474082181120).cut (w.tape w.drawn (.nanBits .f64 9218868437227405312 18442240474082181120)), ?_, ?_, ?_⟩
  · generalize w.tape w.drawn (.nanBits .f64 9218868437227405312 18442240474082181120) = t
    unfold nanB rg
    refine decide_eq_true ?_
    show 9218868437227405312 < (t % 2 * 9223372036854775808 + 9218868437227405312 + 1 + t / 2 % 4503599627370495) % 9223372036854775808
    have h1 : t % 2 = 0 ∨ t % 2 = 1 := by omega
    have h2 : t / 2 % 4503599627370495 < 4503599627370495 := Nat.mod_lt _ (by decide)
    generalize t / 2 % 4503599627370495 = v at h2
    rcases h1 with h1 | h1 <;> rw [h1] <;> omega
  · generalize w.tape w.drawn (.nanBits .f64 9218868437227405312 18442240474082181120) = t
    simp only [Question.cut]
    omega
  · simp [binOp, Op.floatArith, e, Question.forced]

end Go.Proofs.Ythpbdgdbgohooaa.Edge
