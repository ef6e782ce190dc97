/- Package pack: words of parts: a contract each. -/
import Derived.Test.YtdnahojpeplajaaPlanB
import Derived.Test.YtdnahojpeplajaaPackM
namespace Go.Proofs.Ytdnahojpeplajaa.Pack
open Go.RowKit Mem

/-- A row of three, read by its place. -/
theorem at3 (a b c : Value) (w : World) :
    (Instr.index 97 (.agg #[a, b, c]) (.int .i64 0)).run Try.prog w = .ok a w ∧ (Instr.index 97 (.agg #[a, b, c]) (.int .i64 1)).run Try.prog w = .ok b w ∧ (Instr.index 97 (.agg #[a, b, c]) (.int .i64 2)).run Try.prog w = .ok c w :=
  ⟨by kernel_rfl, by kernel_rfl, by kernel_rfl⟩

theorem join_any (k a b c : Int) (h : Parts k a b c) (w : World) :
    Calls Try.prog 55 #[.agg #[.int .i64 k, .int .i64 a, .int .i64 b, .int .i64 c]] w fun e w' => e = .returned (.int .u64 (wordI k a b c)) ∧ Off [] w w' := by
  obtain ⟨k1, k2, a1, a2, b1, b2, c1, c2⟩ := h
  have o1 := or4 (x := k) (m := a) (by omega) (by omega) (by omega) (by omega)
  have o2 := or12 (x := k + a * 16) (m := b) (by omega) (by omega) (by omega) (by omega)
  have o3 := or20 (x := k + a * 16 + b * 4096) (m := c) (by omega) (by omega) (by omega) (by omega)
  have i0 := fun w => (at3 (.int .i64 a) (.int .i64 b) (.int .i64 c) w).1
  have i1 := fun w => (at3 (.int .i64 a) (.int .i64 b) (.int .i64 c) w).2.1
  have i2 := fun w => (at3 (.int .i64 a) (.int .i64 b) (.int .i64 c) w).2.2
  go_enter Try.func55, Try.ntmps55
  go_wp2
  go_loop [3, 11] (fun x i => (i = .int .i64 0 ∧ x = .int .u64 k) ∨ (i = .int .i64 1 ∧ x = .int .u64 (k + a * 16)) ∨ (i = .int .i64 2 ∧ x = .int .u64 (k + a * 16 + b * 4096)) ∨ (i = .int .i64 3 ∧ x = .int .u64 (k + a * 16 + b * 4096 + c * 1048576))) (fun _ i => (3 - intOf i).toNat)
  case atStart => exact .inl ⟨rfl, rfl⟩
  case round =>
    rcases hrel with ⟨rfl, rfl⟩ | ⟨rfl, rfl⟩ | ⟨rfl, rfl⟩ | ⟨rfl, rfl⟩
    · go_wp2
      go_round
      case rel => exact .inr (.inl ⟨rfl, rfl⟩)
      case measure => simp [intOf]
    · go_wp2
      go_round
      case rel => exact .inr (.inr (.inl ⟨rfl, rfl⟩))
      case measure => simp [intOf]
    · go_wp2
      go_round
      case rel => exact .inr (.inr (.inr ⟨rfl, rfl⟩))
      case measure => simp [intOf]
    · go_wp2
      go_ret
      exact ⟨rfl, (Off.refl _ _).alloc _⟩

/-- Whether the fields fit: read one by one. -/
theorem field_ways {i n x : Int} : (fieldB i n x = false ∧ x < 0) ∨ (fieldB i n x = false ∧ 0 ≤ x ∧ 255 < x) ∨ (fieldB i n x = false ∧ 0 ≤ x ∧ x ≤ 255 ∧ n ≤ i ∧ (x != 0) = true) ∨ (fieldB i n x = true ∧ 0 ≤ x ∧ x ≤ 255 ∧ i < n) ∨ (fieldB i n x = true ∧ 0 ≤ x ∧ x ≤ 255 ∧ n ≤ i ∧ (x != 0) = false) := by
  by_cases h0 : x < 0
  · exact .inl ⟨field_f (by omega), h0⟩
  · by_cases h1 : 255 < x
    · exact .inr (.inl ⟨field_f (by omega), by omega, h1⟩)
    · by_cases h2 : i < n
      · exact .inr (.inr (.inr (.inl ⟨field_iff.2 (by omega), by omega, by omega, h2⟩)))
      · by_cases h3 : x = 0
        · exact .inr (.inr (.inr (.inr ⟨field_iff.2 (by omega), by omega, by omega, by omega, by simp [h3]⟩)))
        · exact .inr (.inr (.inl ⟨field_f (by omega), by omega, by omega, by omega, by simp [h3]⟩))

theorem fit_any (k a b c n : Int) (w : World) :
    Calls Try.prog 66 #[.agg #[.int .i64 k, .int .i64 a, .int .i64 b, .int .i64 c], .int .i64 n] w fun e w' => e = .returned (.bool (fitB n a b c)) ∧ Off [] w w' := by
  have i0 := fun w => (at3 (.int .i64 a) (.int .i64 b) (.int .i64 c) w).1
  have i1 := fun w => (at3 (.int .i64 a) (.int .i64 b) (.int .i64 c) w).2.1
  have i2 := fun w => (at3 (.int .i64 a) (.int .i64 b) (.int .i64 c) w).2.2
  go_enter Try.func66, Try.ntmps66
  go_wp2
  go_loop [9] (fun i => i = .int .i64 0 ∨ (i = .int .i64 1 ∧ Hid (fieldB 0 n a = true)) ∨ (i = .int .i64 2 ∧ Hid (fieldB 0 n a = true) ∧ Hid (fieldB 1 n b = true)) ∨ (i = .int .i64 3 ∧ Hid (fitB n a b c = true))) (fun i => (3 - intOf i).toNat)
  case atStart => exact .inl rfl
  case round =>
    rcases hrel with rfl | ⟨rfl, h0⟩ | ⟨rfl, h0, h1⟩ | ⟨rfl, h0⟩
    · rcases field_ways (i := 0) (n := n) (x := a) with ⟨hf, q1⟩ | ⟨hf, q1, q2⟩ | ⟨hf, q1, q2, q3, q4⟩ | ⟨hf, q1, q2, q3⟩ | ⟨hf, q1, q2, q3, q4⟩
      · have HF := Lib.hid hf; clear hf
        go_wp2
        go_ret
        exact ⟨by rw [show fitB n a b c = false from by unfold fitB; simp [HF.out]]; rfl, (Off.refl _ _).alloc _⟩
      · have HF := Lib.hid hf; clear hf
        go_wp2
        go_ret
        exact ⟨by rw [show fitB n a b c = false from by unfold fitB; simp [HF.out]]; rfl, (Off.refl _ _).alloc _⟩
      · have HF := Lib.hid hf; clear hf
        go_wp2
        go_ret
        exact ⟨by rw [show fitB n a b c = false from by unfold fitB; simp [HF.out]]; rfl, (Off.refl _ _).alloc _⟩
      · have HF := Lib.hid hf; clear hf
        go_wp2
        go_round
        case rel => exact .inr (.inl ⟨rfl, HF⟩)
        case measure => simp [intOf]
      · have HF := Lib.hid hf; clear hf
        go_wp2
        go_round
        case rel => exact .inr (.inl ⟨rfl, HF⟩)
        case measure => simp [intOf]
    · rcases field_ways (i := 1) (n := n) (x := b) with ⟨hf, q1⟩ | ⟨hf, q1, q2⟩ | ⟨hf, q1, q2, q3, q4⟩ | ⟨hf, q1, q2, q3⟩ | ⟨hf, q1, q2, q3, q4⟩
      · have HF := Lib.hid hf; clear hf
        go_wp2
        go_ret
        exact ⟨by rw [show fitB n a b c = false from by unfold fitB; simp [h0.out, HF.out]]; rfl, (Off.refl _ _).alloc _⟩
      · have HF := Lib.hid hf; clear hf
        go_wp2
        go_ret
        exact ⟨by rw [show fitB n a b c = false from by unfold fitB; simp [h0.out, HF.out]]; rfl, (Off.refl _ _).alloc _⟩
      · have HF := Lib.hid hf; clear hf
        go_wp2
        go_ret
        exact ⟨by rw [show fitB n a b c = false from by unfold fitB; simp [h0.out, HF.out]]; rfl, (Off.refl _ _).alloc _⟩
      · have HF := Lib.hid hf; clear hf
        go_wp2
        go_round
        case rel => exact .inr (.inr (.inl ⟨rfl, h0, HF⟩))
        case measure => simp [intOf]
      · have HF := Lib.hid hf; clear hf
        go_wp2
        go_round
        case rel => exact .inr (.inr (.inl ⟨rfl, h0, HF⟩))
        case measure => simp [intOf]
    · rcases field_ways (i := 2) (n := n) (x := c) with ⟨hf, q1⟩ | ⟨hf, q1, q2⟩ | ⟨hf, q1, q2, q3, q4⟩ | ⟨hf, q1, q2, q3⟩ | ⟨hf, q1, q2, q3, q4⟩
      · have HF := Lib.hid hf; clear hf
        go_wp2
        go_ret
        exact ⟨by rw [show fitB n a b c = false from by unfold fitB; simp [h0.out, h1.out, HF.out]]; rfl, (Off.refl _ _).alloc _⟩
      · have HF := Lib.hid hf; clear hf
        go_wp2
        go_ret
        exact ⟨by rw [show fitB n a b c = false from by unfold fitB; simp [h0.out, h1.out, HF.out]]; rfl, (Off.refl _ _).alloc _⟩
      · have HF := Lib.hid hf; clear hf
        go_wp2
        go_ret
        exact ⟨by rw [show fitB n a b c = false from by unfold fitB; simp [h0.out, h1.out, HF.out]]; rfl, (Off.refl _ _).alloc _⟩
      · have HF := Lib.hid hf; clear hf
        go_wp2
        go_round
        case rel => exact .inr (.inr (.inr ⟨rfl, Lib.hid (by unfold fitB; simp [h0.out, h1.out, HF.out])⟩))
        case measure => simp [intOf]
      · have HF := Lib.hid hf; clear hf
        go_wp2
        go_round
        case rel => exact .inr (.inr (.inr ⟨rfl, Lib.hid (by unfold fitB; simp [h0.out, h1.out, HF.out])⟩))
        case measure => simp [intOf]
    · go_wp2
      go_ret
      exact ⟨by rw [h0.out]; rfl, (Off.refl _ _).alloc _⟩

end Go.Proofs.Ytdnahojpeplajaa.Pack
