/- EdgeKnown: the walk. -/
import Derived.Test.YthpbdgdbgohooaaKnownA
namespace Go.Proofs.Ythpbdgdbgohooaa.Edge
open Go.RowKit Fl

/-- The sum of two infinities that cancel is no number, whatever its bits. -/
def SumNone (w : World) (e : Ending) (w' : World) : Prop := ∃ b, nanB b = true ∧ b < 18446744073709551616 ∧ e = .returned (.float .f64 b) ∧ w' = w.drew
def SumAt (w : World) (k : Nat) (s : Value) (wr : World) : Prop :=
  (k = 0 ∧ s = .float .f64 0 ∧ wr = w) ∨ (k = 1 ∧ s = .float .f64 9218868437227405312 ∧ wr = w) ∨ (k = 2 ∧ ∃ b, nanB b = true ∧ b < 18446744073709551616 ∧ s = .float .f64 b ∧ wr = w.drew)

theorem knSum (w : World) (b : Nat) (h0 : w.cell? ⟨b, 0, none⟩ = some (.float .f64 9218868437227405312)) (h1 : w.cell? ⟨b, 1, none⟩ = some (.float .f64 18442240474082181120)) :
    Calls Try.prog 19 #[.slice (some ⟨b, 0, none⟩) 2 2] w (SumNone w) := by
  obtain ⟨x, nx, lx, hx⟩ := add_none w
  have h2 : ∀ W : World, (binOp .add 23 (.float .f64 0) (.float .f64 9218868437227405312)).run Try.prog W = .ok (.float .f64 9218868437227405312) W :=
    fun W => run_float_arith W _ _ _ _ _ _ (by decide +kernel)
  go_enter Try.func19, Try.ntmps19
  go_wp2
  go_loopw [3, 8] (fun s i wr => ∃ k : Nat, k ≤ 2 ∧ i = .int .i64 k ∧ SumAt w k s wr) (fun _ i _ => 2 - (intOf i).toNat)
  case atStart => exact ⟨0, by omega, rfl, .inl ⟨rfl, rfl, rfl⟩⟩
  case round =>
    obtain ⟨k, hk, rfl, ⟨rfl, rfl, rfl⟩ | ⟨rfl, rfl, rfl⟩ | ⟨rfl, y, ny, ly, rfl, rfl⟩⟩ := hrel
    · go_wp2
      go_roundw
      case rel => exact ⟨1, by omega, rfl, .inr (.inl ⟨rfl, rfl, rfl⟩)⟩
      case measure => simp [intOf]
    · go_wp2
      go_roundw
      case rel => exact ⟨2, by omega, rfl, .inr (.inr ⟨rfl, x, nx, lx, rfl, rfl⟩)⟩
      case measure => simp [intOf]
    · go_wp2
      go_ret
      exact ⟨y, ny, ly, rfl, rfl⟩

theorem same_none (b : Nat) (hb : nanB b = true) (hl : b < 18446744073709551616) (w : World) :
    Calls Try.prog 15 #[.float .f64 b, .float .f64 9221120237041090561] w fun e w' => e = .returned (.bool true) ∧ w = w' :=
  (lsame_any _ _ hl (by decide) w).mono fun _ _ ⟨h, g⟩ => ⟨by
    rw [h]
    refine bool_eq ?_
    unfold sameB tkey
    rw [hb, show nanB 9221120237041090561 = true from by decide]
    rfl, g⟩

set_option maxHeartbeats 4000000 in
set_option maxRecDepth 100000 in
theorem known_walk (w : World) : Calls Try.prog 3 #[] w fun e w' => e = .returned (.bool true) ∧ Below w.heap.size w w' := by
  have hn := neg_inf
  go_enter Try.func3, Try.ntmps3
  go_wp2_with (first | (go_at_call 9; refine (awake_any _).mono ?_; rintro e w' ⟨rfl, rfl⟩) | (go_at_call 10; refine (nan_any _).mono ?_; rintro e w' ⟨rfl, rfl⟩) | (go_at_call 11; refine (inf_any _ _).mono ?_; rintro e w' ⟨rfl, rfl⟩) | (go_at_call 13; refine (copysign_any _).mono ?_; rintro e w' ⟨rfl, rfl⟩) | (go_at_call_of 12 (4 : Nat); refine (knMax _ _ ?c0 ?c1 ?c2 ?c3).mono ?_; rotate_left 4; rintro e w' ⟨rfl, rfl⟩) | (go_at_call 12; refine (max_none _ _ _).mono ?_; rintro e w' ⟨rfl, rfl⟩) | (go_at_call 14; ((with_reducible refine (kn1 _).mono ?_); rintro e w' ⟨rfl, rfl⟩)) | (go_at_call 14; ((with_reducible refine (kn2 _).mono ?_); rintro e w' ⟨rfl, rfl⟩)) | (go_at_call 16; ((with_reducible refine (kn3 _).mono ?_); rintro e w' ⟨rfl, rfl⟩)) | (go_at_call 16; ((with_reducible refine (kn4 _).mono ?_); rintro e w' ⟨rfl, rfl⟩)) | (go_at_call 17; ((with_reducible refine (kn5 _).mono ?_); rintro e w' ⟨rfl, rfl⟩)) | (go_at_call 17; ((with_reducible refine (kn6 _).mono ?_); rintro e w' ⟨rfl, rfl⟩)) | (go_at_call 17; ((with_reducible refine (kn7 _).mono ?_); rintro e w' ⟨rfl, rfl⟩)) | (go_at_call 18; ((with_reducible refine (kn8 _).mono ?_); rintro e w' ⟨rfl, rfl⟩)) | (go_at_call 18; ((with_reducible refine (kn9 _).mono ?_); rintro e w' ⟨rfl, rfl⟩)) | (go_at_call 15; ((with_reducible refine (kn10 _).mono ?_); rintro e w' ⟨rfl, rfl⟩)) | (go_at_call 15; ((with_reducible refine (kn11 _).mono ?_); rintro e w' ⟨rfl, rfl⟩)) | (go_at_call 15; ((with_reducible refine (kn12 _).mono ?_); rintro e w' ⟨rfl, rfl⟩)) | (go_at_call 15; ((with_reducible refine (kn13 _).mono ?_); rintro e w' ⟨rfl, rfl⟩)) | (go_at_call 15; ((with_reducible refine (kn14 _).mono ?_); rintro e w' ⟨rfl, rfl⟩)) | (go_at_call 20; ((with_reducible refine (kn15 _).mono ?_); rintro e w' ⟨rfl, rfl⟩)) | (go_at_call 20; ((with_reducible refine (kn16 _).mono ?_); rintro e w' ⟨rfl, rfl⟩)))
  case c0 => simp
  case c1 => simp
  case c2 => simp
  case c3 => simp
  refine (knSum _ _ (by simp) (by simp)).mono ?_
  rintro e w' ⟨b, nb, lb, rfl, rfl⟩
  go_wp2_with (first | (go_at_call_of 15 b; refine (same_none b nb lb _).mono ?_; rintro e w' ⟨rfl, rfl⟩) | (go_at_call 10; refine (nan_any _).mono ?_; rintro e w' ⟨rfl, rfl⟩) | (go_at_call 13; refine (copysign_any _).mono ?_; rintro e w' ⟨rfl, rfl⟩) | (go_at_call 14; ((with_reducible refine (kn1 _).mono ?_); rintro e w' ⟨rfl, rfl⟩)) | (go_at_call 14; ((with_reducible refine (kn2 _).mono ?_); rintro e w' ⟨rfl, rfl⟩)) | (go_at_call 16; ((with_reducible refine (kn3 _).mono ?_); rintro e w' ⟨rfl, rfl⟩)) | (go_at_call 16; ((with_reducible refine (kn4 _).mono ?_); rintro e w' ⟨rfl, rfl⟩)) | (go_at_call 17; ((with_reducible refine (kn5 _).mono ?_); rintro e w' ⟨rfl, rfl⟩)) | (go_at_call 17; ((with_reducible refine (kn6 _).mono ?_); rintro e w' ⟨rfl, rfl⟩)) | (go_at_call 17; ((with_reducible refine (kn7 _).mono ?_); rintro e w' ⟨rfl, rfl⟩)) | (go_at_call 18; ((with_reducible refine (kn8 _).mono ?_); rintro e w' ⟨rfl, rfl⟩)) | (go_at_call 18; ((with_reducible refine (kn9 _).mono ?_); rintro e w' ⟨rfl, rfl⟩)) | (go_at_call 15; ((with_reducible refine (kn10 _).mono ?_); rintro e w' ⟨rfl, rfl⟩)) | (go_at_call 15; ((with_reducible refine (kn11 _).mono ?_); rintro e w' ⟨rfl, rfl⟩)) | (go_at_call 15; ((with_reducible refine (kn12 _).mono ?_); rintro e w' ⟨rfl, rfl⟩)) | (go_at_call 15; ((with_reducible refine (kn13 _).mono ?_); rintro e w' ⟨rfl, rfl⟩)) | (go_at_call 15; ((with_reducible refine (kn14 _).mono ?_); rintro e w' ⟨rfl, rfl⟩)) | (go_at_call 20; ((with_reducible refine (kn15 _).mono ?_); rintro e w' ⟨rfl, rfl⟩)) | (go_at_call 20; ((with_reducible refine (kn16 _).mono ?_); rintro e w' ⟨rfl, rfl⟩)))
  go_ret
  exact ⟨rfl, ((((Below.refl _ _).alloc (Nat.le_refl _) _).alloc (by simp) _)).drew⟩

end Go.Proofs.Ythpbdgdbgohooaa.Edge
