/- What the small functions on floats come to, one contract each. -/
import Derived.Test.YthpbdgdbgohooaaChecked
import Derived.Test.YthpbdgdbgohooaaFm
import Derived.Deep.RegionWith
import Derived.WalkKit
import Derived.WalkLawsBesides
import Derived.Laws.LoneSync
import Derived.Lib.Hide
namespace Go.Proofs.Ythpbdgdbgohooaa.Edge
open Go.RowKit Fl

@[go_sem] theorem unary_neg_float (k : FloatKind) (b : Nat) : Op.unary .neg (.float k b) = pure (.float k (Op.negFloat k b)) := rfl

theorem isNaN_any (b : Nat) (w : World) :
    Calls Try.prog 34 #[.float .f64 b] w fun e w' => e = .returned (.bool (nanB b)) ∧ w = w' := by
  have h := order_self b
  go_enter Try.func34, Try.ntmps34
  go_wp2
  go_ret
  exact ⟨rfl, rfl⟩

theorem isNaN2_any (b : Nat) (w : World) :
    Calls Try.prog 38 #[.float .f64 b] w fun e w' => e = .returned (.bool (nanB b)) ∧ w = w' := by
  have h := order_self b
  go_enter Try.func38, Try.ntmps38
  go_wp2
  go_ret
  exact ⟨rfl, rfl⟩

theorem isLow_any (b : Nat) (hb : b < 18446744073709551616) (w : World) :
    Calls Try.prog 35 #[.float .f64 b, .int .i64 (-1)] w fun e w' => e = .returned (.bool (lowB b)) ∧ w = w' := by
  have h : (FloatKind.f64.format.order (Op.negFloat .f64 b) 9218868437227405311 == some .gt) = lowB b := by rw [order_gt, beyond_neg b hb]
  go_enter Try.func35, Try.ntmps35
  go_wp2
  go_ret
  exact ⟨rfl, rfl⟩

theorem isHigh_any (b : Nat) (w : World) :
    Calls Try.prog 35 #[.float .f64 b, .int .i64 1] w fun e w' => e = .returned (.bool (highB b)) ∧ w = w' := by
  have h : (FloatKind.f64.format.order b 9218868437227405311 == some .gt) = highB b := by rw [order_gt, beyond b]
  go_enter Try.func35, Try.ntmps35
  go_wp2
  go_ret
  exact ⟨rfl, rfl⟩

theorem kind_any (b : Nat) (hb : b < 18446744073709551616) (w : World) :
    Calls Try.prog 20 #[.float .f64 b] w fun e w' => e = .returned (.int .i64 (kindI b)) ∧ w = w' := by
  have g1 := order_lt b 0
  have g2 := order_gt b 0
  rcases kinds b with ⟨k, h1, h2, h3, h4, h5⟩ | ⟨k, h1, h2, h3, h4, h5⟩ | ⟨k, h1, h2, h3, h4, h5⟩ | ⟨k, h1, h2, h3, h4, h5⟩ | ⟨k, h1, h2, h3, h4, h5⟩ | ⟨k, h1, h2, h3, h4, h5⟩
  all_goals
    rw [k]
    rw [h3] at g1
    rw [h5] at g2
    clear k h3 h5
    go_enter Try.func20, Try.ntmps20
    go_wp2_with (first | (go_at_call 34; refine (isNaN_any _ _).mono ?_; rintro e w' ⟨rfl, rfl⟩) | (go_at_call_of 35 (Value.int .i64 1); refine (isHigh_any _ _).mono ?_; rintro e w' ⟨rfl, rfl⟩) | (go_at_call 35; refine (isLow_any _ hb _).mono ?_; rintro e w' ⟨rfl, rfl⟩))
    go_ret
    exact ⟨rfl, rfl⟩

end Go.Proofs.Ythpbdgdbgohooaa.Edge
