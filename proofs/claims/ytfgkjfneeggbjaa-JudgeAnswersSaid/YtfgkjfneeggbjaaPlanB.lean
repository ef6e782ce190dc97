/- Package plan: what takes a shape: a contract each. -/
import Derived.Test.YtfgkjfneeggbjaaPlanA
import Derived.Deep.RegionHeld3
import Derived.Deep.RegionWith
import Derived.IntWalk
namespace Go.Proofs.Ytfgkjfneeggbjaa.Plan
open Go.RowKit Mem

theorem may_any (P C M : Int) (w : World) :
    Calls Try.prog 17 #[.agg #[.int .i64 P, .int .i64 C, .int .i64 M]] w fun e w' => e = .returned (.bool (mayB P C M)) ∧ Off [] w w' := by
  unfold mayB
  cases h1 : fromB 1 P 64 <;> cases h2 : fromB 1 C 12 <;> cases h3 : fromB 0 M 8
  all_goals
    go_enter Try.func17, Try.ntmps17
    go_wp2_with (go_at_call 27; refine (from_any _ _ _ _).mono ?_; rintro e w' ⟨rfl, rfl⟩)
    go_ret
    exact ⟨rfl, (Off.refl _ _).alloc _⟩

/-- What was boxed; its cells. -/
theorem box_new (w : World) (t : TypeId) (cs : Array Value) : Blk (w.alloc (.cells cs t)) w.heap.size t cs ∧ Off [] w (w.alloc (.cells cs t)) := ⟨Blk.new w t cs, (Off.refl _ _).alloc _⟩
theorem shp_cells {w : World} {g : Nat} {t : TypeId} {P C M : Int} (h : Blk w g t #[.int .i64 P, .int .i64 C, .int .i64 M]) :
    w.cell? ⟨g, 0, none⟩ = some (.int .i64 P) ∧ w.cell? ⟨g, 1, none⟩ = some (.int .i64 C) ∧ w.cell? ⟨g, 2, none⟩ = some (.int .i64 M) := ⟨h.cell 0, h.cell 1, h.cell 2⟩

/-- The last six bits. -/
theorem and63 {a : Int} (h1 : 0 ≤ a) (h2 : a < 4096) : bits .and .i64 a 63 = a % 64 := by
  obtain ⟨n, rfl⟩ := Int.eq_ofNat_of_zero_le h1
  show IntKind.i64.wrap ((BitVec.ofInt 64 (n : Int) &&& BitVec.ofInt 64 63).toNat : Int) = _
  rw [BitVec.toNat_and, BitVec.ofInt_natCast, BitVec.toNat_ofNat, Nat.mod_eq_of_lt (by omega), show (BitVec.ofInt 64 63).toNat = 2 ^ 6 - 1 from rfl, Nat.and_two_pow_sub_one_eq_mod]
  exact IntWalk.i64_in _ (by omega)

/-- What stays when a shape that may be is reckoned with. -/
theorem fit_bd {P C M : Int} (hf : Fit P C M) : 0 ≤ C * M ∧ C * M ≤ 96 := mul_bd (Int.le_trans (by decide) hf.c1) hf.c2 hf.m1 hf.m2

end Go.Proofs.Ytfgkjfneeggbjaa.Plan
