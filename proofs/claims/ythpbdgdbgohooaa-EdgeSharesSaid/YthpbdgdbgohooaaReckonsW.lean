/- EdgeReckons: the walk. -/
import Derived.Test.YthpbdgdbgohooaaEdgeD
import Derived.BigQuiet
import Derived.Deep.QuietTactic
namespace Go.Proofs.Ythpbdgdbgohooaa.Edge
open Go.RowKit Fl

theorem sameB_self (b : Nat) : sameB b b = true := by unfold sameB; rw [decide_eq_true rfl]

theorem clamp_lt {x lo hi : Nat} (hx : x < 18446744073709551616) (hl : lo < 18446744073709551616) (hh : hi < 18446744073709551616) : clampB x lo hi < 18446744073709551616 := by
  unfold clampB; split
  · exact hl
  · split
    · exact hh
    · exact hx

theorem int_range {a : Int} (h : (Lit.int .i64 a).wf = true) : -9223372036854775808 ≤ a ∧ a ≤ 9223372036854775807 := by
  simpa [Lit.wf, IntKind.min, IntKind.max, IntKind.signed, IntKind.bits] using h

set_option maxHeartbeats 1000000 in
set_option maxRecDepth 100000 in
theorem reckons_walk (x y z : Nat) (a b : Int) (w : World) (hx : x < 18446744073709551616) (hy : y < 18446744073709551616) (hz : z < 18446744073709551616)
    (ha : (Lit.int .i64 a).wf = true) (hb : (Lit.int .i64 b).wf = true) :
    Calls Try.prog 4 #[.agg #[.float .f64 x, .float .f64 y, .float .f64 z], .int .i64 a, .int .i64 b] w fun e w' => e = .returned (.bool true) ∧ Below w.heap.size w w' := by
  obtain ⟨ha1, ha2⟩ := int_range ha
  obtain ⟨hb1, hb2⟩ := int_range hb
  have ha' : a.natAbs ≤ 9223372036854775808 := by omega
  have hb' : b.natAbs ≤ 9223372036854775808 := by omega
  have hr := ratio_lt a b ha' hb'
  have hc := clamp_lt hx hy hz
  have s1 := sameB_self (ratioB a b)
  have s2 := sameB_self (clampB x y z)
  clear ha hb hb1 hb2
  go_enter Try.func4, Try.ntmps4
  go_wp2_with (go_at_call 9; refine (awake_any _).mono ?_; rintro e w' ⟨rfl, rfl⟩)
  go_quiet (fail)
  go_wp2_with (first | (go_at_call 20; refine (kind_any _ hx _).mono ?_; rintro e w' ⟨rfl, rfl⟩) | (go_at_call 21; refine (rkind_any _ hx _).mono ?_; rintro e w' ⟨rfl, rfl⟩) | (go_at_call 14; refine (compare_any _ _ hx hy _).mono ?_; rintro e w' ⟨rfl, rfl⟩) | (go_at_call 22; refine (rcompare_any _ _ hx hy _).mono ?_; rintro e w' ⟨rfl, rfl⟩) | (go_at_call 23; refine (same_any _ _ hx hy _).mono ?_; rintro e w' ⟨rfl, rfl⟩) | (go_at_call 24; refine (rsame_any _ _ hx hy _).mono ?_; rintro e w' ⟨rfl, rfl⟩) | (go_at_call 18; refine (clamp_any _ _ _ hx hy hz _).mono ?_; rintro e w' ⟨rfl, rfl⟩) | (go_at_call 25; refine (rclamp_any _ _ _ hx hy hz _).mono ?_; rintro e w' ⟨rfl, rfl⟩) | (go_at_call 16; refine (ratio_any _ _ ha' hb' _).mono ?_; rintro e w' ⟨rfl, rfl⟩) | (go_at_call 26; refine (rratio_any _ _ ha' hb' _).mono ?_; rintro e w' ⟨rfl, rfl⟩) | (go_at_call 17; refine (share_any _ _ hx ha1 ha2 _).mono ?_; rintro e w' ⟨rfl, rfl⟩) | (go_at_call 27; refine (rshare_any _ _ hx ha1 ha2 _).mono ?_; rintro e w' ⟨rfl, rfl⟩) | (go_at_call_of 15 a; refine (lsame_any _ _ hr hr _).mono ?_; rintro e w' ⟨rfl, rfl⟩) | (go_at_call 15; refine (lsame_any _ _ hc hc _).mono ?_; rintro e w' ⟨rfl, rfl⟩))
  go_ret
  exact ⟨rfl, below_drewN ((Below.refl _ _).alloc (Nat.le_refl _) _) _⟩

end Go.Proofs.Ythpbdgdbgohooaa.Edge
