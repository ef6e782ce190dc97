/- EdgeShares: the walk. -/
import Derived.Test.YthpbdgdbgohooaaFu
import Derived.Test.YthpbdgdbgohooaaReckonsW
namespace Go.Proofs.Ythpbdgdbgohooaa.Edge
open Go.RowKit Fl

theorem u16_range {a : Int} (h : (Lit.int .u16 a).wf = true) : 0 ≤ a ∧ a ≤ 65535 := by
  simpa [Lit.wf, IntKind.min, IntKind.max, IntKind.signed, IntKind.bits] using h

set_option maxHeartbeats 4000000 in
set_option maxRecDepth 100000 in
theorem shares_any (x y : Nat) (m : Nat) (w : World) (hx : x < 18446744073709551616) (hy : y < 18446744073709551616) (hm : m ≤ 65535) :
    Calls Try.prog 6 #[.float .f64 x, .float .f64 y, .int .u16 m] w fun e w' => e = .returned (.bool true) ∧ w = w' := by
  have r1 : (2 * ((m : Int) / 2) + 1).natAbs ≤ 9223372036854775808 := by omega
  obtain ⟨K, hK⟩ : ∃ K : Int, 1 + (m : Int) = K := ⟨_, rfl⟩
  have kb1 : 1 ≤ K := by omega
  have kb2 : K ≤ 65536 := by omega
  have k1 : (-9223372036854775808 : Int) ≤ K := by omega
  have k2 : K ≤ 9223372036854775807 := by omega
  have r2 : (2 * K).natAbs ≤ 9223372036854775808 := by omega
  have rl := ratio_lt _ _ r1 r2
  have hmid : shareI (ratioB (2 * ((m : Int) / 2) + 1) (2 * K)) K = (m : Int) / 2 := by
    have h := share_mid (m / 2) (1 + m) (by omega) (by omega)
    rw [show ((2 * (m / 2) + 1 : Nat) : Int) = 2 * ((m : Int) / 2) + 1 from by omega, show ((2 * (1 + m) : Nat) : Int) = 2 * K from by omega, show ((1 + m : Nat) : Int) = K from by omega, show ((m / 2 : Nat) : Int) = (m : Int) / 2 from by omega] at h
    exact h
  have hone : shareI 4607182418800017408 K = K - 1 := by
    have h := share_one (1 + m) (by omega)
    rw [show ((1 + m : Nat) : Int) = K from by omega] at h
    exact h
  have hno : shareI 0 K = 0 := by
    have h := share_nought (1 + m) (by omega) (by omega)
    rw [show ((1 + m : Nat) : Int) = K from by omega] at h
    exact h
  have hz : shareI x 0 = 0 := by unfold shareI; rw [if_pos (.inl (by omega))]
  obtain ⟨p1, p2⟩ := share_range x K (by omega) k2
  obtain ⟨p3, p4⟩ := share_range y K (by omega) k2
  have hmono : tkey x ≤ tkey y → shareI x K ≤ shareI y K := fun h => share_mono x y K h (by omega) k2
  obtain ⟨A, hA⟩ : ∃ A, shareI x K = A := ⟨_, rfl⟩
  obtain ⟨B, hB⟩ : ∃ B, shareI y K = B := ⟨_, rfl⟩
  rw [hA] at p1 p2 hmono
  rw [hB] at p3 p4 hmono
  have t1 : decide (A < 0) = false := by simp; omega
  have t2 : decide (K ≤ A) = false := by simp; omega
  have t3 : decide (B < 0) = false := by simp; omega
  have t4 : decide (K ≤ B) = false := by simp; omega
  have hcase : decide (cmpI (tkey x) (tkey y) ≤ 0) = false ∨ (decide (cmpI (tkey x) (tkey y) ≤ 0) = true ∧ decide (B < A) = false) := by
    cases g : decide (cmpI (tkey x) (tkey y) ≤ 0)
    · exact .inl rfl
    · right
      refine ⟨rfl, ?_⟩
      have : tkey x ≤ tkey y := by
        unfold cmpI at g
        split at g
        · omega
        · split at g
          · omega
          · simp at g
      have := hmono this
      simp; omega
  have HA := Lib.hid hA
  have HB := Lib.hid hB
  have HM := Lib.hid hmid
  have HO := Lib.hid hone
  have HN := Lib.hid hno
  have HZ := Lib.hid hz
  have HK := Lib.hid hK
  have R1 := Lib.hid r1
  have R2 := Lib.hid r2
  have RL := Lib.hid rl
  clear hA hB hmid hone hno hz hK hmono r1 r2 rl p1 p2 p3 p4 k1 k2
  rcases hcase with g | ⟨g, g'⟩
  all_goals
    go_enter Try.func6, Try.ntmps6
    go_wp2_with (go_at_call 9; refine (awake_any _).mono ?_; rintro e w' ⟨rfl, rfl⟩)
    rw [HK.out]
    go_wp2_with (first | (go_at_call 14; refine (compare_any _ _ hx hy _).mono ?_; rintro e w' ⟨rfl, rfl⟩) | (go_at_call 16; refine (ratio_any _ _ R1.out R2.out _).mono ?_; rintro e w' ⟨rfl, rfl⟩) | (go_at_call_of 17 (Value.int .i64 0); refine (share_any _ _ hx (by decide) (by decide) _).mono ?_; rintro e w' ⟨rfl, rfl⟩; rw [HZ.out]) | (go_at_call_of 17 (Value.float .f64 4607182418800017408); refine (share_any _ _ (by decide) (by omega) (by omega) _).mono ?_; rintro e w' ⟨rfl, rfl⟩; rw [HO.out]) | (go_at_call_of 17 (Value.float .f64 0); refine (share_any _ _ (by decide) (by omega) (by omega) _).mono ?_; rintro e w' ⟨rfl, rfl⟩; rw [HN.out]) | (go_at_call_of 17 (Value.float .f64 x); refine (share_any _ _ hx (by omega) (by omega) _).mono ?_; rintro e w' ⟨rfl, rfl⟩; rw [HA.out]) | (go_at_call_of 17 (Value.float .f64 y); refine (share_any _ _ hy (by omega) (by omega) _).mono ?_; rintro e w' ⟨rfl, rfl⟩; rw [HB.out]) | (go_at_call 17; refine (share_any _ _ RL.out (by omega) (by omega) _).mono ?_; rintro e w' ⟨rfl, rfl⟩; rw [HM.out]))
    go_ret
    exact ⟨rfl, rfl⟩

theorem shares_walk (x y : Nat) (n : Int) (w : World) (hx : x < 18446744073709551616) (hy : y < 18446744073709551616) (hn : (Lit.int .u16 n).wf = true) :
    Calls Try.prog 6 #[.float .f64 x, .float .f64 y, .int .u16 n] w fun e w' => e = .returned (.bool true) ∧ Below w.heap.size w w' := by
  obtain ⟨n1, n2⟩ := u16_range hn
  obtain ⟨m, rfl⟩ := Int.eq_ofNat_of_zero_le n1
  exact (shares_any x y m w hx hy (by omega)).mono fun e w' ⟨h, g⟩ => ⟨h, by rw [g]; exact Below.refl _ _⟩

end Go.Proofs.Ythpbdgdbgohooaa.Edge
