/- WordsOne: all ways together. -/
import Derived.Test.YtaegjkpodhkogaaOneW
namespace Go.Proofs.Ytaegjkpodhkogaa.Words
open Go.RowKit Mem Go.Proofs.Ytaegjkpodhkogaa.Open

theorem and_three (o : Int) : bits .and .i64 o 3 = 0 ∨ bits .and .i64 o 3 = 1 ∨ bits .and .i64 o 3 = 2 ∨ bits .and .i64 o 3 = 3 := by
  have h : (BitVec.ofInt 64 o &&& BitVec.ofInt 64 3).toNat ≤ 3 := by
    rw [BitVec.toNat_and]
    exact Nat.le_trans Nat.and_le_right (by decide)
  have e : bits .and .i64 o 3 = IntKind.i64.wrap (((BitVec.ofInt 64 o &&& BitVec.ofInt 64 3).toNat : Nat) : Int) := rfl
  rw [e]
  generalize (BitVec.ofInt 64 o &&& BitVec.ofInt 64 3).toNat = n at h
  rw [IntKind.wrap_i64]
  omega

theorem tmod_bounds (p : Int) (n : Nat) (h : 0 < n) : -(n : Int) < p.tmod n ∧ p.tmod n < n := by
  have h1 : (p.tmod n).natAbs = p.natAbs % n := by rw [Int.natAbs_tmod]; rfl
  have h2 := Nat.mod_lt p.natAbs h
  omega

set_option maxRecDepth 100000 in
set_option maxHeartbeats 1000000 in
theorem one_walk (a : Option Addr) (len cap : Nat) (z : Nat → Int) (o c p u x : Int) (w : World) (hrow : IsRowU w a len cap z) :
    Calls Try.prog 7 #[.slice a len cap, .agg #[.int .i64 o, .int .i64 c, .int .i64 p, .int .u64 u, .int .u64 x]] w fun e w' => e = .returned (.bool true) ∧ Below w.heap.size w w' := by
  have hb := (Off.refl [] w).alloc (.cells #[.int .i64 o, .int .i64 c, .int .i64 p, .int .u64 u, .int .u64 x] 41)
  by_cases h0 : len = 0
  · subst h0
    go_enter Try.func7, Try.ntmps7
    go_wp2_with (go_at_call 8; refine (awake_any _).mono ?_; rintro e w0 ⟨rfl, ho0⟩)
    go_ret
    exact ⟨rfl, (hb.trans ho0).nil_below⟩
  · by_cases h100 : len ≤ 100
    · obtain ⟨b, off, rfl, hbl, hcap, hmax, hcell⟩ := hrow.some_ (by omega)
      obtain ⟨hm0, hm1⟩ := tmod_bounds p len (by omega)
      obtain ⟨m, hm⟩ : ∃ m, p.tmod (len : Int) = m := ⟨_, rfl⟩
      rw [hm] at hm0 hm1
      have k0 : 0 ≤ (m + (len : Int)) % (len : Int) := Int.emod_nonneg _ (by omega)
      have k1 : (m + (len : Int)) % (len : Int) < len := Int.emod_lt_of_pos _ (by omega)
      obtain ⟨k, hk⟩ : ∃ k : Nat, (m + (len : Int)) % (len : Int) = (k : Int) := ⟨((m + (len : Int)) % (len : Int)).toNat, by omega⟩
      have hkl : k < len := by omega
      rcases and_three o with ho | ho | ho | ho
      · exact one_load b off len cap z o c p u x m k w hbl hcap hmax hcell hrow.nums (by omega) h100 hm hm0 hm1 hk hkl ho
      · exact one_store b off len cap z o c p u x m k w hbl hcap hmax hcell hrow.nums (by omega) h100 hm hm0 hm1 hk hkl ho
      · by_cases hq : z k = u
        · exact one_swap b off len cap z o c p u x m k w hbl hcap hmax hcell hrow.nums (by omega) h100 hm hm0 hm1 hk hkl ho hq
        · exact one_keep b off len cap z o c p u x m k w hbl hcap hmax hcell hrow.nums (by omega) h100 hm hm0 hm1 hk hkl ho hq
      · exact one_add b off len cap z o c p u x m k w hbl hcap hmax hcell hrow.nums (by omega) h100 hm hm0 hm1 hk hkl ho
    · have hne : ((len : Int) == 0) = false := by simp; omega
      have hd : decide (100 < (len : Int)) = true := by simp; omega
      clear h0
      go_enter Try.func7, Try.ntmps7
      go_wp2_with (go_at_call 8; refine (awake_any _).mono ?_; rintro e w0 ⟨rfl, ho0⟩)
      go_ret
      exact ⟨rfl, (hb.trans ho0).nil_below⟩

end Go.Proofs.Ytaegjkpodhkogaa.Words
