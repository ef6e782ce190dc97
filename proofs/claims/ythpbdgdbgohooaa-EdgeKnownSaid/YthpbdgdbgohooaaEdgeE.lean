/- The greatest of a row of floats; few floats: one contract each. -/
import Derived.Test.YthpbdgdbgohooaaEdgeD
namespace Go.Proofs.Ythpbdgdbgohooaa.Edge
open Go.RowKit Fl

/-- The greatest of the first k + 1. -/
def maxF (z : Nat → Nat) : Nat → Nat
  | 0 => z 0
  | k + 1 => if tkey (maxF z k) < tkey (z (k + 1)) then z (k + 1) else maxF z k

theorem maxF_lt {z : Nat → Nat} {n : Nat} (h : ∀ i, i < n + 1 → z i < 18446744073709551616) : ∀ k, k ≤ n → maxF z k < 18446744073709551616
  | 0, _ => h 0 (by omega)
  | k + 1, hk => by
    unfold maxF; split
    · exact h (k + 1) (by omega)
    · exact maxF_lt h k (by omega)

theorem maxF_ge (z : Nat → Nat) : ∀ k i, i ≤ k → ¬ tkey (maxF z k) < tkey (z i)
  | 0, i, hi => by
    obtain rfl : i = 0 := by omega
    unfold maxF; omega
  | k + 1, i, hi => by
    unfold maxF
    by_cases c : tkey (maxF z k) < tkey (z (k + 1))
    · rw [if_pos c]
      by_cases e : i = k + 1
      · subst e; omega
      · have := maxF_ge z k i (by omega); omega
    · rw [if_neg c]
      by_cases e : i = k + 1
      · subst e; exact c
      · exact maxF_ge z k i (by omega)

theorem maxF_mem (z : Nat → Nat) : ∀ k, ∃ i, i ≤ k ∧ maxF z k = z i
  | 0 => ⟨0, by omega, rfl⟩
  | k + 1 => by
    unfold maxF
    by_cases c : tkey (maxF z k) < tkey (z (k + 1))
    · rw [if_pos c]; exact ⟨k + 1, by omega, rfl⟩
    · rw [if_neg c]
      obtain ⟨i, hi, e⟩ := maxF_mem z k
      exact ⟨i, by omega, e⟩

theorem few_yes (a : Option Addr) (len cap : Nat) (h : len ≤ 200) (w : World) :
    Calls Try.prog 28 #[.slice a len cap] w fun e w' => e = .returned (.bool true) ∧ w = w' := by
  have hd : decide ((len : Int) ≤ 200) = true := by simp; omega
  go_enter Try.func28, Try.ntmps28
  go_wp2
  go_ret
  exact ⟨rfl, rfl⟩
theorem few_no (a : Option Addr) (len cap : Nat) (h : ¬ len ≤ 200) (w : World) :
    Calls Try.prog 28 #[.slice a len cap] w fun e w' => e = .returned (.bool false) ∧ w = w' := by
  have hd : decide ((len : Int) ≤ 200) = false := by simp; omega
  go_enter Try.func28, Try.ntmps28
  go_wp2
  go_ret
  exact ⟨rfl, rfl⟩

theorem max_none (a : Option Addr) (cap : Nat) (w : World) :
    Calls Try.prog 12 #[.slice a 0 cap] w fun e w' => e = .returned (.tuple #[.float .f64 0, .bool false]) ∧ w = w' := by
  go_enter Try.func12, Try.ntmps12
  go_wp2
  go_ret2
  exact ⟨rfl, rfl⟩

theorem max_single (b off : Nat) (z : Nat → Nat) (w : World) (hc : w.cell? ⟨b, off, none⟩ = some (.float .f64 (z 0))) :
    Calls Try.prog 12 #[.slice (some ⟨b, off, none⟩) 1 1] w fun e w' => e = .returned (.tuple #[.float .f64 (maxF z 0), .bool true]) ∧ w = w' := by
  go_enter Try.func12, Try.ntmps12
  go_wp2
  go_loop [4, 16] (fun m i => m = .float .f64 (z 0) ∧ i = .int .i64 0) (fun _ _ => 0)
  case atStart => exact ⟨rfl, rfl⟩
  case round =>
    obtain ⟨rfl, rfl⟩ := hrel
    go_wp2
    go_ret2
    exact ⟨rfl, rfl⟩

set_option maxHeartbeats 1000000 in
theorem max_many (b off n cap : Nat) (z : Nat → Nat) (w : World) (h2 : 2 ≤ cap) (hn : n + 1 ≤ cap) (hm : cap ≤ 9223372036854775807)
    (hc : ∀ i, i < n + 1 → w.cell? ⟨b, off + i, none⟩ = some (.float .f64 (z i))) (hz : ∀ i, i < n + 1 → z i < 18446744073709551616) :
    Calls Try.prog 12 #[.slice (some ⟨b, off, none⟩) (n + 1) cap] w fun e w' => e = .returned (.tuple #[.float .f64 (maxF z n), .bool true]) ∧ w = w' := by
  have c0 : w.cell? ⟨b, off, none⟩ = some (.float .f64 (z 0)) := hc 0 (by omega)
  have hne : ((n : Int) + 1 == 0) = false := by simp; omega
  have HC := Lib.hid hc
  have HZ := Lib.hid hz
  clear hc hz
  go_enter Try.func12, Try.ntmps12
  go_wp2
  go_loop [4, 16] (fun m i => ∃ k : Nat, k ≤ n ∧ i = .int .i64 k ∧ m = .float .f64 (maxF z k)) (fun _ i => n - (intOf i).toNat)
  case atStart => exact ⟨0, by omega, rfl, rfl⟩
  case round =>
    obtain ⟨k, hk, rfl, rfl⟩ := hrel
    by_cases hlt : k < n
    · have hd : decide ((k : Int) < (n : Int)) = true := by simp; omega
      have hi : (k : Int) < (n : Int) := by omega
      have ck : w.cell? ⟨b, off + 1 + k, none⟩ = some (.float .f64 (z (k + 1))) := by rw [Nat.add_assoc, Nat.add_comm 1 k]; exact HC.out (k + 1) (by omega)
      have z1 := HZ.out (k + 1) (by omega)
      have z2 : maxF z k < 18446744073709551616 := maxF_lt HZ.out k (by omega)
      by_cases c : tkey (maxF z k) < tkey (z (k + 1))
      · have q := pos_cmp' c
        have e : maxF z (k + 1) = z (k + 1) := by show (if _ then _ else _) = _; rw [if_pos c]
        have E := Lib.hid e
        clear e c
        go_wp2_with (go_at_call 14; refine (compare_any _ _ z1 z2 _).mono ?_; rintro e w' ⟨rfl, rfl⟩)
        go_round
        case rel => exact ⟨k + 1, by omega, by go_num, by rw [E.out]⟩
        case measure => simp [intOf]; omega
      · have q := pos_cmp c
        have e : maxF z (k + 1) = maxF z k := by show (if _ then _ else _) = _; rw [if_neg c]
        have E := Lib.hid e
        clear e c
        go_wp2_with (go_at_call 14; refine (compare_any _ _ z1 z2 _).mono ?_; rintro e w' ⟨rfl, rfl⟩)
        go_round
        case rel => exact ⟨k + 1, by omega, by go_num, by rw [E.out]⟩
        case measure => simp [intOf]; omega
    · have hd : decide ((k : Int) < (n : Int)) = false := by simp; omega
      have e : k = n := by omega
      subst e
      go_wp2
      go_ret2
      exact ⟨rfl, rfl⟩

/-- THE GREATEST of a row that is not empty. -/
theorem max_any (b off n cap : Nat) (z : Nat → Nat) (w : World) (hn : n + 1 ≤ cap) (hm : cap ≤ 9223372036854775807)
    (hc : ∀ i, i < n + 1 → w.cell? ⟨b, off + i, none⟩ = some (.float .f64 (z i))) (hz : ∀ i, i < n + 1 → z i < 18446744073709551616) :
    Calls Try.prog 12 #[.slice (some ⟨b, off, none⟩) (n + 1) cap] w fun e w' => e = .returned (.tuple #[.float .f64 (maxF z n), .bool true]) ∧ w = w' := by
  by_cases e : cap = 1
  · subst e
    obtain rfl : n = 0 := by omega
    exact max_single b off z w (hc 0 (by omega))
  · exact max_many b off n cap z w (by omega) hn hm hc hz

end Go.Proofs.Ythpbdgdbgohooaa.Edge
