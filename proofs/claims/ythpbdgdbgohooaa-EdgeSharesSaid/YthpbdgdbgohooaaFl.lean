/- Floats of 64 bits, by their bits: how two of them stand to each other, told by whole numbers. Plain: nothing of the program. -/
import GoSem.Core.Float
import Ieee.Arith
namespace Go.Proofs.Ythpbdgdbgohooaa.Fl
open Ieee

/-- The sign bit. -/
def sg (b : Nat) : Bool := b / 9223372036854775808 % 2 == 1
/-- All bits but the sign. -/
def rg (b : Nat) : Nat := b % 9223372036854775808
/-- No number. -/
def nanB (b : Nat) : Bool := decide (9218868437227405312 < rg b)
/-- The place on the line of numbers, both noughts at 0. -/
def key (b : Nat) : Int := if sg b then -(rg b : Int) else rg b
/-- How many of the least unit a rung is. -/
def mag (r : Nat) : Nat := if r < 4503599627370496 then r else (4503599627370496 + r % 4503599627370496) * 2 ^ (r / 4503599627370496 - 1)

theorem mag_step (r : Nat) : mag r < mag (r + 1) := by
  unfold mag
  by_cases h : r + 1 < 4503599627370496
  · rw [if_pos (by omega), if_pos h]; omega
  · rw [if_neg h]
    by_cases h1 : r < 4503599627370496
    · have e : r = 4503599627370495 := by omega
      subst e; decide
    · rw [if_neg h1]
      by_cases h2 : (r + 1) % 4503599627370496 = 0
      · have e1 : r % 4503599627370496 = 4503599627370495 := by omega
        have e2 : (r + 1) / 4503599627370496 - 1 = (r / 4503599627370496 - 1) + 1 := by omega
        rw [e1, h2, e2, Nat.pow_succ]
        have hp : 0 < 2 ^ (r / 4503599627370496 - 1) := Nat.two_pow_pos _
        generalize 2 ^ (r / 4503599627370496 - 1) = p at hp
        omega
      · have e1 : (r + 1) % 4503599627370496 = r % 4503599627370496 + 1 := by omega
        have e2 : (r + 1) / 4503599627370496 - 1 = (r / 4503599627370496 - 1) := by omega
        rw [e1, e2]
        have hp : 0 < 2 ^ (r / 4503599627370496 - 1) := Nat.two_pow_pos _
        exact Nat.mul_lt_mul_of_pos_right (by omega) hp

theorem mag_mono {r s : Nat} (h : r < s) : mag r < mag s := by
  induction s with
  | zero => omega
  | succ s ih =>
    by_cases e : r = s
    · subst e; exact mag_step r
    · exact Nat.lt_trans (ih (by omega)) (mag_step s)

theorem mag_zero : mag 0 = 0 := by simp [mag]

/-- A word that is a number, read: so many of the least unit. -/
theorem read_num (b : Nat) (h : rg b < 9218868437227405312) : ∃ m a : Nat, double.read b = .number (sg b) m (double.leastPlace + a) ∧ m * 2 ^ a = mag (rg b) := by
  unfold rg at h
  unfold Format.read
  simp only [show double.signWeight = 9223372036854775808 from rfl, show double.binade = 4503599627370496 from rfl, show double.infRung = 9218868437227405312 from rfl]
  by_cases h1 : b % 9223372036854775808 < 4503599627370496
  · rw [if_pos h1]
    exact ⟨b % 9223372036854775808, 0, by rw [Int.natCast_zero, Int.add_zero]; rfl, by rw [mag, rg, if_pos h1, Nat.pow_zero, Nat.mul_one]⟩
  · rw [if_neg h1, if_pos h]
    exact ⟨4503599627370496 + b % 9223372036854775808 % 4503599627370496, b % 9223372036854775808 / 4503599627370496 - 1, rfl, by rw [mag, rg, if_neg h1]⟩

theorem read_inf (b : Nat) (h : rg b = 9218868437227405312) : double.read b = .infinity (sg b) := by
  unfold rg at h
  unfold Format.read
  simp only [show double.signWeight = 9223372036854775808 from rfl, show double.binade = 4503599627370496 from rfl, show double.infRung = 9218868437227405312 from rfl, h]
  rfl

theorem read_nan (b : Nat) (h : 9218868437227405312 < rg b) : ∃ s t, double.read b = .nan s t := by
  unfold rg at h
  unfold Format.read
  simp only [show double.signWeight = 9223372036854775808 from rfl, show double.binade = 4503599627370496 from rfl, show double.infRung = 9218868437227405312 from rfl]
  rw [if_neg (by omega), if_neg (by omega), if_neg (by omega)]
  exact ⟨_, _, rfl⟩

theorem cmp_scale (x y : Int) (c : Nat) (hc : 0 < c) : compare (x * c) (y * c) = compare x y := by
  have hc' : (0 : Int) < c := by omega
  rcases Int.lt_trichotomy x y with h | h | h
  · rw [Std.compare_eq_lt.2 h, Std.compare_eq_lt.2 (Int.mul_lt_mul_of_pos_right h hc')]
  · subst h; simp
  · rw [Std.compare_eq_gt.2 h, Std.compare_eq_gt.2 (Int.mul_lt_mul_of_pos_right h hc')]

/-- A number of least units, with its sign. -/
def smag (b : Nat) : Int := if sg b then -(mag (rg b) : Int) else mag (rg b)

theorem signed_scale (s : Bool) (m a c : Nat) (hc : c ≤ a) : signed s m (a - c) * (2 ^ c : Nat) = if s then -((m * 2 ^ a : Nat) : Int) else ((m * 2 ^ a : Nat) : Int) := by
  have e : 2 ^ a = 2 ^ (a - c) * 2 ^ c := by rw [← Nat.pow_add]; congr 1; omega
  unfold signed
  cases s
  · simp only [Bool.false_eq_true, if_false]
    rw [Nat.shiftLeft_eq, ← Int.natCast_mul, Nat.mul_assoc, ← e]
  · simp only [if_true]
    rw [Nat.shiftLeft_eq, Int.neg_mul, ← Int.natCast_mul, Nat.mul_assoc, ← e]

theorem order_num (s t : Bool) (m n a b : Nat) : (Datum.number s m (double.leastPlace + a)).order (Datum.number t n (double.leastPlace + b)) =
    some (compare (if s then -((m * 2 ^ a : Nat) : Int) else ((m * 2 ^ a : Nat) : Int)) (if t then -((n * 2 ^ b : Nat) : Int) else ((n * 2 ^ b : Nat) : Int))) := by
  simp only [Datum.order]
  have e : min (double.leastPlace + (a : Int)) (double.leastPlace + (b : Int)) = double.leastPlace + (min a b : Nat) := by omega
  rw [e]
  have e1 : (double.leastPlace + (a : Int) - (double.leastPlace + (min a b : Nat))).toNat = a - min a b := by omega
  have e2 : (double.leastPlace + (b : Int) - (double.leastPlace + (min a b : Nat))).toNat = b - min a b := by omega
  rw [e1, e2, ← signed_scale s m a (min a b) (Nat.min_le_left ..), ← signed_scale t n b (min a b) (Nat.min_le_right ..), cmp_scale _ _ _ (Nat.two_pow_pos _)]

theorem cmp_mag (r s : Nat) : compare (mag r) (mag s) = compare r s := by
  rcases Nat.lt_trichotomy r s with h | h | h
  · rw [Nat.compare_eq_lt.2 h, Nat.compare_eq_lt.2 (mag_mono h)]
  · subst h; simp
  · rw [Nat.compare_eq_gt.2 h, Nat.compare_eq_gt.2 (mag_mono h)]

theorem mag_pos {r : Nat} (h : 0 < r) : 0 < mag r := by have := mag_mono h; rw [mag_zero] at this; exact this

theorem smag_lt {x y : Nat} (h : key x < key y) : smag x < smag y := by
  unfold smag; unfold key at h
  cases hx : sg x <;> cases hy : sg y <;> simp only [hx, hy, if_true, if_false, Bool.false_eq_true] at h ⊢
  · have := mag_mono (r := rg x) (s := rg y) (by omega); omega
  · omega
  · have h0 : 0 < rg x ∨ 0 < rg y := by omega
    have e1 : 0 < rg x → 0 < mag (rg x) := mag_pos
    have e2 : 0 < rg y → 0 < mag (rg y) := mag_pos
    rcases h0 with h0 | h0
    · have := e1 h0; omega
    · have := e2 h0; omega
  · have := mag_mono (r := rg y) (s := rg x) (by omega); omega

theorem smag_eq {x y : Nat} (h : key x = key y) : smag x = smag y := by
  unfold smag; unfold key at h
  cases hx : sg x <;> cases hy : sg y <;> simp only [hx, hy, if_true, if_false, Bool.false_eq_true] at h ⊢
  · have e : rg x = rg y := by omega
    rw [e]
  · have e : rg x = 0 := by omega
    have e' : rg y = 0 := by omega
    rw [e, e', mag_zero]; rfl
  · have e : rg x = 0 := by omega
    have e' : rg y = 0 := by omega
    rw [e, e', mag_zero]; rfl
  · have e : rg x = rg y := by omega
    rw [e]

theorem cmp_smag (x y : Nat) : compare (smag x) (smag y) = compare (key x) (key y) := by
  rcases Int.lt_trichotomy (key x) (key y) with h | h | h
  · rw [Std.compare_eq_lt.2 h, Std.compare_eq_lt.2 (smag_lt h)]
  · rw [smag_eq h, h]; simp
  · rw [Std.compare_eq_gt.2 h, Std.compare_eq_gt.2 (smag_lt h)]

/-- HOW TWO FLOATS STAND TO EACH OTHER: by their keys, where both are numbers or infinities. -/
theorem order_key (x y : Nat) : double.order x y = if nanB x || nanB y then none else some (compare (key x) (key y)) := by
  unfold Format.order
  by_cases hx : 9218868437227405312 < rg x
  · obtain ⟨s, t, e⟩ := read_nan x hx
    rw [e]; simp [nanB, hx, Datum.order]
  by_cases hy : 9218868437227405312 < rg y
  · obtain ⟨s, t, e⟩ := read_nan y hy
    rw [e]
    have : (nanB x || nanB y) = true := by simp [nanB, hy]
    rw [this, if_pos rfl]
    cases double.read x <;> rfl
  have hn : (nanB x || nanB y) = false := by simp [nanB]; omega
  rw [hn]; simp only [Bool.false_eq_true, if_false]
  by_cases ix : rg x = 9218868437227405312
  · rw [read_inf x ix]
    by_cases iy : rg y = 9218868437227405312
    · rw [read_inf y iy]
      simp only [Datum.order, key, ix, iy]
      cases sg x <;> cases sg y <;> decide
    · obtain ⟨m, a, e, _⟩ := read_num y (by omega)
      rw [e]
      simp only [Datum.order, key, ix]
      cases hs : sg x <;> simp only [if_true, if_false, Bool.false_eq_true]
      · rw [Std.compare_eq_gt.2]; split <;> omega
      · rw [Std.compare_eq_lt.2]; split <;> omega
  · obtain ⟨m, a, e, hm⟩ := read_num x (by omega)
    by_cases iy : rg y = 9218868437227405312
    · rw [e, read_inf y iy]
      simp only [Datum.order, key, iy]
      cases hs : sg y <;> simp only [if_true, if_false, Bool.false_eq_true]
      · rw [Std.compare_eq_lt.2]; split <;> omega
      · rw [Std.compare_eq_gt.2]; split <;> omega
    · obtain ⟨n, b, e', hn'⟩ := read_num y (by omega)
      rw [e, e', order_num, hm, hn', ← cmp_smag]; rfl

end Go.Proofs.Ythpbdgdbgohooaa.Fl
