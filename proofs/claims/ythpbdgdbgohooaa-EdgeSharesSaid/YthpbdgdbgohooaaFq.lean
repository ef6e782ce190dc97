/- Floats of 64 bits: whole numbers as floats, products, quotients: their words, told by rungs. Plain: nothing of the program. -/
import Derived.Test.YthpbdgdbgohooaaFr
import Derived.WalkLawsBesides
namespace Go.Proofs.Ythpbdgdbgohooaa.Fl
open Ieee

theorem word_eq (neg : Bool) (r : Nat) : double.word neg r = if neg then 9223372036854775808 + r else r := rfl
theorem sg_word (neg : Bool) (r : Nat) (h : r < 9223372036854775808) : sg (double.word neg r) = neg := by
  rw [word_eq]; unfold sg
  cases neg
  · rw [if_neg (by decide), Nat.div_eq_of_lt h]; rfl
  · rw [if_pos rfl, show (9223372036854775808 + r) / 9223372036854775808 = 1 from by omega]; rfl
theorem rg_word (neg : Bool) (r : Nat) (h : r < 9223372036854775808) : rg (double.word neg r) = r := by
  rw [word_eq]; unfold rg
  cases neg
  · rw [if_neg (by decide)]; omega
  · rw [if_pos rfl]; omega
theorem word_lt64 (neg : Bool) (r : Nat) (h : r < 9223372036854775808) : double.word neg r < 18446744073709551616 := by
  rw [word_eq]; split <;> omega
theorem key_word (neg : Bool) (r : Nat) (h : r < 9223372036854775808) : key (double.word neg r) = if neg then -(r : Int) else r := by
  unfold key; rw [sg_word neg r h, rg_word neg r h]
theorem nan_word (neg : Bool) (r : Nat) (h : r ≤ 9218868437227405312) : nanB (double.word neg r) = false := by
  unfold nanB; rw [rg_word neg r (by omega)]; simp; omega
theorem word_of (b : Nat) (h : b < 18446744073709551616) : double.word (sg b) (rg b) = b := by
  rw [word_eq]; unfold sg rg
  by_cases c : b < 9223372036854775808
  · rw [show b / 9223372036854775808 = 0 from by omega]; simp; omega
  · rw [show b / 9223372036854775808 = 1 from by omega]; simp; omega

/-- One, in least units. -/
def U : Nat := 2 ^ EX
theorem U_pos : 0 < U := Nat.two_pow_pos _
theorem mag_of (d k r : Nat) (hr : d * 4503599627370496 + k = r) (hk : k ≤ 9007199254740992) (h : d = 0 ∨ 4503599627370496 ≤ k) : mag r = k * 2 ^ d := by
  rw [← hr]; exact mag_at d k hk h
theorem pow_split (c d e : Nat) (h : c + d = e) : 2 ^ c * 2 ^ d = 2 ^ e := by rw [← h, Nat.pow_add]
theorem mag_one : mag 4607182418800017408 = U := by
  rw [mag_of (EX - 52) (2 ^ 52) _ (by rw [EX_eq]) (by decide) (.inr (by decide)), U]
  exact pow_split 52 _ _ (by rw [EX_eq])
theorem mag_top : mag 4890909195324358656 = 9223372036854775808 * U := by
  rw [mag_of (EX + 11) (2 ^ 52) _ (by rw [EX_eq]) (by decide) (.inr (by decide)), U, show (9223372036854775808 : Nat) = 2 ^ 63 from rfl,
    pow_split 52 (EX + 11) (EX + 63) (by omega), pow_split 63 EX (EX + 63) (by omega)]

/-- A whole number of fewer than 54 digits has a rung. -/
theorem whole_rung (N : Nat) (h0 : 0 < N) (h : N < 9007199254740992) : ∃ r, mag r = N * U ∧ 4607182418800017408 ≤ r ∧ r < 4890909195324358656 := by
  have l1 : 2 ^ N.log2 ≤ N := Nat.log2_self_le (by omega)
  have l2 : N < 2 ^ (N.log2 + 1) := Nat.lt_log2_self
  have l3 : N.log2 < 53 := (Nat.log2_lt (by omega)).2 h
  generalize N.log2 = l at *
  have k1 : 4503599627370496 ≤ N * 2 ^ (52 - l) := by
    have := Nat.mul_le_mul_right (2 ^ (52 - l)) l1
    rw [← Nat.pow_add, show l + (52 - l) = 52 from by omega] at this
    exact this
  have k2 : N * 2 ^ (52 - l) < 9007199254740992 := by
    have := Nat.mul_lt_mul_of_pos_right l2 (Nat.two_pow_pos (52 - l))
    rw [← Nat.pow_add, show l + 1 + (52 - l) = 53 from by omega] at this
    exact this
  have hE := EX_eq
  have e : mag ((l + (EX - 52)) * 4503599627370496 + N * 2 ^ (52 - l)) = N * U := by
    rw [mag_at (l + (EX - 52)) _ (by omega) (.inr k1), Nat.mul_assoc, ← Nat.pow_add, U]
    congr 2; omega
  refine ⟨_, e, ?_, ?_⟩
  · omega
  · omega

theorem rounds_le {V s r q : Nat} (h : RoundsTo V s r) (hq : V ≤ mag q * 2 ^ s) : r ≤ q :=
  rounds_mono h (rounds_exact q s) (Nat.mul_le_mul_right _ hq)
theorem rounds_ge {V s r q : Nat} (h : RoundsTo V s r) (hq : mag q * 2 ^ s ≤ V) : q ≤ r :=
  rounds_mono (rounds_exact q s) h (Nat.mul_le_mul_right _ hq)

/-- A WHOLE NUMBER AS A FLOAT. -/
theorem ofInt_word (n : Int) (h : n.natAbs ≤ 9223372036854775808) :
    ∃ r, floatOfInt .f64 n = double.word (decide (n < 0)) r ∧ RoundsTo (n.natAbs * U) 0 r ∧ r ≤ 4890909195324358656 ∧ (n ≠ 0 → 4607182418800017408 ≤ r) ∧ (n = 0 → r = 0) := by
  obtain ⟨r, e, hr⟩ := nearest_rounds (decide (n < 0)) n.natAbs 0
  rw [show ((0 : Int) + EX).toNat = EX from by omega, show (-(EX : Int) - (0 : Int)).toNat = 0 from by omega] at hr
  have hr2 : RoundsTo (n.natAbs * U) 0 r := hr
  have top : r ≤ 4890909195324358656 := by
    refine rounds_le hr2 ?_
    rw [mag_top, Nat.pow_zero, Nat.mul_one]
    exact Nat.mul_le_mul_right _ h
  refine ⟨r, ?_, hr2, top, fun hn => ?_, fun hn => ?_⟩
  · have : floatOfInt .f64 n = double.nearest (decide (n < 0)) n.natAbs 0 := rfl
    rw [this, e, Nat.min_eq_left (by omega)]
  · refine rounds_ge hr2 ?_
    rw [mag_one, Nat.pow_zero, Nat.mul_one]
    exact Nat.le_mul_of_pos_left _ (by omega)
  · subst hn
    refine Nat.le_zero.1 (rounds_le hr2 ?_)
    simp

/-- One of fewer than 54 digits is exact. -/
theorem ofInt_exact (n : Int) (h : n.natAbs < 9007199254740992) :
    ∃ r, floatOfInt .f64 n = double.word (decide (n < 0)) r ∧ mag r = n.natAbs * U ∧ r ≤ 4890909195324358656 ∧ (n ≠ 0 → 4607182418800017408 ≤ r) ∧ (n = 0 → r = 0) := by
  obtain ⟨r, e, hr, h1, h2, h3⟩ := ofInt_word n (by omega)
  refine ⟨r, e, ?_, h1, h2, h3⟩
  by_cases hn : n = 0
  · rw [h3 hn, hn, mag_zero]; simp
  · obtain ⟨q, hq, _, _⟩ := whole_rung n.natAbs (by omega) h
    have := rounds_exact q 0
    rw [hq, Nat.pow_zero, Nat.mul_one] at this
    rw [rounds_unique hr this, hq]

/-- THE PRODUCT of two numbers. -/
theorem mul_rounds (x y : Nat) (hx : rg x < 9218868437227405312) (hy : rg y < 9218868437227405312) :
    ∃ r s, double.mul x y = some (double.word (sg x ^^ sg y) (min r 9218868437227405312)) ∧ ∃ V, V * U = mag (rg x) * mag (rg y) * 2 ^ s ∧ RoundsTo V s r := by
  obtain ⟨m, a, e1, h1⟩ := read_num x hx
  obtain ⟨n, b, e2, h2⟩ := read_num y hy
  obtain ⟨r, e, hr⟩ := nearest_rounds (sg x ^^ sg y) (m * n) (double.leastPlace + a + (double.leastPlace + b))
  refine ⟨r, _, ?_, _, ?_, hr⟩
  · unfold Format.mul
    rw [e1, e2]
    simp only [Datum.product, Option.map, Format.write]
    rw [e]
  · rw [← h1, ← h2, U]
    have hL : double.leastPlace = -(EX : Int) := by rw [EX_eq]; rfl
    rw [hL]
    rw [Nat.mul_assoc (m * n), ← Nat.pow_add, Nat.mul_mul_mul_comm, Nat.mul_assoc (m * n), ← Nat.pow_add, ← Nat.pow_add]
    congr 2
    omega

/-- THE QUOTIENT of two numbers, the second not nought: a number M * 2 ^ P is rounded that is within a unit of it. -/
theorem div_rounds (x y : Nat) (hx : rg x < 9218868437227405312) (hy : rg y < 9218868437227405312) (h0 : 0 < rg y) :
    ∃ r s, double.div x y = some (double.word (sg x ^^ sg y) (min r 9218868437227405312)) ∧ ∃ V, RoundsTo V s r ∧
      V * mag (rg y) * 9007199254740992 ≤ mag (rg x) * U * 2 ^ s * 9007199254740993 ∧ mag (rg x) * U * 2 ^ s * 9007199254740991 ≤ V * mag (rg y) * 9007199254740992 := by
  obtain ⟨m, a, e1, h1⟩ := read_num x hx
  obtain ⟨n, b, e2, h2⟩ := read_num y hy
  have hn : n ≠ 0 := by
    intro hn; subst hn
    have := mag_pos h0
    rw [← h2] at this; simp at this
  have hn1 : n < 2 ^ (n.log2 + 1) := Nat.lt_log2_self
  let more := 54 + n.log2 - m.log2
  let dv := m <<< more
  let M := 2 * (dv / n) + (dv % n != 0).toNat
  let P : Int := (double.leastPlace + a) - (double.leastPlace + b) - more - 1
  obtain ⟨r, e, hr⟩ := nearest_rounds (sg x ^^ sg y) M P
  have em : dv = m * 2 ^ more := Nat.shiftLeft_eq ..
  have hdiv : n * (dv / n) + dv % n = dv := Nat.div_add_mod dv n
  have hmod : dv % n < n := Nat.mod_lt _ (by omega)
  -- the errors of the sticky digit
  have s1 : M * n ≤ 2 * dv + n ∧ 2 * dv ≤ M * n + n := by
    have : M * n = 2 * (n * (dv / n)) + (dv % n != 0).toNat * n := by
      show (2 * (dv / n) + (dv % n != 0).toNat) * n = _
      rw [Nat.add_mul, Nat.mul_assoc, Nat.mul_comm (dv / n) n]
    by_cases c : dv % n = 0
    · have t : (dv % n != 0).toNat = 0 := by simp [c]
      rw [t] at this; omega
    · have t : (dv % n != 0).toNat = 1 := by simp [c]
      rw [t] at this; omega
  have s0 : m = 0 → M = 0 := by
    intro hm
    have : dv = 0 := by rw [em, hm]; simp
    show 2 * (dv / n) + (dv % n != 0).toNat = 0
    rw [this]; simp
  have s2 : m = 0 ∨ n * 9007199254740992 ≤ dv := by
    by_cases hm : m = 0
    · exact .inl hm
    · right
      have hm1 : 2 ^ m.log2 ≤ m := Nat.log2_self_le hm
      have : 2 ^ (54 + n.log2) ≤ dv := by
        rw [em]
        refine Nat.le_trans ?_ (Nat.mul_le_mul_right _ hm1)
        rw [← Nat.pow_add]
        exact Nat.pow_le_pow_right (by omega) (by simp only [more]; omega)
      refine Nat.le_trans (Nat.mul_le_mul_right _ (Nat.le_of_lt hn1)) ?_
      rw [show (9007199254740992 : Nat) = 2 ^ 53 from rfl, ← Nat.pow_add]
      exact Nat.le_trans (Nat.pow_le_pow_right (by omega) (by omega)) this
  have s3 : M * n * 9007199254740992 ≤ 2 * dv * 9007199254740993 ∧ 2 * dv * 9007199254740991 ≤ M * n * 9007199254740992 := by
    rcases s2 with hm | h
    · have : dv = 0 := by rw [em, hm]; simp
      rw [s0 hm, this]; simp
    · omega
  -- to the least unit
  have hP : P = (a : Int) - b - more - 1 := by show (double.leastPlace + a) - (double.leastPlace + b) - more - 1 = _; omega
  have hV : M * 2 ^ (P + EX).toNat * mag (rg y) = M * n * 2 ^ ((P + EX).toNat + b) := by
    rw [← h2, Nat.mul_mul_mul_comm, ← Nat.pow_add]
  have hX : mag (rg x) * U * 2 ^ (-EX - P).toNat = 2 * dv * 2 ^ ((P + EX).toNat + b) := by
    rw [← h1, em, U, Nat.mul_assoc, Nat.mul_assoc, ← Nat.pow_add, ← Nat.pow_add, Nat.mul_comm 2, Nat.mul_assoc, Nat.mul_assoc, show (2 : Nat) * 2 ^ ((P + EX).toNat + b) = 2 ^ ((P + EX).toNat + b + 1) from by rw [Nat.pow_succ, Nat.mul_comm], ← Nat.pow_add]
    congr 2; omega
  refine ⟨r, _, ?_, _, hr, ?_, ?_⟩
  · unfold Format.div
    rw [e1, e2]
    simp only [Datum.quotient, if_neg hn, Option.map, Format.write]
    exact congrArg some e
  · rw [hV, hX]
    have := Nat.mul_le_mul_right (2 ^ ((P + EX).toNat + b)) s3.1
    rw [Nat.mul_right_comm (M * n), Nat.mul_right_comm (2 * dv)]
    exact this
  · rw [hV, hX]
    have := Nat.mul_le_mul_right (2 ^ ((P + EX).toNat + b)) s3.2
    rw [Nat.mul_right_comm (M * n), Nat.mul_right_comm (2 * dv)]
    exact this

/-- How far a rounding goes: not farther than a part in 2 ^ 53 of the rung's number, where the rung is no subnormal one. -/
theorem rounds_near {V s r : Nat} (h : RoundsTo V s r) (hr : 4503599627370496 ≤ r) :
    V * 9007199254740992 ≤ mag r * 2 ^ s * 9007199254740993 ∧ mag r * 2 ^ s * 9007199254740991 ≤ V * 9007199254740992 := by
  obtain ⟨q, rfl⟩ : ∃ q, r = q + 1 := ⟨r - 1, by omega⟩
  obtain ⟨a1, _⟩ := h.1 q rfl
  obtain ⟨_, b1, _⟩ := h
  -- the rung's binade and place
  obtain ⟨d, k, e, k1, k2⟩ : ∃ d k, q + 1 = d * 4503599627370496 + k ∧ 4503599627370496 ≤ k ∧ k < 9007199254740992 :=
    ⟨(q + 1) / 4503599627370496 - 1, 4503599627370496 + (q + 1) % 4503599627370496, by omega, by omega, by omega⟩
  have m0 : mag (q + 1) = k * 2 ^ d := by rw [e]; exact mag_at d k (by omega) (by omega)
  have m1 : mag (q + 1 + 1) = (k + 1) * 2 ^ d := by rw [show q + 1 + 1 = d * 4503599627370496 + (k + 1) from by omega]; exact mag_at d (k + 1) (by omega) (by omega)
  have m2 : (k - 1) * 2 ^ d ≤ mag q + (if k = 4503599627370496 then 2 ^ d else 0) ∧ k * 2 ^ d ≤ mag q + 2 ^ d := by
    by_cases c : k = 4503599627370496
    · by_cases c0 : d = 0
      · have : q = 4503599627370495 := by omega
        subst this; subst c0; subst c
        rw [show mag 4503599627370495 = 4503599627370495 from by unfold mag; rw [if_pos (by decide)]]
        simp
      · have : mag q = 9007199254740991 * 2 ^ (d - 1) := by
          rw [show q = (d - 1) * 4503599627370496 + 9007199254740991 from by omega]; exact mag_at (d - 1) _ (by omega) (by omega)
        have t : 2 ^ d = 2 * 2 ^ (d - 1) := by
          obtain ⟨f, rfl⟩ : ∃ f, d = f + 1 := ⟨d - 1, by omega⟩
          rw [Nat.pow_succ, Nat.mul_comm]; rfl
        subst c
        rw [this, t]
        have := Nat.two_pow_pos (d - 1)
        generalize 2 ^ (d - 1) = p at *
        constructor
        · rw [if_pos rfl]; omega
        · omega
    · have : mag q = (k - 1) * 2 ^ d := by
        rw [show q = d * 4503599627370496 + (k - 1) from by omega]; exact mag_at d (k - 1) (by omega) (by omega)
      rw [this]
      refine ⟨by omega, ?_⟩
      have : k = (k - 1) + 1 := by omega
      generalize k - 1 = k' at *
      subst this
      rw [Nat.add_mul, Nat.one_mul]; exact Nat.le_refl _
  obtain ⟨_, m2⟩ := m2
  rw [m0] at a1 b1 ⊢
  rw [m1] at b1
  have g : 4503599627370496 * 2 ^ d ≤ k * 2 ^ d := Nat.mul_le_mul_right _ k1
  rw [Nat.add_mul k 1, Nat.one_mul] at b1
  generalize k * 2 ^ d = K at *
  generalize 2 ^ d = D at *
  have g' := Nat.mul_le_mul_right (2 ^ s) g
  rw [Nat.mul_assoc] at g'
  have m2' := Nat.mul_le_mul_right (2 ^ s) m2
  rw [Nat.add_mul] at m2'
  rw [Nat.add_mul] at a1
  rw [show (K + (K + D)) * 2 ^ s = K * 2 ^ s + K * 2 ^ s + D * 2 ^ s from by rw [Nat.add_mul, Nat.add_mul, Nat.add_assoc]] at b1
  omega

end Go.Proofs.Ythpbdgdbgohooaa.Fl
