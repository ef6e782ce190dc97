/- Floats of 64 bits: what the whole part of a product is, what a ratio is. Plain: nothing of the program. -/
import Derived.Test.YthpbdgdbgohooaaFq
namespace Go.Proofs.Ythpbdgdbgohooaa.Fl
open Ieee

def prodB (x y : Nat) : Nat := (double.mul x y).getD 0
def quoB (x y : Nat) : Nat := (double.div x y).getD 0
def ofI (n : Int) : Nat := floatOfInt .f64 n
def toI (b : Nat) : Int := (floatToIntVal .f64 b .i64).getD 0
def cutI (x : Nat) (n : Int) : Int := toI (prodB x (ofI n))
def shareI (x : Nat) (n : Int) : Int :=
  if n < 1 ∨ kindI x < 3 then 0 else if 4607182418800017408 ≤ key x then n - 1 else if n - 1 < cutI x n then n - 1 else cutI x n
def ratioB (a b : Int) : Nat :=
  if b = 0 then (if a = 0 then 9221120237041090561 else if a < 0 then 18442240474082181120 else 9218868437227405312) else quoB (ofI a) (ofI b)

theorem cut_zero (s : Bool) (n drop : Nat) : Toward.zero.cut s n drop = n / 2 ^ drop := by
  have hl : n < 2 ^ (n.log2 + 1) := Nat.lt_log2_self
  unfold Toward.cut
  simp only [Bool.toNat_false, Nat.add_zero]
  rw [Nat.one_shiftLeft]
  by_cases hd : drop ≤ n.log2 + 2
  · rw [Nat.min_eq_left hd]
  · rw [Nat.min_eq_right (by omega)]
    have h1 : 2 ^ (n.log2 + 1) < 2 ^ (n.log2 + 2) := Nat.pow_lt_pow_right (by omega) (by omega)
    have h2 : 2 ^ (n.log2 + 2) < 2 ^ drop := Nat.pow_lt_pow_right (by omega) (by omega)
    rw [Nat.div_eq_of_lt (by omega), Nat.div_eq_of_lt (by omega)]

theorem toInt_num (b : Nat) (h : rg b < 9218868437227405312) : (double.read b).toInt .zero = some (if sg b then -((mag (rg b) / U : Nat) : Int) else ((mag (rg b) / U : Nat) : Int)) := by
  obtain ⟨m, a, e, hm⟩ := read_num b h
  rw [e]
  have hL : double.leastPlace = -(EX : Int) := by rw [EX_eq]; rfl
  simp only [Datum.toInt, Datum.integral, cut_zero]
  have e2 : (m <<< (double.leastPlace + (a : Int)).toNat) / 2 ^ (-(double.leastPlace + (a : Int))).toNat = mag (rg b) / U := by
    rw [← hm, U, hL, Nat.shiftLeft_eq]
    by_cases c : EX ≤ a
    · rw [show (-(-(EX : Int) + (a : Int))).toNat = 0 from by omega, Nat.pow_zero, Nat.div_one, show (-(EX : Int) + (a : Int)).toNat = a - EX from by omega]
      have : 2 ^ a = 2 ^ (a - EX) * 2 ^ EX := (pow_split _ _ _ (by omega)).symm
      rw [this, ← Nat.mul_assoc, Nat.mul_div_cancel _ (Nat.two_pow_pos _)]
    · rw [show (-(EX : Int) + (a : Int)).toNat = 0 from by omega, Nat.pow_zero, Nat.mul_one, show (-(-(EX : Int) + (a : Int))).toNat = EX - a from by omega]
      have : 2 ^ EX = 2 ^ (EX - a) * 2 ^ a := (pow_split _ _ _ (by omega)).symm
      rw [this, Nat.mul_div_mul_right _ _ (Nat.two_pow_pos _)]
  rw [e2]
  unfold signed
  rw [Nat.shiftLeft_zero]

theorem toI_num (b : Nat) (h : rg b < 9218868437227405312) (hs : sg b = true → rg b = 0) (hm : mag (rg b) / U < 9223372036854775808) : floatToIntVal .f64 b .i64 = some ((mag (rg b) / U : Nat) : Int) := by
  have e : (if sg b then -((mag (rg b) / U : Nat) : Int) else ((mag (rg b) / U : Nat) : Int)) = ((mag (rg b) / U : Nat) : Int) := by
    cases c : sg b
    · rfl
    · rw [hs c, mag_zero]; simp
  have hv : (FloatKind.f64.decode b).toInt .zero = some ((mag (rg b) / U : Nat) : Int) := by rw [← e]; exact toInt_num b h
  unfold floatToIntVal
  rw [hv]
  generalize mag (rg b) / U = q at hm
  have h1 : IntKind.i64.min = -9223372036854775808 := by decide
  have h2 : IntKind.i64.max = 9223372036854775807 := by decide
  simp only [h1, h2]
  rw [if_pos ⟨by omega, by omega⟩]

theorem sg_ofI (n : Int) (h : n.natAbs ≤ 9223372036854775808) : sg (ofI n) = decide (n < 0) ∧ rg (ofI n) ≤ 4890909195324358656 ∧ ofI n < 18446744073709551616 ∧ (n ≠ 0 → 4607182418800017408 ≤ rg (ofI n)) ∧ (n = 0 → rg (ofI n) = 0) := by
  obtain ⟨r, e, _, h1, h2, h3⟩ := ofInt_word n h
  unfold ofI
  rw [e, sg_word _ _ (by omega), rg_word _ _ (by omega)]
  exact ⟨rfl, h1, word_lt64 _ _ (by omega), h2, h3⟩

theorem mag_below_one : mag 4607182418800017407 = 9007199254740991 * 2 ^ (EX - 53) := mag_of (EX - 53) 9007199254740991 _ (by rw [EX_eq]) (by decide) (.inr (by decide))
theorem mag_below_top : mag 4890909195324358655 = 9007199254740991 * 2 ^ (EX + 10) := mag_of (EX + 10) 9007199254740991 _ (by rw [EX_eq]) (by decide) (.inr (by decide))
theorem pow_EX : 2 ^ (EX - 53) * 9007199254740992 = U ∧ 2 ^ (EX + 10) = 1024 * U ∧ U * 9223372036854775808 * 2 ^ (EX - 53) = 2 ^ (EX + 10) * U := by
  have h := EX_eq
  refine ⟨?_, ?_, ?_⟩
  · rw [U]; exact pow_split (EX - 53) 53 EX (by omega)
  · rw [U]; exact (pow_split 10 EX _ (by omega)).symm
  · rw [U, Nat.mul_assoc, Nat.mul_comm (2 ^ EX)]
    congr 1
    exact pow_split 63 (EX - 53) _ (by omega)

theorem arr (c A T u B P : Nat) (h : u * T * A = P * u) : c * A * (T * u) * B = c * P * B * u := by
  rw [show c * A * (T * u) * B = c * (u * T * A) * B from by ac_rfl, h]; ac_rfl

/-- THE WHOLE PART OF A SHARE: it is a number of 64 bits, and the rounded product's. -/
theorem share_cut (x : Nat) (n : Int) (hx : rg x < 4607182418800017408) (hs : sg x = true → rg x = 0) (hn : 1 ≤ n) (hn2 : n ≤ 9223372036854775807) :
    ∃ r s V, double.mul x (ofI n) = some (double.word (sg x) r) ∧ RoundsTo V s r ∧ V * U = mag (rg x) * mag (rg (ofI n)) * 2 ^ s ∧ r < 4890909195324358656 ∧
      floatToIntVal .f64 (double.word (sg x) r) .i64 = some ((mag r / U : Nat) : Int) ∧ mag r / U < 9223372036854775808 := by
  obtain ⟨g1, g2, g3, g4, _⟩ := sg_ofI n (by omega)
  obtain ⟨r, s, e, V, hV, hr⟩ := mul_rounds x (ofI n) (by omega) (by omega)
  rw [g1, decide_eq_false (by omega), Bool.xor_false] at e
  have hU := U_pos
  obtain ⟨q1, q2, q3⟩ := pow_EX
  have top : r ≤ 4890909195324358655 := by
    refine rounds_le hr ?_
    have b1 : mag (rg x) ≤ 9007199254740991 * 2 ^ (EX - 53) := by rw [← mag_below_one]; exact mag_le (by omega)
    have b2 : mag (rg (ofI n)) ≤ 9223372036854775808 * U := by rw [← mag_top]; exact mag_le g2
    rw [mag_below_top]
    refine Nat.le_of_mul_le_mul_right ?_ hU
    rw [hV]
    have b3 := Nat.mul_le_mul_right (2 ^ s) (Nat.mul_le_mul b1 b2)
    exact Nat.le_trans b3 (Nat.le_of_eq (arr _ _ _ _ _ _ q3))
  have hmr : mag r / U < 9223372036854775808 := by
    rw [Nat.div_lt_iff_lt_mul hU]
    have b1 : mag r ≤ 9007199254740991 * 2 ^ (EX + 10) := by rw [← mag_below_top]; exact mag_le top
    rw [q2] at b1
    omega
  rw [Nat.min_eq_left (by omega)] at e
  have hr0 : sg x = true → r = 0 := by
    intro c
    have c0 := hs c
    refine Nat.le_zero.1 (rounds_le hr ?_)
    rw [c0, mag_zero, Nat.zero_mul, Nat.zero_mul] at hV
    have : V = 0 := by
      rcases Nat.mul_eq_zero.1 hV with h | h
      · exact h
      · omega
    omega
  refine ⟨r, s, V, e, hr, hV, by omega, ?_, hmr⟩
  have t := toI_num (double.word (sg x) r) (by rw [rg_word _ _ (by omega)]; omega) (by rw [sg_word _ _ (by omega), rg_word _ _ (by omega)]; exact hr0) (by rw [rg_word _ _ (by omega)]; exact hmr)
  rw [rg_word _ _ (by omega)] at t
  exact t

theorem cut_is (x : Nat) (n : Int) (hx : rg x < 4607182418800017408) (hs : sg x = true → rg x = 0) (hn : 1 ≤ n) (hn2 : n ≤ 9223372036854775807) :
    floatBits .mul .f64 x (ofI n) = some (prodB x (ofI n)) ∧ floatToIntVal .f64 (prodB x (ofI n)) .i64 = some (cutI x n) ∧ 0 ≤ cutI x n ∧ cutI x n ≤ 9223372036854775807 := by
  obtain ⟨r, s, V, e, _, _, _, f, g⟩ := share_cut x n hx hs hn hn2
  have hp : prodB x (ofI n) = double.word (sg x) r := by unfold prodB; rw [e]; rfl
  have hc : cutI x n = ((mag r / U : Nat) : Int) := by unfold cutI toI; rw [hp, f]; rfl
  have hz : 0 ≤ cutI x n ∧ cutI x n ≤ 9223372036854775807 := by
    rw [hc]
    generalize mag r / U = q at g
    omega
  refine ⟨?_, by rw [hc, hp, f], hz⟩
  show double.mul x (ofI n) = _
  rw [e, hp]

theorem share_dom (x : Nat) (h1 : 3 ≤ kindI x) (h2 : key x < 4607182418800017408) : rg x < 4607182418800017408 ∧ (sg x = true → rg x = 0) := by
  unfold key at h2
  rcases kind_says x with hx | hx | hx | hx | hx | hx
  · omega
  · omega
  · omega
  · exact ⟨by omega, fun _ => hx.2.2⟩
  · rw [hx.2.2.1] at h2; simp at h2; exact ⟨by omega, fun h => by rw [hx.2.2.1] at h; cases h⟩
  · rw [hx.2.2.1, hx.2.2.2] at h2; simp at h2

theorem quo_is (a b : Int) (ha : a.natAbs ≤ 9223372036854775808) (hb : b.natAbs ≤ 9223372036854775808) (h0 : b ≠ 0) :
    floatBits .quo .f64 (ofI a) (ofI b) = some (quoB (ofI a) (ofI b)) ∧ quoB (ofI a) (ofI b) < 18446744073709551616 ∧ nanB (quoB (ofI a) (ofI b)) = false := by
  obtain ⟨a1, a2, a3, a4, _⟩ := sg_ofI a ha
  obtain ⟨b1, b2, b3, b4, _⟩ := sg_ofI b hb
  have b5 := b4 h0
  obtain ⟨r, s, e, _⟩ := div_rounds (ofI a) (ofI b) (by omega) (by omega) (by omega)
  have hm : min r 9218868437227405312 ≤ 9218868437227405312 := Nat.min_le_right ..
  have hq : quoB (ofI a) (ofI b) = double.word (sg (ofI a) ^^ sg (ofI b)) (min r 9218868437227405312) := by unfold quoB; rw [e]; rfl
  refine ⟨?_, ?_, ?_⟩
  · show double.div (ofI a) (ofI b) = _
    rw [hq, e]
  · rw [hq]; exact word_lt64 _ _ (by omega)
  · rw [hq]; exact nan_word _ _ hm

theorem ratio_lt (a b : Int) (ha : a.natAbs ≤ 9223372036854775808) (hb : b.natAbs ≤ 9223372036854775808) : ratioB a b < 18446744073709551616 := by
  unfold ratioB
  split
  · split
    · decide
    · split <;> decide
  · exact (quo_is a b ha hb (by assumption)).2.1

theorem half_of_eight : shareI 4602678819172646912 8 = 4 := by decide +kernel

end Go.Proofs.Ythpbdgdbgohooaa.Fl
