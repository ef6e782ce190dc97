/- Floats of 64 bits, by their bits: kinds, the order of all of them, what a test on two of them comes to. Plain: nothing of the program. -/
import Derived.Test.YthpbdgdbgohooaaFl
import GoSem.Op.Unary
namespace Go.Proofs.Ythpbdgdbgohooaa.Fl
open Ieee

def lowB (b : Nat) : Bool := !nanB b && decide (key b = -9218868437227405312)
def highB (b : Nat) : Bool := !nanB b && decide (key b = 9218868437227405312)
def ltB (x y : Nat) : Bool := !nanB x && !nanB y && decide (key x < key y)
def eqB (x y : Nat) : Bool := !nanB x && !nanB y && decide (key x = key y)

def kindI (b : Nat) : Int :=
  if nanB b then 0 else if key b = -9218868437227405312 then 1 else if key b < 0 then 2 else if key b = 0 then 3 else if key b = 9218868437227405312 then 5 else 4

/-- The place in the one order of all floats. -/
def tkey (b : Nat) : Int := if nanB b then -9223372036854775810 else if sg b then -(rg b : Int) - 1 else rg b

def cmpI (x y : Int) : Int := if x < y then -1 else if x = y then 0 else 1

theorem rg_lt (b : Nat) : rg b < 9223372036854775808 := by unfold rg; omega

theorem order_lt (x y : Nat) : (FloatKind.f64.format.order x y == some .lt) = ltB x y := by
  show (double.order x y == some .lt) = ltB x y
  rw [order_key]; unfold ltB
  cases nanB x <;> cases nanB y <;> try rfl
  show (some (compare (key x) (key y)) == some .lt) = decide (key x < key y)
  rcases Int.lt_trichotomy (key x) (key y) with h | h | h
  · rw [Std.compare_eq_lt.2 h, decide_eq_true h]; rfl
  · rw [h, decide_eq_false (by omega)]; simp
  · rw [Std.compare_eq_gt.2 h, decide_eq_false (by omega)]; rfl

theorem order_eq (x y : Nat) : (FloatKind.f64.format.order x y == some .eq) = eqB x y := by
  show (double.order x y == some .eq) = eqB x y
  rw [order_key]; unfold eqB
  cases nanB x <;> cases nanB y <;> try rfl
  show (some (compare (key x) (key y)) == some .eq) = decide (key x = key y)
  rcases Int.lt_trichotomy (key x) (key y) with h | h | h
  · rw [Std.compare_eq_lt.2 h, decide_eq_false (by omega)]; rfl
  · rw [h, decide_eq_true rfl]; simp
  · rw [Std.compare_eq_gt.2 h, decide_eq_false (by omega)]; rfl

theorem order_gt (x y : Nat) : (FloatKind.f64.format.order x y == some .gt) = ltB y x := by
  show (double.order x y == some .gt) = ltB y x
  rw [order_key]; unfold ltB
  cases nanB x <;> cases nanB y <;> try rfl
  show (some (compare (key x) (key y)) == some .gt) = decide (key y < key x)
  rcases Int.lt_trichotomy (key x) (key y) with h | h | h
  · rw [Std.compare_eq_lt.2 h, decide_eq_false (by omega)]; rfl
  · rw [h, decide_eq_false (by omega)]; simp
  · rw [Std.compare_eq_gt.2 h, decide_eq_true h]; rfl

theorem order_ne (x y : Nat) : (FloatKind.f64.format.order x y != some .eq) = !eqB x y := by
  rw [← order_eq]; rfl

theorem order_self (x : Nat) : (FloatKind.f64.format.order x x != some .eq) = nanB x := by
  rw [order_ne]; unfold eqB; cases nanB x <;> simp

theorem key_zero : key 0 = 0 := by decide
theorem nan_zero : nanB 0 = false := by decide

/-- Turned about. -/
theorem neg_word (b : Nat) (h : b < 18446744073709551616) : sg (Op.negFloat .f64 b) = !sg b ∧ rg (Op.negFloat .f64 b) = rg b ∧ Op.negFloat .f64 b < 18446744073709551616 := by
  have e : Op.negFloat .f64 b = b ^^^ 2 ^ 63 := rfl
  have hs : b = 2 ^ 63 * (b / 2 ^ 63) + b % 2 ^ 63 := by omega
  have hq : b / 2 ^ 63 = 0 ∨ b / 2 ^ 63 = 1 := by omega
  have ht : (b ^^^ 2 ^ 63) % 2 ^ 63 = b % 2 ^ 63 := by
    rw [Nat.xor_mod_two_pow]; simp
  have hu : (b ^^^ 2 ^ 63) / 2 ^ 63 = (b / 2 ^ 63) ^^^ 1 := by
    rw [Nat.xor_div_two_pow]
  have hl : b ^^^ 2 ^ 63 < 2 ^ 64 := Nat.xor_lt_two_pow (by omega) (by decide)
  rw [e]
  unfold sg rg
  simp only [show (9223372036854775808 : Nat) = 2 ^ 63 from rfl, show (18446744073709551616 : Nat) = 2 ^ 64 from rfl]
  refine ⟨?_, ht, hl⟩
  rw [hu]
  rcases hq with hq | hq <;> rw [hq] <;> decide

theorem neg_key (b : Nat) (h : b < 18446744073709551616) : key (Op.negFloat .f64 b) = -key b ∧ nanB (Op.negFloat .f64 b) = nanB b := by
  obtain ⟨h1, h2, _⟩ := neg_word b h
  unfold key nanB
  rw [h1, h2]
  cases sg b <;> simp

/-- Beyond the greatest number. -/
theorem beyond (b : Nat) : ltB 9218868437227405311 b = highB b := by
  unfold ltB highB
  rw [show nanB 9218868437227405311 = false from by decide, show key 9218868437227405311 = 9218868437227405311 from by decide]
  cases h : nanB b
  · have : rg b ≤ 9218868437227405312 := by unfold nanB at h; simpa using h
    have hk : key b ≤ 9218868437227405312 := by unfold key; split <;> omega
    simp only [Bool.not_false, Bool.true_and]
    by_cases e : key b = 9218868437227405312
    · rw [decide_eq_true (by omega), decide_eq_true e]
    · rw [decide_eq_false (by omega), decide_eq_false e]
  · rfl

theorem beyond_neg (b : Nat) (hb : b < 18446744073709551616) : ltB 9218868437227405311 (Op.negFloat .f64 b) = lowB b := by
  rw [beyond]
  obtain ⟨h1, h2⟩ := neg_key b hb
  unfold highB lowB
  rw [h1, h2]
  congr 1
  by_cases e : key b = -9218868437227405312
  · rw [decide_eq_true e, decide_eq_true (by omega)]
  · rw [decide_eq_false e, decide_eq_false (by omega)]

theorem key_range (b : Nat) (h : nanB b = false) : -9218868437227405312 ≤ key b ∧ key b ≤ 9218868437227405312 := by
  have : rg b ≤ 9218868437227405312 := by unfold nanB at h; simpa using h
  unfold key; split <;> omega

/-- Each float is of one kind. -/
theorem kinds (b : Nat) :
    (kindI b = 0 ∧ nanB b = true ∧ lowB b = false ∧ ltB b 0 = false ∧ highB b = false ∧ ltB 0 b = false) ∨
    (kindI b = 1 ∧ nanB b = false ∧ lowB b = true ∧ ltB b 0 = true ∧ highB b = false ∧ ltB 0 b = false) ∨
    (kindI b = 2 ∧ nanB b = false ∧ lowB b = false ∧ ltB b 0 = true ∧ highB b = false ∧ ltB 0 b = false) ∨
    (kindI b = 3 ∧ nanB b = false ∧ lowB b = false ∧ ltB b 0 = false ∧ highB b = false ∧ ltB 0 b = false) ∨
    (kindI b = 4 ∧ nanB b = false ∧ lowB b = false ∧ ltB b 0 = false ∧ highB b = false ∧ ltB 0 b = true) ∨
    (kindI b = 5 ∧ nanB b = false ∧ lowB b = false ∧ ltB b 0 = false ∧ highB b = true ∧ ltB 0 b = true) := by
  unfold kindI lowB highB ltB
  rw [key_zero, nan_zero]
  cases h : nanB b
  · obtain ⟨h1, h2⟩ := key_range b h
    by_cases c1 : key b = -9218868437227405312
    · simp [c1]
    by_cases c2 : key b < 0
    · simp [c1, c2]; omega
    by_cases c3 : key b = 0
    · simp [c3]
    by_cases c4 : key b = 9218868437227405312
    · simp [c4]
    · simp [c1, c2, c3, c4]; omega
  · simp

theorem kind_range (b : Nat) : 0 ≤ kindI b ∧ kindI b ≤ 5 := by rcases kinds b with h | h | h | h | h | h <;> (rw [h.1]; omega)

/-- Where a nought stands among noughts. -/
def place (b : Nat) : Int := if sg b then 0 else 1

theorem cmpI_lt {x y : Int} (h : x < y) : cmpI x y = -1 := by unfold cmpI; rw [if_pos h]
theorem cmpI_gt {x y : Int} (h : y < x) : cmpI x y = 1 := by unfold cmpI; rw [if_neg (by omega), if_neg (by omega)]
theorem cmpI_self (x : Int) : cmpI x x = 0 := by unfold cmpI; rw [if_neg (by omega), if_pos rfl]
theorem cmpI_range (x y : Int) : -1 ≤ cmpI x y ∧ cmpI x y ≤ 1 := by unfold cmpI; split <;> (try split) <;> omega
theorem cmpI_zero {x y : Int} (h : cmpI x y = 0) : x = y := by
  unfold cmpI at h; split at h
  · omega
  · split at h
    · assumption
    · omega

/-- What a kind says of the bits. -/
theorem kind_says (b : Nat) :
    (kindI b = 0 ∧ nanB b = true) ∨
    (kindI b = 1 ∧ nanB b = false ∧ sg b = true ∧ rg b = 9218868437227405312) ∨
    (kindI b = 2 ∧ nanB b = false ∧ sg b = true ∧ 0 < rg b ∧ rg b < 9218868437227405312) ∨
    (kindI b = 3 ∧ nanB b = false ∧ rg b = 0) ∨
    (kindI b = 4 ∧ nanB b = false ∧ sg b = false ∧ 0 < rg b ∧ rg b < 9218868437227405312) ∨
    (kindI b = 5 ∧ nanB b = false ∧ sg b = false ∧ rg b = 9218868437227405312) := by
  unfold kindI key
  cases h : nanB b
  · have hr : rg b ≤ 9218868437227405312 := by unfold nanB at h; simpa using h
    simp only [Bool.false_eq_true, if_false]
    cases hs : sg b <;> simp only [Bool.false_eq_true, if_false, if_true]
    · by_cases c3 : rg b = 0
      · simp [c3]
      by_cases c4 : rg b = 9218868437227405312
      · simp [c4]
      · rw [if_neg (by omega), if_neg (by omega), if_neg (by omega), if_neg (by omega)]; simp; omega
    · by_cases c1 : rg b = 9218868437227405312
      · simp [c1]
      by_cases c3 : rg b = 0
      · simp [c3]
      · rw [if_neg (by omega), if_pos (by omega)]; simp; omega
  · simp

theorem tkey_kind_lt {x y : Nat} (h : kindI x < kindI y) : tkey x < tkey y := by
  have rx := rg_lt x
  have ry := rg_lt y
  unfold tkey
  rcases kind_says x with hx | hx | hx | hx | hx | hx <;> rcases kind_says y with hy | hy | hy | hy | hy | hy <;>
    (first | (exfalso; omega) | (simp only [hx.2, hy.2, if_true, Bool.false_eq_true, if_false]; (try split) <;> (try split) <;> omega))

theorem tkey_flat {x y : Nat} (h : kindI x = kindI y) (h2 : kindI x ≠ 2) (h3 : kindI x ≠ 3) (h4 : kindI x ≠ 4) : tkey x = tkey y := by
  unfold tkey
  rcases kind_says x with hx | hx | hx | hx | hx | hx <;> rcases kind_says y with hy | hy | hy | hy | hy | hy <;>
    (first | (exfalso; omega) | (simp only [hx.2, hy.2, if_true, Bool.false_eq_true, if_false]))

theorem tkey_nought {x : Nat} (h : kindI x = 3) : tkey x = place x - 1 := by
  unfold tkey place
  rcases kind_says x with hx | hx | hx | hx | hx | hx <;> (first | (exfalso; omega) | (simp only [hx.2, Bool.false_eq_true, if_false]; split <;> omega))

theorem tkey_neg {x : Nat} (h : kindI x = 2) : nanB x = false ∧ tkey x = key x - 1 := by
  unfold tkey key
  rcases kind_says x with hx | hx | hx | hx | hx | hx <;> (first | (exfalso; omega) | (simp only [hx.2, Bool.false_eq_true, if_false, if_true]; simp))

theorem tkey_pos {x : Nat} (h : kindI x = 4) : nanB x = false ∧ tkey x = key x := by
  unfold tkey key
  rcases kind_says x with hx | hx | hx | hx | hx | hx <;> (first | (exfalso; omega) | (simp only [hx.2, Bool.false_eq_true, if_false]; simp))

theorem cmpI_shift (x y c : Int) : cmpI (x + c) (y + c) = cmpI x y := by
  unfold cmpI
  by_cases h : x < y
  · rw [if_pos h, if_pos (by omega)]
  · rw [if_neg h, if_neg (by omega)]
    by_cases e : x = y
    · rw [if_pos e, if_pos (by omega)]
    · rw [if_neg e, if_neg (by omega)]

theorem cmpI_kind {x y : Nat} (h : kindI x ≠ kindI y) : cmpI (kindI x) (kindI y) = cmpI (tkey x) (tkey y) := by
  rcases Int.lt_trichotomy (kindI x) (kindI y) with c | c | c
  · rw [cmpI_lt c, cmpI_lt (tkey_kind_lt c)]
  · exact absurd c h
  · rw [cmpI_gt c, cmpI_gt (tkey_kind_lt c)]

theorem tkey_lt {x y : Nat} (nx : nanB x = false) (ny : nanB y = false) (h : key x < key y) : tkey x < tkey y := by
  unfold tkey; unfold key at h
  rw [nx, ny]
  simp only [Bool.false_eq_true, if_false]
  cases hx : sg x <;> cases hy : sg y <;> simp only [hx, hy, Bool.false_eq_true, if_false, if_true] at h ⊢ <;> omega

theorem tkey_same {x y : Nat} (nx : nanB x = false) (ny : nanB y = false) (h : key x = key y) :
    cmpI (tkey x) (tkey y) = if sg x = sg y then 0 else if sg x then -1 else 1 := by
  unfold tkey; unfold key at h
  rw [nx, ny]
  simp only [Bool.false_eq_true, if_false]
  cases hx : sg x <;> cases hy : sg y <;> simp only [hx, hy, Bool.false_eq_true, if_false, if_true] at h ⊢
  · rw [h]; exact cmpI_self _
  · exact cmpI_gt (by omega)
  · exact cmpI_lt (by omega)
  · rw [show (rg x : Int) = rg y from by omega]; exact cmpI_self _

/-- Are they one in that order? -/
def sameB (x y : Nat) : Bool := decide (tkey x = tkey y)

/-- What cmp.Compare comes to on floats. -/
def cmpF (x y : Nat) : Int := if nanB x then (if nanB y then 0 else -1) else if nanB y then 1 else cmpI (key x) (key y)

/-- The sign bit, by the word as a number of 64 bits with a sign. -/
theorem sign_wrap (b : Nat) (h : b < 18446744073709551616) : decide (IntKind.i64.wrap (b : Int) < 0) = sg b := by
  have e : IntKind.i64.wrap (b : Int) = if (b : Int) % 18446744073709551616 ≥ 9223372036854775808 then (b : Int) % 18446744073709551616 - 18446744073709551616 else (b : Int) % 18446744073709551616 := by
    unfold IntKind.wrap
    simp [IntKind.bits, IntKind.signed]
  rw [e]
  unfold sg
  by_cases hb : b < 9223372036854775808
  · have : b / 9223372036854775808 = 0 := by omega
    rw [this, if_neg (by omega), decide_eq_false (by omega)]; rfl
  · have : b / 9223372036854775808 = 1 := by omega
    rw [this, if_pos (by omega), decide_eq_true (by omega)]; rfl

end Go.Proofs.Ythpbdgdbgohooaa.Fl
