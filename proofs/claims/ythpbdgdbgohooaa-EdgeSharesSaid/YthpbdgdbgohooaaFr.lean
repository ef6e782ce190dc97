/- Floats of 64 bits: rounding to nearest, told by whole numbers: what 'nearest' gives is the rung whose neighbours' midpoints enclose the number; so it is monotone, and exact where it can be. Plain: nothing of the program. -/
import Derived.Test.YthpbdgdbgohooaaFm
namespace Go.Proofs.Ythpbdgdbgohooaa.Fl
open Ieee

theorem mag_le {r s : Nat} (h : r ≤ s) : mag r ≤ mag s := by
  by_cases e : r = s
  · subst e; exact Nat.le_refl _
  · exact Nat.le_of_lt (mag_mono (by omega))

theorem mag_at (d k : Nat) (hk : k ≤ 9007199254740992) (h : d = 0 ∨ 4503599627370496 ≤ k) : mag (d * 4503599627370496 + k) = k * 2 ^ d := by
  unfold mag
  by_cases c : d * 4503599627370496 + k < 4503599627370496
  · rw [if_pos c]
    have : d = 0 := by omega
    subst this; simp
  · rw [if_neg c]
    by_cases c2 : k = 9007199254740992
    · subst c2
      have e1 : (d * 4503599627370496 + 9007199254740992) % 4503599627370496 = 0 := by omega
      have e2 : (d * 4503599627370496 + 9007199254740992) / 4503599627370496 - 1 = d + 1 := by omega
      rw [e1, e2, Nat.pow_succ, Nat.add_zero, Nat.mul_comm (2 ^ d) 2, ← Nat.mul_assoc]
    · have hk2 : 4503599627370496 ≤ k := by omega
      have e1 : (d * 4503599627370496 + k) % 4503599627370496 = k - 4503599627370496 := by omega
      have e2 : (d * 4503599627370496 + k) / 4503599627370496 - 1 = d := by omega
      rw [e1, e2, show 4503599627370496 + (k - 4503599627370496) = k from by omega]

/-- Rounding of V / 2^s to the rung r. -/
def RoundsTo (V s r : Nat) : Prop :=
  (∀ q, r = q + 1 → (mag q + mag r) * 2 ^ s ≤ 2 * V ∧ ((mag q + mag r) * 2 ^ s = 2 * V → r % 2 = 0)) ∧
  2 * V ≤ (mag r + mag (r + 1)) * 2 ^ s ∧ (2 * V = (mag r + mag (r + 1)) * 2 ^ s → r % 2 = 0)

theorem rounds_mono {V1 s1 r1 V2 s2 r2 : Nat} (h1 : RoundsTo V1 s1 r1) (h2 : RoundsTo V2 s2 r2) (h : V1 * 2 ^ s2 ≤ V2 * 2 ^ s1) : r1 ≤ r2 := by
  refine Nat.le_of_not_lt fun hlt => ?_
  obtain ⟨q, rfl⟩ : ∃ q, r1 = q + 1 := ⟨r1 - 1, by omega⟩
  obtain ⟨a1, a2⟩ := h1.1 q rfl
  obtain ⟨_, b1, b2⟩ := h2
  have p1 : 0 < 2 ^ s1 := Nat.two_pow_pos _
  have p2 : 0 < 2 ^ s2 := Nat.two_pow_pos _
  have c1 := Nat.mul_le_mul_right (2 ^ s2) a1
  have c2 := Nat.mul_le_mul_right (2 ^ s1) b1
  have c3 : (mag q + mag (q + 1)) * 2 ^ s1 * 2 ^ s2 ≤ (mag r2 + mag (r2 + 1)) * 2 ^ s1 * 2 ^ s2 := by
    have e1 : 2 * V1 * 2 ^ s2 = 2 * (V1 * 2 ^ s2) := Nat.mul_assoc ..
    have e2 : 2 * V2 * 2 ^ s1 = 2 * (V2 * 2 ^ s1) := Nat.mul_assoc ..
    have e3 : (mag r2 + mag (r2 + 1)) * 2 ^ s2 * 2 ^ s1 = (mag r2 + mag (r2 + 1)) * 2 ^ s1 * 2 ^ s2 := Nat.mul_right_comm ..
    omega
  have c4 : mag q + mag (q + 1) ≤ mag r2 + mag (r2 + 1) := Nat.le_of_mul_le_mul_right (Nat.le_of_mul_le_mul_right c3 p2) p1
  have c5 := mag_le (r := r2) (s := q) (by omega)
  have c6 := mag_le (r := r2 + 1) (s := q + 1) (by omega)
  have e : q = r2 := by
    by_cases e : q = r2
    · exact e
    · have := mag_mono (r := r2) (s := q) (by omega); omega
  subst e
  have t1 : (mag q + mag (q + 1)) * 2 ^ s1 * 2 ^ s2 = 2 * V1 * 2 ^ s2 := by
    have e1 : 2 * V1 * 2 ^ s2 = 2 * (V1 * 2 ^ s2) := Nat.mul_assoc ..
    have e2 : 2 * V2 * 2 ^ s1 = 2 * (V2 * 2 ^ s1) := Nat.mul_assoc ..
    have e3 : (mag q + mag (q + 1)) * 2 ^ s2 * 2 ^ s1 = (mag q + mag (q + 1)) * 2 ^ s1 * 2 ^ s2 := Nat.mul_right_comm ..
    omega
  have t2 : 2 * V2 * 2 ^ s1 = (mag q + mag (q + 1)) * 2 ^ s2 * 2 ^ s1 := by
    have e1 : 2 * V1 * 2 ^ s2 = 2 * (V1 * 2 ^ s2) := Nat.mul_assoc ..
    have e2 : 2 * V2 * 2 ^ s1 = 2 * (V2 * 2 ^ s1) := Nat.mul_assoc ..
    have e3 : (mag q + mag (q + 1)) * 2 ^ s2 * 2 ^ s1 = (mag q + mag (q + 1)) * 2 ^ s1 * 2 ^ s2 := Nat.mul_right_comm ..
    omega
  have u1 := a2 (Nat.eq_of_mul_eq_mul_right p2 t1)
  have u2 := b2 (Nat.eq_of_mul_eq_mul_right p1 t2)
  omega

theorem rounds_exact (r s : Nat) : RoundsTo (mag r * 2 ^ s) s r := by
  have p : 0 < 2 ^ s := Nat.two_pow_pos _
  refine ⟨fun q e => ?_, ?_, fun e => ?_⟩
  · subst e
    have h := Nat.mul_lt_mul_of_pos_right (mag_step q) p
    rw [Nat.add_mul]
    constructor
    · omega
    · intro e; omega
  · have h := Nat.mul_lt_mul_of_pos_right (mag_step r) p
    rw [Nat.add_mul]; omega
  · have h := Nat.mul_lt_mul_of_pos_right (mag_step r) p
    rw [Nat.add_mul] at e; omega

theorem rounds_unique {V s r q : Nat} (h1 : RoundsTo V s r) (h2 : RoundsTo V s q) : r = q :=
  Nat.le_antisymm (rounds_mono h1 h2 (Nat.le_refl _)) (rounds_mono h2 h1 (Nat.le_refl _))

/-- The cut to the nearest whole number, the even one between two. -/
theorem cut_spec (neg : Bool) (n drop : Nat) :
    2 * n ≤ (2 * Toward.even.cut neg n drop + 1) * 2 ^ drop ∧ (2 * n = (2 * Toward.even.cut neg n drop + 1) * 2 ^ drop → Toward.even.cut neg n drop % 2 = 0) ∧
    2 * Toward.even.cut neg n drop * 2 ^ drop ≤ 2 * n + 2 ^ drop ∧ (2 * Toward.even.cut neg n drop * 2 ^ drop = 2 * n + 2 ^ drop → Toward.even.cut neg n drop % 2 = 0) := by
  have hl : n < 2 ^ (n.log2 + 1) := Nat.lt_log2_self
  by_cases hd : drop ≤ n.log2 + 2
  · have e : (1 <<< min drop (n.log2 + 2) : Nat) = 2 ^ drop := by rw [Nat.min_eq_left hd, Nat.one_shiftLeft]
    have hp : 0 < 2 ^ drop := Nat.two_pow_pos _
    unfold Toward.cut
    simp only [e]
    generalize 2 ^ drop = G at hp
    have hn : n = G * (n / G) + n % G := (Nat.div_add_mod n G).symm
    have hr : n % G < G := Nat.mod_lt _ hp
    generalize n / G = q at hn ⊢
    generalize n % G = r at hn hr ⊢
    subst hn
    have x1 : (2 * q + 1) * G = 2 * (G * q) + G := by rw [Nat.add_mul, Nat.one_mul, Nat.mul_assoc, Nat.mul_comm q G]
    have x2 : (2 * (q + 1) + 1) * G = 2 * (G * q) + 3 * G := by rw [show 2 * (q + 1) + 1 = 2 * q + 3 from by omega, Nat.add_mul, Nat.mul_assoc, Nat.mul_comm q G]
    have x3 : 2 * q * G = 2 * (G * q) := by rw [Nat.mul_assoc, Nat.mul_comm q G]
    have x4 : 2 * (q + 1) * G = 2 * (G * q) + 2 * G := by rw [show 2 * (q + 1) = 2 * q + 2 from by omega, Nat.add_mul, Nat.mul_assoc, Nat.mul_comm q G]
    by_cases c1 : G < 2 * r
    · have : (decide (G < 2 * r) || (G == 2 * r && q % 2 == 1)).toNat = 1 := by simp [c1]
      rw [this, x2, x4]
      refine ⟨by omega, fun h => by omega, by omega, fun h => by omega⟩
    · by_cases c2 : G = 2 * r
      · by_cases c3 : q % 2 = 1
        · have : (decide (G < 2 * r) || (G == 2 * r && q % 2 == 1)).toNat = 1 := by simp [c2, c3]
          rw [this, x2, x4]
          refine ⟨by omega, fun h => by omega, by omega, fun h => by omega⟩
        · have : (decide (G < 2 * r) || (G == 2 * r && q % 2 == 1)).toNat = 0 := by simp [c3]; omega
          rw [this]; simp only [Nat.add_zero]; rw [x1, x3]
          refine ⟨by omega, fun h => by omega, by omega, fun h => by omega⟩
      · have : (decide (G < 2 * r) || (G == 2 * r && q % 2 == 1)).toNat = 0 := by simp [c2]; omega
        rw [this]; simp only [Nat.add_zero]; rw [x1, x3]
        refine ⟨by omega, fun h => by omega, by omega, fun h => by omega⟩
  · have e : (1 <<< min drop (n.log2 + 2) : Nat) = 2 ^ (n.log2 + 2) := by rw [Nat.min_eq_right (by omega), Nat.one_shiftLeft]
    have hg : 2 * n < 2 ^ (n.log2 + 2) := by rw [Nat.pow_succ]; omega
    have hG : 2 ^ (n.log2 + 2) < 2 ^ drop := Nat.pow_lt_pow_right (by omega) (by omega)
    have hk : Toward.even.cut neg n drop = 0 := by
      unfold Toward.cut
      simp only [e]
      rw [Nat.div_eq_of_lt (by omega), Nat.mod_eq_of_lt (by omega)]
      simp; omega
    rw [hk]
    refine ⟨by omega, fun h => by omega, by omega, fun h => by omega⟩

/-- From the cut's scale to the least unit's. -/
theorem scale_le {n A V B : Nat} (h : n * B = V * A) (hA : 0 < A) (hB : 0 < B) (a c : Nat) : a * n ≤ c * A ↔ a * V ≤ c * B := by
  constructor
  · intro g
    have g1 := Nat.mul_le_mul_right B g
    have g2 : a * V * A ≤ c * B * A := by
      rw [Nat.mul_assoc a V A, ← h, ← Nat.mul_assoc, Nat.mul_right_comm c B A]; exact g1
    exact Nat.le_of_mul_le_mul_right g2 hA
  · intro g
    have g1 := Nat.mul_le_mul_right A g
    have g2 : a * n * B ≤ c * A * B := by
      rw [Nat.mul_assoc a n B, h, ← Nat.mul_assoc, Nat.mul_right_comm c A B]; exact g1
    exact Nat.le_of_mul_le_mul_right g2 hB

theorem scale_ge {n A V B : Nat} (h : n * B = V * A) (hA : 0 < A) (hB : 0 < B) (a c : Nat) : c * A ≤ a * n ↔ c * B ≤ a * V := by
  constructor
  · intro g
    have g1 := Nat.mul_le_mul_right B g
    have g2 : c * B * A ≤ a * V * A := by
      rw [Nat.mul_assoc a V A, ← h, ← Nat.mul_assoc, Nat.mul_right_comm c B A]; exact g1
    exact Nat.le_of_mul_le_mul_right g2 hA
  · intro g
    have g1 := Nat.mul_le_mul_right A g
    have g2 : c * A * B ≤ a * n * B := by
      rw [Nat.mul_assoc a n B, h, ← Nat.mul_assoc, Nat.mul_right_comm c A B]; exact g1
    exact Nat.le_of_mul_le_mul_right g2 hB

/-- The core: k is the cut of n by A; V is n in least units over 2^s; the rung that is built of the binade d and of k is the one to which V rounds. -/
theorem rounds_core (n drop V s d k : Nat) (h : n * (2 ^ d * 2 ^ s) = V * 2 ^ drop)
    (hlo : d = 0 ∨ 4503599627370496 * 2 ^ drop ≤ n) (hhi : n < 9007199254740992 * 2 ^ drop)
    (c1 : 2 * n ≤ (2 * k + 1) * 2 ^ drop) (c2 : 2 * n = (2 * k + 1) * 2 ^ drop → k % 2 = 0)
    (c3 : 2 * k * 2 ^ drop ≤ 2 * n + 2 ^ drop) (c4 : 2 * k * 2 ^ drop = 2 * n + 2 ^ drop → k % 2 = 0) :
    RoundsTo V s (d * 4503599627370496 + k) := by
  have hA : 0 < 2 ^ drop := Nat.two_pow_pos _
  have hd : 0 < 2 ^ d := Nat.two_pow_pos _
  have hs : 0 < 2 ^ s := Nat.two_pow_pos _
  have hB : 0 < 2 ^ d * 2 ^ s := Nat.mul_pos hd hs
  generalize 2 ^ drop = A at *
  -- the bounds of k
  have kle : k ≤ 9007199254740992 := by
    refine Nat.le_of_not_lt fun g => ?_
    have g1 := Nat.mul_le_mul_right A (show 2 * 9007199254740993 ≤ 2 * k by omega)
    omega
  have kge : d = 0 ∨ 4503599627370496 ≤ k := by
    rcases hlo with g | g
    · exact .inl g
    · refine .inr (Nat.le_of_not_lt fun g1 => ?_)
      have g2 := Nat.mul_le_mul_right A (show 2 * k + 1 ≤ 9007199254740991 by omega)
      omega
  have em := mag_at d k kle kge
  have par : (d * 4503599627370496 + k) % 2 = k % 2 := by omega
  -- above
  have up : (k + 1) * 2 ^ d ≤ mag (d * 4503599627370496 + k + 1) := by
    by_cases g : k < 9007199254740992
    · rw [Nat.add_assoc, mag_at d (k + 1) (by omega) (by omega)]; exact Nat.le_refl _
    · have e : k = 9007199254740992 := by omega
      subst e
      have e2 : d * 4503599627370496 + 9007199254740992 + 1 = (d + 1) * 4503599627370496 + 4503599627370497 := by omega
      rw [e2, mag_at (d + 1) 4503599627370497 (by omega) (by omega), Nat.pow_succ]
      have : 9007199254740993 * 2 ^ d ≤ 4503599627370497 * (2 ^ d * 2) := by omega
      exact this
  have u1 : 2 * V ≤ (2 * k + 1) * (2 ^ d * 2 ^ s) := (scale_le h hA hB 2 (2 * k + 1)).1 c1
  have u2 : (2 * k + 1) * (2 ^ d * 2 ^ s) ≤ (mag (d * 4503599627370496 + k) + mag (d * 4503599627370496 + k + 1)) * 2 ^ s := by
    rw [← Nat.mul_assoc]
    refine Nat.mul_le_mul_right _ ?_
    rw [em]
    have e : (2 * k + 1) * 2 ^ d = k * 2 ^ d + (k + 1) * 2 ^ d := by rw [← Nat.add_mul]; congr 1; omega
    omega
  refine ⟨fun q e => ?_, Nat.le_trans u1 u2, fun e => ?_⟩
  · by_cases g : d ≠ 0 ∧ k = 4503599627370496
    · -- the least of a binade: the number is not below it
      have v1 : 4503599627370496 * A ≤ 1 * n := by omega
      have v2 := (scale_ge h hA hB 1 4503599627370496).1 v1
      have v3 : mag (d * 4503599627370496 + k) * 2 ^ s ≤ V := by
        rw [em, g.2, Nat.mul_assoc]; omega
      have v4 : mag q * 2 ^ s < mag (d * 4503599627370496 + k) * 2 ^ s := Nat.mul_lt_mul_of_pos_right (mag_mono (by omega)) hs
      rw [Nat.add_mul]
      constructor
      · omega
      · intro x; omega
    · have kp : 0 < k := by omega
      have eq : q = d * 4503599627370496 + (k - 1) := by omega
      have eqm : mag q = (k - 1) * 2 ^ d := by rw [eq]; exact mag_at d (k - 1) (by omega) (by omega)
      have e2 : mag q + mag (d * 4503599627370496 + k) = (2 * k - 1) * 2 ^ d := by
        rw [eqm, em, ← Nat.add_mul]; congr 1; omega
      have w1 : (2 * k - 1) * A ≤ 2 * n := by
        have : 2 * k * A = (2 * k - 1) * A + A := by
          have : 2 * k = (2 * k - 1) + 1 := by omega
          rw [this, Nat.add_mul, Nat.one_mul]; rfl
        omega
      have w2 := (scale_ge h hA hB 2 (2 * k - 1)).1 w1
      rw [← Nat.mul_assoc] at w2
      rw [e2]
      refine ⟨w2, fun x => ?_⟩
      have w3 := (scale_le h hA hB 2 (2 * k - 1)).2 (by rw [← Nat.mul_assoc]; omega)
      rw [par]
      refine c4 ?_
      have : 2 * k * A = (2 * k - 1) * A + A := by
        have : 2 * k = (2 * k - 1) + 1 := by omega
        rw [this, Nat.add_mul, Nat.one_mul]; rfl
      omega
  · rw [par]
    refine c2 (Nat.le_antisymm c1 ?_)
    exact (scale_ge h hA hB 2 (2 * k + 1)).2 (by omega)

theorem rounds_zero (s : Nat) : RoundsTo 0 s 0 := by
  have := rounds_exact 0 s
  rw [mag_zero, Nat.zero_mul] at this
  exact this

/-- The least place, turned about: a number that stays behind its name. -/
@[irreducible] def EX : Nat := 1074
theorem EX_eq : EX = 1074 := by unfold EX; rfl

/-- WHAT 'nearest' GIVES: a rung to which the number rounds, cut at infinity. -/
theorem nearest_rounds (neg : Bool) (m : Nat) (p : Int) :
    ∃ r, double.nearest neg m p = double.word neg (min r 9218868437227405312) ∧ RoundsTo (m * 2 ^ (p + EX).toNat) (-EX - p).toNat r := by
  have hEX := EX_eq
  by_cases hm : m = 0
  · subst hm
    refine ⟨0, ?_, by rw [Nat.zero_mul]; exact rounds_zero _⟩
    unfold Format.nearest
    rw [if_pos rfl]; rfl
  · have l1 : 2 ^ m.log2 ≤ m := Nat.log2_self_le hm
    have l2 : m < 2 ^ (m.log2 + 1) := Nat.lt_log2_self
    generalize hl : m.log2 = l at l1 l2
    let last : Int := max (p + l - 52) (-1074)
    have hlast : last = p + l - 52 ∨ last = -1074 := by simp only [last]; omega
    have hlast1 : p + l - 52 ≤ last := by simp only [last]; omega
    have hlast2 : -1074 ≤ last := by simp only [last]; omega
    let up := (p - last).toNat
    let drop := (last - p).toNat
    have e1 : double.nearest neg m p = double.word neg (min ((last + 1074).toNat * 4503599627370496 + Toward.even.cut neg (m * 2 ^ up) drop) 9218868437227405312) := by
      unfold Format.nearest
      rw [if_neg hm, hl]
      show double.word neg (min ((last - -1074).toNat * 4503599627370496 + Toward.even.cut neg (m <<< up) drop) 9218868437227405312) = _
      rw [Nat.shiftLeft_eq, Int.sub_neg]
    refine ⟨_, e1, ?_⟩
    obtain ⟨c1, c2, c3, c4⟩ := cut_spec neg (m * 2 ^ up) drop
    refine rounds_core (m * 2 ^ up) drop _ _ (last + 1074).toNat _ ?_ ?_ ?_ c1 c2 c3 c4
    · rw [← Nat.pow_add, Nat.mul_assoc, Nat.mul_assoc, ← Nat.pow_add, ← Nat.pow_add]
      congr 2
      simp only [up, drop]
      omega
    · rcases hlast with g | g
      · right
        have : 4503599627370496 * 2 ^ drop = 2 ^ (52 + drop) := by rw [Nat.pow_add]
        rw [this]
        refine Nat.le_trans ?_ (Nat.mul_le_mul_right _ l1)
        rw [← Nat.pow_add]
        exact Nat.pow_le_pow_right (by omega) (by simp only [up, drop]; omega)
      · left; omega
    · have : 9007199254740992 * 2 ^ drop = 2 ^ (53 + drop) := by rw [Nat.pow_add]
      rw [this]
      refine Nat.lt_of_lt_of_le (Nat.mul_lt_mul_of_pos_right l2 (Nat.two_pow_pos _)) ?_
      rw [← Nat.pow_add]
      exact Nat.pow_le_pow_right (by omega) (by simp only [up, drop]; omega)

end Go.Proofs.Ythpbdgdbgohooaa.Fl
