/- Floats of 64 bits: how far a ratio, a product, a share is from what it would be without rounding. Plain: nothing of the program. -/
import Derived.Test.YthpbdgdbgohooaaFs
namespace Go.Proofs.Ythpbdgdbgohooaa.Fl
open Ieee

/-! ### The sign does not change the rung -/
theorem cut_sign (neg : Bool) (n drop : Nat) : Toward.even.cut neg n drop = Toward.even.cut false n drop := by
  unfold Toward.cut
  cases neg <;> rfl
theorem nearest_sign (m : Nat) (p : Int) : ∃ R, ∀ s : Bool, double.nearest s m p = double.word s R := by
  by_cases h : m = 0
  · refine ⟨0, fun s => ?_⟩
    unfold Format.nearest
    rw [if_pos h]
  · refine ⟨min (((max (p + m.log2 - double.fractionBits) double.leastPlace) - double.leastPlace).toNat * double.binade + Toward.even.cut false (m <<< (p - (max (p + m.log2 - double.fractionBits) double.leastPlace)).toNat) ((max (p + m.log2 - double.fractionBits) double.leastPlace) - p).toNat) double.infRung, fun s => ?_⟩
    unfold Format.nearest
    rw [if_neg h]
    simp only [cut_sign s]

def rm (r : Nat) : Nat := if r < 4503599627370496 then r else 4503599627370496 + r % 4503599627370496
def ra (r : Nat) : Nat := if r < 4503599627370496 then 0 else r / 4503599627370496 - 1
theorem read_parts (b : Nat) (h : rg b < 9218868437227405312) : double.read b = .number (sg b) (rm (rg b)) (double.leastPlace + ra (rg b)) := by
  unfold rg at h
  unfold Format.read rm ra
  simp only [show double.signWeight = 9223372036854775808 from rfl, show double.binade = 4503599627370496 from rfl, show double.infRung = 9218868437227405312 from rfl]
  by_cases h1 : b % 9223372036854775808 < 4503599627370496
  · rw [if_pos h1]
    unfold rg
    rw [if_pos h1, if_pos h1, Int.natCast_zero, Int.add_zero]; rfl
  · rw [if_neg h1, if_pos h]
    unfold rg
    rw [if_neg h1, if_neg h1]; rfl

/-- Turned about, a quotient is turned about. -/
theorem div_flip (x x' y : Nat) (hx : rg x < 9218868437227405312) (hr : rg x' = rg x) (hs : sg x' = !sg x) (hy : rg y < 9218868437227405312) (h0 : 0 < rg y) :
    ∃ R, double.div x y = some (double.word (sg x ^^ sg y) R) ∧ double.div x' y = some (double.word (!(sg x ^^ sg y)) R) := by
  have hn : rm (rg y) ≠ 0 := by unfold rm; split <;> omega
  unfold Format.div
  rw [read_parts x hx, read_parts x' (by omega), read_parts y hy, hr, hs]
  simp only [Datum.quotient, if_neg hn, Option.map, Format.write]
  obtain ⟨R, hR⟩ := nearest_sign (2 * (rm (rg x) <<< (double.fractionBits + 2 + (rm (rg y)).log2 - (rm (rg x)).log2) / rm (rg y)) + (rm (rg x) <<< (double.fractionBits + 2 + (rm (rg y)).log2 - (rm (rg x)).log2) % rm (rg y) != 0).toNat)
    (double.leastPlace + (ra (rg x) : Int) - (double.leastPlace + (ra (rg y) : Int)) - ((double.fractionBits + 2 + (rm (rg y)).log2 - (rm (rg x)).log2 : Nat) : Int) - 1)
  refine ⟨R, congrArg some (hR _), ?_⟩
  rw [hR]
  congr 2
  cases sg x <;> cases sg y <;> rfl

/-! ### A difference of near ones -/
theorem signed_abs (s : Bool) (m n a b c : Nat) (ha : c ≤ a) (hb : c ≤ b) :
    (signed s m (a - c) + signed (!s) n (b - c)).natAbs * 2 ^ c = (((m * 2 ^ a : Nat) : Int) - ((n * 2 ^ b : Nat) : Int)).natAbs := by
  have e1 := signed_scale s m a c ha
  have e2 := signed_scale (!s) n b c hb
  generalize signed s m (a - c) = p at *
  generalize signed (!s) n (b - c) = q at *
  generalize m * 2 ^ a = X at *
  generalize n * 2 ^ b = Y at *
  have e3 : (p + q).natAbs * 2 ^ c = ((p + q) * (2 ^ c : Nat)).natAbs := by rw [Int.natAbs_mul]; rfl
  rw [e3, Int.add_mul, e1, e2]
  cases s
  · simp only [Bool.not_false, if_true, Bool.false_eq_true, if_false]; omega
  · simp only [Bool.not_true, if_true, Bool.false_eq_true, if_false]; omega

theorem sub_near (x y : Nat) (hx : rg x < 9218868437227405312) (hy : rg y < 9218868437227405312) (hs : sg x = sg y) (h1 : mag (rg x) ≤ mag (rg y) + U) (h2 : mag (rg y) ≤ mag (rg x) + U) :
    ∃ d, double.sub x y = some d ∧ nanB d = false ∧ -4607182418800017408 ≤ key d ∧ key d ≤ 4607182418800017408 := by
  obtain ⟨m, a, e1, g1⟩ := read_num x hx
  obtain ⟨n, b, e2, g2⟩ := read_num y hy
  have e : min (double.leastPlace + (a : Int)) (double.leastPlace + (b : Int)) = double.leastPlace + (min a b : Nat) := by omega
  have t1 : (double.leastPlace + (a : Int) - (double.leastPlace + (min a b : Nat))).toNat = a - min a b := by omega
  have t2 : (double.leastPlace + (b : Int) - (double.leastPlace + (min a b : Nat))).toNat = b - min a b := by omega
  have hL : double.leastPlace = -(EX : Int) := by rw [EX_eq]; rfl
  unfold Format.sub
  rw [e1, e2]
  simp only [Datum.opposite, Datum.sum, Option.map, Format.write]
  rw [e, t1, t2]
  generalize hT : signed (sg x) m (a - min a b) + signed (!sg y) n (b - min a b) = T
  have hab := signed_abs (sg x) m n a b (min a b) (Nat.min_le_left ..) (Nat.min_le_right ..)
  rw [hs] at hab hT
  rw [hT] at hab
  obtain ⟨r, e5, hr⟩ := nearest_rounds (if T = 0 then sg y && !sg y else decide (T < 0)) T.natAbs (double.leastPlace + (min a b : Nat))
  rw [hL] at hr
  rw [show ((-(EX : Int) + ((min a b : Nat) : Int)) + EX).toNat = min a b from by omega, show (-(EX : Int) - (-(EX : Int) + ((min a b : Nat) : Int))).toNat = 0 from by omega] at hr
  have top : r ≤ 4607182418800017408 := by
    refine rounds_le hr ?_
    rw [mag_one, Nat.pow_zero, Nat.mul_one, hab, g1, g2]
    omega
  rw [hs]
  refine ⟨_, rfl, ?_, ?_, ?_⟩
  · rw [e5]; exact nan_word _ _ (by omega)
  · rw [e5, Nat.min_eq_left (by omega), key_word _ _ (by omega)]; split <;> omega
  · rw [e5, Nat.min_eq_left (by omega), key_word _ _ (by omega)]; split <;> omega

/-! ### Cancelling -/
theorem cancel_le {a b c : Nat} (hc : 0 < c) (h : a * c ≤ b * c) : a ≤ b := Nat.le_of_mul_le_mul_right h hc

/-- 2 ^ -32 -/
theorem mag_small : mag 4463067230724161536 * 4294967296 = U := by
  rw [mag_of (EX - 84) (2 ^ 52) _ (by rw [EX_eq]) (by decide) (.inr (by decide)), U, show (4294967296 : Nat) = 2 ^ 32 from rfl, Nat.mul_assoc]
  rw [pow_split (EX - 84) 32 (EX - 52) (by rw [EX_eq])]
  exact pow_split 52 _ _ (by rw [EX_eq])

theorem pos_of_nat {n : Nat} (h : n ≠ 0) : 0 < n := by omega

/-- A RATIO OF WHOLE NUMBERS: its rung, and how far it is from what it should be. -/
theorem ratio_near (a b : Int) (ha : a.natAbs ≤ 2147483648) (hb : b.natAbs ≤ 2147483648) (h0 : b ≠ 0) :
    ∃ r, double.div (ofI a) (ofI b) = some (double.word (decide (a < 0) ^^ decide (b < 0)) r) ∧ r < 4890909195324358656 ∧ (a = 0 → r = 0) ∧
      (a ≠ 0 → 4463067230724161536 ≤ r ∧ ∃ V s, RoundsTo V s r ∧ V * b.natAbs * 9007199254740992 ≤ a.natAbs * U * 2 ^ s * 9007199254740993 ∧ a.natAbs * U * 2 ^ s * 9007199254740991 ≤ V * b.natAbs * 9007199254740992) := by
  obtain ⟨ra, ea, ma, ta, na, za⟩ := ofInt_exact a (by omega)
  obtain ⟨rb, eb, mb, tb, nb, zb⟩ := ofInt_exact b (by omega)
  have nb' := nb h0
  have hA : rg (ofI a) = ra := by unfold ofI; rw [ea, rg_word _ _ (by omega)]
  have hB : rg (ofI b) = rb := by unfold ofI; rw [eb, rg_word _ _ (by omega)]
  have sA : sg (ofI a) = decide (a < 0) := by unfold ofI; rw [ea, sg_word _ _ (by omega)]
  have sB : sg (ofI b) = decide (b < 0) := by unfold ofI; rw [eb, sg_word _ _ (by omega)]
  obtain ⟨r, s, e, V, hr, v1, v2⟩ := div_rounds (ofI a) (ofI b) (by omega) (by omega) (by omega)
  rw [hA, hB, ma, mb] at v1 v2
  rw [sA, sB] at e
  have hU := U_pos
  have hs : 0 < 2 ^ s := Nat.two_pow_pos _
  -- without the second's unit
  have w1 : V * b.natAbs * 9007199254740992 ≤ a.natAbs * U * 2 ^ s * 9007199254740993 := by
    refine cancel_le hU ?_
    have e1 : V * b.natAbs * 9007199254740992 * U = V * (b.natAbs * U) * 9007199254740992 := by ac_rfl
    have e2 : a.natAbs * U * 2 ^ s * 9007199254740993 * U = a.natAbs * U * U * 2 ^ s * 9007199254740993 := by ac_rfl
    rw [e1, e2]; exact v1
  have w2 : a.natAbs * U * 2 ^ s * 9007199254740991 ≤ V * b.natAbs * 9007199254740992 := by
    refine cancel_le hU ?_
    have e1 : V * b.natAbs * 9007199254740992 * U = V * (b.natAbs * U) * 9007199254740992 := by ac_rfl
    have e2 : a.natAbs * U * 2 ^ s * 9007199254740991 * U = a.natAbs * U * U * 2 ^ s * 9007199254740991 := by ac_rfl
    rw [e1, e2]; exact v2
  -- it is not too great
  obtain ⟨q, mq, _, tq⟩ := whole_rung 4294967296 (by decide) (by decide)
  have top : r ≤ q := by
    refine rounds_le hr ?_
    rw [mq]
    have x1 : V * 1 ≤ V * b.natAbs := Nat.mul_le_mul_left _ (by omega)
    have x2 : a.natAbs * (U * 2 ^ s) ≤ 2147483648 * (U * 2 ^ s) := Nat.mul_le_mul_right _ ha
    rw [Nat.mul_assoc a.natAbs] at w1
    rw [Nat.mul_assoc]
    generalize U * 2 ^ s = E at *
    generalize a.natAbs * E = F at *
    generalize V * b.natAbs = G at *
    omega
  refine ⟨r, by rw [e, Nat.min_eq_left (by omega)], by omega, fun h => ?_, fun h => ⟨?_, V, s, hr, w1, w2⟩⟩
  · refine Nat.le_zero.1 (rounds_le hr ?_)
    rw [mag_zero, Nat.zero_mul]
    rw [h, show (0 : Int).natAbs = 0 from rfl, Nat.zero_mul, Nat.zero_mul, Nat.zero_mul] at w1
    have x1 : V * 1 ≤ V * b.natAbs := Nat.mul_le_mul_left _ (by omega)
    generalize V * b.natAbs = G at *
    omega
  · refine rounds_ge hr ?_
    have x1 : V * b.natAbs ≤ V * 2147483648 := Nat.mul_le_mul_left _ hb
    have x2 : 1 * (U * 2 ^ s) ≤ a.natAbs * (U * 2 ^ s) := Nat.mul_le_mul_right _ (by omega)
    rw [Nat.mul_assoc a.natAbs] at w2
    have x3 : mag 4463067230724161536 * 2 ^ s * 4294967296 = U * 2 ^ s := by rw [Nat.mul_right_comm, mag_small]
    generalize mag 4463067230724161536 * 2 ^ s = M at *
    generalize U * 2 ^ s = E at *
    generalize a.natAbs * E = F at *
    generalize V * b.natAbs = G at *
    omega

/-- A RATIO TIMES ITS SECOND is within one of its first. -/
theorem ratio_back (a b : Int) (ha : a.natAbs ≤ 2147483648) (hb : b.natAbs ≤ 2147483648) (h0 : b ≠ 0) :
    ∃ z d, double.mul (quoB (ofI a) (ofI b)) (ofI b) = some z ∧ double.sub z (ofI a) = some d ∧ nanB d = false ∧ -4607182418800017408 ≤ key d ∧ key d ≤ 4607182418800017408 := by
  have hb0 : 0 < b.natAbs := by omega
  obtain ⟨r, e, tr, r0, r1⟩ := ratio_near a b ha hb h0
  obtain ⟨ra, ea, ma, ta, na, za⟩ := ofInt_exact a (by omega)
  obtain ⟨rb, eb, mb, tb, nb, zb⟩ := ofInt_exact b (by omega)
  have hA : rg (ofI a) = ra := by unfold ofI; rw [ea, rg_word _ _ (by omega)]
  have hB : rg (ofI b) = rb := by unfold ofI; rw [eb, rg_word _ _ (by omega)]
  have sA : sg (ofI a) = decide (a < 0) := by unfold ofI; rw [ea, sg_word _ _ (by omega)]
  have sB : sg (ofI b) = decide (b < 0) := by unfold ofI; rw [eb, sg_word _ _ (by omega)]
  have hx : quoB (ofI a) (ofI b) = double.word (decide (a < 0) ^^ decide (b < 0)) r := by unfold quoB; rw [e]; rfl
  rw [hx]
  have hU := U_pos
  obtain ⟨r2, s2, e2, V2, v2, hr2⟩ := mul_rounds (double.word (decide (a < 0) ^^ decide (b < 0)) r) (ofI b) (by rw [rg_word _ _ (by omega)]; omega) (by omega)
  rw [sg_word _ _ (by omega), sB] at e2
  rw [rg_word _ _ (by omega), hB, mb] at v2
  have v3 : V2 = mag r * b.natAbs * 2 ^ s2 := by
    refine Nat.eq_of_mul_eq_mul_right hU ?_
    rw [v2]; ac_rfl
  have hsg : ((decide (a < 0) ^^ decide (b < 0)) ^^ decide (b < 0)) = decide (a < 0) := by
    cases decide (a < 0) <;> cases decide (b < 0) <;> rfl
  rw [hsg] at e2
  -- the product's rung against the first
  have near : r2 < 9218868437227405312 ∧ mag r2 ≤ a.natAbs * U + U ∧ a.natAbs * U ≤ mag r2 + U := by
    by_cases h : a = 0
    · have : V2 = 0 := by rw [v3, r0 h, mag_zero, Nat.zero_mul, Nat.zero_mul]
      have z : r2 = 0 := Nat.le_zero.1 (rounds_le hr2 (by omega))
      rw [z, h, mag_zero]; simp
    · obtain ⟨rl, V, s, hr, w1, w2⟩ := r1 h
      obtain ⟨n1, n2⟩ := rounds_near hr (by omega)
      have hs : 0 < 2 ^ s := Nat.two_pow_pos _
      have hs2 : 0 < 2 ^ s2 := Nat.two_pow_pos _
      have p1 : mag r * b.natAbs * 9007199254740991 ≤ a.natAbs * U * 9007199254740993 := by
        refine cancel_le hs ?_
        have k := Nat.mul_le_mul_right b.natAbs n2
        have e3 : mag r * 2 ^ s * 9007199254740991 * b.natAbs = mag r * b.natAbs * 9007199254740991 * 2 ^ s := by ac_rfl
        have e4 : V * 9007199254740992 * b.natAbs = V * b.natAbs * 9007199254740992 := by ac_rfl
        have e5 : a.natAbs * U * 9007199254740993 * 2 ^ s = a.natAbs * U * 2 ^ s * 9007199254740993 := by ac_rfl
        rw [e3, e4] at k
        rw [e5]; exact Nat.le_trans k w1
      have p2 : a.natAbs * U * 9007199254740991 ≤ mag r * b.natAbs * 9007199254740993 := by
        refine cancel_le hs ?_
        have k := Nat.mul_le_mul_right b.natAbs n1
        have e3 : mag r * 2 ^ s * 9007199254740993 * b.natAbs = mag r * b.natAbs * 9007199254740993 * 2 ^ s := by ac_rfl
        have e4 : V * 9007199254740992 * b.natAbs = V * b.natAbs * 9007199254740992 := by ac_rfl
        have e5 : a.natAbs * U * 9007199254740991 * 2 ^ s = a.natAbs * U * 2 ^ s * 9007199254740991 := by ac_rfl
        rw [e3, e4] at k
        rw [e5]; exact Nat.le_trans w2 k
      have aU : a.natAbs * U ≤ 2147483648 * U := Nat.mul_le_mul_right _ ha
      have rge : r ≤ r2 := by
        refine rounds_ge hr2 ?_
        rw [v3]
        exact Nat.mul_le_mul_right _ (Nat.le_mul_of_pos_right _ hb0)
      obtain ⟨q1, q2⟩ := rounds_near hr2 (by omega)
      rw [v3] at q1 q2
      have q1' : mag r * b.natAbs * 9007199254740992 ≤ mag r2 * 9007199254740993 := by
        refine cancel_le hs2 ?_
        have e3 : mag r * b.natAbs * 9007199254740992 * 2 ^ s2 = mag r * b.natAbs * 2 ^ s2 * 9007199254740992 := by ac_rfl
        have e4 : mag r2 * 9007199254740993 * 2 ^ s2 = mag r2 * 2 ^ s2 * 9007199254740993 := by ac_rfl
        rw [e3, e4]; exact q1
      have q2' : mag r2 * 9007199254740991 ≤ mag r * b.natAbs * 9007199254740992 := by
        refine cancel_le hs2 ?_
        have e3 : mag r * b.natAbs * 9007199254740992 * 2 ^ s2 = mag r * b.natAbs * 2 ^ s2 * 9007199254740992 := by ac_rfl
        have e4 : mag r2 * 9007199254740991 * 2 ^ s2 = mag r2 * 2 ^ s2 * 9007199254740991 := by ac_rfl
        rw [e3, e4]; exact q2
      obtain ⟨q, mq, _, tq⟩ := whole_rung 4294967296 (by decide) (by decide)
      have top : r2 ≤ q := by
        refine rounds_le hr2 ?_
        rw [mq, v3]
        refine Nat.mul_le_mul_right _ ?_
        generalize mag r * b.natAbs = G at *
        generalize a.natAbs * U = F at *
        omega
      generalize mag r * b.natAbs = G at *
      generalize a.natAbs * U = F at *
      generalize mag r2 = Z at *
      omega
  obtain ⟨g1, g2, g3⟩ := near
  rw [Nat.min_eq_left (by omega)] at e2
  obtain ⟨d, ed, k1, k2, k3⟩ := sub_near (double.word (decide (a < 0)) r2) (ofI a) (by rw [rg_word _ _ (by omega)]; omega) (by omega) (by rw [sg_word _ _ (by omega), sA])
    (by rw [rg_word _ _ (by omega), hA, ma]; exact g2) (by rw [rg_word _ _ (by omega), hA, ma]; exact g3)
  exact ⟨_, d, e2, ed, k1, k2, k3⟩

theorem kind_word (s : Bool) (r : Nat) (h0 : 0 < r) (h : r < 9218868437227405312) : kindI (double.word s r) = if s then 2 else 4 := by
  have h1 := sg_word s r (by omega)
  have h2 := rg_word s r (by omega)
  rcases kind_says (double.word s r) with k | k | k | k | k | k
  · have := k.2; rw [nan_word s r (by omega)] at this; cases this
  · omega
  · rw [k.1]; rw [h1] at k; simp [k]
  · omega
  · rw [k.1]; rw [h1] at k; simp [k]
  · omega

theorem kind_nought (s : Bool) : kindI (double.word s 0) = 3 := by cases s <;> decide

theorem neg_is_word (s : Bool) (r : Nat) (h : r < 9223372036854775808) : Op.negFloat .f64 (double.word s r) = double.word (!s) r := by
  obtain ⟨n1, n2, n3⟩ := neg_word (double.word s r) (word_lt64 s r h)
  rw [← word_of _ n3, n1, n2, sg_word s r h, rg_word s r h]

/-- ALL THAT THE STATEMENT ON RATIOS ASKS, of a second that is not nought. -/
theorem ratio_facts (a b : Int) (ha : a.natAbs ≤ 2147483648) (hb : b.natAbs ≤ 2147483648) (h0 : b ≠ 0) :
    ∃ X Y z d, ratioB a b = X ∧ ratioB (-a) b = Y ∧ X < 18446744073709551616 ∧ Y < 18446744073709551616 ∧ Op.negFloat .f64 X < 18446744073709551616 ∧
      kindI X = (if a = 0 then 3 else if (decide (a < 0) ^^ decide (b < 0)) then 2 else 4) ∧ (a ≠ 0 → sameB Y (Op.negFloat .f64 X) = true) ∧
      floatBits .mul .f64 X (floatOfInt .f64 b) = some z ∧ floatBits .sub .f64 z (floatOfInt .f64 a) = some d ∧
      (FloatKind.f64.format.order d 4607182418800017408 == some .lt || FloatKind.f64.format.order d 4607182418800017408 == some .eq) = true ∧
      (FloatKind.f64.format.order d 13830554455654793216 == some .gt || FloatKind.f64.format.order d 13830554455654793216 == some .eq) = true := by
  obtain ⟨r, e, tr, r0, r2⟩ := ratio_near a b ha hb h0
  have r1 : a ≠ 0 → 4463067230724161536 ≤ r := fun h => (r2 h).1
  clear r2
  obtain ⟨z, d, em, es, k1, k2, k3⟩ := ratio_back a b ha hb h0
  obtain ⟨a1, a2, a3, a4, a5⟩ := sg_ofI a (by omega)
  obtain ⟨c1, c2, c3, c4, c5⟩ := sg_ofI (-a) (by omega)
  obtain ⟨b1, b2, b3, b4, b5⟩ := sg_ofI b (by omega)
  have hX : ratioB a b = double.word (decide (a < 0) ^^ decide (b < 0)) r := by unfold ratioB; rw [if_neg h0]; unfold quoB; rw [e]; rfl
  have hX2 : quoB (ofI a) (ofI b) = double.word (decide (a < 0) ^^ decide (b < 0)) r := by unfold quoB; rw [e]; rfl
  have hY : ratioB (-a) b = quoB (ofI (-a)) (ofI b) := by unfold ratioB; rw [if_neg h0]
  have hYl := (quo_is (-a) b (by omega) (by omega) h0).2.1
  refine ⟨_, _, z, d, hX, hY, word_lt64 _ _ (by omega), hYl, (neg_word _ (word_lt64 _ _ (by omega))).2.2, ?_, fun h => ?_, ?_, ?_, ?_, ?_⟩
  · by_cases h : a = 0
    · rw [r0 h, if_pos h]; exact kind_nought _
    · rw [if_neg h]
      have := r1 h
      exact kind_word _ _ (by omega) (by omega)
  · have hneg : decide (-a < 0) = !decide (a < 0) := by
      by_cases g : a < 0
      · rw [decide_eq_true g, decide_eq_false (by omega)]; rfl
      · rw [decide_eq_false g, decide_eq_true (by omega)]; rfl
    have hrg : rg (ofI (-a)) = rg (ofI a) := by
      obtain ⟨x, ex, mx, tx, _, _⟩ := ofInt_exact a (by omega)
      obtain ⟨y, ey, my, ty, _, _⟩ := ofInt_exact (-a) (by omega)
      unfold ofI
      rw [ex, ey, rg_word _ _ (by omega), rg_word _ _ (by omega)]
      have hm : mag y = mag x := by rw [mx, my, Int.natAbs_neg]
      rcases Nat.lt_trichotomy x y with g | g | g
      · have := mag_mono g; omega
      · exact g.symm
      · have := mag_mono g; omega
    obtain ⟨R, f1, f2⟩ := div_flip (ofI a) (ofI (-a)) (ofI b) (by omega) hrg (by rw [c1, a1, hneg]) (by omega) (by have := b4 h0; omega)
    rw [e, a1, b1] at f1
    rw [a1, b1] at f2
    have hR : double.word (decide (a < 0) ^^ decide (b < 0)) R = double.word (decide (a < 0) ^^ decide (b < 0)) r := (Option.some.inj f1).symm
    have hR2 : R = r := by
      rw [word_eq, word_eq] at hR
      split at hR <;> omega
    have q : quoB (ofI (-a)) (ofI b) = double.word (!(decide (a < 0) ^^ decide (b < 0))) r := by
      unfold quoB; rw [f2, hR2]; rfl
    rw [q, neg_is_word _ _ (by omega)]
    unfold sameB; rw [decide_eq_true rfl]
  · rw [← hX2]; exact em
  · exact es
  · rw [order_lt, order_eq]; unfold ltB eqB
    rw [k1, show nanB 4607182418800017408 = false from by decide, show key 4607182418800017408 = 4607182418800017408 from by decide]
    simp only [Bool.not_false, Bool.true_and]
    by_cases c : key d = 4607182418800017408
    · rw [decide_eq_true c]; simp
    · rw [decide_eq_true (show key d < 4607182418800017408 by omega)]; rfl
  · rw [order_gt, order_eq]; unfold ltB eqB
    rw [k1, show nanB 13830554455654793216 = false from by decide, show key 13830554455654793216 = -4607182418800017408 from by decide]
    simp only [Bool.not_false, Bool.true_and]
    by_cases c : key d = -4607182418800017408
    · rw [decide_eq_true c]; simp
    · rw [decide_eq_true (show -4607182418800017408 < key d by omega)]; rfl

end Go.Proofs.Ythpbdgdbgohooaa.Fl
