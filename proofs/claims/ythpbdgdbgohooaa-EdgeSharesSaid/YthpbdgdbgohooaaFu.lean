/- Floats of 64 bits: shares rise with the share; so many of so many is the whole share but one. Plain: nothing of the program. -/
import Derived.Test.YthpbdgdbgohooaaFt
namespace Go.Proofs.Ythpbdgdbgohooaa.Fl
open Ieee

theorem key_of_kind (x : Nat) (h : 3 ≤ kindI x) : nanB x = false ∧ key x = rg x ∧ tkey x = (if sg x then -1 else (rg x : Int)) := by
  unfold key tkey
  rcases kind_says x with k | k | k | k | k | k
  · omega
  · omega
  · omega
  · rw [k.2.1, k.2.2]; cases sg x <;> simp
  · rw [k.2.1, k.2.2.1]; simp
  · rw [k.2.1, k.2.2.1]; simp

theorem share_range (x : Nat) (n : Int) (hn : 1 ≤ n) (hn2 : n ≤ 9223372036854775807) : 0 ≤ shareI x n ∧ shareI x n ≤ n - 1 := by
  unfold shareI
  by_cases h : n < 1 ∨ kindI x < 3
  · rw [if_pos h]; omega
  · rw [if_neg h]
    by_cases h2 : 4607182418800017408 ≤ key x
    · rw [if_pos h2]; omega
    · rw [if_neg h2]
      obtain ⟨d1, d2⟩ := share_dom x (by omega) (by omega)
      obtain ⟨_, _, c3, c4⟩ := cut_is x n d1 d2 hn hn2
      split <;> omega

theorem cut_mono (x y : Nat) (n : Int) (hx : rg x < 4607182418800017408) (sx : sg x = true → rg x = 0) (hy : rg y < 4607182418800017408) (sy : sg y = true → rg y = 0) (h : rg x ≤ rg y)
    (hn : 1 ≤ n) (hn2 : n ≤ 9223372036854775807) : cutI x n ≤ cutI y n := by
  obtain ⟨r, s, V, e, hr, hv, _, f, _⟩ := share_cut x n hx sx hn hn2
  obtain ⟨r', s', V', e', hr', hv', _, f', _⟩ := share_cut y n hy sy hn hn2
  have p1 : prodB x (ofI n) = double.word (sg x) r := by unfold prodB; rw [e]; rfl
  have p2 : prodB y (ofI n) = double.word (sg y) r' := by unfold prodB; rw [e']; rfl
  have q1 : cutI x n = ((mag r / U : Nat) : Int) := by unfold cutI toI; rw [p1, f]; rfl
  have q2 : cutI y n = ((mag r' / U : Nat) : Int) := by unfold cutI toI; rw [p2, f']; rfl
  rw [q1, q2]
  have hle : r ≤ r' := by
    refine rounds_mono hr hr' ?_
    refine cancel_le U_pos ?_
    have e1 : V * 2 ^ s' * U = V * U * 2 ^ s' := by ac_rfl
    have e2 : V' * 2 ^ s * U = V' * U * 2 ^ s := by ac_rfl
    rw [e1, e2, hv, hv']
    have k := Nat.mul_le_mul_right (mag (rg (ofI n)) * (2 ^ s * 2 ^ s')) (mag_le h)
    have e3 : mag (rg x) * mag (rg (ofI n)) * 2 ^ s * 2 ^ s' = mag (rg x) * (mag (rg (ofI n)) * (2 ^ s * 2 ^ s')) := by ac_rfl
    have e4 : mag (rg y) * mag (rg (ofI n)) * 2 ^ s' * 2 ^ s = mag (rg y) * (mag (rg (ofI n)) * (2 ^ s * 2 ^ s')) := by ac_rfl
    rw [e3, e4]; exact k
  have := Nat.div_le_div_right (c := U) (mag_le hle)
  exact Int.ofNat_le.2 this

/-- A SHARE RISES WITH THE SHARE. -/
theorem share_mono (x y : Nat) (n : Int) (h : tkey x ≤ tkey y) (hn : 1 ≤ n) (hn2 : n ≤ 9223372036854775807) : shareI x n ≤ shareI y n := by
  have ry := share_range y n hn hn2
  by_cases hx3 : kindI x < 3
  · have : shareI x n = 0 := by unfold shareI; rw [if_pos (.inr hx3)]
    omega
  · have hk : kindI x ≤ kindI y := Int.not_lt.1 fun g => by have := tkey_kind_lt g; omega
    obtain ⟨nx, kx, tx⟩ := key_of_kind x (by omega)
    obtain ⟨ny, ky, ty⟩ := key_of_kind y (by omega)
    by_cases hx1 : 4607182418800017408 ≤ key x
    · have hy1 : 4607182418800017408 ≤ key y := by
        rw [tx, ty] at h
        have : sg x = false := by
          cases c : sg x
          · rfl
          · exfalso
            unfold key at hx1; rw [c] at hx1; simp only [if_true] at hx1; omega
        rw [this] at h
        simp only [Bool.false_eq_true, if_false] at h
        split at h <;> omega
      unfold shareI
      rw [if_neg (by omega), if_pos hx1, if_neg (by omega), if_pos hy1]; omega
    · by_cases hy1 : 4607182418800017408 ≤ key y
      · have := share_range x n hn hn2
        have e : shareI y n = n - 1 := by unfold shareI; rw [if_neg (by omega), if_pos hy1]
        omega
      · obtain ⟨d1, d2⟩ := share_dom x (by omega) (by omega)
        obtain ⟨d3, d4⟩ := share_dom y (by omega) (by omega)
        have hle : rg x ≤ rg y := by
          rw [tx, ty] at h
          cases c : sg x
          · rw [c] at h; simp only [Bool.false_eq_true, if_false] at h
            split at h <;> omega
          · have := d2 c; omega
        have := cut_mono x y n d1 d2 d3 d4 hle hn hn2
        have ex : shareI x n = if n - 1 < cutI x n then n - 1 else cutI x n := by unfold shareI; rw [if_neg (by omega), if_neg hx1]
        have ey : shareI y n = if n - 1 < cutI y n then n - 1 else cutI y n := by unfold shareI; rw [if_neg (by omega), if_neg hy1]
        rw [ex, ey]
        split <;> split <;> omega

theorem arr2 (c P E d u : Nat) (h : P * d = u) : c * P * E * d = u * E * c := by rw [← h]; ac_rfl

/-- So many and a half of so many. -/
theorem share_mid (i k : Nat) (hk : k ≤ 65536) (hi : 2 * i + 1 ≤ k) : shareI (ratioB (2 * i + 1 : Nat) (2 * k : Nat)) k = i := by
  have h0 : ((2 * k : Nat) : Int) ≠ 0 := by omega
  have hna : ((2 * i + 1 : Nat) : Int).natAbs = 2 * i + 1 := rfl
  have hnb : ((2 * k : Nat) : Int).natAbs = 2 * k := rfl
  obtain ⟨r, e, tr, _, r1⟩ := ratio_near (2 * i + 1 : Nat) (2 * k : Nat) (by omega) (by omega) h0
  obtain ⟨rl, V, s, hr, w1, w2⟩ := r1 (by omega)
  clear r1
  rw [hna, hnb] at w1 w2
  have hx : ratioB (2 * i + 1 : Nat) (2 * k : Nat) = double.word false r := by
    unfold ratioB; rw [if_neg h0]; unfold quoB; rw [e, decide_eq_false (by omega), decide_eq_false (by omega)]; rfl
  rw [hx]
  have hU := U_pos
  have hs : 0 < 2 ^ s := Nat.two_pow_pos _
  obtain ⟨n1, n2⟩ := rounds_near hr (by omega)
  -- below one
  obtain ⟨q1, q2, q3⟩ := pow_EX
  have top : r ≤ 4607182418800017407 := by
    refine rounds_le hr ?_
    have x1 : (2 * i + 1) * (U * 2 ^ s) ≤ k * (U * 2 ^ s) := Nat.mul_le_mul_right _ hi
    have x2 : V * (2 * k) * 9007199254740992 ≤ k * (U * 2 ^ s) * 9007199254740993 := by
      refine Nat.le_trans w1 ?_
      rw [Nat.mul_assoc (2 * i + 1)]
      exact Nat.mul_le_mul_right _ x1
    have x3 : V * 2 * 9007199254740992 ≤ U * 2 ^ s * 9007199254740993 := by
      refine cancel_le (c := k) (by omega) ?_
      have e1 : V * 2 * 9007199254740992 * k = V * (2 * k) * 9007199254740992 := by ac_rfl
      have e2 : U * 2 ^ s * 9007199254740993 * k = k * (U * 2 ^ s) * 9007199254740993 := by ac_rfl
      rw [e1, e2]; exact x2
    have x4 : mag 4607182418800017407 * 2 ^ s * 9007199254740992 = U * 2 ^ s * 9007199254740991 := by
      rw [mag_below_one]; exact arr2 _ _ _ _ _ q1
    clear q1 q2 q3 x1 x2 w1 w2 n1 n2 e hr hx tr
    generalize mag 4607182418800017407 * 2 ^ s = M at *
    generalize U * 2 ^ s = E at *
    omega
  -- the share's product
  have hrg : rg (double.word false r) = r := rg_word _ _ (by omega)
  have hsg : sg (double.word false r) = false := sg_word _ _ (by omega)
  obtain ⟨r2, s2, V2, e2, hr2, v2, t2, f2, _⟩ := share_cut (double.word false r) k (by omega) (by rw [hsg]; intro g; cases g) (by omega) (by omega)
  obtain ⟨rb, eb, mb, tb, _, _⟩ := ofInt_exact (k : Int) (by omega)
  have hB : rg (ofI k) = rb := by unfold ofI; rw [eb, rg_word _ _ (by omega)]
  rw [hrg, hB, mb, show ((k : Nat) : Int).natAbs = k from rfl] at v2
  have v3 : V2 = mag r * k * 2 ^ s2 := by
    refine Nat.eq_of_mul_eq_mul_right hU ?_
    rw [v2]; ac_rfl
  have hs2 : 0 < 2 ^ s2 := Nat.two_pow_pos _
  have rge : r ≤ r2 := by
    refine rounds_ge hr2 ?_
    rw [v3]
    exact Nat.mul_le_mul_right _ (Nat.le_mul_of_pos_right _ (by omega))
  obtain ⟨g1, g2⟩ := rounds_near hr2 (by omega)
  have p1 : mag r * k * 2 * 9007199254740991 ≤ (2 * i + 1) * U * 9007199254740993 := by
    refine cancel_le hs ?_
    have kk := Nat.mul_le_mul_right (2 * k) n2
    have e3 : mag r * 2 ^ s * 9007199254740991 * (2 * k) = mag r * k * 2 * 9007199254740991 * 2 ^ s := by ac_rfl
    have e4 : V * 9007199254740992 * (2 * k) = V * (2 * k) * 9007199254740992 := by ac_rfl
    have e5 : (2 * i + 1) * U * 9007199254740993 * 2 ^ s = (2 * i + 1) * U * 2 ^ s * 9007199254740993 := by ac_rfl
    rw [e3, e4] at kk
    rw [e5]; exact Nat.le_trans kk w1
  have p2 : (2 * i + 1) * U * 9007199254740991 ≤ mag r * k * 2 * 9007199254740993 := by
    refine cancel_le hs ?_
    have kk := Nat.mul_le_mul_right (2 * k) n1
    have e3 : mag r * 2 ^ s * 9007199254740993 * (2 * k) = mag r * k * 2 * 9007199254740993 * 2 ^ s := by ac_rfl
    have e4 : V * 9007199254740992 * (2 * k) = V * (2 * k) * 9007199254740992 := by ac_rfl
    have e5 : (2 * i + 1) * U * 9007199254740991 * 2 ^ s = (2 * i + 1) * U * 2 ^ s * 9007199254740991 := by ac_rfl
    rw [e3, e4] at kk
    rw [e5]; exact Nat.le_trans w2 kk
  rw [v3] at g1 g2
  have g1' : mag r * k * 9007199254740992 ≤ mag r2 * 9007199254740993 := by
    refine cancel_le hs2 ?_
    have e3 : mag r * k * 9007199254740992 * 2 ^ s2 = mag r * k * 2 ^ s2 * 9007199254740992 := by ac_rfl
    have e4 : mag r2 * 9007199254740993 * 2 ^ s2 = mag r2 * 2 ^ s2 * 9007199254740993 := by ac_rfl
    rw [e3, e4]; exact g1
  have g2' : mag r2 * 9007199254740991 ≤ mag r * k * 9007199254740992 := by
    refine cancel_le hs2 ?_
    have e3 : mag r * k * 9007199254740992 * 2 ^ s2 = mag r * k * 2 ^ s2 * 9007199254740992 := by ac_rfl
    have e4 : mag r2 * 9007199254740991 * 2 ^ s2 = mag r2 * 2 ^ s2 * 9007199254740991 := by ac_rfl
    rw [e3, e4]; exact g2
  have iU : i * U ≤ 65536 * U := Nat.mul_le_mul_right _ (by omega)
  have ex : (2 * i + 1) * U = 2 * (i * U) + U := by rw [Nat.add_mul, Nat.one_mul, Nat.mul_assoc]
  rw [ex] at p1 p2
  have lo : i * U ≤ mag r2 := by
    generalize mag r * k = G at *
    generalize i * U = I at *
    generalize mag r2 = Z at *
    omega
  have hi2 : mag r2 < i * U + U := by
    generalize mag r * k = G at *
    generalize i * U = I at *
    generalize mag r2 = Z at *
    omega
  have hq : mag r2 / U = i := by
    refine Nat.div_eq_of_lt_le lo ?_
    rw [Nat.add_mul, Nat.one_mul]; exact hi2
  have hp : prodB (double.word false r) (ofI k) = double.word (sg (double.word false r)) r2 := by unfold prodB; rw [e2]; rfl
  have hc : cutI (double.word false r) k = i := by unfold cutI toI; rw [hp, f2, hq]; rfl
  have hkd : kindI (double.word false r) = 4 := by
    have := kind_word false r (by omega) (by omega)
    simpa using this
  unfold shareI
  rw [if_neg (by omega), if_neg (by rw [key_word _ _ (by omega)]; simp; omega), hc]
  rw [if_neg (by omega)]

theorem share_one (k : Nat) (hk : 1 ≤ k) : shareI 4607182418800017408 k = k - 1 := by
  unfold shareI
  rw [show kindI 4607182418800017408 = 4 from by decide, show key 4607182418800017408 = 4607182418800017408 from by decide]
  rw [if_neg (by omega), if_pos (by omega)]

theorem share_nought (k : Nat) (hk : 1 ≤ k) (hk2 : k ≤ 65536) : shareI 0 k = 0 := by
  obtain ⟨r, s, V, e, hr, hv, _, f, _⟩ := share_cut 0 k (by decide) (by intro g; exact rfl) (by omega) (by omega)
  rw [show rg 0 = 0 from rfl, mag_zero, Nat.zero_mul, Nat.zero_mul] at hv
  have hV : V = 0 := by
    rcases Nat.mul_eq_zero.1 hv with h | h
    · exact h
    · have := U_pos; omega
  have hr0 : r = 0 := Nat.le_zero.1 (rounds_le hr (by rw [hV]; omega))
  have hp : prodB 0 (ofI k) = double.word (sg 0) r := by unfold prodB; rw [e]; rfl
  have hc : cutI 0 k = 0 := by unfold cutI toI; rw [hp, f, hr0, mag_zero, Nat.zero_div]; rfl
  unfold shareI
  rw [show kindI 0 = 3 from by decide, show key 0 = 0 from by decide, hc]
  rw [if_neg (by omega), if_neg (by omega)]
  split <;> omega

end Go.Proofs.Ythpbdgdbgohooaa.Fl
