/- EdgeMost: the walk. -/
import Derived.Test.YthpbdgdbgohooaaEdgeE
import Derived.Test.YthpbdgdbgohooaaReckonsW
import Derived.Test.YthpbdgdbgohooaaOpen
namespace Go.Proofs.Ythpbdgdbgohooaa.Edge
open Go.RowKit Fl Go.Proofs.Ythpbdgdbgohooaa.Open

/-- Is m among the first k? -/
def inB (z : Nat → Nat) (m : Nat) : Nat → Bool
  | 0 => false
  | k + 1 => inB z m k || sameB (z k) m

theorem inB_mem (z : Nat → Nat) (m : Nat) : ∀ k i, i < k → z i = m → inB z m k = true
  | 0, i, h, _ => by omega
  | k + 1, i, h, e => by
    unfold inB
    by_cases c : i = k
    · subst c; rw [e, sameB_self]; simp
    · rw [inB_mem z m k i (by omega) e]; rfl

theorem clamp_one (x lo hi : Nat) : sameB (clampB x lo hi) x = true ∨ (sameB (clampB x lo hi) x = false ∧ sameB (clampB x lo hi) lo = true) ∨
    (sameB (clampB x lo hi) x = false ∧ sameB (clampB x lo hi) lo = false ∧ sameB (clampB x lo hi) hi = true) := by
  cases h : sameB (clampB x lo hi) x
  · right
    cases g : sameB (clampB x lo hi) lo
    · right
      refine ⟨rfl, rfl, ?_⟩
      unfold clampB at h g ⊢
      split at h
      · rename_i c; rw [if_pos c, sameB_self] at g; cases g
      · rename_i c
        rw [if_neg c]
        split at h
        · rename_i c2; rw [if_pos c2]; exact sameB_self _
        · rw [sameB_self] at h; cases h
    · left; exact ⟨rfl, rfl⟩
  · left; rfl

theorem clamp_fine (x lo hi : Nat) :
    (nanB lo = true ∧ sameB (clampB x lo hi) lo = true) ∨ (nanB lo = false ∧ nanB hi = true ∧ sameB (clampB x lo hi) lo = true) ∨
    (nanB lo = false ∧ nanB hi = false ∧ decide (cmpI (tkey lo) (tkey hi) ≤ 0) = false ∧ sameB (clampB x lo hi) lo = true) ∨
    (nanB lo = false ∧ nanB hi = false ∧ decide (cmpI (tkey lo) (tkey hi) ≤ 0) = true ∧ decide (0 ≤ cmpI (tkey (clampB x lo hi)) (tkey lo)) = true ∧ decide (cmpI (tkey (clampB x lo hi)) (tkey hi) ≤ 0) = true) := by
  have lo_self : ∀ y, clampB x lo hi = y → y = lo → sameB (clampB x lo hi) lo = true := fun y e e' => by rw [e, e']; exact sameB_self _
  cases h1 : nanB lo
  · cases h2 : nanB hi
    · right; right
      by_cases c : tkey hi < tkey lo
      · left
        refine ⟨rfl, rfl, ?_, ?_⟩
        · rw [cmpI_gt c]; rfl
        · unfold clampB; rw [if_pos (.inr (.inr (.inr (.inl c))))]; exact sameB_self _
      · right
        have le : ∀ a b : Int, a ≤ b → decide (cmpI a b ≤ 0) = true := fun a b h => by
          unfold cmpI; split
          · rfl
          · rw [if_pos (by omega)]; rfl
        have ge : ∀ a b : Int, b ≤ a → decide (0 ≤ cmpI a b) = true := fun a b h => by
          unfold cmpI; rw [if_neg (by omega)]; split <;> rfl
        refine ⟨rfl, rfl, le _ _ (by omega), ?_, ?_⟩
        · refine ge _ _ ?_
          unfold clampB; split
          · omega
          · rename_i n
            split
            · omega
            · exact Int.not_lt.1 fun g => n (.inr (.inr (.inr (.inr g))))
        · refine le _ _ ?_
          unfold clampB; split
          · omega
          · split
            · omega
            · omega
    · right; left
      refine ⟨rfl, rfl, ?_⟩
      unfold clampB; rw [if_pos (.inr (.inr (.inl h2)))]; exact sameB_self _
  · left
    refine ⟨rfl, ?_⟩
    unfold clampB; rw [if_pos (.inr (.inl h1))]; exact sameB_self _

theorem kind_ne (b : Nat) : (kindI b != 0) = !nanB b := by rw [← kind_zero]; rfl

theorem kind_facts (x lo hi c : Nat) (e : clampB x lo hi = c) :
    (sameB c x = true ∨ (sameB c x = false ∧ sameB c lo = true) ∨ (sameB c x = false ∧ sameB c lo = false ∧ sameB c hi = true)) ∧
    (((kindI lo != 0) = false ∧ sameB c lo = true) ∨ ((kindI lo != 0) = true ∧ (kindI hi != 0) = false ∧ sameB c lo = true) ∨
    ((kindI lo != 0) = true ∧ (kindI hi != 0) = true ∧ decide (cmpI (tkey lo) (tkey hi) ≤ 0) = false ∧ sameB c lo = true) ∨
    ((kindI lo != 0) = true ∧ (kindI hi != 0) = true ∧ decide (cmpI (tkey lo) (tkey hi) ≤ 0) = true ∧ decide (0 ≤ cmpI (tkey c) (tkey lo)) = true ∧ decide (cmpI (tkey c) (tkey hi) ≤ 0) = true)) := by
  subst e
  refine ⟨clamp_one x lo hi, ?_⟩
  have h := clamp_fine x lo hi
  rw [kind_ne, kind_ne]
  rcases h with h | h | h | h
  · left; simp [h]
  · right; left; simp [h]
  · right; right; left; simp [h]
  · right; right; right; simp [h]

set_option maxHeartbeats 4000000 in
set_option maxRecDepth 100000 in
theorem most_none (a : Option Addr) (cap : Nat) (x y u : Nat) (w : World)
    (hx : x < 18446744073709551616) (hy : y < 18446744073709551616) (hu : u < 18446744073709551616) :
    Calls Try.prog 7 #[.slice a 0 cap, .agg #[.float .f64 x, .float .f64 y, .float .f64 u]] w fun e w' => e = .returned (.bool true) ∧ Below w.heap.size w w' := by
  have hfew : 0 ≤ 200 := by omega
  have hc := clamp_lt hx hy hu
  obtain ⟨k1, k2⟩ := kind_facts x y u _ rfl
  generalize hcv : clampB x y u = c at *
  have HCV := Lib.hid hcv
  clear hcv
  have K1 := Lib.hid k1
  have K2 := Lib.hid k2
  clear k1 k2
  go_enter Try.func7, Try.ntmps7
  go_wp2_with (first | (go_at_call 9; refine (awake_any _).mono ?_; rintro e w' ⟨rfl, rfl⟩) | (go_at_call 28; refine (few_yes _ _ _ hfew _).mono ?_; rintro e w' ⟨rfl, rfl⟩) | (go_at_call 12; refine (max_none _ _ _).mono ?_; rintro e w' ⟨rfl, rfl⟩))
  go_loop [7, 8] (fun n i => n = .bool false ∧ i = .int .i64 0) (fun _ _ => 0)
  case atStart => exact ⟨rfl, rfl⟩
  case round =>
    obtain ⟨rfl, rfl⟩ := hrel
    rcases K1.out with s | ⟨s, s'⟩ | ⟨s, s', s''⟩ <;> rcases K2.out with ⟨g1, g2⟩ | ⟨g1, g2, g3⟩ | ⟨g1, g2, g3, g4⟩ | ⟨g1, g2, g3, g4, g5⟩
    all_goals (first | exact (Bool.false_ne_true (s'.symm.trans g2)).elim | skip)
    all_goals (first | exact (Bool.false_ne_true (s'.symm.trans g3)).elim | skip)
    all_goals (first | exact (Bool.false_ne_true (s'.symm.trans g4)).elim | skip)
    all_goals
      go_wp2_with (first | (go_at_call 18; refine (clamp_any _ _ _ hx hy hu _).mono ?_; rintro e w' ⟨rfl, rfl⟩; rw [HCV.out]) | (go_at_call_of 15 (Value.float .f64 x); refine (lsame_any _ _ hc hx _).mono ?_; rintro e w' ⟨rfl, rfl⟩) | (go_at_call_of 15 (Value.float .f64 y); refine (lsame_any _ _ hc hy _).mono ?_; rintro e w' ⟨rfl, rfl⟩) | (go_at_call_of 15 (Value.float .f64 u); refine (lsame_any _ _ hc hu _).mono ?_; rintro e w' ⟨rfl, rfl⟩) | (go_at_call_of 20 (Value.float .f64 y); refine (kind_any _ hy _).mono ?_; rintro e w' ⟨rfl, rfl⟩) | (go_at_call_of 20 (Value.float .f64 u); refine (kind_any _ hu _).mono ?_; rintro e w' ⟨rfl, rfl⟩) | (go_at_call_of 14 (Value.float .f64 c); go_at_call_of 14 (Value.float .f64 y); refine (compare_any _ _ hc hy _).mono ?_; rintro e w' ⟨rfl, rfl⟩) | (go_at_call_of 14 (Value.float .f64 c); refine (compare_any _ _ hc hu _).mono ?_; rintro e w' ⟨rfl, rfl⟩) | (go_at_call_of 14 (Value.float .f64 y); refine (compare_any _ _ hy hu _).mono ?_; rintro e w' ⟨rfl, rfl⟩))
      go_ret
      exact ⟨rfl, (Below.refl _ _).alloc (Nat.le_refl _) _⟩

set_option maxHeartbeats 4000000 in
set_option maxRecDepth 100000 in
theorem most_some (b off n cap : Nat) (z : Nat → Nat) (x y u : Nat) (w : World) (hfew : n + 1 ≤ 200) (hcap : n + 1 ≤ cap) (hmax : cap ≤ 9223372036854775807) (hb : b < w.heap.size)
    (hcell : ∀ i, i < n + 1 → w.cell? ⟨b, off + i, none⟩ = some (.float .f64 (z i))) (hz : ∀ i, i < n + 1 → z i < 18446744073709551616)
    (hx : x < 18446744073709551616) (hy : y < 18446744073709551616) (hu : u < 18446744073709551616) :
    Calls Try.prog 7 #[.slice (some ⟨b, off, none⟩) (n + 1) cap, .agg #[.float .f64 x, .float .f64 y, .float .f64 u]] w fun e w' => e = .returned (.bool true) ∧ Below w.heap.size w w' := by
  have hc := clamp_lt hx hy hu
  obtain ⟨k1, k2⟩ := kind_facts x y u _ rfl
  generalize hcv : clampB x y u = c at *
  have HCV := Lib.hid hcv
  clear hcv
  have K1 := Lib.hid k1
  have K2 := Lib.hid k2
  clear k1 k2
  have hm : maxF z n < 18446744073709551616 := maxF_lt hz n (by omega)
  have hge := maxF_ge z n
  have hin : inB z (maxF z n) (n + 1) = true := by
    obtain ⟨i, hi, e⟩ := maxF_mem z n
    exact inB_mem z _ _ i (by omega) e.symm
  -- the world behind the box
  have hw1 : ∀ i, i < n + 1 → (w.alloc (.cells #[.float .f64 x, .float .f64 y, .float .f64 u] 37)).cell? ⟨b, off + i, none⟩ = some (.float .f64 (z i)) := fun i h => by
    rw [World.cell?_alloc_lt _ _ _ hb]; exact hcell i h
  have HM : ∀ W : World, (∀ i, i < n + 1 → W.cell? ⟨b, off + i, none⟩ = some (.float .f64 (z i))) → Calls Try.prog 12 #[.slice (some ⟨b, off, none⟩) (n + 1) cap] W fun e w' => e = .returned (.tuple #[.float .f64 (maxF z n), .bool true]) ∧ W = w' :=
    fun W h => max_any b off n cap z W hcap hmax h hz
  generalize hmv : maxF z n = m at *
  have HIN := Lib.hid hin
  have HW1 := Lib.hid hw1
  have HMX := Lib.hid HM
  have HZ := Lib.hid hz
  have HGE := Lib.hid hge
  clear hin hw1 HM hz hge hmv hcell hcap
  go_enter Try.func7, Try.ntmps7
  go_wp2_with (first | (go_at_call 9; refine (awake_any _).mono ?_; rintro e w' ⟨rfl, rfl⟩) | (go_at_call 28; refine (few_yes _ _ _ hfew _).mono ?_; rintro e w' ⟨rfl, rfl⟩) | (go_at_call 12; refine (HMX.out _ HW1.out).mono ?_; rintro e w' ⟨rfl, rfl⟩))
  go_loop [7, 8] (fun g i => ∃ k : Nat, k ≤ n + 1 ∧ i = .int .i64 k ∧ g = .bool (inB z m k)) (fun _ i => n + 1 - (intOf i).toNat)
  case atStart => exact ⟨0, by omega, rfl, rfl⟩
  case round =>
    obtain ⟨k, hk, rfl, rfl⟩ := hrel
    by_cases hlt : k < n + 1
    · have hd : decide ((k : Int) < (n : Int) + 1) = true := by simp; omega
      have hi : (k : Int) < (n : Int) + 1 := by omega
      have ck := HW1.out k hlt
      have zk := HZ.out k hlt
      have q := pos_cmp (Int.not_lt.2 (HGE.out k (by omega)))
      have e : inB z m (k + 1) = (inB z m k || sameB (z k) m) := rfl
      have E := Lib.hid e
      clear e
      cases g1 : inB z m k
      · go_wp2_with (first | (go_at_call 15; refine (lsame_any _ _ zk hm _).mono ?_; rintro e w' ⟨rfl, rfl⟩) | (go_at_call 14; refine (compare_any _ _ zk hm _).mono ?_; rintro e w' ⟨rfl, rfl⟩))
        go_round
        case rel => exact ⟨k + 1, by omega, by go_num, by rw [E.out, g1]; rfl⟩
        case measure => simp [intOf]; omega
      · go_wp2_with (first | (go_at_call 15; refine (lsame_any _ _ zk hm _).mono ?_; rintro e w' ⟨rfl, rfl⟩) | (go_at_call 14; refine (compare_any _ _ zk hm _).mono ?_; rintro e w' ⟨rfl, rfl⟩))
        go_round
        case rel => exact ⟨k + 1, by omega, by go_num, by rw [E.out, g1]; rfl⟩
        case measure => simp [intOf]; omega
    · have hd : decide ((k : Int) < (n : Int) + 1) = false := by simp; omega
      have e : k = n + 1 := by omega
      subst e
      have hin := HIN.out
      rcases K1.out with s | ⟨s, s'⟩ | ⟨s, s', s''⟩ <;> rcases K2.out with ⟨g1, g2⟩ | ⟨g1, g2, g3⟩ | ⟨g1, g2, g3, g4⟩ | ⟨g1, g2, g3, g4, g5⟩
      all_goals (first | exact (Bool.false_ne_true (s'.symm.trans g2)).elim | skip)
      all_goals (first | exact (Bool.false_ne_true (s'.symm.trans g3)).elim | skip)
      all_goals (first | exact (Bool.false_ne_true (s'.symm.trans g4)).elim | skip)
      all_goals
        go_wp2_with (first | (go_at_call 18; refine (clamp_any _ _ _ hx hy hu _).mono ?_; rintro e w' ⟨rfl, rfl⟩; rw [HCV.out]) | (go_at_call_of 15 (Value.float .f64 x); refine (lsame_any _ _ hc hx _).mono ?_; rintro e w' ⟨rfl, rfl⟩) | (go_at_call_of 15 (Value.float .f64 y); refine (lsame_any _ _ hc hy _).mono ?_; rintro e w' ⟨rfl, rfl⟩) | (go_at_call_of 15 (Value.float .f64 u); refine (lsame_any _ _ hc hu _).mono ?_; rintro e w' ⟨rfl, rfl⟩) | (go_at_call_of 20 (Value.float .f64 y); refine (kind_any _ hy _).mono ?_; rintro e w' ⟨rfl, rfl⟩) | (go_at_call_of 20 (Value.float .f64 u); refine (kind_any _ hu _).mono ?_; rintro e w' ⟨rfl, rfl⟩) | (go_at_call_of 14 (Value.float .f64 c); go_at_call_of 14 (Value.float .f64 y); refine (compare_any _ _ hc hy _).mono ?_; rintro e w' ⟨rfl, rfl⟩) | (go_at_call_of 14 (Value.float .f64 c); refine (compare_any _ _ hc hu _).mono ?_; rintro e w' ⟨rfl, rfl⟩) | (go_at_call_of 14 (Value.float .f64 y); refine (compare_any _ _ hy hu _).mono ?_; rintro e w' ⟨rfl, rfl⟩))
        go_ret
        exact ⟨rfl, (Below.refl _ _).alloc (Nat.le_refl _) _⟩

theorem most_walk (a : Option Addr) (len cap : Nat) (z : Nat → Nat) (x y u : Nat) (w : World) (hrow : IsRowF w a len cap z)
    (hx : x < 18446744073709551616) (hy : y < 18446744073709551616) (hu : u < 18446744073709551616) :
    Calls Try.prog 7 #[.slice a len cap, .agg #[.float .f64 x, .float .f64 y, .float .f64 u]] w fun e w' => e = .returned (.bool true) ∧ Below w.heap.size w w' := by
  by_cases hfew : len ≤ 200
  · by_cases h0 : len = 0
    · subst h0
      exact most_none a cap x y u w hx hy hu
    · obtain ⟨n, rfl⟩ : ∃ n, len = n + 1 := ⟨len - 1, by omega⟩
      obtain ⟨b, off, rfl, hcap, hmax, hcell, hz⟩ := row_at hrow
      exact most_some b off n cap z x y u w hfew hcap hmax (block_lt (hcell 0 (by omega))) hcell hz hx hy hu
  · go_enter Try.func7, Try.ntmps7
    go_wp2_with (first | (go_at_call 9; refine (awake_any _).mono ?_; rintro e w' ⟨rfl, rfl⟩) | (go_at_call 28; refine (few_no _ _ _ hfew _).mono ?_; rintro e w' ⟨rfl, rfl⟩))
    go_ret
    exact ⟨rfl, (Below.refl _ _).alloc (Nat.le_refl _) _⟩

end Go.Proofs.Ythpbdgdbgohooaa.Edge
