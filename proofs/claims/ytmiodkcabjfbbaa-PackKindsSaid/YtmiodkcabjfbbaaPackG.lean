/- The law's awake; what is read of what was made. -/
import Derived.Test.YtmiodkcabjfbbaaPackF
import Derived.Test.YtmiodkcabjfbbaaPlanC
namespace Go.Proofs.Ytmiodkcabjfbbaa.Pack
open Go.RowKit Mem Plan

theorem u8_bd {a : Int} (h : (Lit.int .u8 a).wf = true) : 0 ≤ a ∧ a ≤ 255 := by
  have hmin : IntKind.u8.min = 0 := rfl
  have hmax : IntKind.u8.max = 255 := rfl
  simp only [Lit.wf, Bool.and_eq_true, decide_eq_true_eq] at h
  omega

theorem awake4 (w : World) :
    Calls Try.prog 5 #[] w fun e w' => e = .returned (.bool true) ∧ Off [] w w' := by
  have a1 : pageW 2 2 1 = 4130 := by decide
  have a2 : slotW 1 3 = 49 := by decide
  have a3 : entryW 1 2 0 = 8209 := by decide
  have hoff := Off.refl [] w
  go_enter Try.func5, Try.ntmps5
  go_wp2_with (first | (go_at_call 6; refine (putPage_any _ _ _ _).mono ?_; rintro e w1 ⟨rfl, ho⟩; replace hoff := hoff.trans ho; clear ho) | (go_at_call 7; refine (putSlot_any _ _ _).mono ?_; rintro e w1 ⟨rfl, ho⟩; replace hoff := hoff.trans ho; clear ho) | (go_at_call 8; refine (putEntry_any _ _ _ _).mono ?_; rintro e w1 ⟨rfl, ho⟩; replace hoff := hoff.trans ho; clear ho))
  go_ret
  exact ⟨rfl, hoff⟩

/-- A page's word that was made is read as it was, where it may stand. -/
theorem read_put {P C M at_ k a b : Int} (hi : isPageB k a b 0 = true) (hs : standB P C M at_ k a b = true) :
    readPageB P C M at_ (pageW k a b) = true ∧ pageV P C M at_ (pageW k a b) = .agg #[.int .i64 k, .int .i64 a, .int .i64 b] := by
  have hq := page_parts hi
  have e : pageW k a b = wordI k a b 0 := if_pos hi
  have hr : readPageB P C M at_ (pageW k a b) = true := by
    unfold readPageB
    rw [e, hq.kind, hq.fa, hq.fb, hq.fc, hi, hs, inB_t hq.lt.1 hq.lt.2]; rfl
  refine ⟨hr, ?_⟩
  unfold pageV
  rw [if_pos hr, e, hq.kind, hq.fa, hq.fb]
theorem readPage_put {P C M at_ k a b : Int} (hi : isPageB k a b 0 = true) (hs : standB P C M at_ k a b = true) (w : World) :
    Calls Try.prog 11 #[.agg #[.int .i64 P, .int .i64 C, .int .i64 M], .int .i64 at_, .int .u64 (pageW k a b)] w fun e w' => e = .returned (.tuple #[.agg #[.int .i64 k, .int .i64 a, .int .i64 b], .bool true]) ∧ Off [] w w' := by
  have h := readPage_any P C M at_ (pageW k a b) (pageW_bd k a b).1 (Int.lt_trans (pageW_bd k a b).2 (by decide)) w
  rw [(read_put hi hs).1, (read_put hi hs).2] at h
  exact h
theorem readPage_far {P C M at_ x : Int} (h1 : 268435456 ≤ x) (h2 : x < 18446744073709551616) (w : World) :
    Calls Try.prog 11 #[.agg #[.int .i64 P, .int .i64 C, .int .i64 M], .int .i64 at_, .int .u64 x] w fun e w' => e = .returned (.tuple #[.agg #[.int .i64 0, .int .i64 0, .int .i64 0], .bool false]) ∧ Off [] w w' := by
  have h := readPage_any P C M at_ x (by omega) h2 w
  rw [show pageV P C M at_ x = .agg #[.int .i64 0, .int .i64 0, .int .i64 0] from by unfold pageV readPageB; rw [inB_f h1]; rfl, show readPageB P C M at_ x = false from by unfold readPageB; rw [inB_f h1]; rfl] at h
  exact h
theorem readEntry_put {P C M a b c : Int} (hi : isEntryB 1 a b c = true) (hs : hasPageB P C M a = true) (hb : b < slotsI c) (w : World) :
    Calls Try.prog 12 #[.agg #[.int .i64 P, .int .i64 C, .int .i64 M], .int .u64 (entryW a b c)] w fun e w' => e = .returned (.tuple #[.agg #[.int .i64 a, .int .i64 b, .int .i64 c], .bool true]) ∧ Off [] w w' := by
  have h := readEntry_any P C M (entryW a b c) (entryW_bd a b c).1 (Int.lt_trans (entryW_bd a b c).2 (by decide)) w
  have hq := entry_parts hi
  have e : entryW a b c = wordI 1 a b c := if_pos hi
  have hr : readEntryB P C M (entryW a b c) = true := by
    unfold readEntryB
    rw [e, hq.kind, hq.fa, hq.fb, hq.fc, hi, hs, decide_eq_true hb, inB_t hq.lt.1 hq.lt.2]; rfl
  rw [hr, show entryV P C M (entryW a b c) = .agg #[.int .i64 a, .int .i64 b, .int .i64 c] from by unfold entryV; rw [if_pos hr, e, hq.fa, hq.fb, hq.fc]] at h
  exact h
theorem readEntry_far {P C M x : Int} (h1 : 268435456 ≤ x) (h2 : x < 18446744073709551616) (w : World) :
    Calls Try.prog 12 #[.agg #[.int .i64 P, .int .i64 C, .int .i64 M], .int .u64 x] w fun e w' => e = .returned (.tuple #[.agg #[.int .i64 0, .int .i64 0, .int .i64 0], .bool false]) ∧ Off [] w w' := by
  have h := readEntry_any P C M x (by omega) h2 w
  rw [show entryV P C M x = .agg #[.int .i64 0, .int .i64 0, .int .i64 0] from by unfold entryV readEntryB; rw [inB_f h1]; rfl, show readEntryB P C M x = false from by unfold readEntryB; rw [inB_f h1]; rfl] at h
  exact h
theorem readSlot_far {x : Int} (h1 : 4096 ≤ x) (h2 : x < 18446744073709551616) (w : World) :
    Calls Try.prog 13 #[.int .u64 x] w fun e w' => e = .returned (.agg #[.int .i64 0, .int .i64 0]) ∧ Off [] w w' := by
  have h := readSlot_any x (by omega) h2 w
  have hr : readSlotB x = false := by
    cases hr : readSlotB x
    · rfl
    · unfold readSlotB at hr
      rw [Bool.and_eq_true, inB_iff] at hr
      obtain ⟨⟨h3, h4⟩, h5⟩ := hr
      have h6 : bI x = 0 ∧ cI x = 0 := by
        unfold isSlotB at h5
        split at h5
        · have := fit_iff.1 h5; omega
        · split at h5
          · have := fit_iff.1 h5; omega
          · cases h5
      unfold bI cI at h6
      omega
  rw [show slotV x = .agg #[.int .i64 0, .int .i64 0] from by unfold slotV; rw [hr]; rfl] at h
  exact h

theorem blk_drew {w : World} {g : Nat} {t : TypeId} {cs : Array Value} (h : Blk w g t cs) : Blk w.drew g t cs := ⟨h.eq⟩

/-- A bit more than what a word has. -/
theorem or_far {x : Int} {s t : Nat} (hx : 0 ≤ x) (hx2 : x < 268435456) (ht : t ≤ s) (hs : s < 64) : (2 : Int) ^ t ≤ bits .or .u64 x ((2 ^ s : Nat) : Int) ∧ bits .or .u64 x ((2 ^ s : Nat) : Int) < 18446744073709551616 := by
  obtain ⟨a, rfl⟩ := Int.eq_ofNat_of_zero_le hx
  have hp : 2 ^ s < 2 ^ 64 := Nat.pow_lt_pow_right (by decide) hs
  have hq : 2 ^ t ≤ 2 ^ s := Nat.pow_le_pow_right (by decide) ht
  rw [u64_or_nat a _ (by omega) (by omega)]
  have h1 : 2 ^ s ≤ a ||| 2 ^ s := Nat.right_le_or
  have h2 : a ||| 2 ^ s < 2 ^ 64 := Nat.or_lt_two_pow (by omega) hp
  constructor
  · have : 2 ^ t ≤ a ||| 2 ^ s := by omega
    exact_mod_cast this
  · omega

theorem or_bit {x n : Int} (t : Nat) (hx : 0 ≤ x) (hx2 : x < 268435456) (ht : (t : Int) ≤ n) (hn : n < 64) : (2 : Int) ^ t ≤ bits .or .u64 x (IntKind.u64.wrap (2 ^ n.toNat)) ∧ bits .or .u64 x (IntKind.u64.wrap (2 ^ n.toNat)) < 18446744073709551616 := by
  have hp : 2 ^ n.toNat < 2 ^ 64 := Nat.pow_lt_pow_right (by decide) (by omega)
  have e : IntKind.u64.wrap (2 ^ n.toNat) = ((2 ^ n.toNat : Nat) : Int) := by
    rw [show (2 : Int) ^ n.toNat = ((2 ^ n.toNat : Nat) : Int) from by simp]
    exact wraps_u64 _ (Int.natCast_nonneg _) (by exact_mod_cast hp)
  rw [e]
  exact or_far hx hx2 (by omega) (by omega)

/-- Each kind where it may be. -/
theorem kinds_stand {P C M c p k : Int} (hf : Fit P C M) (hc0 : 0 ≤ c) (hc : c < C) (hp0 : 0 ≤ p) (hp : p < P) (hk0 : 0 ≤ k) (hk : k < 4) :
    ((isPageB 1 c 0 0 = true ∧ standB P C M p 1 c 0 = true) ∧ (isPageB 2 k c 0 = true ∧ standB P C M p 2 k c = true)) ∧ ((isPageB 3 1 0 0 = true ∧ standB P C M p 3 1 0 = true) ∧ (isPageB 0 0 0 0 = true ∧ standB P C M p 0 0 0 = true)) ∧ (isEntryB 1 p 1 k = true ∧ hasPageB P C M p = true ∧ 1 < slotsI k) := by
  have h1 := hf.c2
  have h2 := hf.p2
  have hh : hasPageB P C M p = true := hasPage_iff.2 ⟨hf, hp0, hp⟩
  have hcl : hasClientB P C M c = true := hasClient_iff.2 ⟨hf, hc0, hc⟩
  have hkl : hasClassB k = true := hasClass_iff.2 ⟨hk0, hk⟩
  refine ⟨⟨⟨?_, ?_⟩, ?_, ?_⟩, ⟨⟨?_, ?_⟩, ?_, ?_⟩, ?_, hh, ?_⟩
  · unfold isPageB; rw [if_neg (by omega), if_pos (by omega)]; exact fit_iff.2 (by omega)
  · unfold standB; rw [hh, hcl]; rfl
  · unfold isPageB; rw [if_neg (by omega), if_neg (by omega), if_pos rfl]; exact fit_iff.2 (by omega)
  · unfold standB; rw [hh, hkl, hcl]; rfl
  · rfl
  · unfold standB; rw [hh]; simp; omega
  · rfl
  · unfold standB; rw [hh]; rfl
  · unfold isEntryB; rw [if_pos rfl]; exact fit_iff.2 (by omega)
  · unfold slotsI; omega

end Go.Proofs.Ytmiodkcabjfbbaa.Pack
