/- MagBoth in plain integers: what is found counting down; a round that puts, a round that takes. Nothing of the program. -/
import Derived.Test.YtdnahojpeplajaaMagY
namespace Go.Proofs.Ytdnahojpeplajaa.Mag
open Go.Proofs.Ytdnahojpeplajaa.Words Go.Proofs.Ytdnahojpeplajaa.Plan Go.Proofs.Ytdnahojpeplajaa.Pack

/-- Counting down from n: what was met last. -/
def dn (p : Nat → Bool) (n : Nat) : Nat → Int
  | 0 => -1
  | r + 1 => bif p (n - 1 - r) then ((n - 1 - r : Nat) : Int) else dn p n r
theorem dn_is (p : Nat → Bool) (n : Nat) (r : Nat) (hr : r ≤ n) : (∃ j, n - r ≤ j ∧ j < n ∧ p j = true ∧ (∀ i, n - r ≤ i → i < j → p i = false) ∧ dn p n r = j) ∨ ((∀ i, n - r ≤ i → i < n → p i = false) ∧ dn p n r = -1) := by
  induction r with
  | zero => exact .inr ⟨fun i h1 h2 => by omega, rfl⟩
  | succ r ih =>
    cases e : p (n - 1 - r)
    · have e2 : dn p n (r + 1) = dn p n r := by show (bif p (n - 1 - r) then _ else _) = _; rw [e]; rfl
      rw [e2]
      rcases ih (by omega) with ⟨j, h1, h2, h3, h4, h5⟩ | ⟨h1, h2⟩
      · refine .inl ⟨j, by omega, h2, h3, fun i hi hj => ?_, h5⟩
        by_cases ei : i = n - 1 - r
        · subst ei; exact e
        · exact h4 i (by omega) hj
      · refine .inr ⟨fun i hi hj => ?_, h2⟩
        by_cases ei : i = n - 1 - r
        · subst ei; exact e
        · exact h1 i (by omega) hj
    · exact .inl ⟨n - 1 - r, by omega, by omega, e, fun i h1 h2 => by omega, by show (bif p (n - 1 - r) then _ else _) = _; rw [e]; rfl⟩
theorem dn_bd (p : Nat → Bool) (n r : Nat) (hr : r ≤ n) : -1 ≤ dn p n r ∧ dn p n r < n := by
  rcases dn_is p n r hr with ⟨j, h1, h2, h3, h4, h5⟩ | ⟨h1, h2⟩ <;> omega
/-- The row, but for one place (none if it is -1). -/
def updI (f : Nat → Int) (d x : Int) : Nat → Int := fun j => if (j : Int) = d then x else f j
theorem updI_no (f : Nat → Int) (x : Int) : updI f (-1) x = f := by
  funext j
  unfold updI
  rw [if_neg (by omega)]

theorem lies_bd {x m : Int} (h : Lies x m) : 0 ≤ m ∧ m ≤ 32 := by
  rcases h with ⟨h1, h2⟩ | ⟨page, slot, k, hp, hs, hk, hx, hm⟩
  · omega
  · unfold markI at hm; omega
theorem seqP_steps (t : Pk) (s : St) (n : Nat) : s.steps ≤ (seqP t s n).2.steps ∧ (seqP t s n).2.steps ≤ s.steps + n := by
  induction n with
  | zero => exact ⟨Int.le_refl _, by show s.steps ≤ s.steps + 0; omega⟩
  | succ n ih =>
    have := Pk.words_steps (seqP t s n).1 (seqP t s n).2
    show s.steps ≤ ((seqP t s n).1.words (seqP t s n).2).steps ∧ ((seqP t s n).1.words (seqP t s n).2).steps ≤ _
    omega
theorem seqT_steps (t : Tk) (s : St) (n : Nat) : s.steps ≤ (seqT t s n).2.steps ∧ (seqT t s n).2.steps ≤ s.steps + n := by
  induction n with
  | zero => exact ⟨Int.le_refl _, by show s.steps ≤ s.steps + 0; omega⟩
  | succ n ih =>
    have := Tk.words_steps (seqT t s n).1 (seqT t s n).2
    show s.steps ≤ ((seqT t s n).1.words (seqT t s n).2).steps ∧ ((seqT t s n).1.words (seqT t s n).2).steps ≤ _
    omega
theorem seqP_ok {P C M c : Int} {L : Nat} {t : Pk} {s : St} (h : SeqP P C M c L t s) (hr : RowOk s) (n : Nat) : RowOk (seqP t s n).2 := by
  induction n with
  | zero => exact hr
  | succ n ih => exact Pk.words_ok (seqP_is h n).ok ih
theorem seqT_ok {t : Tk} {s : St} (hr : RowOk s) (n : Nat) : RowOk (seqT t s n).2 := by
  induction n with
  | zero => exact hr
  | succ n ih => exact Tk.words_ok ih

/-- The words and the law's row, behind so many steps. -/
structure Bo (n m : Nat) (s : St) (f : Nat → Int) : Prop where
  len : s.row.length = 70 + 2 * n
  ok : RowOk s
  held : Held8 (70 + n) n s f
  low : ∀ i, i < 70 + n → s.at i = 0
  s0 : 0 ≤ s.steps
  s1 : s.steps ≤ m
theorem magB_1 (n : Nat) : magB 4 2 n 1 = 70 + n := by unfold magB; omega
theorem words_8 {n : Nat} (hn : n ≤ 8) : wordsI 4 2 n = 70 + 2 * n := by
  unfold wordsI
  rw [if_pos (mayB_t ⟨by decide, by decide, by decide, by decide, by omega, by omega⟩)]
  omega
theorem slots_ok {k slot : Int} (hk : 0 ≤ k ∧ k ≤ 3) (hs : 0 ≤ slot ∧ slot ≤ 1) : slot < slotsI k ∧ slotsI k ≠ 0 := by
  unfold slotsI
  omega
theorem status_8 {n : Nat} (hn : n ≤ 8) : statusI 4 2 n 1 = 1 := by
  unfold statusI
  rw [if_pos ⟨mayB_t ⟨by decide, by decide, by decide, by decide, by omega, by omega⟩, by decide, by decide⟩]
section
variable {n m : Nat} {s : St} {f : Nat → Int}
theorem overT_8 (hn : n ≤ 8) {k : Int} (hk : 0 ≤ k ∧ k ≤ 3) : overT 4 2 n 1 k = decide (n = 0) := by
  unfold overT
  rw [status_8 hn, decide_eq_false (by decide : ¬ (1 : Int) < 0), decide_eq_false (slots_ok hk (by decide : (0 : Int) ≤ 0 ∧ (0 : Int) ≤ 1)).2]
  simp
theorem overP_8 (hn : n ≤ 8) {page slot k : Int} (hp : 0 ≤ page ∧ page ≤ 3) (hs : 0 ≤ slot ∧ slot ≤ 1) (hk : 0 ≤ k ∧ k ≤ 3) : overP 4 2 n 1 page slot k = decide (n = 0) := by
  have h := slots_ok hk hs
  have hm : mayB 4 2 n = true := mayB_t ⟨by decide, by decide, by decide, by decide, by omega, by omega⟩
  unfold overP
  rw [status_8 hn]
  unfold pageI
  rw [if_pos ⟨hm, by omega, by omega⟩]
  simp
  omega
/-- A round that puts. -/
theorem put_round (hn : n ≤ 8) (h : Bo n m s f) {page slot k : Int} (hp : 0 ≤ page ∧ page ≤ 3) (hs : 0 ≤ slot ∧ slot ≤ 1) (hk : 0 ≤ k ∧ k ≤ 3) :
    (seqP (pk0 4 2 n 1 page slot k) s (n + 1)).1.over = true ∧ (seqP (pk0 4 2 n 1 page slot k) s (n + 1)).1.put = decide (0 ≤ dn (fun j => decide (f j = 0)) n n) ∧ Bo n (m + (n + 1)) (seqP (pk0 4 2 n 1 page slot k) s (n + 1)).2 (updI f (dn (fun j => decide (f j = 0)) n n) (markI page slot k)) := by
  have hq : SeqP 4 2 n 1 (70 + 2 * n) (pk0 4 2 n 1 page slot k) s := ⟨pk0_ok _ _ _ _ _ _ _, ⟨rfl, rfl, rfl, rfl⟩, h.len⟩
  have hst := seqP_steps (pk0 4 2 n 1 page slot k) s (n + 1)
  have hrw := seqP_ok hq h.ok (n + 1)
  have hln := (seqP_is hq (n + 1)).len
  have hs0 := h.s0
  have hs1 := h.s1
  have hz : ∀ j, j < n → (s.at (70 + n + j) = 0 ↔ f j = 0) := fun j hj => lies_zero (h.held j hj)
  by_cases h0 : n = 0
  · subst h0
    have hov : (pk0 4 2 (0 : Nat) 1 page slot k).over = true := overP_8 (n := 0) (by decide) hp hs hk
    have hsame := seqP_over (p0 := pk0 4 2 (0 : Nat) 1 page slot k) (s0 := s) (n := 0) hov 1
    rw [show 0 + 1 = 1 from rfl] at hsame
    rw [show 0 + 1 = 1 from rfl] at hst hrw hln ⊢
    rw [hsame] at hst hrw hln ⊢
    refine ⟨hov, rfl, hln, hrw, fun j hj => absurd hj (Nat.not_lt_zero _), h.low, h.s0, by show s.steps ≤ _; omega⟩
  have hov : (pk0 4 2 n 1 page slot k).over = false := (overP_8 hn hp hs hk).trans (decide_eq_false h0)
  rcases dn_is (fun j => decide (f j = 0)) n n (Nat.le_refl _) with ⟨j, h1, h2, h3, h4, h5⟩ | ⟨h1, h2⟩
  · obtain ⟨a, b, c⟩ := putter_free (m := n) (f := j) hq (by rw [words_8 hn]; omega) rfl ⟨rfl, rfl, rfl, hov⟩ h2 (by rw [magB_1]; exact (hz j h2).2 (by simpa using h3)) (fun i hi => by
      rw [magB_1]
      intro he
      have := (hz i (by omega)).1 he
      have h6 := h4 i (by omega) hi
      simp [this] at h6)
    rw [h5]
    refine ⟨a, by rw [b]; simp, hln, hrw, fun i hi => ?_, fun i hi => ?_, by omega, by omega⟩
    · rw [c, magB_1]
      unfold updI
      by_cases e : i = j
      · subst e
        rw [if_pos rfl, if_pos rfl]
        exact .inr ⟨page, slot, k, hp, hs, hk, rfl, rfl⟩
      · rw [if_neg (by omega), if_neg (by omega)]
        exact h.held i hi
    · rw [c, magB_1, if_neg (by omega)]
      exact h.low i hi
  · obtain ⟨a, b, c⟩ := putter_full (m := n) hq rfl ⟨rfl, rfl, rfl, hov⟩ (fun i hi => by
      rw [magB_1]
      intro he
      have := (hz i hi).1 he
      have h6 := h1 i (by omega) hi
      simp [this] at h6)
    rw [h2, updI_no]
    refine ⟨a, by rw [b]; simp, hln, hrw, fun i hi => ?_, fun i hi => ?_, by omega, by omega⟩
    · rw [c]; exact h.held i hi
    · rw [c]; exact h.low i hi
/-- A round that takes. -/
theorem take_round (hn : n ≤ 8) (h : Bo n m s f) {k : Int} (hk : 0 ≤ k ∧ k ≤ 3) :
    (seqT (tk0 4 2 n 1 k) s (n + 1)).1.over = true ∧ (seqT (tk0 4 2 n 1 k) s (n + 1)).1.found = decide (0 ≤ dn (fun j => decide (0 < f j ∧ (f j - 1) % 4 = k)) n n) ∧ (0 ≤ dn (fun j => decide (0 < f j ∧ (f j - 1) % 4 = k)) n n → 0 < f (dn (fun j => decide (0 < f j ∧ (f j - 1) % 4 = k)) n n).toNat ∧ (f (dn (fun j => decide (0 < f j ∧ (f j - 1) % 4 = k)) n n).toNat - 1) / 4 = (seqT (tk0 4 2 n 1 k) s (n + 1)).1.page * 2 + (seqT (tk0 4 2 n 1 k) s (n + 1)).1.slot ∧ (0 ≤ (seqT (tk0 4 2 n 1 k) s (n + 1)).1.page ∧ (seqT (tk0 4 2 n 1 k) s (n + 1)).1.page ≤ 255) ∧ 0 ≤ (seqT (tk0 4 2 n 1 k) s (n + 1)).1.slot ∧ (seqT (tk0 4 2 n 1 k) s (n + 1)).1.slot ≤ 255) ∧ Bo n (m + (n + 1)) (seqT (tk0 4 2 n 1 k) s (n + 1)).2 (updI f (dn (fun j => decide (0 < f j ∧ (f j - 1) % 4 = k)) n n) 0) := by
  have hq : SeqT 4 2 n 1 (70 + 2 * n) (tk0 4 2 n 1 k) s := ⟨tk0_ok _ _ _ _ _, ⟨rfl, rfl, rfl, rfl⟩, h.len⟩
  have hst := seqT_steps (tk0 4 2 n 1 k) s (n + 1)
  have hrw : RowOk (seqT (tk0 4 2 n 1 k) s (n + 1)).2 := seqT_ok h.ok (n + 1)
  have hln := (seqT_is hq (n + 1)).len
  have hs0 := h.s0
  have hs1 := h.s1
  have hz := fun j (hj : j < n) => lies_hits (M := n) (k := k) (by omega) (h.held j hj) (tk0 4 2 n 1 k) ⟨rfl, rfl, rfl, rfl⟩ hk
  by_cases h0 : n = 0
  · subst h0
    have hov : (tk0 4 2 (0 : Nat) 1 k).over = true := overT_8 (n := 0) (by decide) hk
    have hsame := seqT_over (t0 := tk0 4 2 (0 : Nat) 1 k) (s0 := s) (n := 0) hov 1
    rw [show 0 + 1 = 1 from rfl] at hsame
    rw [show 0 + 1 = 1 from rfl] at hst hrw hln ⊢
    rw [hsame] at hst hrw hln ⊢
    refine ⟨hov, rfl, fun h => ?_, hln, hrw, fun j hj => absurd hj (Nat.not_lt_zero _), h.low, h.s0, by show s.steps ≤ _; omega⟩
    exact absurd h (by show ¬ (0 : Int) ≤ -1; decide)
  have hov : (tk0 4 2 n 1 k).over = false := (overT_8 hn hk).trans (decide_eq_false h0)
  rcases dn_is (fun j => decide (0 < f j ∧ (f j - 1) % 4 = k)) n n (Nat.le_refl _) with ⟨j, h1, h2, h3, h4, h5⟩ | ⟨h1, h2⟩
  · have hj := hz j h2
    have hhit : (tk0 4 2 n 1 k).hits (s.at (70 + n + j)) = true := hj.1.trans h3
    obtain ⟨a, b, c, d, e⟩ := taker_hit (m := n) (f := j) hq (by rw [words_8 hn]; omega) rfl ⟨rfl, rfl, rfl, hov⟩ h2 (by rw [magB_1]; exact hhit) (fun i hi => by
      rw [magB_1]
      exact (hz i (by omega)).1.trans (h4 i (by omega) hi))
    rw [h5, magB_1] at *
    refine ⟨a, by rw [b]; simp, fun _ => ?_, hln, hrw, fun i hi => ?_, fun i hi => ?_, by omega, by omega⟩
    · rw [Int.toNat_natCast, c, d]
      exact ⟨(of_decide_eq_true h3).1, hj.2 hhit, by unfold aI; omega, by unfold bI; omega⟩
    · rw [e]
      unfold updI
      by_cases ei : i = j
      · subst ei
        rw [if_pos rfl, if_pos rfl]
        exact .inl ⟨rfl, rfl⟩
      · rw [if_neg (by omega), if_neg (by omega)]
        exact h.held i hi
    · rw [e, if_neg (by omega)]
      exact h.low i hi
  · obtain ⟨a, b, c⟩ := taker_none (m := n) hq rfl ⟨rfl, rfl, rfl, hov⟩ (fun i hi => by
      rw [magB_1]
      exact (hz i hi).1.trans (h1 i (by omega) hi))
    rw [h2, updI_no]
    refine ⟨a, by rw [b]; simp, fun h => absurd h (by decide), hln, hrw, fun i hi => ?_, fun i hi => ?_, by omega, by omega⟩
    · rw [c]; exact h.held i hi
    · rw [c]; exact h.low i hi
end

end Go.Proofs.Ytdnahojpeplajaa.Mag
