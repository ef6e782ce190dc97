/- The developers' way to look for a block: how many end at a word or ahead of it; in plain integers. Nothing of the program. -/
import Derived.Test.YtfgkjfneeggbjaaModN
namespace Go.Proofs.Ytfgkjfneeggbjaa.Mod

/-- How many blocks end at p or ahead of it. -/
def below (l : List Bk) (p : Int) : Nat := (l.takeWhile fun b => decide (b.p + b.n ≤ p)).length
theorem below_le (l : List Bk) (p : Int) : below l p ≤ l.length := (List.takeWhile_sublist _).length_le
theorem below_cons (b : Bk) (l : List Bk) (p : Int) : below (b :: l) p = if b.p + b.n ≤ p then below l p + 1 else 0 := by
  unfold below
  by_cases h : b.p + b.n ≤ p
  · simp [h]
  · simp [h]
/-- Those and no others. -/
theorem below_iff {W : Int} {l : List Bk} (h : Ok W l) (p : Int) (i : Nat) (hi : i < l.length) : i < below l p ↔ l[i].p + l[i].n ≤ p := by
  induction l generalizing i with
  | nil => simp at hi
  | cons b l ih =>
    have hb := h.head
    rw [below_cons]
    cases i with
    | zero =>
      simp only [List.getElem_cons_zero]
      split
      · omega
      · omega
    | succ i =>
      have hi' : i < l.length := by simpa using hi
      have h1 := ih h.tail i hi'
      have h2 := h.lt l[i] (List.getElem_mem hi')
      have h3 := h.each l[i] (List.mem_cons_of_mem _ (List.getElem_mem hi'))
      simp only [List.getElem_cons_succ]
      split
      · rw [← h1]; omega
      · constructor
        · intro hh; omega
        · intro hh; omega
theorem below_dec {W : Int} {l : List Bk} (h : Ok W l) (p : Int) (i : Nat) (hi : i < l.length) : decide (p < l[i].p + l[i].n) = decide (below l p ≤ i) := by
  have := below_iff h p i hi
  by_cases e : p < l[i].p + l[i].n
  · have h2 : below l p ≤ i := by omega
    simp [e, h2]
  · have h2 : ¬ below l p ≤ i := by omega
    simp [e, h2]
/-- Who is ahead of the place, who is not. -/
theorem below_mem {W : Int} {l : List Bk} (h : Ok W l) (p : Int) (b : Bk) (hb : b ∈ l) : b.p + b.n ≤ p ∨ ∃ hi : below l p < l.length, l[below l p].p ≤ b.p ∧ p < b.p + b.n ∧ (b = l[below l p] ∨ l[below l p].p + l[below l p].n ≤ b.p) := by
  obtain ⟨i, hi, rfl⟩ := List.mem_iff_getElem.1 hb
  by_cases e : i < below l p
  · exact .inl ((below_iff h p i hi).1 e)
  · have hl : below l p < l.length := by omega
    have h1 : ¬ l[i].p + l[i].n ≤ p := fun k => e ((below_iff h p i hi).2 k)
    refine .inr ⟨hl, ?_⟩
    have h4 := h.each _ (List.getElem_mem hl)
    by_cases e2 : i = below l p
    · subst e2
      exact ⟨by omega, by omega, .inl rfl⟩
    · have h2 := List.pairwise_iff_getElem.1 h.apart (below l p) i hl hi (by omega)
      exact ⟨by omega, by omega, .inr h2⟩
theorem below_ahead {W : Int} {l : List Bk} (h : Ok W l) {p n : Int} (hc : canB W l p n = true) : ahead l p = below l p := by
  obtain ⟨h1, h2⟩ := canB_iff.1 hc
  clear hc
  induction l with
  | nil => rfl
  | cons b l ih =>
    have hb := h.head
    have h3 := h2 b List.mem_cons_self
    have h4 := ih h.tail (fun c hc => h2 c (List.mem_cons_of_mem _ hc))
    rw [below_cons]
    unfold ahead at h4 ⊢
    by_cases e : b.p + b.n ≤ p
    · have e2 : b.p < p := by omega
      simp [e, e2, h4]
    · have e2 : ¬ b.p < p := by omega
      simp [e, e2]
theorem ins_below {W : Int} {l : List Bk} (h : Ok W l) {p n : Int} (hc : canB W l p n = true) : ins l p n = l.take (below l p) ++ ⟨p, n⟩ :: l.drop (below l p) := by
  rw [ins_at, below_ahead h hc]
theorem can_end {W : Int} {l : List Bk} (h : Ok W l) {p n : Int} (h1 : 1 ≤ n ∧ 0 ≤ p ∧ p + n ≤ W) (he : below l p = l.length) : canB W l p n = true := by
  refine canB_iff.2 ⟨h1, fun b hb => ?_⟩
  rcases below_mem h p b hb with h2 | ⟨h2, _⟩
  · exact .inl h2
  · omega
theorem can_yes {W : Int} {l : List Bk} (h : Ok W l) {p n : Int} (h1 : 1 ≤ n ∧ 0 ≤ p ∧ p + n ≤ W) (hi : below l p < l.length) (he : p + n ≤ l[below l p].p) : canB W l p n = true := by
  refine canB_iff.2 ⟨h1, fun b hb => ?_⟩
  rcases below_mem h p b hb with h2 | ⟨_, h3, _⟩
  · exact .inl h2
  · exact .inr (by omega)
theorem can_no {W : Int} {l : List Bk} (h : Ok W l) {p n : Int} (hi : below l p < l.length) (he : l[below l p].p < p + n) : canB W l p n = false := by
  refine canB_false fun k => ?_
  have h1 := k.2 _ (List.getElem_mem hi)
  have h2 := below_iff h p _ hi
  omega
theorem in_none {W : Int} {l : List Bk} (h : Ok W l) {p : Int} (he : ∀ hi : below l p < l.length, p < l[below l p].p) : insideF l p = none := by
  unfold insideF
  rw [List.find?_eq_none]
  intro b hb
  simp only [inside, Bool.and_eq_true, decide_eq_true_eq, not_and]
  rcases below_mem h p b hb with h2 | ⟨h2, h3, _⟩
  · omega
  · have := he h2
    omega
theorem in_some {W : Int} {l : List Bk} (h : Ok W l) {p : Int} (hi : below l p < l.length) (he : l[below l p].p ≤ p) : insideF l p = some l[below l p] := by
  have hm := below_iff h p _ hi
  cases e : insideF l p with
  | none =>
    unfold insideF at e
    have := List.find?_eq_none.1 e _ (List.getElem_mem hi)
    simp only [inside, Bool.and_eq_true, decide_eq_true_eq, not_and] at this
    have := this he
    omega
  | some b =>
    obtain ⟨h1, h2, h3⟩ := insideF_some e
    rcases below_mem h p b h1 with h4 | ⟨_, h5, _, h6 | h6⟩
    · omega
    · rw [h6]
    · omega
theorem at_in {W : Int} {l : List Bk} (h : Ok W l) (p : Int) : atF l p = match insideF l p with
    | some b => if b.p = p then some b else none
    | none => none := by
  cases e : insideF l p with
  | none =>
    refine atF_none fun b hb hp => ?_
    unfold insideF at e
    have h1 := List.find?_eq_none.1 e b hb
    have h2 := h.each b hb
    simp only [inside, Bool.and_eq_true, decide_eq_true_eq, not_and] at h1
    have := h1 (by omega)
    omega
  | some b =>
    obtain ⟨h1, h2, h3⟩ := insideF_some e
    by_cases hp : b.p = p
    · simp only [hp, if_true]
      rw [← hp]
      exact atF_some h h1
    · simp only [hp, if_false]
      refine atF_none fun c hc hcp => ?_
      have h4 := h.each c hc
      have h6 : c = b := by
        obtain ⟨i, hi, rfl⟩ := List.mem_iff_getElem.1 h1
        obtain ⟨j, hj, rfl⟩ := List.mem_iff_getElem.1 hc
        rcases Nat.lt_trichotomy i j with h5 | h5 | h5
        · have := List.pairwise_iff_getElem.1 h.apart i j hi hj h5; omega
        · subst h5; rfl
        · have := List.pairwise_iff_getElem.1 h.apart j i hj hi h5; omega
      rw [h6] at hcp
      exact hp hcp
theorem give_some {l : List Bk} {p : Int} : giveB l p = (atF l p).isSome := by
  unfold giveB atF
  cases e : l.find? (fun b => b.p == p) with
  | none =>
    have := List.find?_eq_none.1 e
    rw [List.any_eq_false.2 (fun b hb => by simpa using this b hb)]
    rfl
  | some b =>
    have h1 := List.mem_of_find?_eq_some e
    have h2 := List.find?_some e
    rw [List.any_eq_true.2 ⟨b, h1, h2⟩]
    rfl
/-- Where a block that begins at p stands. -/
theorem at_below {W : Int} {l : List Bk} (h : Ok W l) {p : Int} (ha : (atF l p).isSome = true) : ∃ hi : below l p < l.length, l[below l p].p = p := by
  rw [at_in h p] at ha
  by_cases hi : below l p < l.length
  · refine ⟨hi, ?_⟩
    by_cases he : l[below l p].p ≤ p
    · rw [in_some h hi he] at ha
      by_cases hp : l[below l p].p = p
      · exact hp
      · simp [hp] at ha
    · rw [in_none h (fun _ => by omega)] at ha
      simp at ha
  · rw [in_none h (fun k => absurd k hi)] at ha
    simp at ha
theorem give_not {l : List Bk} {p : Int} (h : giveB l p = false) : give l p = l := by
  unfold give
  rw [List.filter_eq_self]
  intro c hc
  have := List.any_eq_false.1 h c hc
  simpa using this

end Go.Proofs.Ytfgkjfneeggbjaa.Mod
