/- Blocks in a row, in plain integers: at, inside; what is given back; what is left. Nothing of the program. -/
import Derived.Test.YtfgkjfneeggbjaaModM
namespace Go.Proofs.Ytfgkjfneeggbjaa.Mod

theorem atF_some {W : Int} {l : List Bk} (h : Ok W l) {b : Bk} (hb : b ∈ l) : atF l b.p = some b := by
  unfold atF
  cases e : l.find? (fun c => c.p == b.p) with
  | none => exact absurd (by simp : (b.p == b.p) = true) (by simpa using List.find?_eq_none.1 e b hb)
  | some c =>
    have h1 := List.mem_of_find?_eq_some e
    have h2 := List.find?_some e
    rw [ok_one h h1 hb (by simpa using h2)]
theorem atF_none {l : List Bk} {p : Int} (h : ∀ b ∈ l, b.p ≠ p) : atF l p = none := by
  unfold atF
  rw [List.find?_eq_none]
  intro b hb
  simpa using h b hb
theorem give_ins {W : Int} {l : List Bk} (h : Ok W l) {p n : Int} (hc : canB W l p n = true) : give (ins l p n) p = l := by
  obtain ⟨hb, hm⟩ := canB_iff.1 hc
  refine ok_ext (give_ok (ins_ok h hc) p) h (fun b => ?_)
  rw [mem_give, mem_ins]
  constructor
  · rintro ⟨h1 | h1, h2⟩
    · subst h1; exact absurd rfl h2
    · exact h1
  · intro h1
    refine ⟨.inr h1, fun e => ?_⟩
    have h2 := hm b h1
    have h3 := h.each b h1
    omega
theorem give_none {l : List Bk} {p : Int} : giveB (give l p) p = false := by
  cases e : giveB (give l p) p
  · rfl
  · obtain ⟨b, hb, h2⟩ := giveB_iff.1 e
    exact absurd h2 ((mem_give b).1 hb).2

/-- A word that is in a block. -/
def busy (l : List Bk) (x : Int) : Bool := l.any (inside x)
theorem busy_iff {l : List Bk} {x : Int} : busy l x = true ↔ ∃ b ∈ l, b.p ≤ x ∧ x < b.p + b.n := by
  simp [busy, inside]
theorem canB_free {W : Int} {l : List Bk} (h : Ok W l) {p n : Int} : canB W l p n = true ↔ (1 ≤ n ∧ 0 ≤ p ∧ p + n ≤ W) ∧ ∀ x, p ≤ x → x < p + n → busy l x = false := by
  rw [canB_iff]
  constructor
  · rintro ⟨h1, h2⟩
    refine ⟨h1, fun x hx1 hx2 => ?_⟩
    cases e : busy l x
    · rfl
    · obtain ⟨b, hb, h3⟩ := busy_iff.1 e
      have := h2 b hb
      omega
  · rintro ⟨h1, h2⟩
    refine ⟨h1, fun b hb => ?_⟩
    have h3 := h.each b hb
    rcases Int.lt_or_le p (b.p + b.n) with h4 | h4
    · rcases Int.lt_or_le b.p (p + n) with h5 | h5
      · exfalso
        rcases Int.lt_or_le p b.p with h6 | h6
        · have := h2 b.p (by omega) h5
          rw [busy_iff.2 ⟨b, hb, by omega, by omega⟩] at this
          cases this
        · have := h2 p (by omega) (by omega)
          rw [busy_iff.2 ⟨b, hb, h6, h4⟩] at this
          cases this
      · exact .inr h5
    · exact .inl h4

/-- In how many blocks a word is. -/
def many (x : Int) : List Bk → Nat
  | [] => 0
  | b :: l => (if inside x b then 1 else 0) + many x l
theorem many_zero {x : Int} {l : List Bk} (h : ∀ b ∈ l, inside x b = false) : many x l = 0 := by
  induction l with
  | nil => rfl
  | cons b l ih =>
    rw [many, h b List.mem_cons_self, ih (fun c hc => h c (List.mem_cons_of_mem _ hc))]
    rfl
theorem many_busy {W : Int} {l : List Bk} (h : Ok W l) (x : Int) : many x l = if busy l x then 1 else 0 := by
  induction l with
  | nil => rfl
  | cons b l ih =>
    rw [many, ih h.tail]
    cases e : inside x b
    · simp [busy, e]
    · have h0 : busy l x = false := by
        cases e2 : busy l x
        · rfl
        · obtain ⟨c, hc, h3⟩ := busy_iff.1 e2
          have := h.lt c hc
          simp [inside] at e
          omega
      rw [h0]
      simp [busy, e]
theorem many_snoc (x : Int) (l : List Bk) (b : Bk) : many x (l ++ [b]) = many x l + if inside x b then 1 else 0 := by
  induction l with
  | nil => simp [many]
  | cons c l ih => simp only [List.cons_append, many, ih]; omega
theorem insideF_busy {l : List Bk} {x : Int} : (insideF l x).isSome = busy l x := by
  unfold insideF busy
  cases e : l.any (inside x)
  · cases e2 : l.find? (inside x) with
    | none => rfl
    | some b => exact absurd (List.find?_some e2) (by simpa using List.any_eq_false.1 e b (List.mem_of_find?_eq_some e2))
  · rw [List.find?_isSome]
    exact List.any_eq_true.1 e
theorem insideF_some {l : List Bk} {x : Int} {b : Bk} (h : insideF l x = some b) : b ∈ l ∧ b.p ≤ x ∧ x < b.p + b.n := by
  have h1 := List.mem_of_find?_eq_some h
  have h2 := List.find?_some h
  simp [inside] at h2
  exact ⟨h1, h2⟩

/-- How many words below a are in blocks. -/
def usedTo (a : Int) : List Bk → Int
  | [] => 0
  | b :: l => (if a ≤ b.p then 0 else if b.p + b.n ≤ a then b.n else a - b.p) + usedTo a l
theorem usedTo_zero {W : Int} {l : List Bk} (h : Ok W l) : usedTo 0 l = 0 := by
  induction l with
  | nil => rfl
  | cons b l ih =>
    have := h.head
    rw [usedTo, ih h.tail, if_pos (by omega)]
    rfl
theorem usedTo_step {W : Int} {l : List Bk} (h : Ok W l) (a : Int) : usedTo (a + 1) l = usedTo a l + many a l := by
  induction l with
  | nil => rfl
  | cons b l ih =>
    have h1 := h.head
    have ih := ih h.tail
    rw [usedTo, usedTo, many, ih]
    have e : inside a b = true ↔ b.p ≤ a ∧ a < b.p + b.n := by simp [inside]
    by_cases h2 : inside a b = true
    · have := e.1 h2
      rw [if_pos h2]
      split <;> split <;> (try split) <;> (try split) <;> omega
    · have h3 : ¬ (b.p ≤ a ∧ a < b.p + b.n) := fun k => h2 (e.2 k)
      rw [if_neg h2]
      split <;> split <;> (try split) <;> (try split) <;> omega
theorem usedTo_all {W : Int} {l : List Bk} (h : Ok W l) : usedTo W l = used l := by
  induction l with
  | nil => rfl
  | cons b l ih =>
    have := h.head
    rw [usedTo, used, ih h.tail, if_neg (by omega), if_pos (by omega)]

/-- What a walk over the first a words has found: how long the row of free words is that ends there, the longest one. -/
structure Scan (l : List Bk) (a row most : Nat) : Prop where
  le : row ≤ a
  free : ∀ x : Int, (a : Int) - row ≤ x → x < a → busy l x = false
  max : row = a ∨ busy l ((a : Int) - row - 1) = true
  some_ : most = 0 ∨ ∃ p : Nat, p + most ≤ a ∧ ∀ x : Int, (p : Int) ≤ x → x < p + most → busy l x = false
  all : ∀ p m : Nat, p + m ≤ a → (∀ x : Int, (p : Int) ≤ x → x < p + m → busy l x = false) → m ≤ most
theorem Scan.zero (l : List Bk) : Scan l 0 0 0 :=
  ⟨Nat.le_refl _, fun x h1 h2 => by omega, .inl rfl, .inl rfl, fun p m h _ => by omega⟩
theorem Scan.busy {l : List Bk} {a row most : Nat} (h : Scan l a row most) (hb : Mod.busy l a = true) : Scan l (a + 1) 0 most := by
  refine ⟨Nat.zero_le _, fun x h1 h2 => by omega, .inr (by rw [show ((a + 1 : Nat) : Int) - (0 : Nat) - 1 = a from by omega]; exact hb), ?_, fun p m hpm hf => ?_⟩
  · rcases h.some_ with e | ⟨p, h1, h2⟩
    · exact .inl e
    · exact .inr ⟨p, by omega, h2⟩
  · by_cases e : p + m ≤ a
    · exact h.all p m e hf
    · rcases Nat.eq_zero_or_pos m with e0 | e0
      · omega
      · have := hf a (by omega) (by omega)
        rw [hb] at this
        cases this
theorem Scan.step {l : List Bk} {a row most : Nat} (h : Scan l a row most) (hb : Mod.busy l a = false) : Scan l (a + 1) (row + 1) (Max.max most (row + 1)) := by
  have hfree : ∀ x : Int, ((a + 1 : Nat) : Int) - (row + 1 : Nat) ≤ x → x < (a + 1 : Nat) → Mod.busy l x = false := fun x h1 h2 => by
    by_cases e : x = a
    · rw [e]; exact hb
    · exact h.free x (by omega) (by omega)
  have hle := h.le
  refine ⟨by omega, hfree, ?_, ?_, fun p m hpm hf => ?_⟩
  · rcases h.max with e | e
    · exact .inl (by omega)
    · refine .inr ?_
      rw [show ((a + 1 : Nat) : Int) - (row + 1 : Nat) - 1 = (a : Int) - row - 1 from by omega]
      exact e
  · rcases Nat.le_total most (row + 1) with e | e
    · rw [Nat.max_eq_right e]
      exact .inr ⟨a - row, by omega, fun x h1 h2 => hfree x (by omega) (by omega)⟩
    · rw [Nat.max_eq_left e]
      rcases h.some_ with e0 | ⟨p, h1, h2⟩
      · exact .inl e0
      · exact .inr ⟨p, by omega, h2⟩
  · by_cases e : p + m ≤ a
    · exact Nat.le_trans (h.all p m e hf) (Nat.le_max_left _ _)
    · refine Nat.le_trans ?_ (Nat.le_max_right _ _)
      rcases h.max with e2 | e2
      · omega
      · rcases Nat.lt_or_ge (row + 1) m with e3 | e3
        · have := hf ((a : Int) - row - 1) (by omega) (by omega)
          rw [e2] at this
          cases this
        · exact e3
theorem Scan.end_ {W : Nat} {l : List Bk} {row most : Nat} (h : Scan l W row most) (hok : Ok W l) : roomB W l ((most : Int) + 1) = false ∧ (most = 0 ∨ roomB W l most = true) := by
  constructor
  · cases e : roomB W l ((most : Int) + 1)
    · rfl
    · obtain ⟨p, hp⟩ := (roomB_iff hok).1 e
      obtain ⟨h1, h2⟩ := (canB_free hok).1 hp
      have := h.all p.toNat (most + 1) (by omega) (fun x h3 h4 => h2 x (by omega) (by omega))
      omega
  · rcases h.some_ with e | ⟨p, h1, h2⟩
    · exact .inl e
    · rcases Nat.eq_zero_or_pos most with e0 | e0
      · exact .inl e0
      · exact .inr ((roomB_iff hok).2 ⟨p, (canB_free hok).2 ⟨by omega, h2⟩⟩)

theorem takeWhile_take (l : List Bk) (q : Bk → Bool) : l.takeWhile q = l.take (l.takeWhile q).length := by
  induction l with
  | nil => rfl
  | cons b l ih =>
    by_cases h : q b
    · simp only [List.takeWhile_cons, h, if_true, List.length_cons, List.take_succ_cons]
      rw [← ih]
    · simp [h]
theorem dropWhile_drop (l : List Bk) (q : Bk → Bool) : l.dropWhile q = l.drop (l.takeWhile q).length := by
  induction l with
  | nil => rfl
  | cons b l ih =>
    by_cases h : q b
    · simp only [List.takeWhile_cons, List.dropWhile_cons, h, if_true, List.length_cons, List.drop_succ_cons]
      exact ih
    · simp [h]
theorem ins_at (l : List Bk) (p n : Int) : ins l p n = l.take (ahead l p) ++ ⟨p, n⟩ :: l.drop (ahead l p) := by
  unfold ins ahead
  rw [← takeWhile_take, ← dropWhile_drop]
theorem ahead_le (l : List Bk) (p : Int) : ahead l p ≤ l.length := by
  unfold ahead
  exact (List.takeWhile_sublist _).length_le
/-- One block more. -/
theorem ahead_step {W : Int} {l : List Bk} (h : Ok W l) (p : Int) (j : Nat) (hj : j < l.length) : ahead (l.take (j + 1)) p = if l[j].p < p then j + 1 else ahead (l.take j) p := by
  induction l generalizing j with
  | nil => simp at hj
  | cons b l ih =>
    have hb := h.head
    cases j with
    | zero =>
      by_cases hp : b.p < p
      · simp [ahead, hp]
      · simp [ahead, hp]
    | succ j =>
      have hj' : j < l.length := by simpa using hj
      have := ih h.tail j hj'
      have hlt := h.lt l[j] (List.getElem_mem hj')
      simp only [List.take_succ_cons, List.getElem_cons_succ]
      by_cases hp : b.p < p
      · have e : ∀ m : List Bk, ahead (b :: m) p = ahead m p + 1 := fun m => by simp [ahead, hp]
        rw [e, e, this]
        split <;> rfl
      · have e : ∀ m : List Bk, ahead (b :: m) p = 0 := fun m => by simp [ahead, hp]
        rw [e, e, if_neg (by omega)]

/-- The row behind a Take. -/
def takeL (W : Int) (l : List Bk) (p n : Int) : List Bk := if canB W l p n = true then ins l p n else l
theorem takeL_no {W : Int} {l : List Bk} {p n : Int} (h : canB W l p n = false) : takeL W l p n = l := by unfold takeL; rw [h]; rfl
theorem takeL_yes {W : Int} {l : List Bk} {p n : Int} (h : canB W l p n = true) : takeL W l p n = ins l p n := by unfold takeL; rw [h]; rfl

end Go.Proofs.Ytfgkjfneeggbjaa.Mod
