/- Blocks in a row, in plain integers: what may be taken, what is taken and given, what has room. Nothing of the program. -/
namespace Go.Proofs.Ytfgkjfneeggbjaa.Mod

/-- A block: where it begins, how many words. -/
structure Bk where
  p : Int
  n : Int
deriving DecidableEq

/-- Blocks that lie within W words, by rising places, apart. -/
structure Ok (W : Int) (l : List Bk) : Prop where
  each : ∀ b ∈ l, 0 ≤ b.p ∧ 1 ≤ b.n ∧ b.p + b.n ≤ W
  apart : l.Pairwise fun b c => b.p + b.n ≤ c.p

def meets (p n : Int) (b : Bk) : Bool := decide (b.p < p + n) && decide (p < b.p + b.n)
def inside (x : Int) (b : Bk) : Bool := decide (b.p ≤ x) && decide (x < b.p + b.n)
/-- May a block of n words be taken from p on? -/
def canB (W : Int) (l : List Bk) (p n : Int) : Bool := (decide (1 ≤ n) && decide (0 ≤ p) && decide (p + n ≤ W)) && l.all fun b => !meets p n b
/-- How many begin ahead of p. -/
def ahead (l : List Bk) (p : Int) : Nat := (l.takeWhile fun b => decide (b.p < p)).length
/-- With the block of n words from p on. -/
def ins (l : List Bk) (p n : Int) : List Bk := (l.takeWhile fun b => decide (b.p < p)) ++ ⟨p, n⟩ :: l.dropWhile fun b => decide (b.p < p)
def giveB (l : List Bk) (p : Int) : Bool := l.any fun b => b.p == p
def give (l : List Bk) (p : Int) : List Bk := l.filter fun b => b.p != p
def atF (l : List Bk) (p : Int) : Option Bk := l.find? fun b => b.p == p
def insideF (l : List Bk) (x : Int) : Option Bk := l.find? (inside x)
def used : List Bk → Int
  | [] => 0
  | b :: l => b.n + used l
def roomAux (W n : Int) : Int → List Bk → Bool
  | e, [] => decide (n ≤ W - e)
  | e, b :: l => decide (n ≤ b.p - e) || roomAux W n (b.p + b.n) l
def roomB (W : Int) (l : List Bk) (n : Int) : Bool := decide (1 ≤ n) && roomAux W n 0 l

theorem canB_iff {W : Int} {l : List Bk} {p n : Int} : canB W l p n = true ↔ (1 ≤ n ∧ 0 ≤ p ∧ p + n ≤ W) ∧ ∀ b ∈ l, b.p + b.n ≤ p ∨ p + n ≤ b.p := by
  simp only [canB, meets, Bool.and_eq_true, decide_eq_true_eq, List.all_eq_true, Bool.not_eq_true', Bool.and_eq_false_iff, decide_eq_false_iff_not, and_assoc]
  constructor
  · rintro ⟨a, b, c, h⟩
    exact ⟨a, b, c, fun x hx => by rcases h x hx with h | h <;> omega⟩
  · rintro ⟨a, b, c, h⟩
    exact ⟨a, b, c, fun x hx => by rcases h x hx with h | h <;> omega⟩
theorem canB_false {W : Int} {l : List Bk} {p n : Int} (h : ¬ ((1 ≤ n ∧ 0 ≤ p ∧ p + n ≤ W) ∧ ∀ b ∈ l, b.p + b.n ≤ p ∨ p + n ≤ b.p)) : canB W l p n = false := by
  cases e : canB W l p n
  · rfl
  · exact absurd (canB_iff.1 e) h

section
variable {W : Int} {b : Bk} {l : List Bk}
theorem Ok.nil (W : Int) : Ok W [] := ⟨fun _ h => (List.not_mem_nil h).elim, List.Pairwise.nil⟩
theorem Ok.tail (h : Ok W (b :: l)) : Ok W l := ⟨fun c hc => h.each c (List.mem_cons_of_mem _ hc), (List.pairwise_cons.1 h.apart).2⟩
theorem Ok.head (h : Ok W (b :: l)) : 0 ≤ b.p ∧ 1 ≤ b.n ∧ b.p + b.n ≤ W := h.each b List.mem_cons_self
theorem Ok.lt (h : Ok W (b :: l)) : ∀ c ∈ l, b.p + b.n ≤ c.p := (List.pairwise_cons.1 h.apart).1
theorem Ok.cons (h : Ok W l) (hb : 0 ≤ b.p ∧ 1 ≤ b.n ∧ b.p + b.n ≤ W) (hl : ∀ c ∈ l, b.p + b.n ≤ c.p) : Ok W (b :: l) :=
  ⟨fun c hc => (List.mem_cons.1 hc).elim (fun e => by rw [e]; exact hb) (fun k => h.each c k), List.pairwise_cons.2 ⟨hl, h.apart⟩⟩
end

theorem ins_cons {b : Bk} {l : List Bk} {p n : Int} : ins (b :: l) p n = if b.p < p then b :: ins l p n else ⟨p, n⟩ :: b :: l := by
  unfold ins
  by_cases h : b.p < p
  · simp [h]
  · simp [h]
theorem mem_ins {l : List Bk} {p n : Int} (c : Bk) : c ∈ ins l p n ↔ c = ⟨p, n⟩ ∨ c ∈ l := by
  induction l with
  | nil => simp [ins]
  | cons b l ih =>
    rw [ins_cons]
    split
    · rw [List.mem_cons, ih, List.mem_cons]
      constructor
      · rintro (h | h | h)
        · exact .inr (.inl h)
        · exact .inl h
        · exact .inr (.inr h)
      · rintro (h | h | h)
        · exact .inr (.inl h)
        · exact .inl h
        · exact .inr (.inr h)
    · simp [List.mem_cons]
theorem ins_ok {W : Int} {l : List Bk} (h : Ok W l) {p n : Int} (hc : canB W l p n = true) : Ok W (ins l p n) := by
  obtain ⟨hb, hm⟩ := canB_iff.1 hc
  clear hc
  induction l with
  | nil => exact (Ok.nil W).cons (b := ⟨p, n⟩) ⟨hb.2.1, hb.1, hb.2.2⟩ (fun c hc => (List.not_mem_nil hc).elim)
  | cons b l ih =>
    have h1 := ih h.tail (fun c hc => hm c (List.mem_cons_of_mem _ hc))
    have hb1 := hm b List.mem_cons_self
    have hb2 := h.head
    rw [ins_cons]
    split
    · refine h1.cons hb2 (fun c hc => ?_)
      rcases (mem_ins c).1 hc with rfl | hc
      · show b.p + b.n ≤ p
        omega
      · exact h.lt c hc
    · refine h.cons (b := ⟨p, n⟩) ⟨hb.2.1, hb.1, hb.2.2⟩ (fun c hc => ?_)
      show p + n ≤ c.p
      rcases List.mem_cons.1 hc with rfl | hc
      · omega
      · have := h.lt c hc
        omega

/-- Two such rows of the same blocks are one. -/
theorem ok_ext {W : Int} : ∀ {l l' : List Bk}, Ok W l → Ok W l' → (∀ b, b ∈ l ↔ b ∈ l') → l = l'
  | [], [], _, _, _ => rfl
  | [], b :: l', _, _, h => absurd ((h b).2 List.mem_cons_self) List.not_mem_nil
  | b :: l, [], _, _, h => absurd ((h b).1 List.mem_cons_self) List.not_mem_nil
  | b :: l, c :: l', h1, h2, h => by
    have hbc : b = c := by
      rcases List.mem_cons.1 ((h b).1 List.mem_cons_self) with e | hb
      · exact e
      · rcases List.mem_cons.1 ((h c).2 List.mem_cons_self) with e | hc
        · exact e.symm
        · have a1 := h2.lt b hb
          have a2 := h1.lt c hc
          have a3 := h1.head
          have a4 := h2.head
          omega
    subst hbc
    congr 1
    refine ok_ext h1.tail h2.tail (fun x => ?_)
    have hx := h x
    rw [List.mem_cons, List.mem_cons] at hx
    constructor
    · intro hm
      rcases hx.1 (.inr hm) with e | hm'
      · subst e
        have a1 := h1.lt _ hm
        have a2 := h1.head
        omega
      · exact hm'
    · intro hm
      rcases hx.2 (.inr hm) with e | hm'
      · subst e
        have a1 := h2.lt _ hm
        have a2 := h2.head
        omega
      · exact hm'

theorem mem_give {l : List Bk} {p : Int} (b : Bk) : b ∈ give l p ↔ b ∈ l ∧ b.p ≠ p := by simp [give]
theorem give_ok {W : Int} {l : List Bk} (h : Ok W l) (p : Int) : Ok W (give l p) :=
  ⟨fun b hb => h.each b ((mem_give b).1 hb).1, h.apart.sublist List.filter_sublist⟩
theorem giveB_iff {l : List Bk} {p : Int} : giveB l p = true ↔ ∃ b ∈ l, b.p = p := by simp [giveB]
/-- What begins at one place is one block. -/
theorem ok_one {W : Int} {l : List Bk} (h : Ok W l) {b c : Bk} (hb : b ∈ l) (hc : c ∈ l) (e : b.p = c.p) : b = c := by
  induction l with
  | nil => exact (List.not_mem_nil hb).elim
  | cons d l ih =>
    have hd := h.head
    rcases List.mem_cons.1 hb with e1 | hb1
    · rcases List.mem_cons.1 hc with e2 | hc1
      · rw [e1, e2]
      · have := h.lt c hc1
        rw [e1] at e
        omega
    · rcases List.mem_cons.1 hc with e2 | hc1
      · have := h.lt b hb1
        rw [e2] at e
        omega
      · exact ih h.tail hb1 hc1

theorem used_nonneg {W : Int} {l : List Bk} (h : Ok W l) : 0 ≤ used l := by
  induction l with
  | nil => exact Int.le_refl 0
  | cons b l ih => have := ih h.tail; have := h.head; simp only [used]; omega
/-- So many words in all: never more than there are. -/
theorem used_le {W : Int} : ∀ {l : List Bk} (e : Int), Ok W l → (∀ b ∈ l, e ≤ b.p) → e ≤ W → used l ≤ W - e
  | [], e, _, _, he => by simp only [used]; omega
  | b :: l, e, h, hb, _ => by
    have h1 := used_le (b.p + b.n) h.tail h.lt h.head.2.2
    have h2 := hb b List.mem_cons_self
    simp only [used]
    omega
theorem used_ins {l : List Bk} {p n : Int} : used (ins l p n) = used l + n := by
  induction l with
  | nil => simp [ins, used]
  | cons b l ih =>
    rw [ins_cons]
    split
    · simp only [used, ih]; omega
    · simp only [used]; omega

/-- Room for n words behind e: a place where they may be taken. -/
theorem roomAux_iff {W n : Int} (hn : 1 ≤ n) : ∀ {l : List Bk} (e : Int), Ok W l → (∀ b ∈ l, e ≤ b.p) → (roomAux W n e l = true ↔ ∃ p, e ≤ p ∧ p + n ≤ W ∧ ∀ b ∈ l, b.p + b.n ≤ p ∨ p + n ≤ b.p)
  | [], e, _, _ => by
    simp only [roomAux, decide_eq_true_eq]
    constructor
    · intro h; exact ⟨e, by omega, by omega, fun b hb => (List.not_mem_nil hb).elim⟩
    · rintro ⟨p, h1, h2, _⟩; omega
  | b :: l, e, h, hb => by
    have ih := roomAux_iff hn (b.p + b.n) h.tail h.lt
    have hb1 := h.head
    have hb0 := hb b List.mem_cons_self
    simp only [roomAux, Bool.or_eq_true, decide_eq_true_eq, ih]
    constructor
    · rintro (h1 | ⟨p, h1, h2, h3⟩)
      · refine ⟨e, by omega, by omega, fun c hc => ?_⟩
        rcases List.mem_cons.1 hc with rfl | hc
        · omega
        · have := h.lt c hc; omega
      · refine ⟨p, by omega, h2, fun c hc => ?_⟩
        rcases List.mem_cons.1 hc with rfl | hc
        · omega
        · exact h3 c hc
    · rintro ⟨p, h1, h2, h3⟩
      rcases h3 b List.mem_cons_self with h4 | h4
      · exact .inr ⟨p, h4, h2, fun c hc => h3 c (List.mem_cons_of_mem _ hc)⟩
      · exact .inl (by omega)
theorem roomB_iff {W n : Int} {l : List Bk} (h : Ok W l) : roomB W l n = true ↔ ∃ p, canB W l p n = true := by
  simp only [roomB, Bool.and_eq_true, decide_eq_true_eq]
  constructor
  · rintro ⟨h1, h2⟩
    obtain ⟨p, h3, h4, h5⟩ := (roomAux_iff h1 0 h (fun b hb => (h.each b hb).1)).1 h2
    exact ⟨p, canB_iff.2 ⟨⟨h1, h3, h4⟩, h5⟩⟩
  · rintro ⟨p, hp⟩
    obtain ⟨⟨h1, h3, h4⟩, h5⟩ := canB_iff.1 hp
    exact ⟨h1, (roomAux_iff h1 0 h (fun b hb => (h.each b hb).1)).2 ⟨p, h3, h4, h5⟩⟩

end Go.Proofs.Ytfgkjfneeggbjaa.Mod
