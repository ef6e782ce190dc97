/- Two machines of a magazine, each in its own, in plain integers: turns taken in whatever order come to what each comes to alone. Nothing of the program. -/
import Derived.Test.YtdnahojpeplajaaMagC
namespace Go.Proofs.Ytdnahojpeplajaa.Mag
open Go.Proofs.Ytdnahojpeplajaa.Words Go.Proofs.Ytdnahojpeplajaa.Plan Go.Proofs.Ytdnahojpeplajaa.Pack

theorem lay_at (s : St) (k : Nat) (x : Int) (i : Nat) (hk : k < s.row.length) : (s.lay k x).at i = if i = k then x else s.at i := by
  unfold St.at St.lay
  rw [List.getD_eq_getElem?_getD, List.getD_eq_getElem?_getD, List.getElem?_set]
  by_cases e : i = k
  · subst e; simp [hk]
  · rw [if_neg (fun h => e h.symm), if_neg e]
theorem note_at (s : St) (a : Acc) (i : Nat) : (s.note a).at i = s.at i := rfl
theorem note_lay (s : St) (a : Acc) (k : Nat) (x : Int) (i : Nat) (hk : k < s.row.length) : ((s.note a).lay k x).at i = if i = k then x else s.at i := lay_at _ _ _ _ hk

/-- A place of client c's magazine. -/
def inMag (P C M c : Int) (i : Nat) : Prop := C + P + 16 * P + M * c ≤ i ∧ (i : Int) < C + P + 16 * P + M * c + M
theorem Tk.Ok.inMag {t : Tk} (h : t.Ok) (ho : t.over = false) : inMag t.P t.C t.M t.c t.at := by
  obtain ⟨h1, h2, h3⟩ := h.run ho
  have h4 := mag_in h1 h2 h3
  have h5 := (h.at ho).1
  unfold Mag.inMag
  omega
theorem Pk.Ok.inMag {t : Pk} (h : t.Ok) (ho : t.over = false) : inMag t.P t.C t.M t.c t.at := by
  obtain ⟨h1, h2, h3⟩ := h.run ho
  have h4 := mag_in h1 h2 h3
  have h5 := (h.at ho).1
  unfold Mag.inMag
  omega
theorem inMag_apart {P C M : Int} {i : Nat} (h : inMag P C M 0 i) : ¬ inMag P C M 1 i := by
  unfold inMag at h ⊢
  omega

theorem Tk.next_same {t : Tk} {s s' : St} (h : t.over = false → s.at t.at = s'.at t.at) : t.next s = t.next s' := by
  unfold Tk.next
  by_cases ho : t.over = true
  · rw [if_pos ho, if_pos ho]
  · rw [if_neg ho, if_neg ho, h (by simpa using ho)]
theorem Tk.words_at {t : Tk} (s : St) (hk : t.over = false → t.at < s.row.length) (i : Nat) : (t.words s).at i = if t.over = false ∧ t.hit = true ∧ i = t.at then 0 else s.at i := by
  unfold Tk.words
  by_cases ho : t.over = true
  · rw [if_pos ho, if_neg (fun h => by rw [ho] at h; cases h.1)]
  · have ho' : t.over = false := by simpa using ho
    rw [if_neg ho]
    by_cases hh : t.hit = true
    · rw [if_pos hh, note_lay _ _ _ _ _ (hk ho')]
      by_cases e : i = t.at
      · rw [if_pos e, if_pos ⟨ho', hh, e⟩]
      · rw [if_neg e, if_neg (fun h => e h.2.2)]
    · rw [if_neg hh, note_at, if_neg (fun h => hh h.2.1)]
theorem Pk.next_same {t : Pk} {s s' : St} (h : t.over = false → s.at t.at = s'.at t.at) : t.next s = t.next s' := by
  unfold Pk.next
  by_cases ho : t.over = true
  · rw [if_pos ho, if_pos ho]
  · rw [if_neg ho, if_neg ho, h (by simpa using ho)]
theorem Pk.words_at {t : Pk} (s : St) (hk : t.over = false → t.at < s.row.length) (i : Nat) : (t.words s).at i = if t.over = false ∧ t.hit = true ∧ i = t.at then t.x else s.at i := by
  unfold Pk.words
  by_cases ho : t.over = true
  · rw [if_pos ho, if_neg (fun h => by rw [ho] at h; cases h.1)]
  · have ho' : t.over = false := by simpa using ho
    rw [if_neg ho]
    by_cases hh : t.hit = true
    · rw [if_pos hh, note_lay _ _ _ _ _ (hk ho')]
      by_cases e : i = t.at
      · rw [if_pos e, if_pos ⟨ho', hh, e⟩]
      · rw [if_neg e, if_neg (fun h => e h.2.2)]
    · rw [if_neg hh, note_at, if_neg (fun h => hh h.2.1)]

/-- Each alone. -/
def seqT (t : Tk) (s : St) : Nat → Tk × St
  | 0 => (t, s)
  | n + 1 => ((seqT t s n).1.next (seqT t s n).2, (seqT t s n).1.words (seqT t s n).2)
def seqP (t : Pk) (s : St) : Nat → Pk × St
  | 0 => (t, s)
  | n + 1 => ((seqP t s n).1.next (seqP t s n).2, (seqP t s n).1.words (seqP t s n).2)

section
variable {t0 : Tk} {p0 : Pk} {s0 : St} {P C M : Int}
/-- What stays so of one alone. -/
structure SeqT (P C M c : Int) (L : Nat) (t : Tk) (s : St) : Prop where
  ok : t.Ok
  sh : t.P = P ∧ t.C = C ∧ t.M = M ∧ t.c = c
  len : s.row.length = L
structure SeqP (P C M c : Int) (L : Nat) (t : Pk) (s : St) : Prop where
  ok : t.Ok
  sh : t.P = P ∧ t.C = C ∧ t.M = M ∧ t.c = c
  len : s.row.length = L
theorem SeqT.next {c : Int} {L : Nat} {t : Tk} {s : St} (h : SeqT P C M c L t s) : SeqT P C M c L (t.next s) (t.words s) := by
  obtain ⟨a, b, d, e, -⟩ := Tk.next_shape t s
  exact ⟨h.ok.next s, ⟨a.trans h.sh.1, b.trans h.sh.2.1, d.trans h.sh.2.2.1, e.trans h.sh.2.2.2⟩, (Tk.words_len t s).trans h.len⟩
theorem SeqP.next {c : Int} {L : Nat} {t : Pk} {s : St} (h : SeqP P C M c L t s) : SeqP P C M c L (t.next s) (t.words s) := by
  obtain ⟨a, b, d, e, -⟩ := Pk.next_shape t s
  exact ⟨h.ok.next s, ⟨a.trans h.sh.1, b.trans h.sh.2.1, d.trans h.sh.2.2.1, e.trans h.sh.2.2.2⟩, (Pk.words_len t s).trans h.len⟩
theorem seqT_is {c : Int} {L : Nat} (h : SeqT P C M c L t0 s0) (n : Nat) : SeqT P C M c L (seqT t0 s0 n).1 (seqT t0 s0 n).2 := by
  induction n with
  | zero => exact h
  | succ n ih => exact ih.next
theorem seqP_is {c : Int} {L : Nat} (h : SeqP P C M c L p0 s0) (n : Nat) : SeqP P C M c L (seqP p0 s0 n).1 (seqP p0 s0 n).2 := by
  induction n with
  | zero => exact h
  | succ n ih => exact ih.next
/-- Once it is over nothing turns. -/
theorem seqT_over {n : Nat} (h : (seqT t0 s0 n).1.over = true) (k : Nat) : seqT t0 s0 (n + k) = seqT t0 s0 n := by
  induction k with
  | zero => rfl
  | succ k ih =>
    show ((seqT t0 s0 (n + k)).1.next (seqT t0 s0 (n + k)).2, (seqT t0 s0 (n + k)).1.words (seqT t0 s0 (n + k)).2) = _
    rw [ih]
    unfold Tk.next Tk.words
    rw [if_pos h, if_pos h]
theorem seqP_over {n : Nat} (h : (seqP p0 s0 n).1.over = true) (k : Nat) : seqP p0 s0 (n + k) = seqP p0 s0 n := by
  induction k with
  | zero => rfl
  | succ k ih =>
    show ((seqP p0 s0 (n + k)).1.next (seqP p0 s0 (n + k)).2, (seqP p0 s0 (n + k)).1.words (seqP p0 s0 (n + k)).2) = _
    rw [ih]
    unfold Pk.next Pk.words
    rw [if_pos h, if_pos h]

/-- Side by side over one row: each as alone. -/
structure Two (P C M : Int) (t0 : Tk) (p0 : Pk) (s0 : St) (i j : Nat) (s : St) : Prop where
  len : s.row.length = s0.row.length
  a : ∀ k, inMag P C M 0 k → s.at k = (seqT t0 s0 i).2.at k
  b : ∀ k, inMag P C M 1 k → s.at k = (seqP p0 s0 j).2.at k
theorem two_t {i j : Nat} {s : St} (hT : SeqT P C M 0 s0.row.length t0 s0) (hL : (s0.row.length : Int) = wordsI P C M) (h : Two P C M t0 p0 s0 i j s) :
    (seqT t0 s0 i).1.next s = (seqT t0 s0 (i + 1)).1 ∧ Two P C M t0 p0 s0 (i + 1) j ((seqT t0 s0 i).1.words s) := by
  have q := seqT_is hT i
  have hin : (seqT t0 s0 i).1.over = false → inMag P C M 0 (seqT t0 s0 i).1.at := fun ho => by
    have := q.ok.inMag ho
    rwa [q.sh.1, q.sh.2.1, q.sh.2.2.1, q.sh.2.2.2] at this
  have hat : (seqT t0 s0 i).1.over = false → (seqT t0 s0 i).1.at < s0.row.length := fun ho => by
    have := (q.ok.at ho).2
    rw [q.sh.1, q.sh.2.1, q.sh.2.2.1] at this
    omega
  refine ⟨Tk.next_same (fun ho => h.a _ (hin ho)), (Tk.words_len _ _).trans h.len, fun k hk => ?_, fun k hk => ?_⟩
  · show _ = ((seqT t0 s0 i).1.words (seqT t0 s0 i).2).at k
    rw [Tk.words_at _ (fun ho => by rw [h.len]; exact hat ho), Tk.words_at _ (fun ho => by rw [q.len]; exact hat ho), h.a k hk]
  · rw [Tk.words_at _ (fun ho => by rw [h.len]; exact hat ho), if_neg (fun hc => ?_), h.b k hk]
    obtain ⟨h1, _, h3⟩ := hc
    subst h3
    exact inMag_apart (hin h1) hk
theorem two_p {i j : Nat} {s : St} (hP : SeqP P C M 1 s0.row.length p0 s0) (hL : (s0.row.length : Int) = wordsI P C M) (h : Two P C M t0 p0 s0 i j s) :
    (seqP p0 s0 j).1.next s = (seqP p0 s0 (j + 1)).1 ∧ Two P C M t0 p0 s0 i (j + 1) ((seqP p0 s0 j).1.words s) := by
  have q := seqP_is hP j
  have hin : (seqP p0 s0 j).1.over = false → inMag P C M 1 (seqP p0 s0 j).1.at := fun ho => by
    have := q.ok.inMag ho
    rwa [q.sh.1, q.sh.2.1, q.sh.2.2.1, q.sh.2.2.2] at this
  have hat : (seqP p0 s0 j).1.over = false → (seqP p0 s0 j).1.at < s0.row.length := fun ho => by
    have := (q.ok.at ho).2
    rw [q.sh.1, q.sh.2.1, q.sh.2.2.1] at this
    omega
  refine ⟨Pk.next_same (fun ho => h.b _ (hin ho)), (Pk.words_len _ _).trans h.len, fun k hk => ?_, fun k hk => ?_⟩
  · rw [Pk.words_at _ (fun ho => by rw [h.len]; exact hat ho), if_neg (fun hc => ?_), h.a k hk]
    obtain ⟨h1, _, h3⟩ := hc
    subst h3
    exact inMag_apart hk (hin h1)
  · show _ = ((seqP p0 s0 j).1.words (seqP p0 s0 j).2).at k
    rw [Pk.words_at _ (fun ho => by rw [h.len]; exact hat ho), Pk.words_at _ (fun ho => by rw [q.len]; exact hat ho), h.b k hk]
end

/-- How far a putter is behind n steps. -/
def PosP (t : Pk) (n : Nat) : Prop := t.over = true ∨ (t.hit = false ∧ t.i = n) ∨ (t.hit = true ∧ t.i + 1 = n)
theorem posP_next {t : Pk} {n : Nat} (h : PosP t n) (s : St) : PosP (t.next s) (n + 1) := by
  unfold Pk.next
  by_cases h1 : t.over = true
  · rw [if_pos h1]; exact .inl h1
  rw [if_neg h1]
  by_cases h2 : t.hit = true
  · rw [if_pos h2]; exact .inl rfl
  rw [if_neg h2]
  have h2' : t.hit = false := by simpa using h2
  have hi : t.i = n := by
    rcases h with h | ⟨_, h⟩ | ⟨h, _⟩
    · exact absurd h h1
    · exact h
    · exact absurd h h2
  by_cases h3 : s.at t.at = 0
  · rw [if_pos h3]; exact .inr (.inr ⟨rfl, by show t.i + 1 = n + 1; omega⟩)
  · rw [if_neg h3]; exact .inr (.inl ⟨h2', by show t.i + 1 = n + 1; omega⟩)
theorem posP_end {t : Pk} {n : Nat} (h : PosP t n) (hok : t.Ok) (hn : t.M + 2 ≤ n) : t.over = true := by
  cases ho : t.over
  · exfalso
    obtain ⟨-, -, h3⟩ := hok.run ho
    rcases h with h | ⟨_, h⟩ | ⟨_, h⟩
    · rw [ho] at h; cases h
    · omega
    · omega
  · rfl
theorem seqT_pos {t0 : Tk} {s0 : St} (h : Pos t0 0) (n : Nat) : Pos (seqT t0 s0 n).1 n := by
  induction n with
  | zero => exact h
  | succ n ih => exact pos_next ih _
theorem seqP_pos {t0 : Pk} {s0 : St} (h : PosP t0 0) (n : Nat) : PosP (seqP t0 s0 n).1 n := by
  induction n with
  | zero => exact h
  | succ n ih => exact posP_next ih _

end Go.Proofs.Ytdnahojpeplajaa.Mag
