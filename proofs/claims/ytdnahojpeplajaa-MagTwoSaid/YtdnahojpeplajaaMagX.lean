/- A magazine alone, in plain integers: what a machine that runs to its end does to it. Nothing of the program. -/
import Derived.Test.YtdnahojpeplajaaMagW
namespace Go.Proofs.Ytdnahojpeplajaa.Mag
open Go.Proofs.Ytdnahojpeplajaa.Words Go.Proofs.Ytdnahojpeplajaa.Plan Go.Proofs.Ytdnahojpeplajaa.Pack

/-- Where client c's magazine begins. -/
def magB (P C M c : Int) : Nat := (C + P + 16 * P + M * c).toNat
theorem Pk.Ok.at_b {t : Pk} (h : t.Ok) (ho : t.over = false) : t.at = magB t.P t.C t.M t.c + t.i := by
  obtain ⟨h1, h2, h3⟩ := h.run ho
  have h4 := mag_in h1 h2 h3
  have h5 := (h.at ho).1
  have h6 := (mul_bd (a := t.M) (b := t.c) (A := 8) (B := 12) h1.m1 h1.m2 h2.1 (by have := h1.c2; omega)).1
  have := h1.p1
  have := h1.c1
  unfold magB
  omega
theorem Tk.Ok.at_b {t : Tk} (h : t.Ok) (ho : t.over = false) : t.at = magB t.P t.C t.M t.c + t.i := by
  obtain ⟨h1, h2, h3⟩ := h.run ho
  have h4 := mag_in h1 h2 h3
  have h5 := (h.at ho).1
  have h6 := (mul_bd (a := t.M) (b := t.c) (A := 8) (B := 12) h1.m1 h1.m2 h2.1 (by have := h1.c2; omega)).1
  have := h1.p1
  have := h1.c1
  unfold magB
  omega

section
variable {P C M c : Int} {L : Nat}
/-- So many entries were not free. -/
theorem putter_on {t : Pk} {s : St} (h : SeqP P C M c L t s) (h0 : t.i = 0 ∧ t.hit = false ∧ t.put = false ∧ t.over = false) (k : Nat) (hk : (k : Int) ≤ M) (hn : ∀ j, j < k → s.at (magB P C M c + j) ≠ 0) :
    (seqP t s k).1 = { t with i := k, over := decide ((k : Int) = M) } ∧ ∀ i, (seqP t s k).2.at i = s.at i := by
  have hsh := h.sh
  induction k with
  | zero =>
    have hM : 0 < M := by
      have := (h.ok.run h0.2.2.2).2.2
      rw [h0.1, hsh.2.2.1] at this
      exact this
    refine ⟨?_, fun i => rfl⟩
    show t = _
    obtain ⟨a, b, d, e⟩ := h0
    have e1 : decide (((0 : Nat) : Int) = M) = false := by simp; omega
    rw [e1]
    cases t
    simp only at a e
    subst a e
    rfl
  | succ k ih =>
    obtain ⟨h1, h2⟩ := ih (by omega) (fun j hj => hn j (by omega))
    have q := seqP_is h k
    have ho : (seqP t s k).1.over = false := by rw [h1]; simp; omega
    have hat := q.ok.at_b ho
    rw [q.sh.1, q.sh.2.1, q.sh.2.2.1, q.sh.2.2.2, show (seqP t s k).1.i = k by rw [h1]] at hat
    have hx : (seqP t s k).2.at (seqP t s k).1.at ≠ 0 := by rw [hat, h2]; exact hn k (by omega)
    have hh : (seqP t s k).1.hit = false := by rw [h1]; exact h0.2.1
    refine ⟨?_, fun i => ?_⟩
    · show (seqP t s k).1.next (seqP t s k).2 = _
      unfold Pk.next
      rw [if_neg (by rw [ho]; decide), if_neg (by rw [hh]; decide), if_neg hx, h1]
      show ({ t with i := k + 1, over := decide (((k + 1 : Nat) : Int) = t.M) } : Pk) = _
      rw [hsh.2.2.1]
    · show ((seqP t s k).1.words (seqP t s k).2).at i = _
      unfold Pk.words
      rw [if_neg (by rw [ho]; decide), if_neg (by rw [hh]; decide), note_at, h2]
/-- The first free one is taken. -/
theorem putter_free {t : Pk} {s : St} {m f : Nat} (h : SeqP P C M c L t s) (hL : (L : Int) = wordsI P C M) (hm : M = m) (h0 : t.i = 0 ∧ t.hit = false ∧ t.put = false ∧ t.over = false) (hf : f < m) (hz : s.at (magB P C M c + f) = 0) (hn : ∀ j, j < f → s.at (magB P C M c + j) ≠ 0) :
    (seqP t s (m + 1)).1.over = true ∧ (seqP t s (m + 1)).1.put = true ∧ ∀ i, (seqP t s (m + 1)).2.at i = if i = magB P C M c + f then t.x else s.at i := by
  obtain ⟨h1, h2⟩ := putter_on h h0 f (by omega) hn
  have q := seqP_is h f
  have ho : (seqP t s f).1.over = false := by rw [h1]; simp; omega
  have hh : (seqP t s f).1.hit = false := by rw [h1]; exact h0.2.1
  have hat := q.ok.at_b ho
  have hlt := (q.ok.at ho).2
  rw [q.sh.1, q.sh.2.1, q.sh.2.2.1] at hlt
  rw [q.sh.1, q.sh.2.1, q.sh.2.2.1, q.sh.2.2.2, show (seqP t s f).1.i = f by rw [h1]] at hat
  have e1 : (seqP t s (f + 1)).1 = { (seqP t s f).1 with hit := true } := by
    show (seqP t s f).1.next (seqP t s f).2 = _
    unfold Pk.next
    rw [if_neg (by rw [ho]; decide), if_neg (by rw [hh]; decide), if_pos (by rw [hat, h2]; exact hz)]
  have w1 : ∀ i, (seqP t s (f + 1)).2.at i = s.at i := fun i => by
    show ((seqP t s f).1.words (seqP t s f).2).at i = _
    unfold Pk.words
    rw [if_neg (by rw [ho]; decide), if_neg (by rw [hh]; decide), note_at, h2]
  have q1 := seqP_is h (f + 1)
  have ho1 : (seqP t s (f + 1)).1.over = false := by rw [e1]; exact ho
  have hh1 : (seqP t s (f + 1)).1.hit = true := by rw [e1]
  have hat1 : (seqP t s (f + 1)).1.at = magB P C M c + f := by rw [e1]; exact hat
  have hx1 : (seqP t s (f + 1)).1.x = t.x := by rw [e1, h1]
  have e2 : (seqP t s (f + 2)).1 = { (seqP t s (f + 1)).1 with put := true, over := true } := by
    show (seqP t s (f + 1)).1.next (seqP t s (f + 1)).2 = _
    unfold Pk.next
    rw [if_neg (by rw [ho1]; decide), if_pos hh1]
  have hov : (seqP t s (f + 2)).1.over = true := by rw [e2]
  have w2 : ∀ i, (seqP t s (f + 2)).2.at i = if i = magB P C M c + f then t.x else s.at i := fun i => by
    show ((seqP t s (f + 1)).1.words (seqP t s (f + 1)).2).at i = _
    rw [Pk.words_at _ (fun _ => by rw [q1.len, hat1]; omega), hx1, hat1, w1]
    by_cases e : i = magB P C M c + f
    · rw [if_pos ⟨ho1, hh1, e⟩, if_pos e]
    · rw [if_neg (fun h => e h.2.2), if_neg e]
  have e3 : m + 1 = (f + 2) + (m - 1 - f) := by omega
  rw [e3, seqP_over hov]
  exact ⟨hov, by rw [e2], w2⟩
/-- None is free. -/
theorem putter_full {t : Pk} {s : St} {m : Nat} (h : SeqP P C M c L t s) (hm : M = m) (h0 : t.i = 0 ∧ t.hit = false ∧ t.put = false ∧ t.over = false) (hn : ∀ j, j < m → s.at (magB P C M c + j) ≠ 0) :
    (seqP t s (m + 1)).1.over = true ∧ (seqP t s (m + 1)).1.put = false ∧ ∀ i, (seqP t s (m + 1)).2.at i = s.at i := by
  obtain ⟨h1, h2⟩ := putter_on h h0 m (by omega) hn
  have hov : (seqP t s m).1.over = true := by rw [h1]; simp; omega
  rw [seqP_over hov 1]
  exact ⟨hov, by rw [h1]; exact h0.2.2.1, h2⟩

/-- So many entries were none of the class. -/
theorem taker_on {t : Tk} {s : St} (h : SeqT P C M c L t s) (h0 : t.i = 0 ∧ t.hit = false ∧ t.found = false ∧ t.over = false) (k : Nat) (hk : (k : Int) ≤ M) (hn : ∀ j, j < k → t.hits (s.at (magB P C M c + j)) = false) :
    (seqT t s k).1 = { t with i := k, over := decide ((k : Int) = M) } ∧ ∀ i, (seqT t s k).2.at i = s.at i := by
  have hsh := h.sh
  induction k with
  | zero =>
    have hM : 0 < M := by
      have := (h.ok.run h0.2.2.2).2.2
      rw [h0.1, hsh.2.2.1] at this
      exact this
    refine ⟨?_, fun i => rfl⟩
    show t = _
    obtain ⟨a, b, d, e⟩ := h0
    have e1 : decide (((0 : Nat) : Int) = M) = false := by simp; omega
    rw [e1]
    cases t
    simp only at a e
    subst a e
    rfl
  | succ k ih =>
    obtain ⟨h1, h2⟩ := ih (by omega) (fun j hj => hn j (by omega))
    have q := seqT_is h k
    have ho : (seqT t s k).1.over = false := by rw [h1]; simp; omega
    have hat := q.ok.at_b ho
    rw [q.sh.1, q.sh.2.1, q.sh.2.2.1, q.sh.2.2.2, show (seqT t s k).1.i = k by rw [h1]] at hat
    have hx : (seqT t s k).1.hits ((seqT t s k).2.at (seqT t s k).1.at) = false := by
      rw [hat, h2, h1]
      exact hn k (by omega)
    have hh : (seqT t s k).1.hit = false := by rw [h1]; exact h0.2.1
    refine ⟨?_, fun i => ?_⟩
    · show (seqT t s k).1.next (seqT t s k).2 = _
      unfold Tk.next
      rw [if_neg (by rw [ho]; decide), if_neg (by rw [hh]; decide), if_neg (by rw [hx]; decide), h1]
      show ({ t with i := k + 1, over := decide (((k + 1 : Nat) : Int) = t.M) } : Tk) = _
      rw [hsh.2.2.1]
    · show ((seqT t s k).1.words (seqT t s k).2).at i = _
      unfold Tk.words
      rw [if_neg (by rw [ho]; decide), if_neg (by rw [hh]; decide), note_at, h2]
/-- The first one of the class is taken. -/
theorem taker_hit {t : Tk} {s : St} {m f : Nat} (h : SeqT P C M c L t s) (hL : (L : Int) = wordsI P C M) (hm : M = m) (h0 : t.i = 0 ∧ t.hit = false ∧ t.found = false ∧ t.over = false) (hf : f < m) (hz : t.hits (s.at (magB P C M c + f)) = true) (hn : ∀ j, j < f → t.hits (s.at (magB P C M c + j)) = false) :
    (seqT t s (m + 1)).1.over = true ∧ (seqT t s (m + 1)).1.found = true ∧ (seqT t s (m + 1)).1.page = aI (s.at (magB P C M c + f)) ∧ (seqT t s (m + 1)).1.slot = bI (s.at (magB P C M c + f)) ∧ ∀ i, (seqT t s (m + 1)).2.at i = if i = magB P C M c + f then 0 else s.at i := by
  obtain ⟨h1, h2⟩ := taker_on h h0 f (by omega) hn
  have q := seqT_is h f
  have ho : (seqT t s f).1.over = false := by rw [h1]; simp; omega
  have hh : (seqT t s f).1.hit = false := by rw [h1]; exact h0.2.1
  have hat := q.ok.at_b ho
  have hlt := (q.ok.at ho).2
  rw [q.sh.1, q.sh.2.1, q.sh.2.2.1] at hlt
  rw [q.sh.1, q.sh.2.1, q.sh.2.2.1, q.sh.2.2.2, show (seqT t s f).1.i = f by rw [h1]] at hat
  have hz' : (seqT t s f).1.hits ((seqT t s f).2.at (seqT t s f).1.at) = true := by
    rw [hat, h2, h1]
    exact hz
  have e1 : (seqT t s (f + 1)).1 = { (seqT t s f).1 with hit := true, page := aI (s.at (magB P C M c + f)), slot := bI (s.at (magB P C M c + f)) } := by
    show (seqT t s f).1.next (seqT t s f).2 = _
    unfold Tk.next
    rw [if_neg (by rw [ho]; decide), if_neg (by rw [hh]; decide), if_pos hz', hat, h2]
  have w1 : ∀ i, (seqT t s (f + 1)).2.at i = s.at i := fun i => by
    show ((seqT t s f).1.words (seqT t s f).2).at i = _
    unfold Tk.words
    rw [if_neg (by rw [ho]; decide), if_neg (by rw [hh]; decide), note_at, h2]
  have q1 := seqT_is h (f + 1)
  have ho1 : (seqT t s (f + 1)).1.over = false := by rw [e1]; exact ho
  have hh1 : (seqT t s (f + 1)).1.hit = true := by rw [e1]
  have hat1 : (seqT t s (f + 1)).1.at = magB P C M c + f := by rw [e1]; exact hat
  have e2 : (seqT t s (f + 2)).1 = { (seqT t s (f + 1)).1 with found := true, over := true } := by
    show (seqT t s (f + 1)).1.next (seqT t s (f + 1)).2 = _
    unfold Tk.next
    rw [if_neg (by rw [ho1]; decide), if_pos hh1]
  have hov : (seqT t s (f + 2)).1.over = true := by rw [e2]
  have w2 : ∀ i, (seqT t s (f + 2)).2.at i = if i = magB P C M c + f then 0 else s.at i := fun i => by
    show ((seqT t s (f + 1)).1.words (seqT t s (f + 1)).2).at i = _
    rw [Tk.words_at _ (fun _ => by rw [q1.len, hat1]; omega), hat1, w1]
    by_cases e : i = magB P C M c + f
    · rw [if_pos ⟨ho1, hh1, e⟩, if_pos e]
    · rw [if_neg (fun h => e h.2.2), if_neg e]
  have e3 : m + 1 = (f + 2) + (m - 1 - f) := by omega
  rw [e3, seqT_over hov]
  exact ⟨hov, by rw [e2], by rw [e2, e1], by rw [e2, e1], w2⟩
/-- None is of the class. -/
theorem taker_none {t : Tk} {s : St} {m : Nat} (h : SeqT P C M c L t s) (hm : M = m) (h0 : t.i = 0 ∧ t.hit = false ∧ t.found = false ∧ t.over = false) (hn : ∀ j, j < m → t.hits (s.at (magB P C M c + j)) = false) :
    (seqT t s (m + 1)).1.over = true ∧ (seqT t s (m + 1)).1.found = false ∧ ∀ i, (seqT t s (m + 1)).2.at i = s.at i := by
  obtain ⟨h1, h2⟩ := taker_on h h0 m (by omega) hn
  have hov : (seqT t s m).1.over = true := by rw [h1]; simp; omega
  rw [seqT_over hov 1]
  exact ⟨hov, by rw [h1]; exact h0.2.2.1, h2⟩
end

end Go.Proofs.Ytdnahojpeplajaa.Mag
