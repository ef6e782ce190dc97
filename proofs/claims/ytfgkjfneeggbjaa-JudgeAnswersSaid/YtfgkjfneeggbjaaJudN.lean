/- A judge in plain integers: what is in blocks is what was taken and not given; who lives, who has taken. Nothing of the program. -/
import Derived.Test.YtfgkjfneeggbjaaJudM
import Derived.Test.YtfgkjfneeggbjaaModB
namespace Go.Proofs.Ytfgkjfneeggbjaa.Jud
open Go.Proofs.Ytfgkjfneeggbjaa.Mod Go.Proofs.Ytfgkjfneeggbjaa.Plan

/-- An event that is in order, by its kind. -/
theorem why_in {s : St} {e : Ev} (h : whyS s e = 0) : 0 ≤ e.client ∧ e.client < s.c ∧ whyP s.W s.l (s.p e.client.toNat) e = 0 := by
  unfold whyS at h
  split at h
  · rename_i h1; exact ⟨h1.1, h1.2, h⟩
  · cases h
theorem why_kind {W : Int} {l : List Bk} {p : Pty} {e : Ev} (h : whyP W l p e = 0) : e.kind = 0 ∨ e.kind = 1 ∨ e.kind = 2 ∨ e.kind = 3 ∨ e.kind = 4 ∨ e.kind = 5 := by
  unfold whyP at h
  split at h
  · exact .inl ‹_›
  split at h
  · exact .inr (.inl ‹_›)
  split at h
  · exact .inr (.inr (.inl ‹_›))
  split at h
  · exact .inr (.inr (.inr (.inl ‹_›)))
  split at h
  · exact .inr (.inr (.inr (.inr (.inl ‹_›))))
  split at h
  · exact .inr (.inr (.inr (.inr (.inr ‹_›))))
  · cases h
theorem why_started {W : Int} {l : List Bk} {p : Pty} {e : Ev} (k : e.kind = 0) : whyP W l p e = if p.was = true then 1 else 0 := by simp [whyP, k]
theorem why_killed {W : Int} {l : List Bk} {p : Pty} {e : Ev} (k : e.kind = 1) : whyP W l p e = if p.lives = false then 1 else if p.asks = true ∧ p.took = true then 5 else 0 := by simp [whyP, k]
theorem why_invoked {W : Int} {l : List Bk} {p : Pty} {e : Ev} (k : e.kind = 2) : whyP W l p e = if p.lives = false ∨ p.asks = true ∨ e.ok < 1 ∨ 4 < e.ok then 1 else 0 := by simp [whyP, k]
theorem why_took {W : Int} {l : List Bk} {p : Pty} {e : Ev} (k : e.kind = 3) (h : whyP W l p e = 0) : p.lives = true ∧ p.asks = true ∧ tookB p e = true ∧ canB W l e.at_ e.n = true := by
  unfold whyP at h
  simp only [k, if_neg (by decide : ¬ (3 : Int) = 0), if_neg (by decide : ¬ (3 : Int) = 1), if_neg (by decide : ¬ (3 : Int) = 2), if_true] at h
  split at h
  · cases h
  · rename_i h0
    split at h
    · split at h
      · rename_i h1 h2
        simp only [not_or, Bool.not_eq_false] at h0
        exact ⟨h0.1, h0.2, h1, h2⟩
      · cases h
    · cases h
theorem why_gave {W : Int} {l : List Bk} {p : Pty} {e : Ev} (k : e.kind = 4) (h : whyP W l p e = 0) : p.lives = true ∧ p.asks = true ∧ gaveB p e = true ∧ giveB l e.at_ = true := by
  unfold whyP at h
  simp only [k, if_neg (by decide : ¬ (4 : Int) = 0), if_neg (by decide : ¬ (4 : Int) = 1), if_neg (by decide : ¬ (4 : Int) = 2), if_neg (by decide : ¬ (4 : Int) = 3), if_true] at h
  split at h
  · cases h
  · rename_i h0
    split at h
    · split at h
      · rename_i h1 h2
        simp only [not_or, Bool.not_eq_false] at h0
        exact ⟨h0.1, h0.2, h1, h2⟩
      · cases h
    · cases h
theorem why_asks {W : Int} {l : List Bk} {p : Pty} {e : Ev} (k : e.kind = 5) (h : whyP W l p e = 0) : p.lives = true ∧ p.asks = true ∧ answersB p e = true := by
  unfold whyP at h
  simp only [k, if_neg (by decide : ¬ (5 : Int) = 0), if_neg (by decide : ¬ (5 : Int) = 1), if_neg (by decide : ¬ (5 : Int) = 2), if_neg (by decide : ¬ (5 : Int) = 3), if_neg (by decide : ¬ (5 : Int) = 4), if_true] at h
  split at h
  · cases h
  · rename_i h0
    split at h
    · rename_i h1
      simp only [not_or, Bool.not_eq_false] at h0
      exact ⟨h0.1, h0.2, h1⟩
    · cases h

theorem next_ok {s : St} {e : Ev} (hok : Ok s.W s.l) (h : whyS s e = 0) : Ok s.W (nextL s.l e) := by
  obtain ⟨_, _, h1⟩ := why_in h
  unfold nextL
  split
  · exact ins_ok hok (why_took ‹_› h1).2.2.2
  · split
    · exact give_ok hok _
    · exact hok

def bkE (e : Ev) : Bk := ⟨e.at_, e.n⟩
/-- What was taken and not given. -/
def Held (s : St) (A : List Ev) : Prop := (A.map bkE).Perm s.l
theorem used_perm {A B : List Bk} (h : A.Perm B) : used A = used B := by
  induction h with
  | nil => rfl
  | cons x _ ih => simp only [used, ih]
  | swap x y l => simp only [used]; omega
  | trans _ _ ih1 ih2 => exact ih1.trans ih2
theorem used_app (A B : List Bk) : used (A ++ B) = used A + used B := by
  induction A with
  | nil => simp [used]
  | cons a A ih => simp only [List.cons_append, used, ih]; omega
theorem ins_perm (l : List Bk) (p n : Int) : (ins l p n).Perm (⟨p, n⟩ :: l) := by
  unfold ins
  refine List.perm_middle.trans ?_
  rw [List.takeWhile_append_dropWhile]
theorem Held.other {s : St} {A : List Ev} {e : Ev} (h : Held s A) (h3 : e.kind ≠ 3) (h4 : e.kind ≠ 4) : Held (nextS s e) A := by
  unfold Held nextS nextL
  simp only [if_neg h3, if_neg h4]
  exact h
theorem Held.took {s : St} {A : List Ev} {e : Ev} (h : Held s A) (h3 : e.kind = 3) : Held (nextS s e) (A ++ [e]) := by
  unfold Held nextS nextL
  simp only [if_pos h3]
  rw [List.map_append, List.map_cons, List.map_nil]
  exact (List.perm_append_comm.trans (List.Perm.cons (bkE e) h)).trans (ins_perm _ _ _).symm
theorem Held.there {s : St} {A : List Ev} {e : Ev} (h : Held s A) (hg : giveB s.l e.at_ = true) : ∃ k, ∃ hk : k < A.length, A[k].at_ = e.at_ := by
  obtain ⟨b, hb, hp⟩ := giveB_iff.1 hg
  have hb2 := (List.Perm.mem_iff h).2 hb
  obtain ⟨x, hx, rfl⟩ := List.mem_map.1 hb2
  obtain ⟨k, hk, rfl⟩ := List.mem_iff_getElem.1 hx
  exact ⟨k, hk, hp⟩
theorem Held.gave {s : St} {A : List Ev} {e : Ev} (h : Held s A) (hok : Ok s.W s.l) (h4 : e.kind = 4) {k : Nat} (hk : k < A.length) (he : A[k].at_ = e.at_) :
    Held (nextS s e) (A.take k ++ A.drop (k + 1)) ∧ used (nextS s e).l = used s.l - A[k].n ∧ (nextS s e).l.length + 1 = s.l.length := by
  have hm : bkE A[k] ∈ s.l := (List.Perm.mem_iff h).1 (List.mem_map.2 ⟨_, List.getElem_mem hk, rfl⟩)
  obtain ⟨i, hi, hb⟩ := List.mem_iff_getElem.1 hm
  have hn : (nextS s e).l = s.l.take i ++ s.l.drop (i + 1) := by
    show nextL s.l e = _
    unfold nextL
    rw [if_neg (by omega), if_pos h4]
    have := give_at hok i hi
    rw [hb] at this
    rw [← this]
    show give s.l e.at_ = give s.l A[k].at_
    rw [he]
  have hl : s.l = s.l.take i ++ s.l[i] :: s.l.drop (i + 1) := by
    rw [← List.drop_eq_getElem_cons hi, List.take_append_drop]
  have hA : A = A.take k ++ A[k] :: A.drop (k + 1) := by
    rw [← List.drop_eq_getElem_cons hk, List.take_append_drop]
  refine ⟨?_, ?_, ?_⟩
  · unfold Held
    rw [hn, List.map_append]
    have h1 : (A.map bkE).Perm (bkE A[k] :: ((A.take k).map bkE ++ (A.drop (k + 1)).map bkE)) := by
      conv => lhs; rw [hA]
      rw [List.map_append, List.map_cons]
      exact List.perm_middle
    have h2 : s.l.Perm (s.l[i] :: (s.l.take i ++ s.l.drop (i + 1))) := by
      conv => lhs; rw [hl]
      exact List.perm_middle
    rw [hb] at h2
    exact (List.perm_cons _).1 ((h1.symm.trans h).trans h2)
  · rw [hn]
    conv => rhs; rw [hl]
    rw [used_app, used_app, used, hb]
    show _ = used _ + (A[k].n + used _) - A[k].n
    omega
  · rw [hn, List.length_append, List.length_take, List.length_drop]
    omega
theorem Held.len {s : St} {A : List Ev} (h : Held s A) : A.length = s.l.length := by
  have := List.Perm.length_eq h
  simpa using this
theorem Held.at {s : St} {A : List Ev} (h : Held s A) (hok : Ok s.W s.l) {k : Nat} (hk : k < A.length) : atF s.l A[k].at_ = some (bkE A[k]) :=
  atF_some hok ((List.Perm.mem_iff h).1 (List.mem_map.2 ⟨_, List.getElem_mem hk, rfl⟩))

/-- Does it live, by what was heard of it? Has it taken last? -/
def livesE (c : Int) (b : Bool) (e : Ev) : Bool := if e.client = c ∧ e.kind = 0 then true else if e.client = c ∧ e.kind = 1 then false else b
def tookE (c : Int) (b : Bool) (e : Ev) : Bool := if e.client = c then decide (e.kind = 3) else b
def livesL (c : Int) (L : List Ev) : Bool := L.foldl (livesE c) false
def tookL (c : Int) (L : List Ev) : Bool := L.foldl (tookE c) false
theorem livesL_snoc (c : Int) (L : List Ev) (e : Ev) : livesL c (L ++ [e]) = livesE c (livesL c L) e := by simp [livesL]
theorem tookL_snoc (c : Int) (L : List Ev) (e : Ev) : tookL c (L ++ [e]) = tookE c (tookL c L) e := by simp [tookL]

/-- What is known of one client behind a history. -/
structure Knows (c : Int) (L : List Ev) (p : Pty) : Prop where
  was : p.lives = true → p.was = true
  asks : p.asks = true → p.lives = true
  took : p.asks = true → p.took = true → p.k = 1 ∨ (p.k = 3 ∧ p.gave = true)
  lives : p.lives = livesL c L
  last : (p.asks && p.took) = tookL c L
theorem Knows.zero (c : Int) : Knows c [] pty0 := ⟨by decide, by decide, by decide, rfl, rfl⟩
theorem Knows.absent {c : Int} {L : List Ev} {p : Pty} (h : Knows c L p) (l : List Bk) : Knows c L (absentP l p) := by
  unfold absentP
  split
  · exact ⟨h.was, h.asks, h.took, h.lives, h.last⟩
  · exact h
theorem Knows.other {c : Int} {L : List Ev} {p : Pty} (h : Knows c L p) {e : Ev} (hc : e.client ≠ c) : Knows c (L ++ [e]) p :=
  ⟨h.was, h.asks, h.took, by rw [livesL_snoc, livesE, if_neg (fun k => hc k.1), if_neg (fun k => hc k.1)]; exact h.lives, by rw [tookL_snoc, tookE, if_neg hc]; exact h.last⟩
theorem Knows.own {W : Int} {l : List Bk} {c : Int} {L : List Ev} {p : Pty} (h : Knows c L p) {e : Ev} (hc : e.client = c) (hw : whyP W l p e = 0) : Knows c (L ++ [e]) (nextP p e) := by
  have e1 : livesL c (L ++ [e]) = if e.kind = 0 then true else if e.kind = 1 then false else p.lives := by
    rw [livesL_snoc, livesE, h.lives]; simp only [hc, true_and]
  have e2 : tookL c (L ++ [e]) = decide (e.kind = 3) := by rw [tookL_snoc, tookE, if_pos hc]
  rcases why_kind hw with k | k | k | k | k | k
  · rw [why_started k] at hw
    have hn : p.lives = false := by
      cases hl : p.lives
      · rfl
      · rw [h.was hl] at hw; cases hw
    have ha : p.asks = false := by
      cases ha : p.asks
      · rfl
      · rw [h.asks ha] at hn; cases hn
    have hp : nextP p e = { p with was := true, lives := true } := by simp [nextP, k]
    rw [hp]
    exact ⟨fun _ => rfl, fun _ => rfl, h.took, by rw [e1, if_pos k], by rw [e2]; simp [k, ha]⟩
  · have hp : nextP p e = { p with lives := false, asks := false } := by simp [nextP, k]
    rw [hp]
    exact ⟨fun x => (by cases x), fun x => (by cases x), fun x => (by cases x), by rw [e1]; simp [k], by rw [e2]; simp [k]⟩
  · have hp : nextP p e = ⟨true, true, true, false, false, false, e.ok, e.oa, e.on, 0⟩ := by simp [nextP, k]
    rw [why_invoked k] at hw
    have hl : p.lives = true := by
      cases hl : p.lives
      · simp [hl] at hw
      · rfl
    rw [hp]
    exact ⟨fun _ => rfl, fun _ => rfl, fun _ x => (by cases x), by rw [e1]; simp [k, hl], by rw [e2]; simp [k]⟩
  · obtain ⟨hl, ha, ht, -⟩ := why_took k hw
    have hp : nextP p e = { p with took := true, at_ := e.at_ } := by simp [nextP, k]
    rw [hp]
    refine ⟨h.was, h.asks, fun _ _ => ?_, by rw [e1]; simp [k], by rw [e2]; simp [k, ha]⟩
    simp only [tookB, Bool.and_eq_true, Bool.or_eq_true, decide_eq_true_eq] at ht
    exact ht.1.1.1
  · obtain ⟨hl, ha, hg, -⟩ := why_gave k hw
    have hp : nextP p e = { p with gave := true } := by simp [nextP, k]
    rw [hp]
    simp only [gaveB, Bool.and_eq_true, Bool.or_eq_true, Bool.not_eq_true', decide_eq_true_eq] at hg
    have ht : p.took = false := by
      cases ht : p.took
      · rfl
      · rcases h.took ha ht with h1 | ⟨_, h1⟩
        · omega
        · rw [h1] at hg; cases hg.1.2
    exact ⟨h.was, h.asks, fun _ x => (by rw [ht] at x; cases x), by rw [e1]; simp [k], by rw [e2]; simp [k, ht]⟩
  · obtain ⟨hl, ha, -⟩ := why_asks k hw
    have hp : nextP p e = { p with asks := false } := by simp [nextP, k]
    rw [hp]
    exact ⟨h.was, fun x => (by cases x), fun x => (by cases x), by rw [e1]; simp [k], by rw [e2]; simp [k]⟩
theorem Knows.step {c : Int} {L : List Ev} {s : St} {e : Ev} (hc : 0 ≤ c) (h : Knows c L (s.p c.toNat)) (hw : whyS s e = 0) : Knows c (L ++ [e]) ((nextS s e).p c.toNat) := by
  obtain ⟨h0, -, h1⟩ := why_in hw
  show Knows c (L ++ [e]) (absentP _ (if c.toNat = e.client.toNat then nextP (s.p c.toNat) e else s.p c.toNat))
  refine Knows.absent ?_ _
  by_cases he : e.client = c
  · rw [if_pos (by rw [he])]
    refine h.own (W := s.W) (l := s.l) he ?_
    rwa [← he]
  · rw [if_neg (by omega)]
    exact h.other he

theorem goes_ok {s t : St} {L : List Ev} (h : Goes s L t) (hok : Ok s.W s.l) : Ok t.W t.l := by
  induction L generalizing s with
  | nil => cases h; exact hok
  | cons a L ih => exact ih h.2 (next_ok hok h.1)
theorem st0_ok (P C M : Int) : Ok (st0 P C M).W (st0 P C M).l := by
  unfold st0
  split
  · exact Ok.nil _
  · exact Ok.nil _
theorem st0_p (P C M : Int) (i : Nat) : (st0 P C M).p i = pty0 := by
  unfold st0
  split <;> rfl

/-- One that is killed. -/
theorem kill_why {c : Int} {L : List Ev} {s : St} {e : Ev} (h : Knows c L (s.p c.toNat)) (hc : 0 ≤ c ∧ c < s.c) (he : e.client = c) (k : e.kind = 1) :
    (whyS s e = 0 ↔ livesL c L = true ∧ tookL c L = false) := by
  unfold whyS
  rw [he, if_pos hc, why_killed k, ← h.lives, ← h.last]
  cases h1 : (s.p c.toNat).lives
  · simp
  · cases h2 : (s.p c.toNat).asks
    · simp
    · cases h3 : (s.p c.toNat).took
      · simp
      · simp
theorem killed_is {c : Int} {L : List Ev} {s : St} {e : Ev} (h : Knows c L (s.p c.toNat)) (hc : 0 ≤ c ∧ c < s.c) (he : e.client = c) (k : e.kind = 1) (hw : whyS s e = 0) :
    ((nextS s e).p c.toNat).asks = false ∧ ((nextS s e).p c.toNat).was = true ∧ (nextS s e).l = s.l := by
  have h1 := (kill_why h hc he k).1 hw
  have hl : (s.p c.toNat).lives = true := by rw [h.lives]; exact h1.1
  have hn : (nextS s e).l = s.l := by
    show nextL s.l e = s.l
    simp [nextL, k]
  have hp : (nextS s e).p c.toNat = absentP (nextL s.l e) { s.p c.toNat with lives := false, asks := false } := by
    show absentP _ (if c.toNat = e.client.toNat then nextP (s.p c.toNat) e else s.p c.toNat) = _
    rw [if_pos (by rw [he])]
    simp [nextP, k]
  rw [hp]
  refine ⟨?_, ?_, hn⟩
  · simp [absentP]
  · simp [absentP, h.was hl]

end Go.Proofs.Ytfgkjfneeggbjaa.Jud
