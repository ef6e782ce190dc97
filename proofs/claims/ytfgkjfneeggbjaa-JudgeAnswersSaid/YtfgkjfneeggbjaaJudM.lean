/- A judge in plain integers: what is heard of whom, why an event is not in order; what follows of whole histories. Nothing of the program. -/
import Derived.Test.YtfgkjfneeggbjaaModN
import Derived.Test.YtfgkjfneeggbjaaPlanM
namespace Go.Proofs.Ytfgkjfneeggbjaa.Jud
open Go.Proofs.Ytfgkjfneeggbjaa.Mod Go.Proofs.Ytfgkjfneeggbjaa.Plan

/-- An event. -/
structure Ev where
  kind : Int
  client : Int
  ok : Int
  oa : Int
  on : Int
  at_ : Int
  n : Int
  err : Int
/-- What is known of a client. -/
structure Pty where
  was : Bool
  lives : Bool
  asks : Bool
  took : Bool
  gave : Bool
  absent : Bool
  k : Int
  a : Int
  n : Int
  at_ : Int
structure St where
  W : Int
  c : Nat
  l : List Bk
  p : Nat → Pty
  i : Nat

def tookB (p : Pty) (e : Ev) : Bool := (decide (p.k = 1) || (decide (p.k = 3) && p.gave)) && !p.took && lengthB p.n && decide (lengthI p.n = e.n)
def gaveB (p : Pty) (e : Ev) : Bool := (decide (p.k = 2) || decide (p.k = 3)) && !p.gave && decide (e.at_ = p.a)
def answersB (p : Pty) (e : Ev) : Bool :=
  if e.err = 0 then (if p.k = 1 ∨ p.k = 3 then p.took && decide (e.at_ = p.at_) else if p.k = 2 then p.gave && decide (e.at_ = 0) else decide (e.at_ = 0))
  else if p.took || p.gave || decide (e.at_ ≠ 0) then false
  else if e.err = 1 then (if p.k = 1 then !lengthB p.n else if p.k = 2 then p.absent else if p.k = 3 then p.absent || !lengthB p.n else true)
  else if e.err = 3 then decide (p.k = 1 ∨ p.k = 3)
  else if e.err = 4 ∨ e.err = 5 then decide (p.k = 4)
  else false
def whyP (W : Int) (l : List Bk) (p : Pty) (e : Ev) : Int :=
  if e.kind = 0 then (if p.was = true then 1 else 0)
  else if e.kind = 1 then (if p.lives = false then 1 else if p.asks = true ∧ p.took = true then 5 else 0)
  else if e.kind = 2 then (if p.lives = false ∨ p.asks = true ∨ e.ok < 1 ∨ 4 < e.ok then 1 else 0)
  else if e.kind = 3 then (if p.lives = false ∨ p.asks = false then 1 else if tookB p e = true then (if canB W l e.at_ e.n = true then 0 else 2) else 5)
  else if e.kind = 4 then (if p.lives = false ∨ p.asks = false then 1 else if gaveB p e = true then (if giveB l e.at_ = true then 0 else 3) else 5)
  else if e.kind = 5 then (if p.lives = false ∨ p.asks = false then 1 else if answersB p e = true then 0 else 4)
  else 1
/-- Why an event is not in order; 0 where it is. -/
def whyS (s : St) (e : Ev) : Int := if 0 ≤ e.client ∧ e.client < s.c then whyP s.W s.l (s.p e.client.toNat) e else 1
def nextP (p : Pty) (e : Ev) : Pty :=
  if e.kind = 0 then { p with was := true, lives := true }
  else if e.kind = 1 then { p with lives := false, asks := false }
  else if e.kind = 2 then ⟨true, true, true, false, false, false, e.ok, e.oa, e.on, 0⟩
  else if e.kind = 3 then { p with took := true, at_ := e.at_ }
  else if e.kind = 4 then { p with gave := true }
  else { p with asks := false }
def nextL (l : List Bk) (e : Ev) : List Bk := if e.kind = 3 then ins l e.at_ e.n else if e.kind = 4 then give l e.at_ else l
def absentP (l : List Bk) (p : Pty) : Pty := if p.asks = true ∧ atF l p.a = none then { p with absent := true } else p
/-- Behind an event that is in order. -/
def nextS (s : St) (e : Ev) : St :=
  ⟨s.W, s.c, nextL s.l e, fun i => absentP (nextL s.l e) (if i = e.client.toNat then nextP (s.p i) e else s.p i), s.i + 1⟩
def pty0 : Pty := ⟨false, false, false, false, false, false, 0, 0, 0, 0⟩
def st0 (P C M : Int) : St := if mayB P C M = true then ⟨P * 64, C.toNat, [], fun _ => pty0, 0⟩ else ⟨0, 0, [], fun _ => pty0, 0⟩
/-- A whole history: at which event it is out of order, why. -/
def runS (s : St) : List Ev → Int × Int
  | [] => (-1, 0)
  | e :: L => if whyS s e = 0 then runS (nextS s e) L else ((s.i : Int), whyS s e)
/-- All of them are in order, and lead there. -/
def Goes (s : St) : List Ev → St → Prop
  | [], t => t = s
  | e :: L, t => whyS s e = 0 ∧ Goes (nextS s e) L t

theorem goes_snoc {s t : St} {L : List Ev} {e : Ev} (h : Goes s L t) (he : whyS t e = 0) : Goes s (L ++ [e]) (nextS t e) := by
  induction L generalizing s with
  | nil => cases h; exact ⟨he, rfl⟩
  | cons a L ih => exact ⟨h.1, ih h.2⟩
theorem goes_i {s t : St} {L : List Ev} (h : Goes s L t) : t.i = s.i + L.length ∧ t.c = s.c ∧ t.W = s.W := by
  induction L generalizing s with
  | nil => cases h; simp
  | cons a L ih =>
    obtain ⟨h1, h2, h3⟩ := ih h.2
    simp only [nextS] at h1 h2 h3
    rw [List.length_cons]
    exact ⟨by omega, h2, h3⟩
theorem run_goes {s t : St} {L M : List Ev} (h : Goes s L t) : runS s (L ++ M) = runS t M := by
  induction L generalizing s with
  | nil => cases h; rfl
  | cons a L ih => rw [List.cons_append, runS, if_pos h.1, ih h.2]
/-- How a run ends. -/
theorem run_cases (s : St) (L : List Ev) : (runS s L = (-1, 0) ∧ ∃ t, Goes s L t) ∨ ∃ A e B t, L = A ++ e :: B ∧ Goes s A t ∧ whyS t e ≠ 0 ∧ runS s L = (((s.i + A.length : Nat) : Int), whyS t e) := by
  induction L generalizing s with
  | nil => exact .inl ⟨rfl, s, rfl⟩
  | cons a L ih =>
    by_cases h : whyS s a = 0
    · rw [runS, if_pos h]
      rcases ih (nextS s a) with ⟨h1, t, h2⟩ | ⟨A, e, B, t, h1, h2, h3, h4⟩
      · exact .inl ⟨h1, t, h, h2⟩
      · refine .inr ⟨a :: A, e, B, t, by rw [h1]; rfl, ⟨h, h2⟩, h3, ?_⟩
        rw [h4]
        simp only [nextS, List.length_cons]
        congr 2
        omega
    · exact .inr ⟨[], a, L, s, rfl, rfl, h, by rw [runS, if_neg h]; rfl⟩
/-- A beginning of a history. -/
theorem run_first (s : St) (hs : s.i = 0) (L : List Ev) (n : Nat) (hn : n ≤ L.length) :
    ((runS s (L.take n)).2 ≠ 0 → runS s L = runS s (L.take n) ∧ (runS s L).1 < n ∧ 0 ≤ (runS s L).1) ∧
    ((runS s (L.take n)).2 = 0 → (runS s (L.take n)).1 = -1 ∧ ((runS s L).2 = 0 ∨ (n : Int) ≤ (runS s L).1)) := by
  have hL : L = L.take n ++ L.drop n := (List.take_append_drop n L).symm
  rcases run_cases s (L.take n) with ⟨h1, t, h2⟩ | ⟨A, e, B, t, h1, h2, h3, h4⟩
  · rw [h1]
    refine ⟨fun h => absurd rfl h, fun _ => ⟨rfl, ?_⟩⟩
    have h3 : runS s L = runS t (L.drop n) := by
      have := run_goes (M := L.drop n) h2
      rwa [← hL] at this
    have h4 := (goes_i h2).1
    rw [List.length_take] at h4
    rw [h3]
    rcases run_cases t (L.drop n) with ⟨h5, _⟩ | ⟨A, e, B, u, _, _, _, h6⟩
    · rw [h5]; exact .inl rfl
    · rw [h6]; right; show (n : Int) ≤ ((t.i + A.length : Nat) : Int); omega
  · have h5 : runS s L = (((s.i + A.length : Nat) : Int), whyS t e) := by
      rw [hL, h1, List.append_assoc, run_goes h2, List.cons_append, runS, if_neg h3]
      have := (goes_i h2).1
      rw [this]
    have h6 : A.length < n := by
      have := congrArg List.length h1
      rw [List.length_take, List.length_append, List.length_cons] at this
      omega
    rw [h4, h5]
    refine ⟨fun _ => ⟨rfl, ?_, ?_⟩, fun h => absurd h h3⟩
    · show ((s.i + A.length : Nat) : Int) < n; omega
    · show (0 : Int) ≤ ((s.i + A.length : Nat) : Int); omega

end Go.Proofs.Ytfgkjfneeggbjaa.Jud
