/- The program's judge: what it holds in memory; what is asked of one operation on its way: a contract each. -/
import Derived.Test.YtfgkjfneeggbjaaJudC
import Derived.Test.YtfgkjfneeggbjaaPlanB
import Derived.Deep.CutBlock
import Derived.Deep.RegionHeld3
namespace Go.Proofs.Ytfgkjfneeggbjaa.Jud
open Go.RowKit Mem Go.Proofs.Ytfgkjfneeggbjaa.Mod Go.Proofs.Ytfgkjfneeggbjaa.Plan

/-- An operation on its way: seven cells. -/
abbrev tkL (p : Pty) : List Value := [.int .i64 p.k, .int .i64 p.a, .int .i64 p.n, .bool p.took, .bool p.gave, .int .i64 p.at_, .bool p.absent]
theorem tk_cells {w : World} {b : Nat} {p : Pty} (h : Blk w b 72 (tkL p).toArray) :
    w.cell? ⟨b, 0, none⟩ = some (.int .i64 p.k) ∧ w.cell? ⟨b, 1, none⟩ = some (.int .i64 p.a) ∧ w.cell? ⟨b, 2, none⟩ = some (.int .i64 p.n) ∧ w.cell? ⟨b, 3, none⟩ = some (.bool p.took) ∧ w.cell? ⟨b, 4, none⟩ = some (.bool p.gave) ∧
      w.cell? ⟨b, 5, none⟩ = some (.int .i64 p.at_) ∧ w.cell? ⟨b, 6, none⟩ = some (.bool p.absent) := ⟨h.cell 0, h.cell 1, h.cell 2, h.cell 3, h.cell 4, h.cell 5, h.cell 6⟩
/-- Of the four kinds. -/
def kindOk (p : Pty) : Prop := p.k = 1 ∨ p.k = 2 ∨ p.k = 3 ∨ p.k = 4

def tookN (p : Pty) (n : Int) : Bool := (decide (p.k = 1) || (decide (p.k = 3) && p.gave)) && !p.took && lengthB p.n && decide (lengthI p.n = n)
def gaveN (p : Pty) (x : Int) : Bool := (decide (p.k = 2) || decide (p.k = 3)) && !p.gave && decide (x = p.a)
def doneN (p : Pty) (x : Int) : Bool := if p.k = 1 ∨ p.k = 3 then p.took && decide (x = p.at_) else if p.k = 2 then p.gave && decide (x = 0) else decide (x = 0)
def failN (p : Pty) (r : Int) : Bool :=
  if r = 1 then (if p.k = 1 then !lengthB p.n else if p.k = 2 then p.absent else if p.k = 3 then p.absent || !lengthB p.n else true)
  else if r = 3 then decide (p.k = 1 ∨ p.k = 3)
  else if r = 4 ∨ r = 5 then decide (p.k = 4)
  else false
def answerN (p : Pty) (r x : Int) : Bool := if r = 0 then doneN p x else !p.took && !p.gave && decide (x = 0) && failN p r
theorem answerN_eq (p : Pty) (e : Ev) : answersB p e = answerN p e.err e.at_ := by
  unfold answersB answerN doneN failN
  by_cases h0 : e.err = 0
  · rw [if_pos h0, if_pos h0]
  · rw [if_neg h0, if_neg h0]
    cases p.took <;> cases p.gave <;> simp
    all_goals
      by_cases hx : e.at_ = 0
      · simp [hx]
      · simp [hx]

set_option maxRecDepth 100000
set_option maxHeartbeats 4000000

theorem mayTake_any {w : World} {b : Nat} {p : Pty} (hb : Blk w b 72 (tkL p).toArray) (hk : kindOk p) (n : Int) :
    Calls Try.prog 35 #[.pointer (some ⟨b, 0, none⟩), .int .i64 n] w fun e w' => e = .returned (.bool (tookN p n)) ∧ w = w' := by
  obtain ⟨c0, -, c2, c3, c4, -, -⟩ := tk_cells hb
  unfold tookN
  obtain ⟨was, lives, asks, took, gave, absent, k, a, m, at_⟩ := p
  dsimp only at *
  cases hl : lengthB m
  · simp only [Bool.and_false, Bool.false_and]
    clear hb hk
    go_enter Try.func35, Try.ntmps35
    go_wp2_with (go_at_call 42; refine (length_any _ _).mono ?_; rintro e w' ⟨rfl, rfl⟩; rw [hl])
    go_ret
    exact ⟨rfl, rfl⟩
  · by_cases hn : lengthI m = n
    · have d1 : (n == lengthI m) = true := by simp [hn]
      simp only [hn, decide_true, Bool.and_true]
      rw [hn] at d1
      have HN := Lib.hid hn
      clear hb hn
      cases took
      · rcases hk with h | h | h | h <;> dsimp only at h <;> subst h
        all_goals try cases gave
        all_goals
          go_enter Try.func35, Try.ntmps35
          go_wp2_with (go_at_call 42; refine (length_any _ _).mono ?_; rintro e w' ⟨rfl, rfl⟩; rw [hl, HN.out])
          go_ret
          exact ⟨rfl, rfl⟩
      · simp only [Bool.and_false, Bool.not_true]
        clear hk
        go_enter Try.func35, Try.ntmps35
        go_wp2_with (go_at_call 42; refine (length_any _ _).mono ?_; rintro e w' ⟨rfl, rfl⟩; rw [hl, HN.out])
        go_ret
        exact ⟨rfl, rfl⟩
    · have d1 : (n != lengthI m) = true := by simpa using fun h : n = lengthI m => hn h.symm
      simp only [hn, decide_false, Bool.and_false]
      clear hb hk hn
      go_enter Try.func35, Try.ntmps35
      go_wp2_with (go_at_call 42; refine (length_any _ _).mono ?_; rintro e w' ⟨rfl, rfl⟩; rw [hl])
      go_ret
      exact ⟨rfl, rfl⟩

theorem mayGive_any {w : World} {b : Nat} {p : Pty} (hb : Blk w b 72 (tkL p).toArray) (hk : kindOk p) (x : Int) :
    Calls Try.prog 37 #[.pointer (some ⟨b, 0, none⟩), .int .i64 x] w fun e w' => e = .returned (.bool (gaveN p x)) ∧ w = w' := by
  obtain ⟨c0, c1, -, c3, c4, -, -⟩ := tk_cells hb
  unfold gaveN
  obtain ⟨was, lives, asks, took, gave, absent, k, a, m, at_⟩ := p
  dsimp only at *
  clear hb
  cases gave
  · by_cases hn : x = a
    · subst hn
      rcases hk with h | h | h | h <;> dsimp only at h <;> subst h
      all_goals
        simp only [decide_true, Bool.and_true]
        go_enter Try.func37, Try.ntmps37
        go_wp2
        go_ret
        exact ⟨rfl, rfl⟩
    · have d1 : (x == a) = false := by simpa using hn
      simp only [hn, decide_false, Bool.and_false]
      rcases hk with h | h | h | h <;> dsimp only at h <;> subst h
      all_goals
        go_enter Try.func37, Try.ntmps37
        go_wp2
        go_ret
        exact ⟨rfl, rfl⟩
  · rcases hk with h | h | h | h <;> dsimp only at h <;> subst h
    all_goals
      simp only [Bool.not_true, Bool.and_false, Bool.false_and]
      go_enter Try.func37, Try.ntmps37
      go_wp2
      go_ret
      exact ⟨rfl, rfl⟩

theorem done_any {w : World} {b : Nat} {p : Pty} (hb : Blk w b 72 (tkL p).toArray) (hk : kindOk p) (x : Int) :
    Calls Try.prog 46 #[.pointer (some ⟨b, 0, none⟩), .int .i64 x] w fun e w' => e = .returned (.bool (doneN p x)) ∧ w = w' := by
  obtain ⟨c0, -, -, c3, c4, c5, -⟩ := tk_cells hb
  obtain ⟨was, lives, asks, took, gave, absent, k, a, m, at_⟩ := p
  dsimp only at *
  clear hb
  rcases hk with h | h | h | h <;> dsimp only at h <;> subst h
  all_goals cases took <;> cases gave
  all_goals
    show Calls _ _ _ _ fun e w' => e = .returned (.bool _) ∧ _
    go_enter Try.func46, Try.ntmps46
    go_wp2
    go_ret
    exact ⟨by simp [doneN] <;> rfl, rfl⟩

theorem fail_any {w : World} {b : Nat} {p : Pty} (hb : Blk w b 72 (tkL p).toArray) (hk : kindOk p) (r : Int) :
    Calls Try.prog 47 #[.pointer (some ⟨b, 0, none⟩), .int .i64 r] w fun e w' => e = .returned (.bool (failN p r)) ∧ w = w' := by
  obtain ⟨c0, -, c2, -, -, -, c6⟩ := tk_cells hb
  obtain ⟨was, lives, asks, took, gave, absent, k, a, m, at_⟩ := p
  dsimp only at *
  clear hb
  by_cases r1 : r = 1
  · subst r1
    rcases hk with h | h | h | h <;> dsimp only at h <;> subst h
    all_goals cases absent <;> cases hl : lengthB m
    all_goals
      go_enter Try.func47, Try.ntmps47
      go_wp2_with (go_at_call 42; refine (length_any _ _).mono ?_; rintro e w' ⟨rfl, rfl⟩; rw [hl])
      go_ret
      exact ⟨by simp [failN, hl], rfl⟩
  · have d1 : (r == 1) = false := by simpa using r1
    by_cases r3 : r = 3
    · subst r3
      clear r1 d1
      rcases hk with h | h | h | h <;> dsimp only at h <;> subst h
      all_goals
        go_enter Try.func47, Try.ntmps47
        go_wp2_with (go_at_call 42; refine (length_any _ _).mono ?_; rintro e w' ⟨rfl, rfl⟩)
        go_ret
        exact ⟨by simp [failN], rfl⟩
    · have d3 : (r == 3) = false := by simpa using r3
      by_cases r4 : r = 4
      · subst r4
        clear r1 d1 r3 d3
        rcases hk with h | h | h | h <;> dsimp only at h <;> subst h
        all_goals
          go_enter Try.func47, Try.ntmps47
          go_wp2_with (go_at_call 42; refine (length_any _ _).mono ?_; rintro e w' ⟨rfl, rfl⟩)
          go_ret
          exact ⟨by simp [failN], rfl⟩
      · have d4 : (r == 4) = false := by simpa using r4
        by_cases r5 : r = 5
        · subst r5
          clear r1 d1 r3 d3 r4 d4
          rcases hk with h | h | h | h <;> dsimp only at h <;> subst h
          all_goals
            go_enter Try.func47, Try.ntmps47
            go_wp2_with (go_at_call 42; refine (length_any _ _).mono ?_; rintro e w' ⟨rfl, rfl⟩)
            go_ret
            exact ⟨by simp [failN], rfl⟩
        · have d5 : (r == 5) = false := by simpa using r5
          have HF : Hid (failN ⟨was, lives, asks, took, gave, absent, k, a, m, at_⟩ r = false) := Lib.hid (by simp [failN, r1, r3, r4, r5])
          clear r1 r3 r4 r5
          rcases hk with h | h | h | h <;> dsimp only at h <;> subst h
          all_goals
            go_enter Try.func47, Try.ntmps47
            go_wp2_with (go_at_call 42; refine (length_any _ _).mono ?_; rintro e w' ⟨rfl, rfl⟩)
            go_ret
            exact ⟨by rw [HF.out]; rfl, rfl⟩

theorem mayAnswer_any {w : World} {b : Nat} {p : Pty} (hb : Blk w b 72 (tkL p).toArray) (hk : kindOk p) (r x : Int) :
    Calls Try.prog 39 #[.pointer (some ⟨b, 0, none⟩), .int .i64 r, .int .i64 x] w fun e w' => e = .returned (.bool (answerN p r x)) ∧ w = w' := by
  have HB := Lib.hid hb
  have HK := Lib.hid hk
  obtain ⟨-, -, -, c3, c4, -, -⟩ := tk_cells hb
  clear hb hk
  unfold answerN
  by_cases r0 : r = 0
  · subst r0
    rw [if_pos rfl]
    go_enter Try.func39, Try.ntmps39
    go_wp2_with (go_at_call 46; refine (done_any HB.out HK.out _).mono ?_; rintro e w' ⟨rfl, rfl⟩)
    go_ret
    exact ⟨rfl, rfl⟩
  · have d0 : (r == 0) = false := by simpa using r0
    rw [if_neg r0]
    clear r0
    cases h3 : p.took <;> rw [h3] at c3
    · cases h4 : p.gave <;> rw [h4] at c4
      · by_cases hx : x = 0
        · subst hx
          go_enter Try.func39, Try.ntmps39
          go_wp2_with (go_at_call 47; refine (fail_any HB.out HK.out _).mono ?_; rintro e w' ⟨rfl, rfl⟩)
          go_ret
          exact ⟨by simp, rfl⟩
        · have dx : (x == 0) = false := by simpa using hx
          simp only [hx, decide_false, Bool.and_false, Bool.false_and]
          go_enter Try.func39, Try.ntmps39
          go_wp2
          go_ret
          exact ⟨rfl, rfl⟩
      · simp only [Bool.not_true, Bool.and_false, Bool.false_and]
        go_enter Try.func39, Try.ntmps39
        go_wp2
        go_ret
        exact ⟨rfl, rfl⟩
    · simp only [Bool.not_true, Bool.false_and]
      go_enter Try.func39, Try.ntmps39
      go_wp2
      go_ret
      exact ⟨rfl, rfl⟩

end Go.Proofs.Ytfgkjfneeggbjaa.Jud
