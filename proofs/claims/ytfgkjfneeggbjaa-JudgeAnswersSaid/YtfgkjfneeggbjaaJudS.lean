/- Stage 7: JudgeAnswers: what is heard, in plain integers. -/
import Derived.Test.YtfgkjfneeggbjaaJudA
import Derived.Test.YtfgkjfneeggbjaaPlanC
namespace Go.Proofs.Ytfgkjfneeggbjaa.Jud
open Go.RowKit Mem Go.Proofs.Ytfgkjfneeggbjaa.Mod Go.Proofs.Ytfgkjfneeggbjaa.Plan

def a1 : Ev := ev 0 0 0 0 0 0 0 0
def a2 : Ev := ev 0 1 0 0 0 0 0 0
def b1 : Ev := ev 2 1 1 0 8 0 0 0
def b2 : Ev := ev 3 1 0 0 0 16 8 0
def b3 : Ev := ev 5 1 1 0 8 16 0 0
def sA : St := nextS (nextS (st0 2 2 0) a1) a2
def sB : St := nextS (nextS (nextS sA b1) b2) b3
theorem wf0 : inI 0 := ⟨by decide, by decide⟩
theorem a1_wf : a1.wf := by refine ⟨?_, ?_, ?_, ?_, ?_, ?_, ?_, ?_⟩ <;> (unfold inI; decide)
theorem a2_wf : a2.wf := by refine ⟨?_, ?_, ?_, ?_, ?_, ?_, ?_, ?_⟩ <;> (unfold inI; decide)
theorem b1_wf : b1.wf := by refine ⟨?_, ?_, ?_, ?_, ?_, ?_, ?_, ?_⟩ <;> (unfold inI; decide)
theorem b2_wf : b2.wf := by refine ⟨?_, ?_, ?_, ?_, ?_, ?_, ?_, ?_⟩ <;> (unfold inI; decide)
theorem b3_wf : b3.wf := by refine ⟨?_, ?_, ?_, ?_, ?_, ?_, ?_, ?_⟩ <;> (unfold inI; decide)
theorem a1_why : whyS (st0 2 2 0) a1 = 0 := by kernel_rfl
theorem a2_why : whyS (nextS (st0 2 2 0) a1) a2 = 0 := by kernel_rfl
theorem b1_why : whyS sA b1 = 0 := by kernel_rfl
theorem b2_why : whyS (nextS sA b1) b2 = 0 := by kernel_rfl
theorem b3_why : whyS (nextS (nextS sA b1) b2) b3 = 0 := by kernel_rfl
theorem sA_is : sA.c = 2 ∧ sA.l = [] ∧ (sA.p 0).lives = true ∧ (sA.p 0).asks = false := ⟨by kernel_rfl, by kernel_rfl, by kernel_rfl, by kernel_rfl⟩
theorem sB_is : sB.c = 2 ∧ sB.l = [⟨16, 8⟩] ∧ (sB.p 0).lives = true ∧ (sB.p 0).asks = false := ⟨by kernel_rfl, by kernel_rfl, by kernel_rfl, by kernel_rfl⟩

/-- What the law expects. -/
def wantB (k r : Int) (fine there : Bool) : Bool :=
  if k = 1 then decide (r = 3) || (decide (r = 1) && !fine)
  else if k = 2 then decide (r = 1) && !there
  else if k = 3 then decide (r = 3) || (decide (r = 1) && (!there || !fine))
  else decide (r = 0) || decide (r = 1) || decide (r = 4) || decide (r = 5)
def inv (k a n : Int) : Ev := ev 2 0 k a n 0 0 0
def ans (k a n r : Int) : Ev := ev 5 0 k a n 0 0 r
theorem inv_why {s : St} (hc : s.c = 2) (hl : (s.p 0).lives = true) (ha : (s.p 0).asks = false) (k a n : Int) : whyS s (inv k a n) = if 1 ≤ k ∧ k ≤ 4 then 0 else 1 := by
  have h0 : whyS s (inv k a n) = whyP s.W s.l (s.p 0) (inv k a n) := by
    unfold whyS
    rw [if_pos (by show 0 ≤ (0 : Int) ∧ (0 : Int) < s.c; rw [hc]; decide)]
    rfl
  rw [h0, why_invoked (by rfl), hl, ha]
  show (if true = false ∨ false = true ∨ k < 1 ∨ 4 < k then (1 : Int) else 0) = _
  by_cases h : 1 ≤ k ∧ k ≤ 4
  · rw [if_pos h, if_neg (by simp; omega)]
  · rw [if_neg h, if_pos (by simp; omega)]
theorem ans_why {s : St} (hc : s.c = 2) {k a n r : Int} (hk : 1 ≤ k ∧ k ≤ 4) (hr : 0 ≤ r ∧ r ≤ 8) {there : Bool} (ht : (atF s.l a).isSome = there) :
    decide (whyS (nextS s (inv k a n)) (ans k a n r) = 0) = wantB k r (lengthB n) there := by
  have h0 : whyS (nextS s (inv k a n)) (ans k a n r) = whyP s.W (nextS s (inv k a n)).l ((nextS s (inv k a n)).p 0) (ans k a n r) := by
    unfold whyS
    rw [if_pos (by show 0 ≤ (0 : Int) ∧ (0 : Int) < s.c; rw [hc]; decide)]
    rfl
  have hp : (nextS s (inv k a n)).p 0 = ⟨true, true, true, false, false, !there, k, a, n, 0⟩ := by
    show absentP s.l ⟨true, true, true, false, false, false, k, a, n, 0⟩ = _
    unfold absentP
    dsimp only
    cases h : atF s.l a with
    | none =>
      rw [h] at ht
      rw [if_pos ⟨rfl, rfl⟩, ← ht]
      rfl
    | some u =>
      rw [h] at ht
      rw [if_neg (by simp), ← ht]
      rfl
  rw [h0, hp]
  unfold whyP
  simp only [show (ans k a n r).kind = 5 from rfl]
  rw [if_neg (by decide), if_neg (by decide), if_neg (by decide), if_neg (by decide), if_neg (by decide), if_pos trivial, if_neg (by simp)]
  unfold answersB wantB
  simp only [show (ans k a n r).err = r from rfl, show (ans k a n r).at_ = 0 from rfl]
  have hr9 : r = 0 ∨ r = 1 ∨ r = 2 ∨ r = 3 ∨ r = 4 ∨ r = 5 ∨ r = 6 ∨ r = 7 ∨ r = 8 := by omega
  have hk4 : k = 1 ∨ k = 2 ∨ k = 3 ∨ k = 4 := by omega
  cases there <;> cases lengthB n <;> rcases hk4 with rfl | rfl | rfl | rfl <;> rcases hr9 with rfl | rfl | rfl | rfl | rfl | rfl | rfl | rfl | rfl <;> rfl
theorem not_yet {l : List Bk} (h : l = []) (a : Int) : (atF l a).isSome = false := by rw [h]; rfl
theorem just_one {l : List Bk} (h : l = [⟨16, 8⟩]) (a : Int) : (atF l a).isSome = decide (a = 16) := by
  rw [h]
  unfold atF
  by_cases e : a = 16
  · subst e; rfl
  · have e2 : ((16 : Int) == a) = false := by simpa using fun h : (16 : Int) = a => e h.symm
    simp [e, e2]

/-- An event that is in order, beside a block that is not the judge's. -/
theorem con_hear2 {J : HoldJ} {B : HoldB} (C : ConJ J B) {w w1 : World} {g : Nat} {F : List Nat} {s : St} (h : LiveJ J w g F s w1) (e : Ev) (he : e.wf) (hw : whyS s e = 0) {b : Nat} {t : TypeId} {cs : Array Value} (hn : b ∉ F) (hb : Blk w1 b t cs) :
    Calls Try.prog 10 #[.pointer (some ⟨g, 0, none⟩), evV e] w1 fun r w' => r = .returned (.bool true) ∧ ∃ F', LiveJ J w g F' (nextS s e) w' ∧ b ∉ F' ∧ Blk w' b t cs := by
  refine (con_hear C h e he).mono ?_
  rintro r w' ⟨rfl, o, F', h1, h2, -⟩
  refine ⟨by rw [decide_eq_true hw], F', h2 hw, fun hm => ?_, o.blk hb hn⟩
  rcases h1 b hm with h3 | h3
  · exact hn h3
  · have := hb.lt
    omega

end Go.Proofs.Ytfgkjfneeggbjaa.Jud
