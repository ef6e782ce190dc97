/- MagBoth in plain integers: the law's own row of what lies where, beside the words. Nothing of the program. -/
import Derived.Test.YtdnahojpeplajaaMagX
namespace Go.Proofs.Ytdnahojpeplajaa.Mag
open Go.Proofs.Ytdnahojpeplajaa.Words Go.Proofs.Ytdnahojpeplajaa.Plan Go.Proofs.Ytdnahojpeplajaa.Pack

/-- What the law writes down of an entry: page, slot (0 or 1), class. -/
def markI (page slot k : Int) : Int := 1 + (page * 2 + slot) * 4 + k
/-- What lies at a place of the magazine: nothing, or an entry of page 0 to 3, slot 0 or 1, class 0 to 3. -/
def Lies (x m : Int) : Prop := (x = 0 ∧ m = 0) ∨ ∃ page slot k, (0 ≤ page ∧ page ≤ 3) ∧ (0 ≤ slot ∧ slot ≤ 1) ∧ (0 ≤ k ∧ k ≤ 3) ∧ x = entryW page slot k ∧ m = markI page slot k
theorem entry_word {a b c : Int} (ha : 0 ≤ a ∧ a ≤ 255) (hb : 0 ≤ b ∧ b ≤ 255) (hc : 0 ≤ c ∧ c ≤ 255) : entryW a b c = 1 + a * 16 + b * 4096 + c * 1048576 := by
  unfold entryW
  rw [if_pos (fit3_iff.2 ⟨ha, hb, hc⟩)]
  unfold wordI
  omega
theorem lies_zero {x m : Int} (h : Lies x m) : x = 0 ↔ m = 0 := by
  rcases h with ⟨h1, h2⟩ | ⟨page, slot, k, hp, hs, hk, hx, hm⟩
  · exact ⟨fun _ => h2, fun _ => h1⟩
  · rw [entry_word (by omega) (by omega) (by omega)] at hx
    unfold markI at hm
    omega
/-- An entry that lies there is read, and is of the class that is looked for just if the law says so. -/
theorem lies_hits {M k x m : Int} (hM : 0 ≤ M ∧ M ≤ 8) (h : Lies x m) (t : Tk) (ht : t.P = 4 ∧ t.C = 2 ∧ t.M = M ∧ t.k = k) (hk : 0 ≤ k ∧ k ≤ 3) :
    t.hits x = decide (0 < m ∧ (m - 1) % 4 = k) ∧ (t.hits x = true → (m - 1) / 4 = aI x * 2 + bI x) := by
  obtain ⟨h1, h2, h3, h4⟩ := ht
  unfold Tk.hits
  rw [h1, h2, h3, h4]
  rcases h with ⟨rfl, rfl⟩ | ⟨page, slot, k2, hp, hs, hk2, hx, hm⟩
  · have e : readEntryB 4 2 M 0 = false := by
      unfold readEntryB isEntryB kindI
      simp
    rw [e]
    exact ⟨by simp, fun h => by simp at h⟩
  · have hx2 := hx
    rw [entry_word (by omega) (by omega) (by omega)] at hx2
    have ea : aI x = page := by unfold aI; omega
    have eb : bI x = slot := by unfold bI; omega
    have ec : cI x = k2 := by unfold cI; omega
    have ek : kindI x = 1 := by unfold kindI; omega
    have hin : inB x = true := inB_t (by omega) (by omega)
    have hmay : mayB 4 2 M = true := mayB_t ⟨by decide, by decide, by decide, by decide, hM.1, hM.2⟩
    have hpg : hasPageB 4 2 M page = true := by
      unfold hasPageB pageI
      rw [if_pos ⟨hmay, by omega, by omega⟩]
      simp
      omega
    have hsl : slot < slotsI k2 := by unfold slotsI; omega
    have hr : readEntryB 4 2 M x = true := by
      unfold readEntryB
      rw [hin, ea, eb, ec, ek, fit3_iff.2 ⟨by omega, by omega, by omega⟩, hpg, decide_eq_true hsl]
      rfl
    rw [hr, ec, Bool.true_and]
    unfold markI at hm
    refine ⟨?_, fun _ => by rw [ea, eb]; omega⟩
    by_cases e : k2 = k
    · rw [decide_eq_true e, decide_eq_true (by omega)]
    · rw [decide_eq_false e, decide_eq_false (by omega)]

/-- The magazine and the law's row, place by place. -/
def Held8 (b : Nat) (m : Nat) (s : St) (f : Nat → Int) : Prop := ∀ j, j < m → Lies (s.at (b + j)) (f j)
/-- The first of them, or none. -/
theorem first_or (m : Nat) (p : Nat → Bool) : (∃ j, j < m ∧ p j = true ∧ ∀ i, i < j → p i = false) ∨ ∀ i, i < m → p i = false := by
  induction m with
  | zero => exact .inr fun i h => absurd h (Nat.not_lt_zero _)
  | succ m ih =>
    rcases ih with ⟨j, h1, h2, h3⟩ | h
    · exact .inl ⟨j, by omega, h2, h3⟩
    · cases e : p m
      · exact .inr fun i hi => by
          by_cases e2 : i = m
          · subst e2; exact e
          · exact h i (by omega)
      · exact .inl ⟨m, by omega, e, h⟩

end Go.Proofs.Ytdnahojpeplajaa.Mag
