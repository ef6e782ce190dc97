/- A magazine's two machines in plain integers: what each holds, what a step does to it and to the words. Nothing of the program. -/
import Derived.Test.YtdnahojpeplajaaWordsD
import Derived.Test.YtdnahojpeplajaaPackE
namespace Go.Proofs.Ytdnahojpeplajaa.Mag
open Go.Proofs.Ytdnahojpeplajaa.Words Go.Proofs.Ytdnahojpeplajaa.Plan Go.Proofs.Ytdnahojpeplajaa.Pack

/-- Each word is one of 64 bits. -/
def RowOk (s : St) : Prop := ∀ x ∈ s.row, 0 ≤ x ∧ x < 18446744073709551616
theorem RowOk.at {s : St} (h : RowOk s) (k : Nat) : 0 ≤ s.at k ∧ s.at k < 18446744073709551616 := by
  unfold St.at
  rw [List.getD_eq_getElem?_getD]
  cases e : s.row[k]? with
  | none => simp
  | some x => exact h x (List.mem_of_getElem? e)
theorem RowOk.note {s : St} (h : RowOk s) (a : Acc) : RowOk (s.note a) := h
theorem RowOk.lay {s : St} (h : RowOk s) (k : Nat) {x : Int} (hx : 0 ≤ x ∧ x < 18446744073709551616) : RowOk (s.lay k x) := by
  intro y hy
  rcases List.mem_or_eq_of_mem_set hy with h1 | rfl
  · exact h y h1
  · exact hx

/-- One that takes. -/
structure Tk where
  P : Int
  C : Int
  M : Int
  c : Int
  k : Int
  i : Nat
  hit : Bool
  found : Bool
  over : Bool
  page : Int
  slot : Int
def Tk.at (t : Tk) : Nat := (magI t.P t.C t.M t.c t.i).toNat
def overT (P C M c k : Int) : Bool := decide (statusI P C M c < 0) || decide (slotsI k = 0) || decide (M = 0)
def tk0 (P C M c k : Int) : Tk := ⟨P, C, M, c, k, 0, false, false, overT P C M c k, 0, 0⟩
/-- Is it an entry that it looks for? -/
def Tk.hits (t : Tk) (x : Int) : Bool := readEntryB t.P t.C t.M x && decide (cI x = t.k)
def Tk.next (t : Tk) (s : St) : Tk :=
  if t.over = true then t
  else if t.hit = true then { t with found := true, over := true }
  else if t.hits (s.at t.at) = true then { t with hit := true, page := aI (s.at t.at), slot := bI (s.at t.at) }
  else { t with i := t.i + 1, over := decide (((t.i + 1 : Nat) : Int) = t.M) }
def Tk.words (t : Tk) (s : St) : St :=
  if t.over = true then s
  else if t.hit = true then (s.note ⟨t.c, 1, t.at, s.at t.at, 0, true⟩).lay t.at 0
  else s.note ⟨t.c, 0, t.at, s.at t.at, 0, true⟩
/-- What holds of it while it is not over, and always. -/
structure Tk.Ok (t : Tk) : Prop where
  run : t.over = false → Fit t.P t.C t.M ∧ (0 ≤ t.c ∧ t.c < t.C) ∧ (t.i : Int) < t.M
  found : t.found = true → t.hit = true
  page : t.hit = false → t.page = 0 ∧ t.slot = 0
theorem tk0_ok (P C M c k : Int) : (tk0 P C M c k).Ok := by
  refine ⟨fun h => ?_, fun h => (by cases h), fun _ => ⟨rfl, rfl⟩⟩
  have h0 : overT P C M c k = false := h
  unfold overT at h0
  simp only [Bool.or_eq_false_iff, decide_eq_false_iff_not] at h0
  obtain ⟨⟨h1, -⟩, h3⟩ := h0
  unfold statusI at h1
  split at h1
  · rename_i hq
    have hf := mayB_iff.1 hq.1
    have := hf.m1
    refine ⟨hf, hq.2, ?_⟩
    show ((0 : Nat) : Int) < M
    omega
  · omega
theorem mag_in {P C M c : Int} {i : Nat} (hf : Fit P C M) (hc : 0 ≤ c ∧ c < C) (hi : (i : Int) < M) :
    magI P C M c i = C + P + 16 * P + M * c + i ∧ 0 ≤ magI P C M c i ∧ magI P C M c i < wordsI P C M ∧ wordsI P C M ≤ 2000 := by
  have h1 : magI P C M c i = C + P + 16 * P + M * c + i := by unfold magI; rw [if_pos ⟨mayB_t hf, hc, by omega, hi⟩]
  have h2 : wordsI P C M = C + P + 16 * P + C * M := by unfold wordsI; rw [if_pos (mayB_t hf)]
  obtain ⟨p1, p2, c1, c2, m1, m2⟩ := hf
  have h3 := mul_bd (a := M) (b := c) (A := 8) (B := 12) m1 (by omega) hc.1 (by omega)
  have h5 : M * (c + 1) ≤ M * C := Int.mul_le_mul_of_nonneg_left (by omega) m1
  have h6 : M * (c + 1) = M * c + M := by rw [Int.mul_add, Int.mul_one]
  have h7 : C * M = M * C := Int.mul_comm C M
  have h8 := mul_bd (a := C) (b := M) (A := 12) (B := 8) (by omega) c2 m1 m2
  rw [h1, h2]
  omega
theorem Tk.Ok.at {t : Tk} (h : t.Ok) (ho : t.over = false) : (t.at : Int) = magI t.P t.C t.M t.c t.i ∧ (t.at : Int) < wordsI t.P t.C t.M := by
  obtain ⟨h1, h2, h3⟩ := h.run ho
  have := mag_in h1 h2 h3
  unfold Tk.at
  omega
theorem Tk.Ok.next {t : Tk} (h : t.Ok) (s : St) : (t.next s).Ok := by
  unfold Tk.next
  by_cases h1 : t.over = true
  · rw [if_pos h1]; exact h
  rw [if_neg h1]
  have h1' : t.over = false := by simpa using h1
  obtain ⟨a1, a2, a3⟩ := h.run h1'
  by_cases h2 : t.hit = true
  · rw [if_pos h2]
    exact ⟨fun h => (by cases h), fun _ => h2, fun hh => (by simp [h2] at hh)⟩
  rw [if_neg h2]
  by_cases h3 : t.hits (s.at t.at) = true
  · rw [if_pos h3]
    exact ⟨fun _ => ⟨a1, a2, a3⟩, fun _ => rfl, fun hh => (by cases hh)⟩
  · rw [if_neg h3]
    refine ⟨fun ho => ⟨a1, a2, ?_⟩, h.found, h.page⟩
    simp only [decide_eq_false_iff_not] at ho
    show ((t.i + 1 : Nat) : Int) < t.M
    omega
theorem Tk.words_len (t : Tk) (s : St) : (t.words s).row.length = s.row.length := by
  unfold Tk.words
  split
  · rfl
  · split
    · simp [St.lay, St.note]
    · rfl
theorem Tk.words_ok {t : Tk} {s : St} (h : RowOk s) : RowOk (t.words s) := by
  unfold Tk.words
  split
  · exact h
  · split
    · exact (h.note _).lay _ ⟨by decide, by decide⟩
    · exact h.note _
theorem Tk.words_steps (t : Tk) (s : St) : s.steps ≤ (t.words s).steps ∧ (t.words s).steps ≤ s.steps + 1 := by
  unfold Tk.words
  split
  · omega
  · split
    · simp only [St.lay, St.note]; omega
    · simp only [St.note]; omega
theorem Tk.next_shape (t : Tk) (s : St) : (t.next s).P = t.P ∧ (t.next s).C = t.C ∧ (t.next s).M = t.M ∧ (t.next s).c = t.c ∧ (t.next s).k = t.k := by
  unfold Tk.next
  split
  · exact ⟨rfl, rfl, rfl, rfl, rfl⟩
  · split
    · exact ⟨rfl, rfl, rfl, rfl, rfl⟩
    · split <;> exact ⟨rfl, rfl, rfl, rfl, rfl⟩

/-- One that puts: x is the word. -/
structure Pk where
  P : Int
  C : Int
  M : Int
  c : Int
  x : Int
  i : Nat
  hit : Bool
  put : Bool
  over : Bool
def Pk.at (t : Pk) : Nat := (magI t.P t.C t.M t.c t.i).toNat
def overP (P C M c page slot k : Int) : Bool := decide (statusI P C M c < 0) || decide (pageI P C M page < 0) || decide (slot < 0) || decide (slotsI k ≤ slot) || decide (M = 0)
def pk0 (P C M c page slot k : Int) : Pk := ⟨P, C, M, c, entryW page slot k, 0, false, false, overP P C M c page slot k⟩
def Pk.next (t : Pk) (s : St) : Pk :=
  if t.over = true then t
  else if t.hit = true then { t with put := true, over := true }
  else if s.at t.at = 0 then { t with hit := true }
  else { t with i := t.i + 1, over := decide (((t.i + 1 : Nat) : Int) = t.M) }
def Pk.words (t : Pk) (s : St) : St :=
  if t.over = true then s
  else if t.hit = true then (s.note ⟨t.c, 1, t.at, s.at t.at, t.x, true⟩).lay t.at t.x
  else s.note ⟨t.c, 0, t.at, s.at t.at, 0, true⟩
structure Pk.Ok (t : Pk) : Prop where
  run : t.over = false → Fit t.P t.C t.M ∧ (0 ≤ t.c ∧ t.c < t.C) ∧ (t.i : Int) < t.M
  word : 0 ≤ t.x ∧ t.x < 268435456
theorem pk0_ok (P C M c page slot k : Int) : (pk0 P C M c page slot k).Ok := by
  refine ⟨fun h => ?_, entryW_bd _ _ _⟩
  have h0 : overP P C M c page slot k = false := h
  unfold overP at h0
  simp only [Bool.or_eq_false_iff, decide_eq_false_iff_not] at h0
  obtain ⟨⟨⟨⟨h1, -⟩, -⟩, -⟩, h3⟩ := h0
  unfold statusI at h1
  split at h1
  · rename_i hq
    have hf := mayB_iff.1 hq.1
    have := hf.m1
    refine ⟨hf, hq.2, ?_⟩
    show ((0 : Nat) : Int) < M
    omega
  · omega
theorem Pk.Ok.at {t : Pk} (h : t.Ok) (ho : t.over = false) : (t.at : Int) = magI t.P t.C t.M t.c t.i ∧ (t.at : Int) < wordsI t.P t.C t.M := by
  obtain ⟨h1, h2, h3⟩ := h.run ho
  have := mag_in h1 h2 h3
  unfold Pk.at
  omega
theorem Pk.Ok.next {t : Pk} (h : t.Ok) (s : St) : (t.next s).Ok := by
  unfold Pk.next
  by_cases h1 : t.over = true
  · rw [if_pos h1]; exact h
  rw [if_neg h1]
  have h1' : t.over = false := by simpa using h1
  obtain ⟨a1, a2, a3⟩ := h.run h1'
  by_cases h2 : t.hit = true
  · rw [if_pos h2]
    exact ⟨fun h => (by cases h), h.word⟩
  rw [if_neg h2]
  by_cases h3 : s.at t.at = 0
  · rw [if_pos h3]
    exact ⟨fun _ => ⟨a1, a2, a3⟩, h.word⟩
  · rw [if_neg h3]
    refine ⟨fun ho => ⟨a1, a2, ?_⟩, h.word⟩
    simp only [decide_eq_false_iff_not] at ho
    show ((t.i + 1 : Nat) : Int) < t.M
    omega
theorem Pk.words_len (t : Pk) (s : St) : (t.words s).row.length = s.row.length := by
  unfold Pk.words
  split
  · rfl
  · split
    · simp [St.lay, St.note]
    · rfl
theorem Pk.words_ok {t : Pk} {s : St} (ht : t.Ok) (h : RowOk s) : RowOk (t.words s) := by
  unfold Pk.words
  split
  · exact h
  · split
    · exact (h.note _).lay _ ⟨ht.word.1, by have := ht.word.2; omega⟩
    · exact h.note _
theorem Pk.words_steps (t : Pk) (s : St) : s.steps ≤ (t.words s).steps ∧ (t.words s).steps ≤ s.steps + 1 := by
  unfold Pk.words
  split
  · omega
  · split
    · simp only [St.lay, St.note]; omega
    · simp only [St.note]; omega
theorem Pk.next_shape (t : Pk) (s : St) : (t.next s).P = t.P ∧ (t.next s).C = t.C ∧ (t.next s).M = t.M ∧ (t.next s).c = t.c ∧ (t.next s).x = t.x := by
  unfold Pk.next
  split
  · exact ⟨rfl, rfl, rfl, rfl, rfl⟩
  · split
    · exact ⟨rfl, rfl, rfl, rfl, rfl⟩
    · split <;> exact ⟨rfl, rfl, rfl, rfl, rfl⟩

end Go.Proofs.Ytdnahojpeplajaa.Mag
