/- Pieces that were taken, in whatever order: the row of blocks that they come to. Plain. Nothing of the program. -/
import Derived.Test.YtpkpkfcboimhnaaModN
namespace Go.Proofs.Ytpkpkfcboimhnaa.Mod

/-- Two blocks that don't meet. -/
def away (b c : Bk) : Prop := b.p + b.n ≤ c.p ∨ c.p + c.n ≤ b.p
theorem away_symm {b c : Bk} (h : away b c) : away c b := h.symm
/-- Pieces within W words, apart, in whatever order. -/
structure Had (W : Int) (h : List Bk) : Prop where
  each : ∀ b ∈ h, 0 ≤ b.p ∧ 1 ≤ b.n ∧ b.p + b.n ≤ W
  apart : h.Pairwise away
/-- The row that has just these blocks. -/
structure RowOf (W : Int) (h l : List Bk) : Prop where
  ok : Ok W l
  mem : ∀ b, b ∈ l ↔ b ∈ h
theorem Had.nil (W : Int) : Had W [] := ⟨fun _ h => (List.not_mem_nil h).elim, List.Pairwise.nil⟩
theorem RowOf.nil (W : Int) : RowOf W [] [] := ⟨Ok.nil W, fun _ => Iff.rfl⟩
theorem RowOf.ins {W : Int} {h l : List Bk} (r : RowOf W h l) {p n : Int} (hc : canB W l p n = true) : RowOf W (h ++ [⟨p, n⟩]) (ins l p n) := by
  refine ⟨ins_ok r.ok hc, fun b => ?_⟩
  rw [mem_ins, r.mem, List.mem_append, List.mem_singleton]
  exact Or.comm
theorem Had.snoc {W : Int} {h l : List Bk} (d : Had W h) (r : RowOf W h l) {p n : Int} (hc : canB W l p n = true) : Had W (h ++ [⟨p, n⟩]) := by
  obtain ⟨hb, hm⟩ := canB_iff.1 hc
  refine ⟨fun b hb' => ?_, ?_⟩
  · rcases List.mem_append.1 hb' with h1 | h1
    · exact d.each b h1
    · rw [List.mem_singleton.1 h1]
      exact ⟨hb.2.1, hb.1, hb.2.2⟩
  · rw [List.pairwise_append]
    refine ⟨d.apart, List.pairwise_singleton _ _, fun b hb' c hc' => ?_⟩
    rw [List.mem_singleton.1 hc']
    exact hm b ((r.mem b).2 hb')
/-- The same pieces from another one on. -/
def turned (h : List Bk) (s : Nat) : List Bk := h.drop s ++ h.take s
theorem turned_mem {h : List Bk} {s : Nat} (b : Bk) : b ∈ turned h s ↔ b ∈ h := by
  unfold turned
  rw [List.mem_append, Or.comm, ← List.mem_append, List.take_append_drop]
theorem turned_len {h : List Bk} {s : Nat} : (turned h s).length = h.length := by
  unfold turned
  rw [List.length_append, List.length_drop, List.length_take]
  omega
theorem Had.turned {W : Int} {h : List Bk} (d : Had W h) (s : Nat) : Had W (turned h s) := by
  refine ⟨fun b hb => d.each b ((turned_mem b).1 hb), ?_⟩
  have h1 := d.apart
  rw [← List.take_append_drop s h, List.pairwise_append] at h1
  unfold Mod.turned
  rw [List.pairwise_append]
  exact ⟨h1.2.1, h1.1, fun b hb c hc => away_symm (h1.2.2 c hc b hb)⟩
theorem turned_get {h : List Bk} {t i : Nat} (hi : i < h.length) : (turned h (t % h.length))[i]? = h[(i + t) % h.length]? := by
  have hs := Nat.mod_lt t (Nat.lt_of_le_of_lt (Nat.zero_le _) hi)
  have he : (i + t) % h.length = (i + t % h.length) % h.length := by rw [Nat.add_mod_mod]
  rw [he]
  generalize t % h.length = s at *
  unfold turned
  rcases Nat.lt_or_ge i (h.length - s) with h1 | h1
  · rw [List.getElem?_append_left (by rw [List.length_drop]; exact h1), List.getElem?_drop, Nat.mod_eq_of_lt (by omega), Nat.add_comm]
  · rw [List.getElem?_append_right (by rw [List.length_drop]; exact h1), List.length_drop, List.getElem?_take_of_lt (by omega), Nat.mod_eq_sub_mod (by omega), Nat.mod_eq_of_lt (by omega)]
    congr 1
    omega
/-- The next piece may be taken. -/
theorem RowOf.can {W : Int} {h l : List Bk} (d : Had W h) {i : Nat} (hi : i < h.length) (r : RowOf W (h.take i) l) : canB W l h[i].p h[i].n = true := by
  obtain ⟨b0, b1, b2⟩ := d.each h[i] (List.getElem_mem hi)
  refine canB_iff.2 ⟨⟨b1, b0, b2⟩, fun b hb => ?_⟩
  have h1 := (r.mem b).1 hb
  have h2 := d.apart
  rw [← List.take_append_drop i h, List.pairwise_append] at h2
  have h3 : h[i] ∈ h.drop i := by rw [List.drop_eq_getElem_cons hi]; exact List.mem_cons_self
  exact h2.2.2 b h1 _ h3
theorem RowOf.step {W : Int} {h l : List Bk} (d : Had W h) {i : Nat} (hi : i < h.length) (r : RowOf W (h.take i) l) : RowOf W (h.take (i + 1)) (Mod.ins l h[i].p h[i].n) := by
  rw [List.take_succ_eq_append_getElem hi]
  exact r.ins (r.can d hi)
/-- The next piece is given back, once. -/
theorem RowOf.giveB {W : Int} {h l : List Bk} {i : Nat} (hi : i < h.length) (r : RowOf W (h.drop i) l) : Mod.giveB l h[i].p = true := by
  refine giveB_iff.2 ⟨h[i], (r.mem _).2 ?_, rfl⟩
  rw [List.drop_eq_getElem_cons hi]
  exact List.mem_cons_self
theorem RowOf.give {W : Int} {h l : List Bk} (d : Had W h) {i : Nat} (hi : i < h.length) (r : RowOf W (h.drop i) l) : RowOf W (h.drop (i + 1)) (Mod.give l h[i].p) := by
  refine ⟨give_ok r.ok _, fun b => ?_⟩
  rw [mem_give, r.mem, List.drop_eq_getElem_cons hi, List.mem_cons]
  have h2 := d.apart
  rw [← List.take_append_drop i h, List.pairwise_append, List.drop_eq_getElem_cons hi, List.pairwise_cons] at h2
  have h3 := h2.2.1.1
  have h4 := d.each h[i] (List.getElem_mem hi)
  constructor
  · rintro ⟨h5 | h5, h6⟩
    · exact absurd (by rw [h5]) h6
    · exact h5
  · intro h5
    refine ⟨.inr h5, fun e => ?_⟩
    have h6 := h3 b h5
    have h7 := d.each b (List.mem_of_mem_drop h5)
    unfold away at h6
    omega
theorem RowOf.same {W : Int} {h h' l l' : List Bk} (r : RowOf W h l) (r' : RowOf W h' l') (e : ∀ b, b ∈ h ↔ b ∈ h') : l = l' :=
  ok_ext r.ok r'.ok (fun b => by rw [r.mem, e, r'.mem])
theorem RowOf.none {W : Int} {l : List Bk} (r : RowOf W [] l) : l = [] := by
  cases l with
  | nil => rfl
  | cons b l => exact absurd ((r.mem b).1 List.mem_cons_self) List.not_mem_nil

end Go.Proofs.Ytpkpkfcboimhnaa.Mod
