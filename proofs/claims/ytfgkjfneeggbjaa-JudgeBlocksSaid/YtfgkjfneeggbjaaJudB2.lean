/- Stage 7: JudgeBlocks: what is carried from event to event. -/
import Derived.Test.YtfgkjfneeggbjaaJudK
import Derived.Test.YtfgkjfneeggbjaaRowL
namespace Go.Proofs.Ytfgkjfneeggbjaa.Jud
open Go.RowKit Mem Go.Proofs.Ytfgkjfneeggbjaa.Mod Go.Proofs.Ytfgkjfneeggbjaa.Plan Go.Proofs.Ytfgkjfneeggbjaa.RowK

/-- The judge, and the row of what was taken beside it. -/
structure BlS (J : HoldJ) (w : World) (g : Nat) (F : List Nat) (s : St) (A : List Ev) (v : Value) (wr : World) : Prop where
  l : LiveJ J w g F s wr
  r : RowIn wr w.heap.size 41 8 v A.length (A.flatMap evL)
  nf : ∀ k, v.ownBlock = some k → k ∉ F
  h : Held s A
theorem rdE_row {w : World} {base : Nat} {v : Value} {A : List Ev} (h : RowIn w base 41 8 v A.length (A.flatMap evL)) : RdE w v A := by
  rcases h.here with ⟨rfl, h0⟩ | ⟨g, cap, L, rfl, _, hb, hn, _, _, ht⟩
  · exact .inl ⟨⟨_, _, rfl⟩, List.eq_nil_of_length_eq_zero h0⟩
  · refine .inr ⟨g, 0, cap, rfl, hn, fun i e he j u hu => ?_⟩
    have h1 := flatE_get A i e he j u hu
    rw [← ht, List.getElem?_take] at h1
    split at h1
    · rw [hb.cell, Nat.zero_add]
      simpa using h1
    · cases h1
theorem flatE_one (L : List Ev) : ∀ u ∈ L.flatMap evL, u.oneCell' = true := by
  intro u hu
  simp only [List.mem_flatMap] at hu
  obtain ⟨e, _, he⟩ := hu
  simp at he
  rcases he with rfl | rfl | rfl | rfl | rfl | rfl | rfl | rfl <;> rfl
theorem evL_one (e : Ev) : ∀ u ∈ evL e, u.oneCell' = true := fun u hu => flatE_one [e] u (by simpa using hu)
theorem event_info : (Try.prog.info? 41).map (fun i => (i.zero, i.size, i.bytes)) = some (some (.agg #[.int .i64 0, .int .i64 0, .int .i64 0, .int .i64 0, .int .i64 0, .int .i64 0, .int .i64 0, .int .i64 0]), 8, 64) := by kernel_rfl

section
variable {J : HoldJ} {B : HoldB} {w w1 w2 : World} {g : Nat} {F F5 : List Nat} {s s' : St} {A : List Ev} {v : Value} {x : Ev}
theorem BlS.off0 (C : ConJ J B) (h : BlS J w g F s A v w1) (ho : Off [] w1 w2) : BlS J w g F s A v w2 := ⟨C.off0 h.l ho, h.r.keep ho (by simp), h.nf, h.h⟩
/-- Behind an event: the row is as it was. -/
theorem BlS.heard (h : BlS J w g F s A v w1) (ho : Off F w1 w2) (hF : ∀ k ∈ F5, k ∈ F ∨ w1.heap.size ≤ k) (hl : LiveJ J w g F5 s' w2) :
    LiveJ J w g F5 s' w2 ∧ RowIn w2 w.heap.size 41 8 v A.length (A.flatMap evL) ∧ ∀ k, v.ownBlock = some k → k ∉ F5 := by
  refine ⟨hl, h.r.keep ho h.nf, fun k hk hm => ?_⟩
  rcases hF k hm with h1 | h1
  · exact h.nf k hk h1
  · have := (h.r.lt k hk).2
    omega
/-- Behind an append. -/
theorem bls_app (C : ConJ J B) (hl : LiveJ J w g F s w1) (hr : ∀ k, v.ownBlock = some k → w.heap.size ≤ k ∧ k ∉ F) {v' : Value} {A' : List Ev} (hh : Held s A') (ho : Off v.ownBlock.toList w1 w2)
    (h' : RowIn w2 w.heap.size 41 8 v' A'.length (A'.flatMap evL)) (hb : v'.ownBlock = v.ownBlock ∨ v'.ownBlock = some w1.heap.size) : BlS J w g F s A' v' w2 := by
  refine ⟨⟨C.keep hl.i ho (fun k hk => (hr k (by simpa using hk)).2), hl.off.trans' ho (fun k hk => .inr (hr k (by simpa using hk)).1), hl.fresh⟩, h', fun k hk hm => ?_, hh⟩
  rcases hb with h1 | h1
  · exact (hr k (h1 ▸ hk)).2 hm
  · rw [h1] at hk
    injection hk with hk
    have := C.lt hl.i k hm
    omega
end

def BlRel (J : HoldJ) (w : World) (g : Nat) (s0 : St) (L : List Ev) (u m v i : Value) (wr : World) : Prop :=
  ∃ (n : Nat) (s : St) (F : List Nat) (A : List Ev), n ≤ L.length ∧ i = .int .i64 n ∧ Goes s0 (L.take n) s ∧ BlS J w g F s A v wr ∧ u = .int .i64 (used s.l) ∧ m = .int .i64 A.length
def BlCut (J : HoldJ) (w : World) (g : Nat) (s : St) (u m v : Value) (wr : World) : Prop :=
  ∃ (F : List Nat) (A : List Ev), BlS J w g F s A v wr ∧ u = .int .i64 (used s.l) ∧ m = .int .i64 A.length
def FindE (w5 : World) (A : List Ev) (x : Ev) (U : Int) (atv : Value) (u m v i : Value) (wr : World) : Prop :=
  u = .int .i64 U ∧ m = .int .i64 A.length ∧ v = atv ∧ (∃ q, wr = w5.drewN q) ∧ ∃ k : Nat, k ≤ A.length ∧ i = .int .i64 k ∧ ∀ j, ∀ hj : j < A.length, j < k → A[j].at_ ≠ x.at_

def FindO (w5 : World) (A : List Ev) (x : Ev) (U : Int) (atv : Value) (u m v i : Value) (wr : World) : Prop :=
  u = .int .i64 U ∧ m = .int .i64 A.length ∧ v = atv ∧ Off [] w5 wr ∧ ∃ k : Nat, k ≤ A.length ∧ i = .int .i64 k ∧ ∀ j, ∀ hj : j < A.length, j < k → A[j].at_ ≠ x.at_
theorem flatE_take (A : List Ev) (k : Nat) : (A.flatMap evL).take (k * 8) = (A.take k).flatMap evL := by
  induction A generalizing k with
  | nil => simp
  | cons a A ih =>
    cases k with
    | zero => simp
    | succ k =>
      rw [List.take_succ_cons, List.flatMap_cons, List.flatMap_cons, ← ih k, show (k + 1) * 8 = (evL a).length + k * 8 from by show _ = 8 + _; omega, List.take_length_add_append]
theorem flatE_drop (A : List Ev) (k : Nat) : (A.flatMap evL).drop (k * 8) = (A.drop k).flatMap evL := by
  induction A generalizing k with
  | nil => simp
  | cons a A ih =>
    cases k with
    | zero => simp
    | succ k =>
      rw [List.drop_succ_cons, List.flatMap_cons, ← ih k, show (k + 1) * 8 = (evL a).length + k * 8 from by show _ = 8 + _; omega, List.drop_length_add_append]
/-- The first k of a row, no more room. -/
theorem rowIn_first {w : World} {base g cap : Nat} {Lc : List Value} {A : List Ev} (hb : base ≤ g) (hblk : Blk w g 41 Lc.toArray) (hcs : cap * 8 ≤ Lc.length) (hnc : A.length ≤ cap) (hcm : cap ≤ maxLen) (ht : Lc.take (A.length * 8) = A.flatMap evL) {k : Nat} (hk : k ≤ A.length) :
    RowIn w base 41 8 (.slice (some ⟨g, 0, none⟩) k k) k ((A.take k).flatMap evL) := by
  refine ⟨by rw [flatE_len, List.length_take, Nat.min_eq_left hk], .inr ⟨g, k, Lc, rfl, hb, hblk, Nat.le_refl _, by omega, ?_, ?_⟩⟩
  · have := Nat.mul_le_mul_right 8 (Nat.le_trans hk hnc)
    omega
  · rw [← flatE_take, ← ht, List.take_take, Nat.min_eq_left (Nat.mul_le_mul_right 8 hk)]
/-- What stands behind k. -/
theorem rowIn_rest {w : World} {g : Nat} {Lc : List Value} {A : List Ev} (hblk : Blk w g 41 Lc.toArray) (ht : Lc.take (A.length * 8) = A.flatMap evL) (k : Nat) (j : Nat) (u : Value) (hu : ((A.drop k).flatMap evL)[j]? = some u) :
    w.cell? ((⟨g, k * 8, none⟩ : Addr).add j) = some u := by
  rw [addr_add, hblk.cell]
  rw [← flatE_drop, List.getElem?_drop, ← ht, List.getElem?_take] at hu
  split at hu
  · simpa using hu
  · cases hu

theorem st0_l (P C M : Int) : (st0 P C M).l = [] := by
  unfold st0
  split <;> rfl
/-- Between the events: so many words, so many blocks. -/
theorem held_bounds {s : St} {A : List Ev} (h : Held s A) (hok : Ok s.W s.l) (h0 : 0 ≤ s.W) (h1 : s.W ≤ 4096) : 0 ≤ used s.l ∧ used s.l ≤ 4096 ∧ (A.length : Int) ≤ 4096 := by
  have a := used_nonneg hok
  have b := used_le 0 hok (fun b hb => (hok.each b hb).1) h0
  have c := ok_len 0 hok (fun b hb => (hok.each b hb).1) h0
  have d := h.len
  omega

end Go.Proofs.Ytfgkjfneeggbjaa.Jud
