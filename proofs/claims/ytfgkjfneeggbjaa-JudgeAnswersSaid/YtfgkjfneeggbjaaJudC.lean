/- Stage 7: events in memory; what the laws ask of the program's judge: one contract a call, over whatever it holds in memory. -/
import Derived.Test.YtfgkjfneeggbjaaJudN
import Derived.Test.YtfgkjfneeggbjaaDevF
import Derived.StillTailTactics
namespace Go.Proofs.Ytfgkjfneeggbjaa.Jud
open Go.RowKit Mem Go.Proofs.Ytfgkjfneeggbjaa.Mod Go.Proofs.Ytfgkjfneeggbjaa.Plan

/-- An event's eight cells. -/
abbrev evL (e : Ev) : List Value := [.int .i64 e.kind, .int .i64 e.client, .int .i64 e.ok, .int .i64 e.oa, .int .i64 e.on, .int .i64 e.at_, .int .i64 e.n, .int .i64 e.err]
abbrev evV (e : Ev) : Value := .agg #[.int .i64 e.kind, .int .i64 e.client, .int .i64 e.ok, .int .i64 e.oa, .int .i64 e.on, .int .i64 e.at_, .int .i64 e.n, .int .i64 e.err]
def inI (x : Int) : Prop := -9223372036854775808 ≤ x ∧ x ≤ 9223372036854775807
structure Ev.wf (e : Ev) : Prop where
  kind : inI e.kind
  client : inI e.client
  ok : inI e.ok
  oa : inI e.oa
  on : inI e.on
  at_ : inI e.at_
  n : inI e.n
  err : inI e.err
/-- A slice that reads as these events. -/
def RdE (w : World) (v : Value) (L : List Ev) : Prop :=
  ((∃ a c, v = .slice a 0 c) ∧ L = []) ∨ ∃ g o c, v = .slice (some ⟨g, o, none⟩) L.length c ∧ L.length ≤ c ∧ ∀ i e, L[i]? = some e → ∀ j u, (evL e)[j]? = some u → w.cell? ⟨g, o + i * 8 + j, none⟩ = some u
theorem RdE.off {w w' : World} {v : Value} {L : List Ev} {S : List Nat} (h : RdE w v L) (ho : Off S w w') (hs : ∀ k, k ∈ S → w.heap.size ≤ k) : RdE w' v L := by
  rcases h with h | ⟨g, o, c, hv, hl, hc⟩
  · exact .inl h
  · refine .inr ⟨g, o, c, hv, hl, fun i e he j u hu => ?_⟩
    have h1 := hc i e he j u hu
    have hb : g < w.heap.size := World.block_lt_of_cell? w _ h1
    rw [ho.cell (p := ⟨g, o + i * 8 + j, none⟩) hb (fun m => by have := hs g m; omega)]
    exact h1
theorem flatE_len (L : List Ev) : (L.flatMap evL).length = L.length * 8 := by
  induction L with
  | nil => rfl
  | cons a L ih => rw [List.flatMap_cons, List.length_append, ih, List.length_cons]; simp; omega
theorem flatE_get (L : List Ev) (i : Nat) (e : Ev) (he : L[i]? = some e) (j : Nat) (u : Value) (hu : (evL e)[j]? = some u) : (L.flatMap evL)[i * 8 + j]? = some u := by
  induction L generalizing i with
  | nil => simp at he
  | cons a L ih =>
    rw [List.flatMap_cons]
    cases i with
    | zero =>
      simp at he
      subst he
      have hj : j < 8 := (List.getElem?_eq_some_iff.1 hu).1
      rw [List.getElem?_append_left (by rw [Nat.zero_mul, Nat.zero_add]; exact hj), Nat.zero_mul, Nat.zero_add]
      exact hu
    | succ i =>
      have := ih i (by simpa using he)
      rw [show (i + 1) * 8 + j = (evL a).length + (i * 8 + j) from by show _ = 8 + _; omega]
      rw [List.getElem?_append_right (by omega), Nat.add_sub_cancel_left]
      exact this
/-- A block of events, from some place on. -/
theorem rdE_blk {w : World} {g : Nat} {t : TypeId} {L : List Ev} (h : Blk w g t (L.flatMap evL).toArray) (k c : Nat) (hc : (L.drop k).length ≤ c) : RdE w (.slice (some ⟨g, k * 8, none⟩) (L.drop k).length c) (L.drop k) := by
  refine .inr ⟨g, k * 8, c, rfl, hc, fun i e he j u hu => ?_⟩
  rw [List.getElem?_drop] at he
  have h1 := flatE_get L (k + i) e he j u hu
  rw [h.cell, show k * 8 + i * 8 + j = (k + i) * 8 + j from by omega]
  simpa using h1
theorem RdE.first {w : World} {a : Option Addr} {c : Nat} {L : List Ev} (h : RdE w (.slice a L.length c) L) (n : Nat) (hn : n ≤ L.length) : RdE w (.slice a n c) (L.take n) := by
  rcases h with ⟨-, rfl⟩ | ⟨g, o, c', hv, hl, hc⟩
  · obtain rfl : n = 0 := by simpa using hn
    exact .inl ⟨⟨_, _, rfl⟩, rfl⟩
  · injection hv with h1 _ h2
    subst h1 h2
    refine .inr ⟨g, o, c, by rw [List.length_take, Nat.min_eq_left hn], by rw [List.length_take]; omega, fun i e he j u hu => ?_⟩
    rw [List.getElem?_take] at he
    split at he
    · exact hc i e he j u hu
    · cases he

abbrev HoldJ := World → Nat → List Nat → St → Prop
abbrev HoldB := World → Nat → List Nat → Prop
def NewJ (J : HoldJ) (P C M : Int) (w : World) (e : Ending) (w' : World) : Prop := ∃ g F, e = .returned (.pointer (some ⟨g, 0, none⟩)) ∧ J w' g F (st0 P C M) ∧ Off [] w w' ∧ ∀ k ∈ F, w.heap.size ≤ k
def HearJ (J : HoldJ) (B : HoldB) (w : World) (g : Nat) (F : List Nat) (s : St) (ev : Ev) (e : Ending) (w' : World) : Prop :=
  e = .returned (.bool (decide (whyS s ev = 0))) ∧ (∃ F', (whyS s ev = 0 → J w' g F' (nextS s ev)) ∧ (whyS s ev ≠ 0 → B w' g F') ∧ ∀ k ∈ F', k ∈ F ∨ w.heap.size ≤ k) ∧ Off F w w'
def HearB (B : HoldB) (w : World) (g : Nat) (F : List Nat) (e : Ending) (w' : World) : Prop :=
  e = .returned (.bool false) ∧ (∃ F', B w' g F' ∧ ∀ k ∈ F', k ∈ F ∨ w.heap.size ≤ k) ∧ Off F w w'
/-- Whose operation is it? -/
def pendB (s : St) (c : Int) : Bool := decide (0 ≤ c ∧ c < s.c) && (s.p c.toNat).asks

structure ConJ (J : HoldJ) (B : HoldB) : Prop where
  lt : ∀ {w g F s}, J w g F s → ∀ k ∈ F, k < w.heap.size
  ltB : ∀ {w g F}, B w g F → ∀ k ∈ F, k < w.heap.size
  keep : ∀ {w w' g F s S}, J w g F s → Off S w w' → (∀ k ∈ S, k ∉ F) → J w' g F s
  keepB : ∀ {w w' g F S}, B w g F → Off S w w' → (∀ k ∈ S, k ∉ F) → B w' g F
  mod : ∀ {w g F s}, J w g F s → ∃ h Fm, w.cell? ⟨g, 0, none⟩ = some (.pointer (some ⟨h, 0, none⟩)) ∧ IsD w h Fm s.W s.l ∧ ∀ k ∈ Fm, k ∈ F
  new : ∀ P C M w, Calls Try.prog 9 #[.agg #[.int .i64 P, .int .i64 C, .int .i64 M]] w (NewJ J P C M w)
  hear : ∀ {w g F s}, J w g F s → ∀ ev : Ev, ev.wf → Calls Try.prog 10 #[.pointer (some ⟨g, 0, none⟩), evV ev] w (HearJ J B w g F s ev)
  hearB : ∀ {w g F}, B w g F → ∀ ev : Ev, ev.wf → Calls Try.prog 10 #[.pointer (some ⟨g, 0, none⟩), evV ev] w (HearB B w g F)
  rule : ∀ P C M w v L, RdE w v L → L.length ≤ 1000 → (∀ e ∈ L, e.wf) → Calls Try.prog 8 #[.agg #[.int .i64 P, .int .i64 C, .int .i64 M], v] w fun e w' => e = .returned (.agg #[.int .i64 (runS (st0 P C M) L).1, .int .i64 (runS (st0 P C M) L).2]) ∧ Off [] w w'
  pend : ∀ {w g F s}, J w g F s → ∀ c, Calls Try.prog 23 #[.pointer (some ⟨g, 0, none⟩), .int .i64 c] w fun e w' => (∃ x y z, e = .returned (.tuple #[.agg #[.int .i64 x, .int .i64 y, .int .i64 z], .bool (pendB s c)])) ∧ Off [] w w'
  pendB : ∀ {w g F}, B w g F → ∀ c, Calls Try.prog 23 #[.pointer (some ⟨g, 0, none⟩), .int .i64 c] w fun e w' => (∃ x y z b, e = .returned (.tuple #[.agg #[.int .i64 x, .int .i64 y, .int .i64 z], .bool b])) ∧ Off [] w w'

/-- A judge that was made since w, seen from w. -/
structure LiveJ (J : HoldJ) (w : World) (g : Nat) (F : List Nat) (s : St) (w' : World) : Prop where
  i : J w' g F s
  off : Off [] w w'
  fresh : ∀ k ∈ F, w.heap.size ≤ k
theorem ConJ.off0 {J : HoldJ} {B : HoldB} (C : ConJ J B) {w w1 w2 : World} {g : Nat} {F : List Nat} {s : St} (h : LiveJ J w g F s w1) (ho : Off [] w1 w2) : LiveJ J w g F s w2 := ⟨C.keep h.i ho (by simp), h.off.trans ho, h.fresh⟩
theorem offF {w w1 w2 : World} {F : List Nat} (h : Off [] w w1) (k : Off F w1 w2) (hf : ∀ k ∈ F, w.heap.size ≤ k) : Off [] w w2 := h.trans' k (fun i hi => .inr (hf i hi))
theorem fresh_more {w w1 : World} {F F' : List Nat} (ho : Off [] w w1) (hf : ∀ k ∈ F, w.heap.size ≤ k) (h : ∀ k ∈ F', k ∈ F ∨ w1.heap.size ≤ k) : ∀ k ∈ F', w.heap.size ≤ k := fun k hk => by
  rcases h k hk with h1 | h1
  · exact hf k h1
  · have := ho.size; omega
/-- Behind an event. -/
theorem con_hear {J : HoldJ} {B : HoldB} (C : ConJ J B) {w w1 : World} {g : Nat} {F : List Nat} {s : St} (h : LiveJ J w g F s w1) (ev : Ev) (hev : ev.wf) :
    Calls Try.prog 10 #[.pointer (some ⟨g, 0, none⟩), evV ev] w1 fun e w' => e = .returned (.bool (decide (whyS s ev = 0))) ∧ Off F w1 w' ∧ ∃ F', (∀ k ∈ F', k ∈ F ∨ w1.heap.size ≤ k) ∧ (whyS s ev = 0 → LiveJ J w g F' (nextS s ev) w') ∧ (whyS s ev ≠ 0 → B w' g F' ∧ Off [] w w') :=
  (C.hear h.i ev hev).mono fun _ _ ⟨h1, ⟨F', h2, h3, h4⟩, h5⟩ => ⟨h1, h5, F', h4, fun hw => ⟨h2 hw, offF h.off h5 h.fresh, fresh_more h.off h.fresh h4⟩, fun hw => ⟨h3 hw, offF h.off h5 h.fresh⟩⟩

end Go.Proofs.Ytfgkjfneeggbjaa.Jud
