/- Stage 8: the putter's contracts; MagKnown. (Written by tools/magknown_gen.py over tools/XMagN.src.) -/
import Derived.Test.YtdnahojpeplajaaMagK
namespace Go.Proofs.Ytdnahojpeplajaa.Mag
open Go.RowKit Mem Go.Proofs.Ytdnahojpeplajaa.Words Go.Proofs.Ytdnahojpeplajaa.Plan Go.Proofs.Ytdnahojpeplajaa.Pack Go.Proofs.Ytdnahojpeplajaa.Open

abbrev HoldP := World → Nat → List Nat → Pk → Prop
/-- What is asked of the program's putter. -/
structure ConP (J : HoldP) : Prop where
  lt : ∀ {w g F t}, J w g F t → ∀ k ∈ F, k < w.heap.size
  keep : ∀ {w w' g F t}, J w g F t → (∀ k ∈ F, w'.heap[k]? = w.heap[k]?) → J w' g F t
  new : ∀ P C M c page slot k w, Calls Try.prog 12 #[.agg #[.int .i64 P, .int .i64 C, .int .i64 M], .int .i64 c, .int .i64 page, .int .i64 slot, .int .i64 k] w fun e w' => (∃ g F, e = .returned (.pointer (some ⟨g, 0, none⟩)) ∧ J w' g F (pk0 P C M c page slot k) ∧ ∀ j ∈ F, w.heap.size ≤ j) ∧ Off [] w w'
  step : ∀ {w g F t gw hw s}, J w g F t → t.Ok → IsW w gw hw s → gw ∉ F → hw ∉ F → (t.over = false → (s.row.length : Int) = wordsI t.P t.C t.M) → 0 ≤ s.steps → s.steps < 9223372036854775807 →
    Calls Try.prog 14 #[.pointer (some ⟨g, 0, none⟩), .pointer (some ⟨gw, 0, none⟩)] w fun e w' => e = .returned (.tuple #[]) ∧ (∃ F', J w' g F' (t.next s) ∧ ∀ j ∈ F', j ∈ F ∨ w.heap.size ≤ j) ∧ IsW w' gw hw (t.words s) ∧ Off (gw :: hw :: F) w w'
  done : ∀ {w g F t}, J w g F t → Calls Try.prog 15 #[.pointer (some ⟨g, 0, none⟩)] w fun e w' => e = .returned (.bool t.over) ∧ Off [] w w'
  put : ∀ {w g F t}, J w g F t → Calls Try.prog 18 #[.pointer (some ⟨g, 0, none⟩)] w fun e w' => e = .returned (.bool t.put) ∧ Off [] w w'

/-- Two that take, one that puts, words: all made since w. -/
structure Zoo (I : HoldT) (J : HoldP) (w : World) (gT : Nat) (F : List Nat) (t : Tk) (gP : Nat) (G : List Nat) (p : Pk) (gQ : Nat) (H : List Nat) (q : Tk) (gw hw : Nat) (s : St) (W : World) : Prop where
  t : I W gT F t
  p : J W gP G p
  q : I W gQ H q
  m : IsW W gw hw s
  n1 : gw ∉ F ∧ hw ∉ F
  n2 : gw ∉ G ∧ hw ∉ G
  n3 : gw ∉ H ∧ hw ∉ H
  d1 : ∀ k ∈ F, k ∉ G
  d2 : ∀ k ∈ F, k ∉ H
  d3 : ∀ k ∈ G, k ∉ H
  f1 : ∀ k ∈ F, w.heap.size ≤ k
  f2 : ∀ k ∈ G, w.heap.size ≤ k
  f3 : ∀ k ∈ H, w.heap.size ≤ k
  g : w.heap.size ≤ gw ∧ w.heap.size ≤ hw
  o : Off [] w W
section
variable {I : HoldT} {J : HoldP} {w W W' : World} {gT gP gQ gw hw : Nat} {F G H : List Nat} {t q : Tk} {p : Pk} {s : St}
theorem Zoo.off0 (C : ConT I) (D : ConP J) (h : Zoo I J w gT F t gP G p gQ H q gw hw s W) (o : Off [] W W') : Zoo I J w gT F t gP G p gQ H q gw hw s W' :=
  ⟨C.keep h.t (fun k hk => o.block k (C.lt h.t k hk) (by simp)), D.keep h.p (fun k hk => o.block k (D.lt h.p k hk) (by simp)), C.keep h.q (fun k hk => o.block k (C.lt h.q k hk) (by simp)), h.m.off o (by simp) (by simp), h.n1, h.n2, h.n3, h.d1, h.d2, h.d3, h.f1, h.f2, h.f3, h.g, h.o.trans o⟩
theorem zoo_t (C : ConT I) (D : ConP J) (h : Zoo I J w gT F t gP G p gQ H q gw hw s W) (hok : t.Ok) (hlen : t.over = false → (s.row.length : Int) = wordsI t.P t.C t.M) (hrow : RowOk s) (h0 : 0 ≤ s.steps) (h1 : s.steps < 9223372036854775807) :
    Calls Try.prog 13 #[.pointer (some ⟨gT, 0, none⟩), .pointer (some ⟨gw, 0, none⟩)] W fun e W' => e = .returned (.tuple #[]) ∧ ∃ F', Zoo I J w gT F' (t.next s) gP G p gQ H q gw hw (t.words s) W' := by
  refine (C.step h.t hok h.m h.n1.1 h.n1.2 hlen hrow h0 h1).mono ?_
  rintro e W' ⟨rfl, ⟨F', hi, hf⟩, hp, o⟩
  have hs := h.o.size
  have l1 := h.m.head.lt
  have l2 := h.m.row.lt
  have kk : ∀ k, k < W.heap.size → k ∉ F → k ∉ F' := fun k hk hn hm => by
    rcases hf k hm with h2 | h2
    · exact hn h2
    · omega
  have kb : ∀ k, k < W.heap.size → k ≠ gw → k ≠ hw → k ∉ F → W'.heap[k]? = W.heap[k]? := fun k hk h2 h3 h4 => o.block k hk (by simp [h2, h3, h4])
  refine ⟨rfl, F', hi, D.keep h.p (fun k hk => kb k (D.lt h.p k hk) (fun e => h.n2.1 (e ▸ hk)) (fun e => h.n2.2 (e ▸ hk)) (fun hm => h.d1 k hm hk)), C.keep h.q (fun k hk => kb k (C.lt h.q k hk) (fun e => h.n3.1 (e ▸ hk)) (fun e => h.n3.2 (e ▸ hk)) (fun hm => h.d2 k hm hk)), hp, ⟨kk _ l1 h.n1.1, kk _ l2 h.n1.2⟩, h.n2, h.n3, fun k hk hm => kk k (D.lt h.p k hm) (fun h2 => h.d1 k h2 hm) hk, fun k hk hm => kk k (C.lt h.q k hm) (fun h2 => h.d2 k h2 hm) hk, h.d3, fun k hk => ?_, h.f2, h.f3, h.g, h.o.trans' o (fun k hk => .inr ?_)⟩
  · rcases hf k hk with h2 | h2
    · exact h.f1 k h2
    · omega
  · simp only [List.mem_cons] at hk
    rcases hk with rfl | rfl | hk
    · exact h.g.1
    · exact h.g.2
    · exact h.f1 k hk
theorem zoo_p (C : ConT I) (D : ConP J) (h : Zoo I J w gT F t gP G p gQ H q gw hw s W) (hok : p.Ok) (hlen : p.over = false → (s.row.length : Int) = wordsI p.P p.C p.M) (h0 : 0 ≤ s.steps) (h1 : s.steps < 9223372036854775807) :
    Calls Try.prog 14 #[.pointer (some ⟨gP, 0, none⟩), .pointer (some ⟨gw, 0, none⟩)] W fun e W' => e = .returned (.tuple #[]) ∧ ∃ G', Zoo I J w gT F t gP G' (p.next s) gQ H q gw hw (p.words s) W' := by
  refine (D.step h.p hok h.m h.n2.1 h.n2.2 hlen h0 h1).mono ?_
  rintro e W' ⟨rfl, ⟨G', hi, hf⟩, hp, o⟩
  have hs := h.o.size
  have l1 := h.m.head.lt
  have l2 := h.m.row.lt
  have kk : ∀ k, k < W.heap.size → k ∉ G → k ∉ G' := fun k hk hn hm => by
    rcases hf k hm with h2 | h2
    · exact hn h2
    · omega
  have kb : ∀ k, k < W.heap.size → k ≠ gw → k ≠ hw → k ∉ G → W'.heap[k]? = W.heap[k]? := fun k hk h2 h3 h4 => o.block k hk (by simp [h2, h3, h4])
  refine ⟨rfl, G', C.keep h.t (fun k hk => kb k (C.lt h.t k hk) (fun e => h.n1.1 (e ▸ hk)) (fun e => h.n1.2 (e ▸ hk)) (fun hm => h.d1 k hk hm)), hi, C.keep h.q (fun k hk => kb k (C.lt h.q k hk) (fun e => h.n3.1 (e ▸ hk)) (fun e => h.n3.2 (e ▸ hk)) (fun hm => h.d3 k hm hk)), hp, h.n1, ⟨kk _ l1 h.n2.1, kk _ l2 h.n2.2⟩, h.n3, fun k hk => kk k (C.lt h.t k hk) (h.d1 k hk), h.d2, fun k hk hm => kk k (C.lt h.q k hm) (fun h2 => h.d3 k h2 hm) hk, h.f1, fun k hk => ?_, h.f3, h.g, h.o.trans' o (fun k hk => .inr ?_)⟩
  · rcases hf k hk with h2 | h2
    · exact h.f2 k h2
    · omega
  · simp only [List.mem_cons] at hk
    rcases hk with rfl | rfl | hk
    · exact h.g.1
    · exact h.g.2
    · exact h.f2 k hk
end

def mz : Nat → Int := fun i => if i = 20 then entryW 0 5 0 else if i = 19 then entryW 0 0 1 else 0
/-- The taker and the words behind n steps. -/
def mseq : Nat → Tk × St
  | 0 => (tk0 1 1 3 0 0, St.fill mz 21 21)
  | n + 1 => ((mseq n).1.next (mseq n).2, (mseq n).1.words (mseq n).2)
theorem mz_ok (i : Nat) : 0 ≤ mz i ∧ mz i < 18446744073709551616 := by
  unfold mz
  split
  · have := entryW_bd 0 5 0; omega
  · split
    · have := entryW_bd 0 0 1; omega
    · decide
theorem mseq_ok (n : Nat) : (mseq n).1.Ok ∧ RowOk (mseq n).2 ∧ (mseq n).2.row.length = 21 ∧ 0 ≤ (mseq n).2.steps ∧ (mseq n).2.steps ≤ n ∧ (mseq n).1.P = 1 ∧ (mseq n).1.C = 1 ∧ (mseq n).1.M = 3 := by
  induction n with
  | zero => exact ⟨tk0_ok _ _ _ _ _, fill_ok mz_ok _ _, by kernel_rfl, by show (0 : Int) ≤ 0; decide, by show (0 : Int) ≤ 0; decide, rfl, rfl, rfl⟩
  | succ n ih =>
    obtain ⟨h1, h2, h3, h4, h5, h6, h7, h8⟩ := ih
    have a := Tk.words_steps (mseq n).1 (mseq n).2
    have b := Tk.next_shape (mseq n).1 (mseq n).2
    exact ⟨h1.next _, Tk.words_ok h2, by show ((mseq n).1.words (mseq n).2).row.length = 21; rw [Tk.words_len]; exact h3, by show 0 ≤ ((mseq n).1.words (mseq n).2).steps; omega, by show ((mseq n).1.words (mseq n).2).steps ≤ ((n + 1 : Nat) : Int); omega, b.1.trans h6, b.2.1.trans h7, b.2.2.1.trans h8⟩
def mp0 : Pk := pk0 1 1 3 0 0 1 0
def mp1 : Pk := mp0.next (mseq 4).2
def ms5 : St := mp0.words (mseq 4).2
def mp2 : Pk := mp1.next ms5
def ms6 : St := mp1.words ms5
theorem m_is : (mseq 4).1.over = true ∧ mp1.over = false ∧ mp2.over = true ∧ mp2.put = true ∧ ms6.steps = 6 ∧ (tk0 1 1 0 0 0).over = true ∧ (pk0 1 1 3 0 1 0 0).over = true ∧ (tk0 1 1 3 1 0).over = true := ⟨by kernel_rfl, by kernel_rfl, by kernel_rfl, by kernel_rfl, by kernel_rfl, by kernel_rfl, by kernel_rfl, by kernel_rfl⟩
theorem m_len : ms5.row.length = 21 ∧ ms5.steps = 5 ∧ (mseq 4).2.steps = 4 ∧ wordsI 1 1 3 = 21 := ⟨by kernel_rfl, by kernel_rfl, by kernel_rfl, by kernel_rfl⟩

theorem mfill {w : World} {b : Nat} (h : Blk w b 27 (((rowCells (List.replicate 21 0)).setIfInBounds 19 (.int .u64 (entryW 0 0 1))).setIfInBounds 20 (.int .u64 (entryW 0 5 0)))) : IsRowU w (some ⟨b, 0, none⟩) 21 21 mz := by
  refine ⟨mz_ok, fun _ => ⟨b, 0, rfl, h.lt, Nat.le_refl _, by decide, fun i hi => ?_⟩⟩
  rw [h.cell, Nat.zero_add, Array.getElem?_setIfInBounds]
  unfold mz
  by_cases e : i = 20
  · subst e
    rw [if_pos rfl, if_pos rfl, if_pos (by simp [rowCells])]
  · rw [if_neg (fun h => e h.symm), if_neg e, Array.getElem?_setIfInBounds]
    by_cases e2 : i = 19
    · subst e2
      rw [if_pos rfl, if_pos rfl, if_pos (by simp [rowCells])]
    · rw [if_neg (fun h => e2 h.symm), if_neg e2, row_cell _ _ (by simpa using hi)]
      have : ∀ i, i < 21 → (List.replicate 21 (0 : Int)).getD i 0 = 0 := by decide
      rw [this i hi]
theorem total21 (w : World) : Calls Try.prog 8 #[.agg #[.int .i64 1, .int .i64 1, .int .i64 3]] w fun e w' => e = .returned (.int .i64 21) ∧ Off [] w w' := by
  have h := total_any 1 1 3 w
  rw [m_len.2.2.2] at h
  exact h
def KnownRel (I : HoldT) (J : HoldP) (W2 : World) (gT gP : Nat) (G : List Nat) (gQ : Nat) (H : List Nat) (gw hw : Nat) (i : Value) (wr : World) : Prop :=
  ∃ n : Nat, n ≤ 4 ∧ i = .int .i64 n ∧ ∃ F, Zoo I J W2 gT F (mseq n).1 gP G mp0 gQ H (tk0 1 1 0 0 0) gw hw (mseq n).2 wr

set_option maxRecDepth 100000 in
set_option maxHeartbeats 8000000 in
theorem known_walk {I : HoldT} {J : HoldP} (C0 : ConT I) (D0 : ConP J) (A0 : AwakeIs) (w0 : World) :
    Calls Try.prog 3 #[] w0 fun e w' => e = .returned (.bool true) ∧ Off [] w0 w' := by
  have HC := Lib.hid C0
  have HCP := Lib.hid D0
  have HA := Lib.hid A0
  have hmk : ∀ W, (Instr.makeSlice 25 (.int .i64 21) (.int .i64 21)).run Try.prog W = .ok (.slice (some ⟨W.heap.size, 0, none⟩) 21 21) (W.alloc (.cells (rowCells (List.replicate 21 0)) 27)) := fun W => make_row 21 (by decide) W
  clear C0 D0 A0
  go_enter Try.func3, Try.ntmps3
  go_upto_region 3 with (go_at_call 7; refine (HA.out _).mono ?_; rintro e w ⟨rfl, oa⟩)
  have HOA := Lib.hid oa
  clear oa
  go_upto_region 5 with (go_at_call 8; refine (total21 _).mono ?_; rintro e w1 ⟨rfl, o1⟩)
  refine at_worldM (R := fun W' => ∃ b, b = w1.heap.size ∧ Off [] w W' ∧ w.heap.size ≤ b ∧ (Blk W' w.heap.size 24 #[.int .i64 1, .int .i64 1, .int .i64 3] ∧ w.heap.size < b) ∧ Blk W' b 27 (rowCells (List.replicate 21 0))) ⟨_, rfl, (((Off.refl _ _).alloc _).trans o1).alloc _, ?_, ⟨(o1.blk (Blk.new _ _ _) (by simp)).alloc _, ?_⟩, Blk.new _ _ _⟩ ?_
  · have := o1.size; simp at this; omega
  · have := o1.size; simp at this; omega
  rintro W1 ⟨b, hb, oW, hwb, ⟨hs, hsb⟩, hrow⟩
  rw [← hb]
  have HOW := Lib.hid oW
  have HS := Lib.hid hs
  have HRW := Lib.hid hrow
  clear oW hs hrow hb o1 hmk
  go_upto_region 7 with (go_at_call 9; refine (rputEntry_any _ _ _ _).mono ?_; rintro e w3 ⟨rfl, o3⟩; replace HRW := Lib.hid (o3.blk HRW.out (by simp)); replace HOW := Lib.hid (HOW.out.trans o3); replace HS := Lib.hid (o3.blk HS.out (by simp)); clear o3; have c19 := (HRW.out.cell 19).trans (row_cell _ 19 (by simp)); have z19 := HRW.out.free 19; have c20 := (HRW.out.cell 20).trans (row_cell _ 20 (by simp)); have z20 := HRW.out.free 20)
  refine at_worldM (R := fun W' => Off [] w W' ∧ Blk W' w.heap.size 24 #[.int .i64 1, .int .i64 1, .int .i64 3] ∧ Blk W' b 27 (((rowCells (List.replicate 21 0)).setIfInBounds 19 (.int .u64 (entryW 0 0 1))).setIfInBounds 20 (.int .u64 (entryW 0 5 0)))) ⟨(HOW.out.set (.inr hwb) _).set (.inr hwb) _, (HS.out.far (by omega) _ _).far (by omega) _ _, (HRW.out.set 19 _).set 20 _⟩ ?_
  clear c19 z19 c20 z20 HOW HS HRW
  rintro W2 ⟨oW, hs, hrow⟩
  have HOW := Lib.hid oW
  have HR := Lib.hid (mfill hrow)
  have HS := Lib.hid hs
  clear oW hrow hs
  go_upto_region 8 with (go_at_call 10; refine (fill_any _ 21 21 mz _ HR.out (by decide)).mono ?_; rintro e w4 ⟨gw, hw, rfl, hp4, o4, hg4, hh4⟩)
  have HP4 := Lib.hid (show IsW w4 gw hw (mseq 0).2 from hp4)
  have HO4 := Lib.hid o4
  have HF : Hid (∀ W, Off [] w4 W → W.cell? ⟨w.heap.size, 0, none⟩ = some (.int .i64 1) ∧ W.cell? ⟨w.heap.size, 1, none⟩ = some (.int .i64 1) ∧ W.cell? ⟨w.heap.size, 2, none⟩ = some (.int .i64 3)) := Lib.hid (fun W o => shp_cells ((o4.trans o).blk HS.out (by simp)))
  have HF2 : Hid (∀ W, Off [] W2 W → W.cell? ⟨w.heap.size, 0, none⟩ = some (.int .i64 1) ∧ W.cell? ⟨w.heap.size, 1, none⟩ = some (.int .i64 1) ∧ W.cell? ⟨w.heap.size, 2, none⟩ = some (.int .i64 3)) := Lib.hid (fun W o => shp_cells (o.blk HS.out (by simp)))
  clear hp4 o4 HS HR
  refine wp_region_noPanic ?_
  have o := (Off.refl [] w4).drew
  refine wp_region_held_drew (S := fun w' => w'.cell? ⟨w.heap.size, 0, none⟩ = some (.int .i64 1) ∧ w'.cell? ⟨w.heap.size, 1, none⟩ = some (.int .i64 1) ∧ w'.cell? ⟨w.heap.size, 2, none⟩ = some (.int .i64 3)) (by kernel_rfl) (HF.out _ o) (fun hHeld => ?_)
  refine wpAnyH_take (i := 0) (v := ?_) rfl (by kernel_rfl) (by kernel_rfl) (by kernel_rfl) (fun _ _ _ h => h) (Or.inl ⟨by rfl, ?_⟩) (by assumption) ?_
  rotate_left
  · intro w hSw
    try dsimp only at hSw
    go_simp
    first | done | with_reducible rfl
  try simp only [List.getElem_toArray, List.getElem_cons_zero, Act.put, List.setIfInBounds_toArray, List.set_cons_zero, List.set_cons_succ]
  refine wpAnyH_take (i := 2) (v := ?_) rfl (by kernel_rfl) (by kernel_rfl) (by kernel_rfl) (fun _ _ _ h => h) (Or.inl ⟨by rfl, ?_⟩) (by assumption) ?_
  rotate_left
  · intro w hSw
    try dsimp only at hSw
    go_simp
    first | done | with_reducible rfl
  try simp only [List.getElem_toArray, List.getElem_cons_succ, List.getElem_cons_zero, Act.put, List.setIfInBounds_toArray, List.set_cons_zero, List.set_cons_succ]
  refine wpAnyH_take (i := 4) (v := ?_) rfl (by kernel_rfl) (by kernel_rfl) (by kernel_rfl) (fun _ _ _ h => h) (Or.inl ⟨by rfl, ?_⟩) (by assumption) ?_
  rotate_left
  · intro w hSw
    try dsimp only at hSw
    go_simp
    first | done | with_reducible rfl
  try simp only [List.getElem_toArray, List.getElem_cons_succ, List.getElem_cons_zero, Act.put, List.setIfInBounds_toArray, List.set_cons_zero, List.set_cons_succ]
  refine wpAnyH_ready (rs := [1]) (by kernel_rfl) (by simp) (AllReadyH.cons rfl (fun K hK => ?_) AllReadyH.nil)
  go_simp
  go_wp2_with (go_at_call 11; refine (HC.out.new 1 1 3 0 0 _).mono ?_; rintro e w5 ⟨⟨gT, F, rfl, hi, hf⟩, o5⟩)
  refine hK.out _ _ (HF.out _ (o.trans o5)) (fun hHeld => ?_)
  clear hK K
  try simp only [List.getElem_toArray, List.getElem_cons_succ, List.getElem_cons_zero, Act.put, List.setIfInBounds_toArray, List.set_cons_zero, List.set_cons_succ]
  refine wpAnyH_ready (rs := [3]) (by kernel_rfl) (by simp) (AllReadyH.cons rfl (fun K hK => ?_) AllReadyH.nil)
  go_simp
  go_wp2_with (go_at_call 12; refine (HCP.out.new 1 1 3 0 0 1 0 _).mono ?_; rintro e w6 ⟨⟨gP, G, rfl, hj, hg⟩, o6⟩)
  refine hK.out _ _ (HF.out _ ((o.trans o5).trans o6)) (fun hHeld => ?_)
  clear hK K
  try simp only [List.getElem_toArray, List.getElem_cons_succ, List.getElem_cons_zero, Act.put, List.setIfInBounds_toArray, List.set_cons_zero, List.set_cons_succ]
  refine wpAnyH_ready (rs := [5]) (by kernel_rfl) (by simp) (AllReadyH.cons rfl (fun K hK => ?_) AllReadyH.nil)
  go_simp
  go_wp2_with (go_at_call 11; refine (HC.out.new 1 1 0 0 0 _).mono ?_; rintro e w7 ⟨⟨gQ, H, rfl, hk, hh⟩, o7⟩)
  refine hK.out _ _ (HF.out _ (((o.trans o5).trans o6).trans o7)) (fun hHeld => ?_)
  clear hK K
  try simp only [List.getElem_toArray, List.getElem_cons_succ, List.getElem_cons_zero, Act.put, List.setIfInBounds_toArray, List.set_cons_zero, List.set_cons_succ]
  refine wpAnyH_take (i := 6) (v := ?_) rfl (by kernel_rfl) (by kernel_rfl) (by kernel_rfl) (fun _ _ _ h => h) (Or.inl ⟨by rfl, ?_⟩) (by assumption) ?_
  rotate_left
  · intro w hSw
    try dsimp only at hSw
    go_simp
    first | done | with_reducible rfl
  try simp only [List.getElem_toArray, List.getElem_cons_succ, List.getElem_cons_zero, Act.put, List.setIfInBounds_toArray, List.set_cons_zero, List.set_cons_succ]
  refine wpAnyH_take (i := 7) (v := ?_) rfl (by kernel_rfl) (by kernel_rfl) (by kernel_rfl) (fun _ _ _ h => h) (Or.inl ⟨by rfl, ?_⟩) (by assumption) ?_
  rotate_left
  · intro w hSw
    try dsimp only at hSw
    go_simp
    first | done | with_reducible rfl
  try simp only [List.getElem_toArray, List.getElem_cons_succ, List.getElem_cons_zero, Act.put, List.setIfInBounds_toArray, List.set_cons_zero, List.set_cons_succ]
  refine wpAnyH_take (i := 8) (v := ?_) rfl (by kernel_rfl) (by kernel_rfl) (by kernel_rfl) (fun _ _ _ h => h) (Or.inl ⟨by rfl, ?_⟩) (by assumption) ?_
  rotate_left
  · intro w hSw
    try dsimp only at hSw
    go_simp
    first | done | with_reducible rfl
  try simp only [List.getElem_toArray, List.getElem_cons_succ, List.getElem_cons_zero, Act.put, List.setIfInBounds_toArray, List.set_cons_zero, List.set_cons_succ]
  refine wpAnyH_done (by kernel_rfl) ?_ _
  refine NoPanic.normal ?_
  have HZ : Hid (Zoo I J W2 gT F (mseq 0).1 gP G mp0 gQ H (tk0 1 1 0 0 0) gw hw (mseq 0).2 w7) := Lib.hid (by
    have s4 := HO4.out.size
    have s5 : w4.heap.size ≤ w5.heap.size := o5.size
    have s6 := o6.size
    have s7 := o7.size
    have f4 : ∀ k ∈ F, w4.heap.size ≤ k := hf
    have l1 := HP4.out.head.lt
    have l2 := HP4.out.row.lt
    have o47 := ((o.trans o5).trans o6).trans o7
    have lF := HC.out.lt hi
    have lG := HCP.out.lt hj
    refine ⟨HC.out.keep hi (fun k hk => (o6.trans o7).block k (lF k hk) (by simp)), HCP.out.keep hj (fun k hk => o7.block k (lG k hk) (by simp)), hk, HP4.out.off o47 (by simp) (by simp), ⟨fun h => ?_, fun h => ?_⟩, ⟨fun h => ?_, fun h => ?_⟩, ⟨fun h => ?_, fun h => ?_⟩, fun k hk hm => ?_, fun k hk hm => ?_, fun k hk hm => ?_, fun k hk => ?_, fun k hk => ?_, fun k hk => ?_, ⟨hg4, hh4⟩, HO4.out.trans o47⟩
    · have := f4 _ h; omega
    · have := f4 _ h; omega
    · have := hg _ h; omega
    · have := hg _ h; omega
    · have := hh _ h; omega
    · have := hh _ h; omega
    · have := lF k hk; have := hg k hm; omega
    · have := lF k hk; have := hh k hm; omega
    · have := lG k hk; have := hh k hm; omega
    · have := f4 k hk; omega
    · have := hg k hk; omega
    · have := hh k hk; omega)
  clear hi hf hj hg hk hh o5 o6 o7 o HF HP4 HO4 hg4 hh4
  go_wp2_with fail
  go_loopw [8] (fun i wr => KnownRel I J W2 gT gP G gQ H gw hw i wr) (fun i _ => 4 - (intOf i).toNat)
  case atStart => exact ⟨0, by decide, rfl, F, HZ.out⟩
  case round =>
    obtain ⟨n, hn, rfl, F2, hz⟩ := hrel
    have HZ2 := Lib.hid hz
    have HM := Lib.hid (mseq_ok n)
    clear hz HZ
    by_cases hlt : n < 4
    · have d1 : decide ((n : Int) < 4) = true := by simp; omega
      go_wp2_with (go_at_call 13; refine (zoo_t HC.out HCP.out HZ2.out HM.out.1 (fun _ => by rw [HM.out.2.2.1, HM.out.2.2.2.2.2.1, HM.out.2.2.2.2.2.2.1, HM.out.2.2.2.2.2.2.2, m_len.2.2.2]; rfl) HM.out.2.1 HM.out.2.2.2.1 (by have := HM.out.2.2.2.2.1; omega)).mono ?_; rintro e w8 ⟨rfl, F8, h8⟩)
      go_roundw
      case rel => exact ⟨n + 1, by omega, by go_num, F8, h8⟩
      case measure => simp [intOf]; omega
    · obtain rfl : n = 4 := by omega
      clear HM hlt hn
      obtain ⟨q1, q2, q3, q4, q5, q6, q7, q8⟩ := m_is
      have HQ := Lib.hid (And.intro q1 (And.intro q2 (And.intro q3 (And.intro q4 (And.intro q5 (And.intro q6 (And.intro q7 q8)))))))
      clear q1 q2 q3 q4 q5 q6 q7 q8
      go_upto_region 14 with (go_at_call 14; refine (zoo_p HC.out HCP.out HZ2.out (pk0_ok _ _ _ _ _ _ _) (fun _ => by kernel_rfl) (by rw [m_len.2.2.1]; decide) (by rw [m_len.2.2.1]; decide)).mono ?_; rintro e w8 ⟨rfl, G8, h8⟩)
      have Z1 : Hid (Zoo I J W2 gT F2 (mseq 4).1 gP G8 mp1 gQ H (tk0 1 1 0 0 0) gw hw ms5 w8) := Lib.hid h8
      clear h8 HZ2
      go_upto_region 15 with (go_at_call 15; refine (HCP.out.done Z1.out.p).mono ?_; rintro e w9 ⟨rfl, o9⟩; rw [HQ.out.2.1])
      have Z2 := Lib.hid (Z1.out.off0 HC.out HCP.out o9)
      clear Z1 o9
      go_upto_region 16 with (go_at_call 14; refine (zoo_p HC.out HCP.out Z2.out ((pk0_ok _ _ _ _ _ _ _).next _) (fun _ => by kernel_rfl) (by rw [m_len.2.1]; decide) (by rw [m_len.2.1]; decide)).mono ?_; rintro e w10 ⟨rfl, G10, h10⟩)
      have Z3 : Hid (Zoo I J W2 gT F2 (mseq 4).1 gP G10 mp2 gQ H (tk0 1 1 0 0 0) gw hw ms6 w10) := Lib.hid h10
      clear h10 Z2
      go_wp2_with (first
        | (go_at_call 16; refine (HC.out.done Z3.out.t).mono ?_; rintro e w11 ⟨rfl, o11⟩; rw [HQ.out.1]; have Z4 := Lib.hid (Z3.out.off0 HC.out HCP.out o11); clear Z3 o11)
        | (go_at_call 17; refine (steps_any Z4.out.m).mono ?_; rintro e w12 ⟨rfl, rfl⟩; rw [HQ.out.2.2.2.2.1])
        | (go_at_call 18; refine (HCP.out.put Z4.out.p).mono ?_; rintro e w13 ⟨rfl, o13⟩; rw [HQ.out.2.2.2.1]; have Z5 := Lib.hid (Z4.out.off0 HC.out HCP.out o13); clear Z4 o13)
        | (go_at_call 15; refine (HCP.out.done Z5.out.p).mono ?_; rintro e w14 ⟨rfl, o14⟩; rw [HQ.out.2.2.1]; have Z6 := Lib.hid (Z5.out.off0 HC.out HCP.out o14); clear Z5 o14)
        | (go_at_call 16; refine (HC.out.done Z6.out.q).mono ?_; rintro e w15 ⟨rfl, o15⟩; rw [HQ.out.2.2.2.2.2.1]; have Z7 := Lib.hid (Z6.out.o.trans o15); clear Z6 o15; obtain ⟨r0, r1, r2⟩ := HF2.out _ Z7.out)
        | (go_at_call 12; refine (HCP.out.new 1 1 3 0 1 0 0 _).mono ?_; rintro e w16 ⟨⟨gX, FX, rfl, hx, hfx⟩, o16⟩; have Z8 := Lib.hid (Z7.out.trans o16); clear Z7 o16 hfx)
        | (go_at_call 15; refine (HCP.out.done hx).mono ?_; rintro e w17 ⟨rfl, o17⟩; rw [HQ.out.2.2.2.2.2.2.1]; have Z9 := Lib.hid (Z8.out.trans o17); clear Z8 o17; obtain ⟨t0, t1, t2⟩ := HF2.out _ Z9.out)
        | (go_at_call 11; refine (HC.out.new 1 1 3 1 0 _).mono ?_; rintro e w18 ⟨⟨gY, FY, rfl, hy, hfy⟩, o18⟩)
        | (go_at_call 16; refine (HC.out.done hy).mono ?_; rintro e w19 ⟨rfl, o19⟩; rw [HQ.out.2.2.2.2.2.2.2]))
      go_ret
      exact ⟨rfl, (HOA.out.trans HOW.out).trans ((Z9.out.trans o18).trans o19)⟩

end Go.Proofs.Ytdnahojpeplajaa.Mag
