/- MagBoth in memory: the words, the law's row, the shape; a machine in flight beside them. -/
import Derived.Test.YtdnahojpeplajaaMagN
import Derived.Test.YtdnahojpeplajaaMagV
import Derived.Test.YtdnahojpeplajaaPlanH
import Derived.Test.YtdnahojpeplajaaOpenF
namespace Go.Proofs.Ytdnahojpeplajaa.Mag
open Go.RowKit Mem Go.Proofs.Ytdnahojpeplajaa.Words Go.Proofs.Ytdnahojpeplajaa.Plan Go.Proofs.Ytdnahojpeplajaa.Pack Go.Proofs.Ytdnahojpeplajaa.Open

structure Bm (w : World) (q bm gw hw n : Nat) (s : St) (f : Nat → Int) (W : World) : Prop where
  box : Blk W q 24 #[.int .i64 4, .int .i64 2, .int .i64 (n : Int)]
  m : IsW W gw hw s
  row : Blk W bm 3 (rowOf n f)
  off : Off [] w W
  new : w.heap.size ≤ q ∧ w.heap.size ≤ bm ∧ w.heap.size ≤ gw ∧ w.heap.size ≤ hw
  ap : (q ≠ gw ∧ q ≠ hw ∧ q ≠ bm) ∧ bm ≠ gw ∧ bm ≠ hw
section
variable {I : HoldT} {J : HoldP} {w W W' : World} {q bm gw hw n : Nat} {s s' : St} {f : Nat → Int} {g : Nat} {F : List Nat} {t : Tk} {p : Pk}
theorem Bm.off0 (h : Bm w q bm gw hw n s f W) (o : Off [] W W') : Bm w q bm gw hw n s f W' :=
  ⟨o.blk h.box (by simp), h.m.off o (by simp) (by simp), o.blk h.row (by simp), h.off.trans o, h.new, h.ap⟩
theorem Bm.shape (h : Bm w q bm gw hw n s f W) : W.cell? ⟨q, 0, none⟩ = some (.int .i64 4) ∧ W.cell? ⟨q, 1, none⟩ = some (.int .i64 2) ∧ W.cell? ⟨q, 2, none⟩ = some (.int .i64 (n : Int)) := shp_cells h.box
theorem Bm.cell (h : Bm w q bm gw hw n s f W) (k : Nat) (hk : k < n) : W.cell? ⟨bm, k, none⟩ = some (.int .i64 (f k)) := (h.row.cell k).trans (rowOf_get hk)
theorem Bm.turn (h : Bm w q bm gw hw n s f W) (o : Off (gw :: hw :: F) W W') (hm : IsW W' gw hw s') (hq : q ∉ F) (hb : bm ∉ F) (hf : ∀ k ∈ F, w.heap.size ≤ k) : Bm w q bm gw hw n s' f W' := by
  obtain ⟨⟨a1, a2, a3⟩, a4, a5⟩ := h.ap
  refine ⟨o.blk h.box (by simp [a1, a2, hq]), hm, o.blk h.row (by simp [a4, a5, hb]), h.off.trans' o (fun k hk => .inr ?_), h.new, h.ap⟩
  simp only [List.mem_cons] at hk
  rcases hk with rfl | rfl | hk
  · exact h.new.2.2.1
  · exact h.new.2.2.2
  · exact hf k hk
/-- The law's row turns at one place. -/
theorem Bm.mark (h : Bm w q bm gw hw n s f W) (k : Nat) (x : Int) : Bm w q bm gw hw n s (updI f k x) (W.setCell ⟨bm, k, none⟩ (.int .i64 x)) := by
  obtain ⟨⟨a1, a2, a3⟩, a4, a5⟩ := h.ap
  have o : Off [bm] W (W.setCell ⟨bm, k, none⟩ (.int .i64 x)) := (Off.refl [bm] W).set (.inl (by simp)) _
  refine ⟨o.blk h.box (by simp [a3]), h.m.off o (by simp [Ne.symm a4]) (by simp [Ne.symm a5]), ?_, h.off.set (.inr h.new.2.1) _, h.new, h.ap⟩
  have hb := h.row.set k (.int .i64 x)
  rwa [rowOf_set (f' := updI f k x) (by simp [updI]) (fun j hj => by unfold updI; rw [if_neg (by omega)])] at hb

structure FlyP (J : HoldP) (w : World) (q bm gw hw n : Nat) (f : Nat → Int) (g : Nat) (F : List Nat) (p : Pk) (s : St) (W : World) : Prop where
  b : Bm w q bm gw hw n s f W
  p : J W g F p
  n : gw ∉ F ∧ hw ∉ F ∧ q ∉ F ∧ bm ∉ F
  new : ∀ k ∈ F, w.heap.size ≤ k
structure FlyT (I : HoldT) (w : World) (q bm gw hw n : Nat) (f : Nat → Int) (g : Nat) (F : List Nat) (t : Tk) (s : St) (W : World) : Prop where
  b : Bm w q bm gw hw n s f W
  t : I W g F t
  n : gw ∉ F ∧ hw ∉ F ∧ q ∉ F ∧ bm ∉ F
  new : ∀ k ∈ F, w.heap.size ≤ k
theorem FlyP.off0 (D : ConP J) (h : FlyP J w q bm gw hw n f g F p s W) (o : Off [] W W') : FlyP J w q bm gw hw n f g F p s W' :=
  ⟨h.b.off0 o, D.keep h.p (fun k hk => o.block k (D.lt h.p k hk) (by simp)), h.n, h.new⟩
theorem FlyT.off0 (C : ConT I) (h : FlyT I w q bm gw hw n f g F t s W) (o : Off [] W W') : FlyT I w q bm gw hw n f g F t s W' :=
  ⟨h.b.off0 o, C.keep h.t (fun k hk => o.block k (C.lt h.t k hk) (by simp)), h.n, h.new⟩
theorem fly_new_p (h : Bm w q bm gw hw n s f W) (o : Off [] W W') (hi : J W' g F p) (hf : ∀ k ∈ F, W.heap.size ≤ k) : FlyP J w q bm gw hw n f g F p s W' := by
  have l1 := h.m.head.lt
  have l2 := h.m.row.lt
  have l3 := h.box.lt
  have l4 := h.row.lt
  have l5 := h.off.size
  refine ⟨h.off0 o, hi, ⟨fun hk => ?_, fun hk => ?_, fun hk => ?_, fun hk => ?_⟩, fun k hk => ?_⟩
  · have := hf _ hk; omega
  · have := hf _ hk; omega
  · have := hf _ hk; omega
  · have := hf _ hk; omega
  · have := hf _ hk; omega
theorem fly_new_t (h : Bm w q bm gw hw n s f W) (o : Off [] W W') (hi : I W' g F t) (hf : ∀ k ∈ F, W.heap.size ≤ k) : FlyT I w q bm gw hw n f g F t s W' := by
  have l1 := h.m.head.lt
  have l2 := h.m.row.lt
  have l3 := h.box.lt
  have l4 := h.row.lt
  have l5 := h.off.size
  refine ⟨h.off0 o, hi, ⟨fun hk => ?_, fun hk => ?_, fun hk => ?_, fun hk => ?_⟩, fun k hk => ?_⟩
  · have := hf _ hk; omega
  · have := hf _ hk; omega
  · have := hf _ hk; omega
  · have := hf _ hk; omega
  · have := hf _ hk; omega
theorem fly_step_p (D : ConP J) (h : FlyP J w q bm gw hw n f g F p s W) (hok : p.Ok) (hlen : p.over = false → (s.row.length : Int) = wordsI p.P p.C p.M) (h0 : 0 ≤ s.steps) (h1 : s.steps < 9223372036854775807) :
    Calls Try.prog 14 #[.pointer (some ⟨g, 0, none⟩), .pointer (some ⟨gw, 0, none⟩)] W fun e W' => e = .returned (.tuple #[]) ∧ ∃ F', FlyP J w q bm gw hw n f g F' (p.next s) (p.words s) W' := by
  refine (D.step h.p hok h.b.m h.n.1 h.n.2.1 hlen h0 h1).mono ?_
  rintro e W' ⟨rfl, ⟨F', hi, hf⟩, hm, o⟩
  have l1 := h.b.m.head.lt
  have l2 := h.b.m.row.lt
  have l3 := h.b.box.lt
  have l4 := h.b.row.lt
  have l5 := h.b.off.size
  have kk : ∀ k, k < W.heap.size → k ∉ F → k ∉ F' := fun k hk hn hm => by
    rcases hf k hm with h2 | h2
    · exact hn h2
    · omega
  refine ⟨rfl, F', h.b.turn o hm h.n.2.2.1 h.n.2.2.2 h.new, hi, ⟨kk _ l1 h.n.1, kk _ l2 h.n.2.1, kk _ l3 h.n.2.2.1, kk _ l4 h.n.2.2.2⟩, fun k hk => ?_⟩
  rcases hf k hk with h2 | h2
  · exact h.new k h2
  · omega
theorem fly_step_t (C : ConT I) (h : FlyT I w q bm gw hw n f g F t s W) (hok : t.Ok) (hlen : t.over = false → (s.row.length : Int) = wordsI t.P t.C t.M) (hrow : RowOk s) (h0 : 0 ≤ s.steps) (h1 : s.steps < 9223372036854775807) :
    Calls Try.prog 13 #[.pointer (some ⟨g, 0, none⟩), .pointer (some ⟨gw, 0, none⟩)] W fun e W' => e = .returned (.tuple #[]) ∧ ∃ F', FlyT I w q bm gw hw n f g F' (t.next s) (t.words s) W' := by
  refine (C.step h.t hok h.b.m h.n.1 h.n.2.1 hlen hrow h0 h1).mono ?_
  rintro e W' ⟨rfl, ⟨F', hi, hf⟩, hm, o⟩
  have l1 := h.b.m.head.lt
  have l2 := h.b.m.row.lt
  have l3 := h.b.box.lt
  have l4 := h.b.row.lt
  have l5 := h.b.off.size
  have kk : ∀ k, k < W.heap.size → k ∉ F → k ∉ F' := fun k hk hn hm => by
    rcases hf k hm with h2 | h2
    · exact hn h2
    · omega
  refine ⟨rfl, F', h.b.turn o hm h.n.2.2.1 h.n.2.2.2 h.new, hi, ⟨kk _ l1 h.n.1, kk _ l2 h.n.2.1, kk _ l3 h.n.2.2.1, kk _ l4 h.n.2.2.2⟩, fun k hk => ?_⟩
  rcases hf k hk with h2 | h2
  · exact h.new k h2
  · omega
/-- A round whole, for the putter's loop: behind k steps. -/
def PutRel (J : HoldP) (w : World) (q bm gw hw n : Nat) (f : Nat → Int) (g : Nat) (p : Pk) (s : St) (i : Value) (W : World) : Prop :=
  ∃ k : Nat, k ≤ n + 1 ∧ i = .int .i64 k ∧ ∃ F, FlyP J w q bm gw hw n f g F (seqP p s k).1 (seqP p s k).2 W
def TakeRel (I : HoldT) (w : World) (q bm gw hw n : Nat) (f : Nat → Int) (g : Nat) (t : Tk) (s : St) (i : Value) (W : World) : Prop :=
  ∃ k : Nat, k ≤ n + 1 ∧ i = .int .i64 k ∧ ∃ F, FlyT I w q bm gw hw n f g F (seqT t s k).1 (seqT t s k).2 W
theorem fly_seq_p (D : ConP J) {m : Nat} (hn : n ≤ 8) (hb : Bo n m s f) (hm : m ≤ 1000) {page slot c : Int} {k : Nat} (hk : k ≤ n + 1) (h : FlyP J w q bm gw hw n f g F (seqP (pk0 4 2 n 1 page slot c) s k).1 (seqP (pk0 4 2 n 1 page slot c) s k).2 W) :
    Calls Try.prog 14 #[.pointer (some ⟨g, 0, none⟩), .pointer (some ⟨gw, 0, none⟩)] W fun e W' => e = .returned (.tuple #[]) ∧ ∃ F', FlyP J w q bm gw hw n f g F' (seqP (pk0 4 2 n 1 page slot c) s (k + 1)).1 (seqP (pk0 4 2 n 1 page slot c) s (k + 1)).2 W' := by
  have hq : SeqP 4 2 n 1 (70 + 2 * n) (pk0 4 2 n 1 page slot c) s := ⟨pk0_ok _ _ _ _ _ _ _, ⟨rfl, rfl, rfl, rfl⟩, hb.len⟩
  have hi := seqP_is hq k
  have hs := seqP_steps (pk0 4 2 n 1 page slot c) s k
  have h0 := hb.s0
  have h1 := hb.s1
  exact fly_step_p D h hi.ok (fun _ => by rw [hi.len, hi.sh.1, hi.sh.2.1, hi.sh.2.2.1, words_8 hn]; omega) (by omega) (by omega)
theorem fly_seq_t (C : ConT I) {m : Nat} (hn : n ≤ 8) (hb : Bo n m s f) (hm : m ≤ 1000) {c : Int} {k : Nat} (hk : k ≤ n + 1) (h : FlyT I w q bm gw hw n f g F (seqT (tk0 4 2 n 1 c) s k).1 (seqT (tk0 4 2 n 1 c) s k).2 W) :
    Calls Try.prog 13 #[.pointer (some ⟨g, 0, none⟩), .pointer (some ⟨gw, 0, none⟩)] W fun e W' => e = .returned (.tuple #[]) ∧ ∃ F', FlyT I w q bm gw hw n f g F' (seqT (tk0 4 2 n 1 c) s (k + 1)).1 (seqT (tk0 4 2 n 1 c) s (k + 1)).2 W' := by
  have hq : SeqT 4 2 n 1 (70 + 2 * n) (tk0 4 2 n 1 c) s := ⟨tk0_ok _ _ _ _ _, ⟨rfl, rfl, rfl, rfl⟩, hb.len⟩
  have hi := seqT_is hq k
  have hs := seqT_steps (tk0 4 2 n 1 c) s k
  have h0 := hb.s0
  have h1 := hb.s1
  exact fly_step_t C h hi.ok (fun _ => by rw [hi.len, hi.sh.1, hi.sh.2.1, hi.sh.2.2.1, words_8 hn]; omega) (seqT_ok hb.ok k) (by omega) (by omega)
end
/-- Words of zeros, and the law's own row of zeros. -/
theorem bo_zero (n : Nat) : Bo n 0 (St.fill (fun _ => 0) (70 + 2 * n) (70 + 2 * n)) (fun _ => 0) := by
  have hat : ∀ i, (St.fill (fun _ => 0) (70 + 2 * n) (70 + 2 * n)).at i = 0 := fun i => by
    unfold St.at
    rw [List.getD_eq_getElem?_getD]
    cases e : (St.fill (fun _ => 0) (70 + 2 * n) (70 + 2 * n)).row[i]? with
    | none => rfl
    | some x =>
      have hx := List.mem_of_getElem? e
      simp only [St.fill, filled, List.mem_map, List.mem_range] at hx
      obtain ⟨j, -, rfl⟩ := hx
      split <;> rfl
  exact ⟨by simp [St.fill, filled_length], fill_ok (fun _ => by decide) _ _, fun j _ => .inl ⟨hat _, rfl⟩, fun i _ => hat i, by simp [St.fill], by simp [St.fill]⟩

end Go.Proofs.Ytdnahojpeplajaa.Mag
