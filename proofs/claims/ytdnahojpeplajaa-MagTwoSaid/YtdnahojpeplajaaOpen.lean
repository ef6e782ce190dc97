/- How a law's arguments are opened, and that they read behind the call as they read before. Nothing of the program. -/
import Derived.WalkKit
import Derived.ProofKit
import Derived.OpenShut
import Derived.ShutString
import Derived.ChangeOld
import Derived.Below
import Derived.WalkLawsBesides
import Derived.Laws.IdiomArrays
import Derived.Deep.Slices
namespace Go.Proofs.Ytdnahojpeplajaa.Open
open Go.ChangeShapes Go.WideShapes Go.ChangeAt Go.RowKit
section
variable {H : Type} {enc : TypeId × Value → H} {P : Program}

/-- ALL ARGUMENTS, behind a call that has turned nothing that was there. -/
theorem below_trodAll (hl : laidOutB P = true) {W W' : World} (hb : Below W.heap.size W W') :
    ∀ {ts : List TypeId} {vs : List Value} {ds : List (DataW H)} {ps : List MemPlace}, (ts.all fun t => P.readableRec t && decide (t < P.types.size)) = true →
      DataW.TrodAll enc P W 0 (fun _ => true) true ts vs ds ps → DataW.TrodAll enc P W' 0 (fun b => decide (b < W.heap.size)) true ts vs ds ps
  | [], vs, ds, ps, _, h => by
    obtain ⟨rfl, rfl, rfl⟩ := trodAll_nil h
    exact trodAll_mk0
  | t :: ts, vs, ds, ps, hr, h => by
    obtain ⟨v, vs', d, ds', p, q, rfl, rfl, rfl, h0, h1⟩ := trodAll_cons h
    simp only [List.all_cons, Bool.and_eq_true, decide_eq_true_eq] at hr
    refine trodAll_cons_mk (Below.trod hl hr.1.1 hr.1.2 h0 hb ?_) (below_trodAll hl hb hr.2 h1)
    obtain ⟨m, hm⟩ := h0
    exact DataW.trod_lt m _ _ _ hm

theorem float_lt {b : Nat} (h : (Lit.float .f64 b).wf = true) : b < 18446744073709551616 := by simpa [Lit.wf] using h

variable {w : World} {base : Nat} {spare : Nat → Bool} {held : Bool}

theorem trod_float {e : TypeId} {n : Nat} {c : Value} {y : DataW H × List MemPlace} (he : P.underlying e = some (.float .f64)) (h : DataW.trod enc P w base spare held n e [c] = some y) :
    ∃ b, c = .float .f64 b ∧ b < 18446744073709551616 := by
  cases n with
  | zero => simp [DataW.trod] at h
  | succ n =>
    unfold DataW.trod at h
    rw [he] at h
    cases c with
    | float k b =>
      simp only at h
      by_cases hk : k = .f64 ∧ (Lit.float .f64 b).wf = true
      · obtain ⟨rfl, hw⟩ := hk
        exact ⟨b, rfl, float_lt hw⟩
      · rw [if_neg hk] at h; cases h
    | _ => simp at h

theorem open_arr3f {r : Reach} {b0 : Nat} {t e : TypeId} {v : Value} {d : DataW H} {ps : List MemPlace} (ht : P.underlying t = some (.array 3 e)) (he : P.underlying e = some (.float .f64)) (hce : P.cellsOf e = 1) (hct : P.cellsOf t = 3)
    (hval : Value.okWide P w r b0 t v) (h : DataW.Trod enc P w base spare held t v d ps) :
    ∃ x y z, v = .agg #[.float .f64 x, .float .f64 y, .float .f64 z] ∧ x < 18446744073709551616 ∧ y < 18446744073709551616 ∧ z < 18446744073709551616 := by
  simp only [Value.okWide, ht] at hval
  obtain ⟨cs, rfl, hsz, _⟩ := hval
  obtain ⟨fuel, hf⟩ := h
  rw [hct] at hsz
  obtain ⟨l⟩ := cs
  match l, hsz with
  | [c0, c1, c2], _ =>
    have hf' : DataW.trod enc P w base spare held fuel t [c0, c1, c2] = some (d, ps) := by simpa [Value.cells] using hf
    obtain ⟨y0, y1, y2, n, _, h0, h1, h2⟩ := trod_array3 ht hce hf'
    obtain ⟨x, rfl, hx⟩ := trod_float he h0
    obtain ⟨y, rfl, hy⟩ := trod_float he h1
    obtain ⟨z, rfl, hz⟩ := trod_float he h2
    exact ⟨x, y, z, rfl, hx, hy, hz⟩

/-- What the walk is told of a slice of floats that came in. -/
def IsRowF (w : World) (a : Option Addr) (len cap : Nat) (z : Nat → Nat) : Prop :=
  (a = none ∧ len = 0 ∧ cap = 0) ∨ ∃ x, a = some x ∧ len ≤ cap ∧ cap ≤ maxLen ∧ ∀ i, i < len → w.cell? (x.add i) = some (.float .f64 (z i)) ∧ z i < 18446744073709551616

theorem spot_none {a : Addr} {v : Value} (h : w.cell? a = some v) : a.spot = none := by
  unfold World.cell? at h
  split at h
  · split at h
    · cases h
    · rename_i hs; simpa using hs
  · cases h

theorem block_lt {a : Addr} {v : Value} (h : w.cell? a = some v) : a.block < w.heap.size := by
  unfold World.cell? at h
  split at h
  · rename_i hb; exact (Array.getElem?_eq_some_iff.1 hb).1
  · cases h

theorem row_at {a : Option Addr} {n cap : Nat} {z : Nat → Nat} (h : IsRowF w a (n + 1) cap z) :
    ∃ b off, a = some ⟨b, off, none⟩ ∧ n + 1 ≤ cap ∧ cap ≤ 9223372036854775807 ∧ (∀ i, i < n + 1 → w.cell? ⟨b, off + i, none⟩ = some (.float .f64 (z i))) ∧ (∀ i, i < n + 1 → z i < 18446744073709551616) := by
  rcases h with ⟨_, h, _⟩ | ⟨x, rfl, hl, hm, hi⟩
  · omega
  · obtain ⟨b, off, s⟩ := x
    have h0 := (hi 0 (by omega)).1
    have e : s = none := spot_none h0
    subst e
    exact ⟨b, off, rfl, hl, by unfold maxLen at hm; omega, fun i h => by
      have g := (hi i h).1
      by_cases e : i = 0
      · subst e; simpa [Addr.add] using g
      · simpa [Addr.add, e] using g, fun i h => (hi i h).2⟩

theorem open_slicef {r : Reach} {b0 : Nat} {t e : TypeId} {v : Value} {d : DataW H} {ps : List MemPlace} (ht : P.underlying t = some (.slice e)) (he : P.underlying e = some (.float .f64)) (hce : P.cellsOf e = 1)
    (hval : Value.okWide P w r b0 t v) (h : DataW.Trod enc P w base spare held t v d ps) :
    ∃ a len cap z, v = .slice a len cap ∧ IsRowF w a len cap z := by
  obtain ⟨a0, len, cap, rfl⟩ := okWide_slice ht hval
  obtain ⟨fuel, hf⟩ := h
  rcases Go.Deep.open_slice ht hf with ⟨hcs, _⟩ | ⟨a, l, c, m, n, D, Pl, hcs, _, hl, hm, hmm, _, hi⟩
  · simp [Value.cells] at hcs
    obtain ⟨rfl, rfl, rfl⟩ := hcs
    exact ⟨_, _, _, fun _ => 0, rfl, .inl ⟨rfl, rfl, rfl⟩⟩
  · simp [Value.cells] at hcs
    obtain ⟨rfl, rfl, rfl⟩ := hcs
    have key : ∀ i, i < len → ∃ b, w.cell? (a.add i) = some (.float .f64 b) ∧ b < 18446744073709551616 := by
      intro i hil
      obtain ⟨cs', h1, h2⟩ := hi i (by rw [hmm]; split <;> omega)
      rw [hce] at h1
      obtain ⟨_, hlen, hat⟩ := World.cells?_some h1
      match cs', hlen with
      | [c0], _ =>
        obtain ⟨b, rfl, hb⟩ := trod_float he h2
        have h3 := hat 0 (by omega)
        refine ⟨b, ?_, hb⟩
        simpa [Addr.add] using h3
    refine ⟨_, _, _, fun i => if h : i < len then Classical.choose (key i h) else 0, rfl, .inr ⟨a, rfl, hl, hm, fun i h => ?_⟩⟩
    simp only [dif_pos h]
    exact Classical.choose_spec (key i h)

end
end Go.Proofs.Ytdnahojpeplajaa.Open
