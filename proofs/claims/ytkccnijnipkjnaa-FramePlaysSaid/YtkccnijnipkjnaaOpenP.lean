/- A slice of pairs of small integers that came in: its cells. Nothing of the program. -/
import Derived.Test.YtkccnijnipkjnaaOpenI
import Derived.Deep.Fields
namespace Go.Proofs.Ytkccnijnipkjnaa.Open
open Go.ChangeShapes Go.WideShapes Go.ChangeAt Go.RowKit Mem Go.Deep
section
variable {H : Type} {enc : TypeId × Value → H} {P : Program} {w : World} {base : Nat} {spare : Nat → Bool} {held : Bool}

/-- What a walk is told of a slice of pairs that came in. -/
structure IsRowP (w : World) (a : Option Addr) (len cap : Nat) (k : IntKind) (x y : Nat → Int) : Prop where
  some_ : 0 < len → ∃ b off, a = some ⟨b, off, none⟩ ∧ b < w.heap.size ∧ len ≤ cap ∧ cap ≤ 9223372036854775807 ∧
    ∀ i, i < len → (Lit.int k (x i)).wf = true ∧ (Lit.int k (y i)).wf = true ∧ w.cell? ⟨b, off + i * 2, none⟩ = some (.int k (x i)) ∧ w.cell? ⟨b, off + i * 2 + 1, none⟩ = some (.int k (y i))

theorem pair_cells {t e : TypeId} {k : IntKind} {fuel : Nat} {cs : List Value} {x : DataW H × List MemPlace} (ht : P.underlying t = some (.array 2 e)) (he : P.underlying e = some (.int k)) (hce : P.cellsOf e = 1)
    (h : DataW.trod enc P w base spare held fuel t cs = some x) (hl : cs.length = 2) : ∃ n0 n1, cs = [.int k n0, .int k n1] ∧ (Lit.int k n0).wf = true ∧ (Lit.int k n1).wf = true := by
  obtain ⟨xs, m, _, _, _, hxl, hat⟩ := DataW.trod_array ht h
  match cs, hl with
  | [c0, c1], _ =>
    have h0 := hat 0 (by decide)
    have h1 := hat 1 (by decide)
    rw [hce, List.getElem?_eq_getElem (by omega)] at h0 h1
    simp only [Nat.zero_mul, List.drop_zero, List.take_succ_cons, List.take_zero, Nat.one_mul, List.drop_succ_cons] at h0 h1
    obtain ⟨n0, e0, _, w0⟩ := DataW.trod_int he h0
    obtain ⟨n1, e1, _, w1⟩ := DataW.trod_int he h1
    injection e0 with e0
    injection e1 with e1
    exact ⟨n0, n1, by rw [e0, e1], w0, w1⟩

theorem open_slicep {r : Reach} {b0 : Nat} {t e f : TypeId} {k : IntKind} {v : Value} {d : DataW H} {ps : List MemPlace} (ht : P.underlying t = some (.slice e)) (he : P.underlying e = some (.array 2 f)) (hf0 : P.underlying f = some (.int k)) (hcf : P.cellsOf f = 1) (hC : P.cellsOf e = 2)
    (hval : Value.okWide P w r b0 t v) (h : DataW.Trod enc P w base spare held t v d ps) :
    ∃ a len cap x y, v = .slice a len cap ∧ IsRowP w a len cap k x y := by
  obtain ⟨a0, len, cap, rfl⟩ := okWide_slice ht hval
  obtain ⟨fuel, hf⟩ := h
  rcases Go.Deep.open_slice ht hf with ⟨hcs, _⟩ | ⟨a, l, c, m, n, D, Pl, hcs, _, hl, hm, hmm, _, hi⟩
  · simp [Value.cells] at hcs
    obtain ⟨rfl, rfl, rfl⟩ := hcs
    exact ⟨_, _, _, fun _ => 0, fun _ => 0, rfl, ⟨fun h => absurd h (by omega)⟩⟩
  · simp [Value.cells] at hcs
    obtain ⟨rfl, rfl, rfl⟩ := hcs
    have key : ∀ i, i < len → ∃ q : Int × Int, (Lit.int k q.1).wf = true ∧ (Lit.int k q.2).wf = true ∧ w.cell? (a.add (i * 2)) = some (.int k q.1) ∧ w.cell? (a.add (i * 2 + 1)) = some (.int k q.2) := by
      intro i hil
      obtain ⟨cs', h1, h2⟩ := hi i (by rw [hmm]; split <;> omega)
      rw [hC] at h1
      obtain ⟨_, hlen, hat⟩ := World.cells?_some h1
      obtain ⟨n0, n1, e, w0, w1⟩ := pair_cells he hf0 hcf h2 hlen
      refine ⟨(n0, n1), w0, w1, ?_, ?_⟩
      · have h3 := hat 0 (by decide)
        rw [Go.Deep.add_add] at h3
        rw [Nat.add_zero] at h3
        rw [h3, e]
        rfl
      · have h3 := hat 1 (by decide)
        rw [Go.Deep.add_add] at h3
        rw [h3, e]
        rfl
    refine ⟨_, _, _, fun i => if h : i < len then (Classical.choose (key i h)).1 else 0, fun i => if h : i < len then (Classical.choose (key i h)).2 else 0, rfl, ⟨fun h0 => ?_⟩⟩
    obtain ⟨d0, _, _, c0, _⟩ := key 0 h0
    obtain ⟨b, off, s⟩ := a
    obtain rfl : s = none := by
      have := spot_none c0
      simpa [Addr.add] using this
    refine ⟨b, off, rfl, ?_, hl, by unfold maxLen at hm; omega, fun i h => ?_⟩
    · have := block_lt c0
      simpa [Addr.add] using this
    · simp only [dif_pos h]
      obtain ⟨hw1, hw2, g1, g2⟩ := Classical.choose_spec (key i h)
      exact ⟨hw1, hw2, (congrArg w.cell? (addr_add b off (i * 2)).symm).trans g1, (congrArg w.cell? (addr_add b off (i * 2 + 1)).symm).trans g2⟩
end
end Go.Proofs.Ytkccnijnipkjnaa.Open
