/- A slice of structs of three integers that came in: its cells. Nothing of the program. -/
import Derived.Test.YtpkpkfcboimhnaaOpenD
namespace Go.Proofs.Ytpkpkfcboimhnaa.Open
open Go.ChangeShapes Go.WideShapes Go.ChangeAt Go.RowKit Mem Go.Deep
section
variable {H : Type} {enc : TypeId × Value → H} {P : Program} {w : World} {base : Nat} {spare : Nat → Bool} {held : Bool}

theorem three_cells {t : TypeId} {f0 f1 f2 : Field} {fuel : Nat} {cs : List Value} {x : DataW H × List MemPlace} (ht : P.underlying t = some (.struct #[f0, f1, f2])) (hone : oneCellFields P #[f0, f1, f2] = true)
    (k0 : P.underlying f0.type = some (.int .i64)) (k1 : P.underlying f1.type = some (.int .i64)) (k2 : P.underlying f2.type = some (.int .i64))
    (h : DataW.trod enc P w base spare held fuel t cs = some x) (hl : cs.length = 3) :
    ∃ n0 n1 n2, cs = [.int .i64 n0, .int .i64 n1, .int .i64 n2] ∧ (Lit.int .i64 n0).wf = true ∧ (Lit.int .i64 n1).wf = true ∧ (Lit.int .i64 n2).wf = true := by
  have hs := struct_cells ht hone h hl
  obtain ⟨n0, e0, w0⟩ := hs 0 f0 _ rfl k0
  obtain ⟨n1, e1, w1⟩ := hs 1 f1 _ rfl k1
  obtain ⟨n2, e2, w2⟩ := hs 2 f2 _ rfl k2
  match cs, hl with
  | [c0, c1, c2], _ =>
    simp at e0 e1 e2
    subst e0 e1 e2
    exact ⟨n0, n1, n2, rfl, w0, w1, w2⟩

/-- A row of such structs. -/
structure Tri where
  n0 : Int
  n1 : Int
  n2 : Int
def Tri.cells (d : Tri) : List Value := [.int .i64 d.n0, .int .i64 d.n1, .int .i64 d.n2]
def Tri.wf (d : Tri) : Prop := (Lit.int .i64 d.n0).wf = true ∧ (Lit.int .i64 d.n1).wf = true ∧ (Lit.int .i64 d.n2).wf = true

structure IsRowT (w : World) (a : Option Addr) (len cap : Nat) (z : Nat → Tri) : Prop where
  some_ : 0 < len → ∃ b off, a = some ⟨b, off, none⟩ ∧ b < w.heap.size ∧ len ≤ cap ∧ cap ≤ 9223372036854775807 ∧ ∀ i, i < len → (z i).wf ∧ ∀ j u, (z i).cells[j]? = some u → w.cell? ⟨b, off + i * 3 + j, none⟩ = some u

theorem open_slicet {r : Reach} {b0 : Nat} {t e : TypeId} {f0 f1 f2 : Field} {v : Value} {d : DataW H} {ps : List MemPlace} (ht : P.underlying t = some (.slice e)) (he : P.underlying e = some (.struct #[f0, f1, f2]))
    (hone : oneCellFields P #[f0, f1, f2] = true) (hC : P.cellsOf e = 3)
    (k0 : P.underlying f0.type = some (.int .i64)) (k1 : P.underlying f1.type = some (.int .i64)) (k2 : P.underlying f2.type = some (.int .i64))
    (hval : Value.okWide P w r b0 t v) (h : DataW.Trod enc P w base spare held t v d ps) :
    ∃ a len cap z, v = .slice a len cap ∧ IsRowT w a len cap z := by
  obtain ⟨a0, len, cap, rfl⟩ := okWide_slice ht hval
  obtain ⟨fuel, hf⟩ := h
  rcases Go.Deep.open_slice ht hf with ⟨hcs, _⟩ | ⟨a, l, c, m, n, D, Pl, hcs, _, hl, hm, hmm, _, hi⟩
  · simp [Value.cells] at hcs
    obtain ⟨rfl, rfl, rfl⟩ := hcs
    exact ⟨_, _, _, fun _ => ⟨0, 0, 0⟩, rfl, ⟨fun h => absurd h (by omega)⟩⟩
  · simp [Value.cells] at hcs
    obtain ⟨rfl, rfl, rfl⟩ := hcs
    have key : ∀ i, i < len → ∃ d : Tri, d.wf ∧ ∀ j u, d.cells[j]? = some u → w.cell? (a.add (i * 3 + j)) = some u := by
      intro i hil
      obtain ⟨cs', h1, h2⟩ := hi i (by rw [hmm]; split <;> omega)
      rw [hC] at h1
      obtain ⟨_, hlen, hat⟩ := World.cells?_some h1
      obtain ⟨n0, n1, n2, e, w0, w1, w2⟩ := three_cells he hone k0 k1 k2 h2 hlen
      refine ⟨⟨n0, n1, n2⟩, ⟨w0, w1, w2⟩, fun j u hu => ?_⟩
      have hj : j < 3 := by
        have := (List.getElem?_eq_some_iff.1 hu).1
        simpa [Tri.cells] using this
      have h3 := hat j hj
      rw [Go.Deep.add_add] at h3
      rw [h3, e]
      exact hu
    refine ⟨_, _, _, fun i => if h : i < len then Classical.choose (key i h) else ⟨0, 0, 0⟩, rfl, ⟨fun h0 => ?_⟩⟩
    obtain ⟨d0, _, g0⟩ := key 0 h0
    have c0 := g0 0 _ rfl
    obtain ⟨b, off, s⟩ := a
    obtain rfl : s = none := by
      have := spot_none c0
      simpa [Addr.add] using this
    refine ⟨b, off, rfl, ?_, hl, by unfold maxLen at hm; omega, fun i h => ?_⟩
    · have := block_lt c0
      simpa [Addr.add] using this
    · simp only [dif_pos h]
      obtain ⟨hw, g⟩ := Classical.choose_spec (key i h)
      refine ⟨hw, fun j u hu => ?_⟩
      have g1 := g j u hu
      rw [show off + i * 3 + j = off + (i * 3 + j) by omega]
      rw [addr_add] at g1
      exact g1
end
end Go.Proofs.Ytpkpkfcboimhnaa.Open
