/- A struct of integers that came in, by value or in a slice: its cells. Nothing of the program. -/
import Derived.Test.YtdnahojpeplajaaOpenU
import Derived.Deep.Fields
namespace Go.Proofs.Ytdnahojpeplajaa.Open
open Go.ChangeShapes Go.WideShapes Go.ChangeAt Go.RowKit Mem Go.Deep
section
variable {H : Type} {enc : TypeId × Value → H} {P : Program} {w : World} {base : Nat} {spare : Nat → Bool} {held : Bool}

/-- Each field that is an integer has its cell. -/
theorem struct_cells {t : TypeId} {fs : Array Field} {fuel : Nat} {cs : List Value} {x : DataW H × List MemPlace} (ht : P.underlying t = some (.struct fs)) (hone : oneCellFields P fs = true)
    (h : DataW.trod enc P w base spare held fuel t cs = some x) (hl : cs.length = fs.size) :
    ∀ (j : Nat) (f : Field) (k : IntKind), fs[j]? = some f → P.underlying f.type = some (.int k) → ∃ n, cs[j]? = some (.int k n) ∧ (Lit.int k n).wf = true := by
  intro j f k hj hk
  obtain ⟨ys, n', hn', hy, hlen, hyl, hf⟩ := DataW.trod_struct ht h
  obtain ⟨ho, hc⟩ := hone_of hone j f hj
  have hjl : j < fs.size := (Array.getElem?_eq_some_iff.1 hj).1
  have h1 := hf j f hj
  rw [ho, hc] at h1
  have hone' : (cs.drop j).take 1 = [cs[j]'(by omega)] := by
    rw [List.drop_eq_getElem_cons (by omega)]
    rfl
  rw [hone', List.getElem?_eq_getElem (by omega)] at h1
  obtain ⟨n, e, _, hw⟩ := DataW.trod_int hk h1
  injection e with e
  exact ⟨n, by rw [List.getElem?_eq_getElem (by omega), e], hw⟩

/-- Five fields: three of one kind, two of another. -/
theorem five_cells {t : TypeId} {f0 f1 f2 f3 f4 : Field} {fuel : Nat} {cs : List Value} {x : DataW H × List MemPlace} (ht : P.underlying t = some (.struct #[f0, f1, f2, f3, f4])) (hone : oneCellFields P #[f0, f1, f2, f3, f4] = true)
    (k0 : P.underlying f0.type = some (.int .i64)) (k1 : P.underlying f1.type = some (.int .i64)) (k2 : P.underlying f2.type = some (.int .i64)) (k3 : P.underlying f3.type = some (.int .u64)) (k4 : P.underlying f4.type = some (.int .u64))
    (h : DataW.trod enc P w base spare held fuel t cs = some x) (hl : cs.length = 5) :
    ∃ n0 n1 n2 n3 n4, cs = [.int .i64 n0, .int .i64 n1, .int .i64 n2, .int .u64 n3, .int .u64 n4] ∧ (Lit.int .i64 n0).wf = true ∧ (Lit.int .i64 n1).wf = true ∧ (Lit.int .i64 n2).wf = true ∧ (Lit.int .u64 n3).wf = true ∧ (Lit.int .u64 n4).wf = true := by
  have hs := struct_cells ht hone h hl
  obtain ⟨n0, e0, w0⟩ := hs 0 f0 _ rfl k0
  obtain ⟨n1, e1, w1⟩ := hs 1 f1 _ rfl k1
  obtain ⟨n2, e2, w2⟩ := hs 2 f2 _ rfl k2
  obtain ⟨n3, e3, w3⟩ := hs 3 f3 _ rfl k3
  obtain ⟨n4, e4, w4⟩ := hs 4 f4 _ rfl k4
  match cs, hl with
  | [c0, c1, c2, c3, c4], _ =>
    simp at e0 e1 e2 e3 e4
    subst e0 e1 e2 e3 e4
    exact ⟨n0, n1, n2, n3, n4, rfl, w0, w1, w2, w3, w4⟩

theorem open_five {r : Reach} {b0 : Nat} {t : TypeId} {f0 f1 f2 f3 f4 : Field} {v : Value} {d : DataW H} {ps : List MemPlace} (ht : P.underlying t = some (.struct #[f0, f1, f2, f3, f4])) (hone : oneCellFields P #[f0, f1, f2, f3, f4] = true) (hC : P.cellsOf t = 5)
    (k0 : P.underlying f0.type = some (.int .i64)) (k1 : P.underlying f1.type = some (.int .i64)) (k2 : P.underlying f2.type = some (.int .i64)) (k3 : P.underlying f3.type = some (.int .u64)) (k4 : P.underlying f4.type = some (.int .u64))
    (hval : Value.okWide P w r b0 t v) (h : DataW.Trod enc P w base spare held t v d ps) :
    ∃ n0 n1 n2 n3 n4, v = .agg #[.int .i64 n0, .int .i64 n1, .int .i64 n2, .int .u64 n3, .int .u64 n4] := by
  obtain ⟨cs, rfl, hsz⟩ := okWide_struct ht hval
  obtain ⟨fuel, hf⟩ := h
  obtain ⟨l⟩ := cs
  have hl : l.length = 5 := by rw [← hC]; exact hsz
  obtain ⟨n0, n1, n2, n3, n4, e, _⟩ := five_cells ht hone k0 k1 k2 k3 k4 (cs := l) (by simpa [Value.cells] using hf) hl
  exact ⟨n0, n1, n2, n3, n4, by rw [e]⟩

/-- A row of such structs. -/
structure Five where
  n0 : Int
  n1 : Int
  n2 : Int
  n3 : Int
  n4 : Int
def Five.cells (d : Five) : List Value := [.int .i64 d.n0, .int .i64 d.n1, .int .i64 d.n2, .int .u64 d.n3, .int .u64 d.n4]
def Five.wf (d : Five) : Prop := (Lit.int .i64 d.n0).wf = true ∧ (Lit.int .i64 d.n1).wf = true ∧ (Lit.int .i64 d.n2).wf = true ∧ (Lit.int .u64 d.n3).wf = true ∧ (Lit.int .u64 d.n4).wf = true

structure IsRowD (w : World) (a : Option Addr) (len cap : Nat) (z : Nat → Five) : Prop where
  some_ : 0 < len → ∃ b off, a = some ⟨b, off, none⟩ ∧ b < w.heap.size ∧ len ≤ cap ∧ cap ≤ 9223372036854775807 ∧ ∀ i, i < len → (z i).wf ∧ ∀ j u, (z i).cells[j]? = some u → w.cell? ⟨b, off + i * 5 + j, none⟩ = some u

theorem open_sliced {r : Reach} {b0 : Nat} {t e : TypeId} {f0 f1 f2 f3 f4 : Field} {v : Value} {d : DataW H} {ps : List MemPlace} (ht : P.underlying t = some (.slice e)) (he : P.underlying e = some (.struct #[f0, f1, f2, f3, f4]))
    (hone : oneCellFields P #[f0, f1, f2, f3, f4] = true) (hC : P.cellsOf e = 5)
    (k0 : P.underlying f0.type = some (.int .i64)) (k1 : P.underlying f1.type = some (.int .i64)) (k2 : P.underlying f2.type = some (.int .i64)) (k3 : P.underlying f3.type = some (.int .u64)) (k4 : P.underlying f4.type = some (.int .u64))
    (hval : Value.okWide P w r b0 t v) (h : DataW.Trod enc P w base spare held t v d ps) :
    ∃ a len cap z, v = .slice a len cap ∧ IsRowD w a len cap z := by
  obtain ⟨a0, len, cap, rfl⟩ := okWide_slice ht hval
  obtain ⟨fuel, hf⟩ := h
  rcases Go.Deep.open_slice ht hf with ⟨hcs, _⟩ | ⟨a, l, c, m, n, D, Pl, hcs, _, hl, hm, hmm, _, hi⟩
  · simp [Value.cells] at hcs
    obtain ⟨rfl, rfl, rfl⟩ := hcs
    exact ⟨_, _, _, fun _ => ⟨0, 0, 0, 0, 0⟩, rfl, ⟨fun h => absurd h (by omega)⟩⟩
  · simp [Value.cells] at hcs
    obtain ⟨rfl, rfl, rfl⟩ := hcs
    have key : ∀ i, i < len → ∃ d : Five, d.wf ∧ ∀ j u, d.cells[j]? = some u → w.cell? (a.add (i * 5 + j)) = some u := by
      intro i hil
      obtain ⟨cs', h1, h2⟩ := hi i (by rw [hmm]; split <;> omega)
      rw [hC] at h1
      obtain ⟨_, hlen, hat⟩ := World.cells?_some h1
      obtain ⟨n0, n1, n2, n3, n4, e, w0, w1, w2, w3, w4⟩ := five_cells he hone k0 k1 k2 k3 k4 h2 hlen
      refine ⟨⟨n0, n1, n2, n3, n4⟩, ⟨w0, w1, w2, w3, w4⟩, fun j u hu => ?_⟩
      have hj : j < 5 := by
        have := (List.getElem?_eq_some_iff.1 hu).1
        simpa [Five.cells] using this
      have h3 := hat j hj
      rw [Go.Deep.add_add] at h3
      rw [h3, e]
      exact hu
    refine ⟨_, _, _, fun i => if h : i < len then Classical.choose (key i h) else ⟨0, 0, 0, 0, 0⟩, rfl, ⟨fun h0 => ?_⟩⟩
    obtain ⟨d0, _, g0⟩ := key 0 h0
    have c0 := g0 0 _ rfl
    obtain ⟨b, off, s⟩ := a
    obtain rfl : s = none := by
      have := spot_none c0
      simpa [Addr.add] using this
    refine ⟨b, off, rfl, ?_, hl, by unfold maxLen at hm; omega, fun i h => ?_⟩
    · have := block_lt c0
      simpa [Addr.add] using this
    · simp only [dif_pos h]
      obtain ⟨hw, g⟩ := Classical.choose_spec (key i h)
      refine ⟨hw, fun j u hu => ?_⟩
      have g1 := g j u hu
      rw [show off + i * 5 + j = off + (i * 5 + j) by omega]
      rw [addr_add] at g1
      exact g1
end
end Go.Proofs.Ytdnahojpeplajaa.Open
