/- A struct of three integers that came in by value: its cells. Nothing of the program. -/
import Derived.Test.YtdnahojpeplajaaOpenD
namespace Go.Proofs.Ytdnahojpeplajaa.Open
open Go.ChangeShapes Go.WideShapes Go.ChangeAt Go.RowKit Mem Go.Deep
section
variable {H : Type} {enc : TypeId × Value → H} {P : Program} {w : World} {base : Nat} {spare : Nat → Bool} {held : Bool}

theorem open_three {r : Reach} {b0 : Nat} {t : TypeId} {f0 f1 f2 : Field} {v : Value} {d : DataW H} {ps : List MemPlace} (ht : P.underlying t = some (.struct #[f0, f1, f2])) (hone : oneCellFields P #[f0, f1, f2] = true) (hC : P.cellsOf t = 3)
    (k0 : P.underlying f0.type = some (.int .i64)) (k1 : P.underlying f1.type = some (.int .i64)) (k2 : P.underlying f2.type = some (.int .i64))
    (hval : Value.okWide P w r b0 t v) (h : DataW.Trod enc P w base spare held t v d ps) :
    ∃ n0 n1 n2, v = .agg #[.int .i64 n0, .int .i64 n1, .int .i64 n2] ∧ (Lit.int .i64 n0).wf = true ∧ (Lit.int .i64 n1).wf = true ∧ (Lit.int .i64 n2).wf = true := by
  obtain ⟨cs, rfl, hsz⟩ := okWide_struct ht hval
  obtain ⟨fuel, hf⟩ := h
  obtain ⟨l⟩ := cs
  have hl : l.length = 3 := by rw [← hC]; exact hsz
  have hs := struct_cells ht hone (cs := l) (by simpa [Value.cells] using hf) hl
  obtain ⟨n0, e0, w0⟩ := hs 0 f0 _ rfl k0
  obtain ⟨n1, e1, w1⟩ := hs 1 f1 _ rfl k1
  obtain ⟨n2, e2, w2⟩ := hs 2 f2 _ rfl k2
  match l, hl with
  | [c0, c1, c2], _ =>
    simp at e0 e1 e2
    subst e0 e1 e2
    exact ⟨n0, n1, n2, rfl, w0, w1, w2⟩

end
end Go.Proofs.Ytdnahojpeplajaa.Open
