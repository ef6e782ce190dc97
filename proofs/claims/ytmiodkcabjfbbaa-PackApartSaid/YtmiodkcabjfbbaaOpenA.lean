/- An array of three integers that came in by value. Nothing of the program. -/
import Derived.Test.YtmiodkcabjfbbaaOpenS
namespace Go.Proofs.Ytmiodkcabjfbbaa.Open
open Go.ChangeShapes Go.WideShapes Go.ChangeAt Go.RowKit Mem Go.Deep
section
variable {H : Type} {enc : TypeId × Value → H} {P : Program} {w : World} {base : Nat} {spare : Nat → Bool} {held : Bool}

theorem open_arr3i {r : Reach} {b0 : Nat} {t e : TypeId} {k : IntKind} {v : Value} {d : DataW H} {ps : List MemPlace} (ht : P.underlying t = some (.array 3 e)) (he : P.underlying e = some (.int k)) (hce : P.cellsOf e = 1) (hct : P.cellsOf t = 3)
    (hval : Value.okWide P w r b0 t v) (h : DataW.Trod enc P w base spare held t v d ps) :
    ∃ x y z, v = .agg #[.int k x, .int k y, .int k z] ∧ (Lit.int k x).wf = true ∧ (Lit.int k y).wf = true ∧ (Lit.int k z).wf = true := by
  simp only [Value.okWide, ht] at hval
  obtain ⟨cs, rfl, hsz, _⟩ := hval
  obtain ⟨fuel, hf⟩ := h
  rw [hct] at hsz
  obtain ⟨l⟩ := cs
  match l, hsz with
  | [c0, c1, c2], _ =>
    have hf' : DataW.trod enc P w base spare held fuel t [c0, c1, c2] = some (d, ps) := by simpa [Value.cells] using hf
    obtain ⟨y0, y1, y2, n, _, h0, h1, h2⟩ := trod_array3 ht hce hf'
    obtain ⟨x, e0, _, hx⟩ := DataW.trod_int he h0
    obtain ⟨y, e1, _, hy⟩ := DataW.trod_int he h1
    obtain ⟨z, e2, _, hz⟩ := DataW.trod_int he h2
    simp at e0 e1 e2
    subst e0 e1 e2
    exact ⟨x, y, z, rfl, hx, hy, hz⟩

end
end Go.Proofs.Ytmiodkcabjfbbaa.Open
