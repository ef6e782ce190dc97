/- A slice of structs of three integers and a slice of integers that came in: its cells. Nothing of the program. -/
import Derived.Test.YtkccnijnipkjnaaOpenP
import Derived.Test.YtkccnijnipkjnaaOpenD
import Derived.Test.YtkccnijnipkjnaaFrmD
namespace Go.Proofs.Ytkccnijnipkjnaa.Open
open Go.ChangeShapes Go.WideShapes Go.ChangeAt Go.RowKit Mem Go.Deep Frm
section
variable {H : Type} {enc : TypeId × Value → H} {P : Program} {w : World} {base : Nat} {spare : Nat → Bool} {held : Bool}

/-- One such struct. -/
structure Dd where
  op : Int
  n : Int
  x : Int
  v : Value
  L : List Int
structure Dd.Ok (d : Dd) (w : World) : Prop where
  op : (Lit.int .i64 d.op).wf = true
  n : (Lit.int .i64 d.n).wf = true
  x : (Lit.int .i64 d.x).wf = true
  reads : Reads w d.v d.L
  small : d.L.length ≤ 9223372036854775807
def Dd.cells (d : Dd) : List Value := [.int .i64 d.op, .int .i64 d.n, .int .i64 d.x, d.v]

structure IsRowQ (w : World) (a : Option Addr) (len cap : Nat) (z : Nat → Dd) : Prop where
  some_ : 0 < len → ∃ b off, a = some ⟨b, off, none⟩ ∧ b < w.heap.size ∧ len ≤ cap ∧ cap ≤ 9223372036854775807 ∧
    ∀ i, i < len → (z i).Ok w ∧ ∀ j u, (z i).cells[j]? = some u → w.cell? ⟨b, off + i * 4 + j, none⟩ = some u

theorem reads_of_trod {t e : TypeId} {fuel : Nat} {v : Value} {x : DataW H × List MemPlace} (ht : P.underlying t = some (.slice e)) (he : P.underlying e = some (.int .i64)) (hce : P.cellsOf e = 1)
    (h : DataW.trod enc P w base spare held fuel t [v] = some x) : ∃ L, Reads w v L ∧ L.length ≤ 9223372036854775807 := by
  rcases open_ints ht he hce h with ⟨hcs, _⟩ | ⟨a, l, c, zs, hcs, _, hl, hm, hlen, _, hi, _⟩
  · injection hcs with hcs
    exact ⟨[], .inl ⟨hcs, rfl⟩, by simp⟩
  · injection hcs with hcs
    have hz : l ≤ zs.length := by rw [hlen]; split <;> omega
    refine ⟨zs.take l, .inr ⟨a, c, ?_, fun i y hy => ?_⟩, ?_⟩
    · rw [hcs, List.length_take, Nat.min_eq_left hz]
    · rw [List.getElem?_take] at hy
      split at hy
      · rename_i hil
        have := hi i (by omega)
        rw [this]
        congr 2
        rw [List.getD_eq_getElem?_getD, hy]
        rfl
      · cases hy
    · unfold maxLen at hm
      rw [List.length_take]
      omega

theorem deed_cells {t : TypeId} {f0 f1 f2 f3 : Field} {e3 : TypeId} {fuel : Nat} {cs : List Value} {x : DataW H × List MemPlace} (ht : P.underlying t = some (.struct #[f0, f1, f2, f3])) (hone : oneCellFields P #[f0, f1, f2, f3] = true)
    (k0 : P.underlying f0.type = some (.int .i64)) (k1 : P.underlying f1.type = some (.int .i64)) (k2 : P.underlying f2.type = some (.int .i64)) (k3 : P.underlying f3.type = some (.slice e3)) (he3 : P.underlying e3 = some (.int .i64)) (hce : P.cellsOf e3 = 1)
    (h : DataW.trod enc P w base spare held fuel t cs = some x) (hl : cs.length = 4) :
    ∃ d : Dd, d.Ok w ∧ cs = d.cells := by
  have hs := struct_cells ht hone h hl
  obtain ⟨n0, e0, w0⟩ := hs 0 f0 _ rfl k0
  obtain ⟨n1, e1, w1⟩ := hs 1 f1 _ rfl k1
  obtain ⟨n2, e2, w2⟩ := hs 2 f2 _ rfl k2
  obtain ⟨ys, n', hn', hy, hlen, hyl, hf⟩ := DataW.trod_struct ht h
  obtain ⟨ho, hc⟩ := hone_of hone 3 f3 rfl
  match cs, hl with
  | [c0, c1, c2, c3], _ =>
    have h1 := hf 3 f3 rfl
    rw [ho, hc, List.getElem?_eq_getElem (by rw [hyl]; simp)] at h1
    obtain ⟨L, hL, hl2⟩ := reads_of_trod k3 he3 hce h1
    simp at e0 e1 e2
    subst e0 e1 e2
    exact ⟨⟨n0, n1, n2, c3, L⟩, ⟨w0, w1, w2, hL, hl2⟩, rfl⟩

theorem open_sliceq {r : Reach} {b0 : Nat} {t e : TypeId} {f0 f1 f2 f3 : Field} {e3 : TypeId} {v : Value} {d : DataW H} {ps : List MemPlace} (ht : P.underlying t = some (.slice e)) (he : P.underlying e = some (.struct #[f0, f1, f2, f3]))
    (hone : oneCellFields P #[f0, f1, f2, f3] = true) (hC : P.cellsOf e = 4)
    (k0 : P.underlying f0.type = some (.int .i64)) (k1 : P.underlying f1.type = some (.int .i64)) (k2 : P.underlying f2.type = some (.int .i64)) (k3 : P.underlying f3.type = some (.slice e3)) (he3 : P.underlying e3 = some (.int .i64)) (hce : P.cellsOf e3 = 1)
    (hval : Value.okWide P w r b0 t v) (h : DataW.Trod enc P w base spare held t v d ps) :
    ∃ a len cap z, v = .slice a len cap ∧ IsRowQ w a len cap z := by
  obtain ⟨a0, len, cap, rfl⟩ := okWide_slice ht hval
  obtain ⟨fuel, hf⟩ := h
  rcases Go.Deep.open_slice ht hf with ⟨hcs, _⟩ | ⟨a, l, c, m, n, D, Pl, hcs, _, hl, hm, hmm, _, hi⟩
  · simp [Value.cells] at hcs
    obtain ⟨rfl, rfl, rfl⟩ := hcs
    exact ⟨_, _, _, fun _ => ⟨0, 0, 0, .slice none 0 0, []⟩, rfl, ⟨fun h => absurd h (by omega)⟩⟩
  · simp [Value.cells] at hcs
    obtain ⟨rfl, rfl, rfl⟩ := hcs
    have key : ∀ i, i < len → ∃ d : Dd, d.Ok w ∧ ∀ j u, d.cells[j]? = some u → w.cell? (a.add (i * 4 + j)) = some u := by
      intro i hil
      obtain ⟨cs', h1, h2⟩ := hi i (by rw [hmm]; split <;> omega)
      rw [hC] at h1
      obtain ⟨_, hlen, hat⟩ := World.cells?_some h1
      obtain ⟨d, hd, e⟩ := deed_cells he hone k0 k1 k2 k3 he3 hce h2 hlen
      refine ⟨d, hd, fun j u hu => ?_⟩
      have hj : j < 4 := by
        have := (List.getElem?_eq_some_iff.1 hu).1
        simpa [Dd.cells] using this
      have h3 := hat j hj
      rw [Go.Deep.add_add] at h3
      rw [h3, e]
      exact hu
    refine ⟨_, _, _, fun i => if h : i < len then Classical.choose (key i h) else ⟨0, 0, 0, .slice none 0 0, []⟩, rfl, ⟨fun h0 => ?_⟩⟩
    obtain ⟨d0, _, g0⟩ := key 0 h0
    have c0 := g0 0 _ rfl
    obtain ⟨b, off, s⟩ := a
    obtain rfl : s = none := by
      have := spot_none c0
      simpa [Addr.add] using this
    refine ⟨b, off, rfl, ?_, hl, by unfold maxLen at hm; omega, fun i h => ?_⟩
    · have := block_lt c0
      simpa [Addr.add] using this
    · simp only [dif_pos h]
      obtain ⟨hw, g⟩ := Classical.choose_spec (key i h)
      refine ⟨hw, fun j u hu => ?_⟩
      have g1 := g j u hu
      rw [show off + i * 4 + j = off + (i * 4 + j) by omega]
      rw [addr_add] at g1
      exact g1
end
end Go.Proofs.Ytkccnijnipkjnaa.Open
