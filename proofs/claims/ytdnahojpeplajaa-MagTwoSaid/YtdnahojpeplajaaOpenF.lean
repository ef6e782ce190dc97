/- Slices of bytes and of truths, an array of two integers, that came in: their cells. Nothing of the program. -/
import Derived.Test.YtdnahojpeplajaaOpenS
namespace Go.Proofs.Ytdnahojpeplajaa.Open
open Go.ChangeShapes Go.WideShapes Go.ChangeAt Go.RowKit Mem Go.Deep
section
variable {H : Type} {enc : TypeId × Value → H} {P : Program} {w : World} {base : Nat} {spare : Nat → Bool} {held : Bool}

structure IsRow8 (w : World) (a : Option Addr) (len cap : Nat) (z : Nat → Int) : Prop where
  nums : ∀ i, 0 ≤ z i ∧ z i < 256
  some_ : 0 < len → ∃ b off, a = some ⟨b, off, none⟩ ∧ b < w.heap.size ∧ len ≤ cap ∧ cap ≤ 9223372036854775807 ∧ ∀ i, i < len → w.cell? ⟨b, off + i, none⟩ = some (.int .u8 (z i))
structure IsRowB (w : World) (a : Option Addr) (len cap : Nat) (z : Nat → Bool) : Prop where
  some_ : 0 < len → ∃ b off, a = some ⟨b, off, none⟩ ∧ b < w.heap.size ∧ len ≤ cap ∧ cap ≤ 9223372036854775807 ∧ ∀ i, i < len → w.cell? ⟨b, off + i, none⟩ = some (.bool (z i))
theorem IsRow8.off {w w' : World} {a : Option Addr} {len cap : Nat} {z : Nat → Int} (h : IsRow8 w a len cap z) (o : Off [] w w') : IsRow8 w' a len cap z := by
  refine ⟨h.nums, fun h0 => ?_⟩
  obtain ⟨b, off, e, hb, h1, h2, hc⟩ := h.some_ h0
  exact ⟨b, off, e, Nat.lt_of_lt_of_le hb o.size, h1, h2, fun i hi => (o.cell (p := ⟨b, off + i, none⟩) hb (by simp)).trans (hc i hi)⟩
theorem IsRowB.off {w w' : World} {a : Option Addr} {len cap : Nat} {z : Nat → Bool} (h : IsRowB w a len cap z) (o : Off [] w w') : IsRowB w' a len cap z := by
  refine ⟨fun h0 => ?_⟩
  obtain ⟨b, off, e, hb, h1, h2, hc⟩ := h.some_ h0
  exact ⟨b, off, e, Nat.lt_of_lt_of_le hb o.size, h1, h2, fun i hi => (o.cell (p := ⟨b, off + i, none⟩) hb (by simp)).trans (hc i hi)⟩
theorem u8_of_wf {n : Int} (h : (Lit.int .u8 n).wf = true) : 0 ≤ n ∧ n < 256 := by
  have hmin : IntKind.u8.min = 0 := rfl
  have hmax : IntKind.u8.max = 255 := rfl
  simp only [Lit.wf, Bool.and_eq_true, decide_eq_true_eq] at h
  omega

theorem open_slice8 {r : Reach} {b0 : Nat} {t e : TypeId} {v : Value} {d : DataW H} {ps : List MemPlace} (ht : P.underlying t = some (.slice e)) (he : P.underlying e = some (.int .u8)) (hce : P.cellsOf e = 1)
    (hval : Value.okWide P w r b0 t v) (h : DataW.Trod enc P w base spare held t v d ps) :
    ∃ a len cap z, v = .slice a len cap ∧ IsRow8 w a len cap z := by
  obtain ⟨a0, len, cap, rfl⟩ := okWide_slice ht hval
  obtain ⟨fuel, hf⟩ := h
  rcases open_ints ht he hce hf with ⟨hcs, _⟩ | ⟨a, l, c, zs, hcs, _, hl, hm, hlen, _, hi, hwf⟩
  · simp [Value.cells] at hcs
    obtain ⟨rfl, rfl, rfl⟩ := hcs
    exact ⟨_, _, _, fun _ => 0, rfl, ⟨fun _ => by omega, fun h => absurd h (by omega)⟩⟩
  · simp [Value.cells] at hcs
    obtain ⟨rfl, rfl, rfl⟩ := hcs
    have hz : len ≤ zs.length := by rw [hlen]; split <;> omega
    refine ⟨_, _, _, fun i => zs.getD i 0, rfl, ⟨fun i => ?_, fun h0 => ?_⟩⟩
    · rcases Nat.lt_or_ge i zs.length with c | c
      · have : zs.getD i 0 = zs[i] := by simp [c]
        show 0 ≤ zs.getD i 0 ∧ zs.getD i 0 < 256
        rw [this]
        exact u8_of_wf (hwf _ (List.getElem_mem c))
      · have : zs.getD i 0 = 0 := by simp [c]
        show 0 ≤ zs.getD i 0 ∧ zs.getD i 0 < 256
        rw [this]
        omega
    · obtain ⟨b, off, s⟩ := a
      have c0 := hi 0 (by omega)
      obtain rfl : s = none := by
        have := spot_none c0
        simpa [Addr.add] using this
      refine ⟨b, off, rfl, ?_, hl, by unfold maxLen at hm; omega, fun i h => ?_⟩
      · have := block_lt c0
        simpa [Addr.add] using this
      · have g := hi i (by omega)
        by_cases e : i = 0
        · subst e; simpa [Addr.add] using g
        · simpa [Addr.add, e] using g

theorem open_sliceb {r : Reach} {b0 : Nat} {t e : TypeId} {v : Value} {d : DataW H} {ps : List MemPlace} (ht : P.underlying t = some (.slice e)) (he : P.underlying e = some .bool) (hC : P.cellsOf e = 1)
    (hval : Value.okWide P w r b0 t v) (h : DataW.Trod enc P w base spare held t v d ps) :
    ∃ a len cap z, v = .slice a len cap ∧ IsRowB w a len cap z := by
  obtain ⟨a0, len, cap, rfl⟩ := okWide_slice ht hval
  obtain ⟨fuel, hf⟩ := h
  rcases Go.Deep.open_slice ht hf with ⟨hcs, _⟩ | ⟨a, l, c, m, n, D, Pl, hcs, _, hl, hm, hmm, _, hi⟩
  · simp [Value.cells] at hcs
    obtain ⟨rfl, rfl, rfl⟩ := hcs
    exact ⟨_, _, _, fun _ => false, rfl, ⟨fun h => absurd h (by omega)⟩⟩
  · simp [Value.cells] at hcs
    obtain ⟨rfl, rfl, rfl⟩ := hcs
    have key : ∀ i, i < len → ∃ x, w.cell? (a.add i) = some (.bool x) := by
      intro i hil
      obtain ⟨cs', h1, h2⟩ := hi i (by rw [hmm]; split <;> omega)
      rw [hC, Nat.mul_one] at h1
      obtain ⟨_, hlen, hat⟩ := World.cells?_some h1
      obtain ⟨x, rfl, _⟩ := DataW.trod_bool he h2
      have h3 := hat 0 (by decide)
      rw [Go.Deep.add_add, Nat.add_zero] at h3
      exact ⟨x, h3⟩
    refine ⟨_, _, _, fun i => if h : i < len then Classical.choose (key i h) else false, rfl, ⟨fun h0 => ?_⟩⟩
    obtain ⟨x0, c0⟩ := key 0 h0
    obtain ⟨b, off, s⟩ := a
    obtain rfl : s = none := by
      have := spot_none c0
      simpa [Addr.add] using this
    refine ⟨b, off, rfl, ?_, hl, by unfold maxLen at hm; omega, fun i h => ?_⟩
    · have := block_lt c0
      simpa [Addr.add] using this
    · simp only [dif_pos h]
      have g := Classical.choose_spec (key i h)
      exact (congrArg w.cell? (addr_add b off i).symm).trans g

theorem pair_ints {t e : TypeId} {k : IntKind} {fuel : Nat} {cs : List Value} {x : DataW H × List MemPlace} (ht : P.underlying t = some (.array 2 e)) (he : P.underlying e = some (.int k)) (hce : P.cellsOf e = 1)
    (h : DataW.trod enc P w base spare held fuel t cs = some x) (hl : cs.length = 2) : ∃ n0 n1, cs = [.int k n0, .int k n1] ∧ (Lit.int k n0).wf = true ∧ (Lit.int k n1).wf = true := by
  obtain ⟨xs, m, _, _, _, hxl, hat⟩ := DataW.trod_array ht h
  match cs, hl with
  | [c0, c1], _ =>
    have h0 := hat 0 (by decide)
    have h1 := hat 1 (by decide)
    rw [hce, List.getElem?_eq_getElem (by omega)] at h0 h1
    simp only [Nat.zero_mul, List.drop_zero, List.take_succ_cons, List.take_zero, Nat.one_mul, List.drop_succ_cons] at h0 h1
    obtain ⟨n0, e0, _, w0⟩ := DataW.trod_int he h0
    obtain ⟨n1, e1, _, w1⟩ := DataW.trod_int he h1
    injection e0 with e0
    injection e1 with e1
    exact ⟨n0, n1, by rw [e0, e1], w0, w1⟩
/-- An array of two integers. -/
theorem open_two {r : Reach} {b0 : Nat} {t e : TypeId} {k : IntKind} {v : Value} {d : DataW H} {ps : List MemPlace} (ht : P.underlying t = some (.array 2 e)) (he : P.underlying e = some (.int k)) (hce : P.cellsOf e = 1) (hct : P.cellsOf t = 2)
    (hval : Value.okWide P w r b0 t v) (h : DataW.Trod enc P w base spare held t v d ps) :
    ∃ x y, v = .agg #[.int k x, .int k y] ∧ (Lit.int k x).wf = true ∧ (Lit.int k y).wf = true := by
  simp only [Value.okWide, ht] at hval
  obtain ⟨cs, rfl, hsz, _⟩ := hval
  obtain ⟨fuel, hf⟩ := h
  rw [hct] at hsz
  obtain ⟨l⟩ := cs
  obtain ⟨n0, n1, rfl, w0, w1⟩ := pair_ints ht he hce (cs := l) (by simpa [Value.cells] using hf) hsz
  exact ⟨n0, n1, rfl, w0, w1⟩
end
end Go.Proofs.Ytdnahojpeplajaa.Open
