/- A slice of words that came in: its cells. Nothing of the program. -/
import Derived.Test.YtdnahojpeplajaaOpen
import Derived.Test.YtdnahojpeplajaaMem
namespace Go.Proofs.Ytdnahojpeplajaa.Open
open Go.ChangeShapes Go.WideShapes Go.ChangeAt Go.RowKit Mem
section
variable {H : Type} {enc : TypeId × Value → H} {P : Program} {w : World} {base : Nat} {spare : Nat → Bool} {held : Bool}

/-- What a walk is told of a slice of words that came in. -/
structure IsRowU (w : World) (a : Option Addr) (len cap : Nat) (z : Nat → Int) : Prop where
  nums : ∀ i, 0 ≤ z i ∧ z i < 18446744073709551616
  some_ : 0 < len → ∃ b off, a = some ⟨b, off, none⟩ ∧ b < w.heap.size ∧ len ≤ cap ∧ cap ≤ 9223372036854775807 ∧ ∀ i, i < len → w.cell? ⟨b, off + i, none⟩ = some (.int .u64 (z i))

theorem u64_of_wf {n : Int} (h : (Lit.int .u64 n).wf = true) : 0 ≤ n ∧ n < 18446744073709551616 := by
  have hmin : IntKind.u64.min = 0 := rfl
  have hmax : IntKind.u64.max = 18446744073709551615 := rfl
  simp only [Lit.wf, Bool.and_eq_true, decide_eq_true_eq] at h
  omega

theorem open_sliceu {r : Reach} {b0 : Nat} {t e : TypeId} {v : Value} {d : DataW H} {ps : List MemPlace} (ht : P.underlying t = some (.slice e)) (he : P.underlying e = some (.int .u64)) (hce : P.cellsOf e = 1)
    (hval : Value.okWide P w r b0 t v) (h : DataW.Trod enc P w base spare held t v d ps) :
    ∃ a len cap z, v = .slice a len cap ∧ IsRowU w a len cap z := by
  obtain ⟨a0, len, cap, rfl⟩ := okWide_slice ht hval
  obtain ⟨fuel, hf⟩ := h
  rcases open_ints ht he hce hf with ⟨hcs, _⟩ | ⟨a, l, c, zs, hcs, _, hl, hm, hlen, _, hi, hwf⟩
  · simp [Value.cells] at hcs
    obtain ⟨rfl, rfl, rfl⟩ := hcs
    exact ⟨_, _, _, fun _ => 0, rfl, ⟨fun _ => by omega, fun h => absurd h (by omega)⟩⟩
  · simp [Value.cells] at hcs
    obtain ⟨rfl, rfl, rfl⟩ := hcs
    have hz : len ≤ zs.length := by rw [hlen]; split <;> omega
    refine ⟨_, _, _, fun i => zs.getD i 0, rfl, ⟨fun i => ?_, fun h0 => ?_⟩⟩
    · rcases Nat.lt_or_ge i zs.length with c | c
      · have : zs.getD i 0 = zs[i] := by simp [c]
        show 0 ≤ zs.getD i 0 ∧ zs.getD i 0 < 18446744073709551616
        rw [this]
        exact u64_of_wf (hwf _ (List.getElem_mem c))
      · have : zs.getD i 0 = 0 := by simp [c]
        show 0 ≤ zs.getD i 0 ∧ zs.getD i 0 < 18446744073709551616
        rw [this]
        omega
    · obtain ⟨b, off, s⟩ := a
      have c0 := hi 0 (by omega)
      obtain rfl : s = none := by
        have := spot_none c0
        simpa [Addr.add] using this
      refine ⟨b, off, rfl, ?_, hl, by unfold maxLen at hm; omega, fun i h => ?_⟩
      · have := block_lt c0
        simpa [Addr.add] using this
      · have g := hi i (by omega)
        by_cases e : i = 0
        · subst e; simpa [Addr.add] using g
        · simpa [Addr.add, e] using g

end
end Go.Proofs.Ytdnahojpeplajaa.Open
