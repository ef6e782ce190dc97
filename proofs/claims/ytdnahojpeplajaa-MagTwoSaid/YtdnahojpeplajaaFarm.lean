/- Many objects in memory, each with blocks that are its own: what turns one leaves the others. Nothing of the program. -/
import Derived.Test.YtdnahojpeplajaaMem
namespace Go.Proofs.Ytdnahojpeplajaa.Farm
open Go.RowKit Mem

/-- An object: the blocks that are its own, what it says. -/
abbrev Thg := List Nat × (World → Prop)
structure IsThg (x : Thg) (W : World) : Prop where
  now : x.2 W
  keep : ∀ V V', x.2 V → (∀ k ∈ x.1, V'.heap[k]? = V.heap[k]?) → x.2 V'
  lt : ∀ k ∈ x.1, k < W.heap.size
theorem IsThg.same {x : Thg} {W W' : World} (h : IsThg x W) (e : ∀ k ∈ x.1, W'.heap[k]? = W.heap[k]?) (hs : W.heap.size ≤ W'.heap.size) : IsThg x W' :=
  ⟨h.keep _ _ h.now e, h.keep, fun k hk => Nat.lt_of_lt_of_le (h.lt k hk) hs⟩

/-- Objects that were made since w, no two of them with a block in common. -/
structure Farm (w : World) (L : List Thg) (W : World) : Prop where
  all : ∀ (i : Nat) (x : Thg), L[i]? = some x → IsThg x W
  apart : ∀ (i j : Nat) (x y : Thg), i ≠ j → L[i]? = some x → L[j]? = some y → ∀ k ∈ x.1, k ∉ y.1
  fresh : ∀ (i : Nat) (x : Thg), L[i]? = some x → ∀ k ∈ x.1, w.heap.size ≤ k
  off : Off [] w W

section
variable {w W W' : World} {L : List Thg}
theorem Farm.start (w : World) : Farm w [] w := ⟨fun i x h => by simp at h, fun i j x y _ h => by simp at h, fun i x h => by simp at h, Off.refl _ _⟩
theorem Farm.off0 (h : Farm w L W) (o : Off [] W W') : Farm w L W' :=
  ⟨fun i x hx => (h.all i x hx).same (fun k hk => o.block k ((h.all i x hx).lt k hk) (by simp)) o.size, h.apart, h.fresh, h.off.trans o⟩
/-- What it says now. -/
theorem Farm.now (h : Farm w L W) {i : Nat} {x : Thg} (hx : L[i]? = some x) : x.2 W := (h.all i x hx).now
/-- A new one. -/
theorem Farm.add (h : Farm w L W) (o : Off [] W W') {x : Thg} (hx : IsThg x W') (hf : ∀ k ∈ x.1, W.heap.size ≤ k) : Farm w (L ++ [x]) W' := by
  have h' := h.off0 o
  have key : ∀ (i : Nat) (y : Thg), (L ++ [x])[i]? = some y → (L[i]? = some y ∧ i < L.length) ∨ (i = L.length ∧ y = x) := fun i y hy => by
    by_cases hi : i < L.length
    · rw [List.getElem?_append_left hi] at hy
      exact .inl ⟨hy, hi⟩
    · rw [List.getElem?_append_right (by omega)] at hy
      have hlt := (List.getElem?_eq_some_iff.1 hy).1
      simp at hlt
      have e : i = L.length := by omega
      subst e
      simp at hy
      exact .inr ⟨rfl, hy.symm⟩
  have hs := h.off.size
  refine ⟨fun i y hy => ?_, fun i j y z hij hy hz k hk hm => ?_, fun i y hy k hk => ?_, h'.off⟩
  · rcases key i y hy with ⟨h1, _⟩ | ⟨_, rfl⟩
    · exact h'.all i y h1
    · exact hx
  · rcases key i y hy with ⟨h1, _⟩ | ⟨hi, rfl⟩
    · rcases key j z hz with ⟨h2, _⟩ | ⟨_, rfl⟩
      · exact h.apart i j y z hij h1 h2 k hk hm
      · have := (h.all i y h1).lt k hk
        have := hf k hm
        omega
    · rcases key j z hz with ⟨h2, _⟩ | ⟨hj, _⟩
      · have := (h.all j z h2).lt k hm
        have := hf k hk
        omega
      · omega
  · rcases key i y hy with ⟨h1, _⟩ | ⟨_, rfl⟩
    · exact h.fresh i y h1 k hk
    · have := hf k hk
      omega
/-- Object i, j turn; they may take new blocks. -/
theorem Farm.turn2 (h : Farm w L W) {i j : Nat} {x y x' y' : Thg} (hij : i ≠ j) (hx : L[i]? = some x) (hy : L[j]? = some y) (o : Off (x.1 ++ y.1) W W') (hx' : IsThg x' W') (hy' : IsThg y' W')
    (sx : ∀ k ∈ x'.1, k ∈ x.1 ∨ W.heap.size ≤ k) (sy : ∀ k ∈ y'.1, k ∈ y.1) : Farm w ((L.set i x').set j y') W' := by
  have li := (List.getElem?_eq_some_iff.1 hx).1
  have lj := (List.getElem?_eq_some_iff.1 hy).1
  have hs := h.off.size
  have key : ∀ (a : Nat) (z : Thg), ((L.set i x').set j y')[a]? = some z → (a = j ∧ z = y') ∨ (a = i ∧ a ≠ j ∧ z = x') ∨ (a ≠ i ∧ a ≠ j ∧ L[a]? = some z) := fun a z hz => by
    rw [List.getElem?_set, List.getElem?_set] at hz
    by_cases e : j = a
    · rw [if_pos e] at hz
      subst e
      simp [lj] at hz
      exact .inl ⟨rfl, hz.symm⟩
    · rw [if_neg e] at hz
      by_cases e2 : i = a
      · rw [if_pos e2] at hz
        subst e2
        simp [li] at hz
        exact .inr (.inl ⟨rfl, fun h => e h.symm, hz.symm⟩)
      · rw [if_neg e2] at hz
        exact .inr (.inr ⟨fun h => e2 h.symm, fun h => e h.symm, hz⟩)
  have far : ∀ (a : Nat) (z : Thg), a ≠ i → a ≠ j → L[a]? = some z → ∀ k ∈ z.1, k ∉ x'.1 ∧ k ∉ y'.1 ∧ k ∉ x.1 ++ y.1 := fun a z h1 h2 hz k hk => by
    have hl := (h.all a z hz).lt k hk
    have n1 := h.apart a i z x h1 hz hx k hk
    have n2 := h.apart a j z y h2 hz hy k hk
    refine ⟨fun hm => ?_, fun hm => n2 (sy k hm), by simp [n1, n2]⟩
    rcases sx k hm with h3 | h3
    · exact n1 h3
    · omega
  have xy : ∀ k ∈ x'.1, k ∉ y'.1 := fun k hk hm => by
    rcases sx k hk with h3 | h3
    · exact h.apart i j x y hij hx hy k h3 (sy k hm)
    · have := (h.all j y hy).lt k (sy k hm)
      omega
  refine ⟨fun a z hz => ?_, fun a b z u hab hz hu k hk hm => ?_, fun a z hz k hk => ?_, h.off.trans' o (fun k hk => .inr ?_)⟩
  · rcases key a z hz with ⟨_, rfl⟩ | ⟨_, _, rfl⟩ | ⟨h1, h2, h3⟩
    · exact hy'
    · exact hx'
    · exact (h.all a z h3).same (fun k hk => o.block k ((h.all a z h3).lt k hk) (far a z h1 h2 h3 k hk).2.2) o.size
  · rcases key a z hz with ⟨ha, rfl⟩ | ⟨ha, _, rfl⟩ | ⟨h1, h2, h3⟩
    · rcases key b u hu with ⟨hb, _⟩ | ⟨_, _, rfl⟩ | ⟨h4, h5, h6⟩
      · omega
      · exact xy k hm hk
      · exact (far b u h4 h5 h6 k hm).2.1 hk
    · rcases key b u hu with ⟨_, rfl⟩ | ⟨hb, _, _⟩ | ⟨h4, h5, h6⟩
      · exact xy k hk hm
      · omega
      · exact (far b u h4 h5 h6 k hm).1 hk
    · rcases key b u hu with ⟨_, rfl⟩ | ⟨_, _, rfl⟩ | ⟨h4, h5, h6⟩
      · exact (far a z h1 h2 h3 k hk).2.1 hm
      · exact (far a z h1 h2 h3 k hk).1 hm
      · exact h.apart a b z u hab h3 h6 k hk hm
  · rcases key a z hz with ⟨_, rfl⟩ | ⟨_, _, rfl⟩ | ⟨h1, h2, h3⟩
    · exact h.fresh j y hy k (sy k hk)
    · rcases sx k hk with h3 | h3
      · exact h.fresh i x hx k h3
      · omega
    · exact h.fresh a z h3 k hk
  · rcases List.mem_append.1 hk with h1 | h1
    · exact h.fresh i x hx k h1
    · exact h.fresh j y hy k h1
end

end Go.Proofs.Ytdnahojpeplajaa.Farm
