/- PlanApart: which places have been counted; the law's count; makes. -/
import Derived.Test.YtdnahojpeplajaaPlanE
import Derived.Laws.AppendOwn
import Derived.OwnWalk
namespace Go.Proofs.Ytdnahojpeplajaa.Plan
open Go.RowKit Mem

/-- A row of integers, by a function. -/
def rowOf (n : Nat) (f : Nat → Int) : Array Value := ((List.range n).map fun k => Value.int .i64 (f k)).toArray
theorem rowOf_size (n : Nat) (f : Nat → Int) : (rowOf n f).size = n := by simp [rowOf]
theorem rowOf_get {n : Nat} {f : Nat → Int} {k : Nat} (h : k < n) : (rowOf n f)[k]? = some (.int .i64 (f k)) := by simp [rowOf, h]
theorem rowOf_set {n : Nat} {f f' : Nat → Int} {k : Nat} {x : Int} (h1 : f' k = x) (h2 : ∀ j, j ≠ k → f' j = f j) : (rowOf n f).setIfInBounds k (.int .i64 x) = rowOf n f' := by
  apply Array.ext
  · simp [rowOf]
  · intro i g1 g2
    by_cases e : i = k
    · subst e; simp [rowOf, h1]
    · rw [Array.getElem_setIfInBounds_ne _ (fun h => e h.symm)]
      · simp [rowOf, h2 i e]
      · simpa [rowOf] using g2
theorem rowOf_congr {n : Nat} {f f' : Nat → Int} (h : ∀ j, f j = f' j) : rowOf n f = rowOf n f' := by rw [show f = f' from funext h]

theorem int_info : (Try.prog.info? 3).map (fun i => (i.zero, i.size, i.bytes)) = some (some (.int .i64 0), 1, 8) := by kernel_rfl
theorem made_ints (n : Nat) : madeCells (Value.cells (.int .i64 0)) (n * 1) = rowOf n (fun _ => 0) := by
  apply Array.ext
  · simp [madeCells, rowOf]
  · intro i h1 h2
    simp [madeCells, rowOf, Value.cells, Nat.mod_one]
theorem make_ints (n : Nat) (hn : n ≤ 2000) (w : World) :
    (Instr.makeSlice 94 (.int .i64 (n : Int)) (.int .i64 (n : Int))).run Try.prog w = .ok (.slice (some ⟨w.heap.size, 0, none⟩) n n) (w.alloc (.cells (rowOf n fun _ => 0) 3)) := by
  obtain ⟨i, hi, hz0, hz1, hz2⟩ := info_parts int_info
  have hr := run_make (P := Try.prog) w 94 3 i _ Try.underlying94 hi hz0 .i64 .i64 n n (by omega) (by omega) (by rw [hz2]; omega) (by omega)
  simp only [Int.toNat_natCast] at hr
  rw [hr, hz1, made_ints]

/-- Places of a shape, as they lie. -/
def seenAt (A B a b d k : Nat) : Int := if k < a ∨ (A ≤ k ∧ k < b) ∨ (B ≤ k ∧ k < d) then 1 else 0
def magN (p c m k i : Nat) : Nat := c + p + 16 * p + m * k + i
def slotN (p c k i : Nat) : Nat := c + p + 16 * k + i
def allN (p c m : Nat) : Nat := c + p + 16 * p + m * c

/-- What has been counted: those below a, those from A to below b, those from B to below d; t in all. -/
structure Counted (w : World) (g q p c m a b d t : Nat) (wr : World) : Prop where
  seen : Blk wr g 3 (rowOf (allN p c m) (seenAt (c + p) (c + p + 16 * p) a b d))
  box : Blk wr q 24 #[.int .i64 (p : Int), .int .i64 (c : Int), .int .i64 (m : Int)]
  off : Off [] w wr
  made : w.heap.size ≤ g
  sum : t + (c + p) + (c + p + 16 * p) = a + b + d
  ha : a ≤ c + p
  hb : c + p ≤ b
  hb' : b ≤ c + p + 16 * p
  hd : c + p + 16 * p ≤ d
  hd' : d ≤ allN p c m
  few : allN p c m ≤ 2000

section
variable {w wr : World} {g q p c m a b d t : Nat}
theorem Counted.off0 {w' : World} (h : Counted w g q p c m a b d t wr) (ho : Off [] wr w') : Counted w g q p c m a b d t w' :=
  ⟨ho.blk h.seen (by simp), ho.blk h.box (by simp), h.off.trans ho, h.made, h.sum, h.ha, h.hb, h.hb', h.hd, h.hd', h.few⟩
theorem Counted.cells (h : Counted w g q p c m a b d t wr) : wr.cell? ⟨q, 0, none⟩ = some (.int .i64 (p : Int)) ∧ wr.cell? ⟨q, 1, none⟩ = some (.int .i64 (c : Int)) ∧ wr.cell? ⟨q, 2, none⟩ = some (.int .i64 (m : Int)) := shp_cells h.box
theorem Counted.t_le (h : Counted w g q p c m a b d t wr) : t ≤ 2000 := by
  have h1 := h.sum
  have h2 := h.ha
  have h3 := h.hb'
  have h4 := h.hd'
  have h5 := h.few
  omega
theorem Counted.lay (h : Counted w g q p c m a b d t wr) (k a' b' d' : Nat) (hs : t + 1 + (c + p) + (c + p + 16 * p) = a' + b' + d') (ha : a' ≤ c + p) (hb : c + p ≤ b') (hb' : b' ≤ c + p + 16 * p) (hd : c + p + 16 * p ≤ d') (hd' : d' ≤ allN p c m)
    (e1 : seenAt (c + p) (c + p + 16 * p) a' b' d' k = 1) (e2 : ∀ j, j ≠ k → seenAt (c + p) (c + p + 16 * p) a' b' d' j = seenAt (c + p) (c + p + 16 * p) a b d j) :
    Counted w g q p c m a' b' d' (t + 1) (wr.setCell ⟨g, k, none⟩ (.int .i64 1)) :=
  ⟨(h.seen.set k _).to (rowOf_set e1 e2), h.box.far (fun e => by
      have hx := h.seen.ne (e ▸ h.box) (by decide)
      exact hx rfl) _ _, h.off.set (.inr h.made) _, h.made, hs, ha, hb, hb', hd, hd', h.few⟩

theorem seenAt_if {A B a b d k : Nat} {P : Prop} [Decidable P] (h : (k < a ∨ (A ≤ k ∧ k < b) ∨ (B ≤ k ∧ k < d)) ↔ P) : seenAt A B a b d k = if P then 1 else 0 := by
  unfold seenAt
  by_cases hp : P
  · rw [if_pos (h.2 hp), if_pos hp]
  · rw [if_neg (fun x => hp (h.1 x)), if_neg hp]

/-- All are there. -/
theorem Counted.all (h : Counted w g q p c m (c + p) (c + p + 16 * p) (allN p c m) t wr) : t = allN p c m ∧ ∀ i, i < allN p c m → wr.cell? ⟨g, i, none⟩ = some (.int .i64 1) := by
  refine ⟨by have := h.sum; omega, fun i hi => ?_⟩
  rw [h.seen.cell, rowOf_get hi, seenAt, if_pos]
  by_cases h1 : i < c + p
  · exact .inl h1
  · by_cases h2 : i < c + p + 16 * p
    · exact .inr (.inl ⟨by omega, h2⟩)
    · exact .inr (.inr ⟨by omega, hi⟩)
end

/- Places that there are, as they lie. -/
section
variable {p c m : Nat}
theorem page_in (hf : Fit p c m) (k : Nat) (hk : k < p) (w : World) :
    Calls Try.prog 67 #[.agg #[.int .i64 (p : Int), .int .i64 (c : Int), .int .i64 (m : Int)], .int .i64 (k : Int)] w fun e w' => e = .returned (.int .i64 ((slotN 0 c 0 k : Nat) : Int)) ∧ Off [] w w' := by
  have h := page_any p c m k w
  rwa [show pageI p c m k = ((slotN 0 c 0 k : Nat) : Int) from by unfold pageI slotN; rw [if_pos ⟨mayB_t hf, by omega, by omega⟩]; omega] at h
theorem mag_in (hf : Fit p c m) (k i : Nat) (hk : k < c) (hi : i < m) (w : World) :
    Calls Try.prog 61 #[.agg #[.int .i64 (p : Int), .int .i64 (c : Int), .int .i64 (m : Int)], .int .i64 (k : Int), .int .i64 (i : Int)] w fun e w' => e = .returned (.int .i64 ((magN p c m k i : Nat) : Int)) ∧ Off [] w w' := by
  have h := mag_any p c m k i w
  rwa [show magI p c m k i = ((magN p c m k i : Nat) : Int) from by unfold magI magN; rw [if_pos ⟨mayB_t hf, ⟨by omega, by omega⟩, by omega, by omega⟩]; simp] at h
theorem all_bd (hf : Fit p c m) : 1 ≤ allN p c m ∧ allN p c m ≤ 2000 := by
  have h1 := hf.p2
  have h2 := hf.c1
  have h3 := hf.c2
  have h4 := hf.m2
  have h5 : m * c ≤ 8 * 12 := Nat.mul_le_mul (by omega) (by omega)
  unfold allN
  omega
theorem magN_next (k : Nat) : magN p c m k m = magN p c m (k + 1) 0 := by unfold magN; rw [Nat.mul_add]; omega
theorem magN_last : magN p c m c 0 = allN p c m := rfl
theorem magN_lt {k i : Nat} (hk : k < c) (hi : i < m) : magN p c m k i < allN p c m := by
  have : m * k + m ≤ m * c := by rw [← Nat.mul_succ]; exact Nat.mul_le_mul_left _ hk
  unfold magN allN; omega
end

end Go.Proofs.Ytdnahojpeplajaa.Plan
