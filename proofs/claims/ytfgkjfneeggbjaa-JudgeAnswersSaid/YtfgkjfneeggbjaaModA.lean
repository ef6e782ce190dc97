/- Rows of blocks in memory; the document's own model (allotmentref1.Model): what is asked of it: a contract each. -/
import Derived.Test.YtfgkjfneeggbjaaChecked
import Derived.Test.YtfgkjfneeggbjaaMem
import Derived.Test.YtfgkjfneeggbjaaModN
import Derived.WalkLawsBesides
import Derived.WalkSpells
import Derived.Deep.RegionHeld3
import Derived.BigQuiet
import Derived.RegionTactic
import Derived.ChangeAlike
import Derived.Deep.DeepCutAuto
import Derived.Laws.AppendOwn
import Derived.OwnWalk
import Derived.IntWalk
namespace Go.Proofs.Ytfgkjfneeggbjaa.Mod
open Go.RowKit Mem

/-- A block's two cells. -/
abbrev bkL (b : Bk) : List Value := [.int .i64 b.p, .int .i64 b.n]

/-- A slice that reads as these blocks; nil reads as none. -/
def Rd (w : World) (v : Value) (l : List Bk) : Prop :=
  (v = .slice none 0 0 ∧ l = []) ∨ ∃ g o c, v = .slice (some ⟨g, o, none⟩) l.length c ∧ ∀ i b, l[i]? = some b → w.cell? ⟨g, o + i * 2, none⟩ = some (.int .i64 b.p) ∧ w.cell? ⟨g, o + i * 2 + 1, none⟩ = some (.int .i64 b.n)
theorem Rd.len {w : World} {v : Value} {l : List Bk} (h : Rd w v l) : ∃ a c, v = .slice a l.length c := by
  rcases h with ⟨rfl, rfl⟩ | ⟨g, o, c, rfl, _⟩
  · exact ⟨none, 0, rfl⟩
  · exact ⟨_, c, rfl⟩
theorem Rd.off {w w' : World} {v : Value} {l : List Bk} {S : List Nat} (h : Rd w v l) (ho : Off S w w') (hs : ∀ k, k ∈ S → w.heap.size ≤ k) : Rd w' v l := by
  rcases h with h | ⟨g, o, c, hv, hc⟩
  · exact .inl h
  · refine .inr ⟨g, o, c, hv, fun i b hb => ?_⟩
    obtain ⟨e1, e2⟩ := hc i b hb
    have hl1 := World.block_lt_of_cell? w _ e1
    have hn : g ∉ S := fun m => by have := hs _ m; simp at hl1; omega
    rw [ho.cell (p := ⟨g, o + i * 2, none⟩) hl1 hn, ho.cell (p := ⟨g, o + i * 2 + 1, none⟩) hl1 hn]
    exact ⟨e1, e2⟩
/-- The block at a place. -/
theorem Rd.at {w : World} {v : Value} {l : List Bk} (h : Rd w v l) (j : Nat) (hj : j < l.length) :
    ∃ g o c, v = .slice (some ⟨g, o, none⟩) l.length c ∧ w.cell? ⟨g, o + j * 2, none⟩ = some (.int .i64 l[j].p) ∧ w.cell? ⟨g, o + j * 2 + 1, none⟩ = some (.int .i64 l[j].n) := by
  rcases h with ⟨_, rfl⟩ | ⟨g, o, c, hv, hc⟩
  · exact absurd hj (Nat.not_lt_zero _)
  · obtain ⟨e1, e2⟩ := hc j _ (List.getElem?_eq_getElem hj)
    exact ⟨g, o, c, hv, e1, e2⟩

theorem flat2_len (l : List Bk) : (l.flatMap bkL).length = l.length * 2 := by
  induction l with
  | nil => rfl
  | cons a l ih => rw [List.flatMap_cons, List.length_append, ih, List.length_cons]; simp; omega
theorem flat2_get (l : List Bk) (i : Nat) (b : Bk) (hb : l[i]? = some b) : (l.flatMap bkL)[i * 2]? = some (.int .i64 b.p) ∧ (l.flatMap bkL)[i * 2 + 1]? = some (.int .i64 b.n) := by
  induction l generalizing i with
  | nil => simp at hb
  | cons a l ih =>
    rw [List.flatMap_cons]
    cases i with
    | zero =>
      simp at hb
      subst hb
      exact ⟨rfl, rfl⟩
    | succ i =>
      have := ih i (by simpa using hb)
      rw [show (i + 1) * 2 = i * 2 + 2 from by omega, show i * 2 + 2 + 1 = (i * 2 + 1) + 2 from by omega]
      exact this
/-- A row of the call's own reads as its blocks. -/
theorem rd_own {w : World} {base : Nat} {t : TypeId} {v : Value} {l : List Bk} (h : w.ownsRow base t 2 v l.length (l.flatMap bkL)) : Rd w v l := by
  rcases h.2 with ⟨hv, h0⟩ | ⟨g, cap, cur, hv, _, hc, _, _, _, htake⟩
  · exact .inl ⟨hv, List.eq_nil_of_length_eq_zero h0⟩
  · refine .inr ⟨g, 0, cap, hv, fun i b hb => ?_⟩
    have hi := (List.getElem?_eq_some_iff.1 hb).1
    have hcl := h.cells (g := g) (by rw [hv]; rfl)
    obtain ⟨e1, e2⟩ := flat2_get l i b hb
    have c1 := hcl _ _ e1
    have c2 := hcl _ _ e2
    rw [addr_add] at c1 c2
    exact ⟨c1, c2⟩

theorem own_keep {w w' : World} {base : Nat} {e : TypeId} {size : Nat} {v : Value} {n : Nat} {xs : List Value} (h : w.ownsRow base e size v n xs)
    (hk : ∀ g cur, w.heap[g]? = some (.cells cur e (0, 0)) → v.ownBlock = some g → w'.heap[g]? = w.heap[g]?) : w'.ownsRow base e size v n xs := by
  refine ⟨h.1, ?_⟩
  rcases h.2 with h2 | ⟨g, cap, cur, hv, hb, hh, r⟩
  · exact .inl h2
  · exact .inr ⟨g, cap, cur, hv, hb, (hk g cur hh (by rw [hv]; rfl)).trans hh, r⟩

section
variable {w w' : World} {base b : Nat} {W : Int} {l : List Bk}
/-- A row is not longer than there are words. -/
theorem ok_len {W : Int} : ∀ {l : List Bk} (e : Int), Ok W l → (∀ b ∈ l, e ≤ b.p) → e ≤ W → (l.length : Int) ≤ W - e
  | [], e, _, _, he => by simp; omega
  | b :: l, e, h, hb, _ => by
    have h1 := ok_len (b.p + b.n) h.tail h.lt h.head.2.2
    have h2 := hb b List.mem_cons_self
    have h3 := h.head
    rw [List.length_cons]
    omega
end
theorem used_take {W : Int} {l : List Bk} (h : Ok W l) (j : Nat) : 0 ≤ used (l.take j) ∧ used (l.take j) ≤ used l := by
  induction l generalizing j with
  | nil => simp [used]
  | cons b l ih =>
    have hu := used_nonneg h.tail
    have hb := h.head
    cases j with
    | zero => simp only [List.take_zero, used]; omega
    | succ j =>
      have := ih h.tail j
      simp only [List.take_succ_cons, used]
      omega
theorem used_snoc (l : List Bk) (b : Bk) : used (l ++ [b]) = used l + b.n := by
  induction l with
  | nil => simp [used]
  | cons a l ih => simp only [List.cons_append, used, ih]; omega

def RoomRel (w : World) (W n : Int) (l : List Bk) (R : Bool) (en i : Value) (wr : World) : Prop :=
  Off [] w wr ∧ ∃ j : Nat, i = .int .i64 j ∧ ∃ e : Int, en = .int .i64 e ∧ ((j ≤ l.length ∧ 0 ≤ e ∧ e ≤ W ∧ (decide (1 ≤ n) && roomAux W n e (l.drop j)) = R) ∨ (j = l.length + 1 ∧ R = false))

/-- What is answered of a block that is there, or of none. -/
def fp (o : Option Bk) : Int := (o.map Bk.p).getD 0
def fn (o : Option Bk) : Int := (o.map Bk.n).getD 0
theorem two_cells {w : World} {b : Nat} {t : TypeId} {x y : Value} (h : Blk w b t #[x, y]) : (∀ i, w.frozen? ⟨b, i, none⟩ = false) ∧ w.cell? ⟨b, 0, none⟩ = some x ∧ w.cell? ⟨b, 1, none⟩ = some y := ⟨h.free, h.cell 0, h.cell 1⟩
theorem two_set {w : World} {b : Nat} {t : TypeId} {x y : Value} (h : Blk w b t #[x, y]) (x' y' : Value) : Blk ((w.setCell ⟨b, 0, none⟩ x').setCell ⟨b, 1, none⟩ y') b t #[x', y'] := ((h.set 0 x').set 1 y').to (by simp)

end Go.Proofs.Ytfgkjfneeggbjaa.Mod
