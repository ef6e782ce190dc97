/- Package pack: words read: a contract each. -/
import Derived.Test.YtdnahojpeplajaaPackD
import Derived.RegionTactic
import Derived.ChangeAlike
import Derived.Deep.DeepCutAuto
namespace Go.Proofs.Ytdnahojpeplajaa.Pack
open Go.RowKit Mem Plan

/-- What is read of a page's word, of an entry's. -/
def readPageB (P C M at_ x : Int) : Bool := inB x && (isPageB (kindI x) (aI x) (bI x) (cI x) && standB P C M at_ (kindI x) (aI x) (bI x))
def readEntryB (P C M x : Int) : Bool := inB x && (isEntryB (kindI x) (aI x) (bI x) (cI x) && (hasPageB P C M (aI x) && decide (bI x < slotsI (cI x))))
def pageV (P C M at_ x : Int) : Value := if readPageB P C M at_ x = true then .agg #[.int .i64 (kindI x), .int .i64 (aI x), .int .i64 (bI x)] else .agg #[.int .i64 0, .int .i64 0, .int .i64 0]
def entryV (P C M x : Int) : Value := if readEntryB P C M x = true then .agg #[.int .i64 (aI x), .int .i64 (bI x), .int .i64 (cI x)] else .agg #[.int .i64 0, .int .i64 0, .int .i64 0]
def readSlotB (x : Int) : Bool := inB x && isSlotB (kindI x) (aI x) (bI x) (cI x)
def slotV (x : Int) : Value := if readSlotB x = true then .agg #[.int .i64 (kindI x), .int .i64 (aI x)] else .agg #[.int .i64 0, .int .i64 0]

/-- Two that were made behind what was: they, and what was. -/
theorem made_two {W w : World} (h : Off [] W w) (t t' : TypeId) (cs cs' : Array Value) : Blk ((w.alloc (.cells cs t)).alloc (.cells cs' t')) (w.heap.size + 1) t' cs' ∧ Blk ((w.alloc (.cells cs t)).alloc (.cells cs' t')) w.heap.size t cs ∧ Off [] W ((w.alloc (.cells cs t)).alloc (.cells cs' t')) := by
  obtain ⟨a, b, c⟩ := box_two w t t' cs cs'
  exact ⟨a, b, h.trans c⟩
theorem shp_free {w : World} {g : Nat} {t : TypeId} {cs : Array Value} (h : Blk w g t cs) :
    w.frozen? ⟨g, 0, none⟩ = false ∧ w.frozen? ⟨g, 1, none⟩ = false ∧ w.frozen? ⟨g, 2, none⟩ = false := ⟨h.free 0, h.free 1, h.free 2⟩
/-- A row of three written over. -/
theorem over3 {W w : World} {g : Nat} {t : TypeId} {a b c : Value} (h : Blk w g t #[a, b, c]) (ho : Off [] W w) (hg : W.heap.size ≤ g) (x y z : Value) :
    let w' := ((w.setCell ⟨g, 0, none⟩ x).setCell ⟨g, 1, none⟩ y).setCell ⟨g, 2, none⟩ z
    (w'.cell? ⟨g, 0, none⟩ = some x ∧ w'.cell? ⟨g, 1, none⟩ = some y ∧ w'.cell? ⟨g, 2, none⟩ = some z) ∧ Off [] W w' := by
  have hz := ((h.set 0 x).set 1 y).set 2 z
  exact ⟨⟨by rw [hz.cell]; simp, by rw [hz.cell]; simp, by rw [hz.cell]; simp⟩, ((ho.set (.inr hg) _).set (.inr hg) _).set (.inr hg) _⟩

end Go.Proofs.Ytdnahojpeplajaa.Pack
