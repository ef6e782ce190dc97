/- Stage 6: what a call of the program's model leaves, over whatever it holds in memory. -/
import Derived.Test.YtfgkjfneeggbjaaModB
namespace Go.Proofs.Ytfgkjfneeggbjaa.Mod
open Go.RowKit Mem

/-- What holds of a model's memory: in block g, its blocks of memory F, so many words, these blocks. -/
abbrev Hold := World → Nat → List Nat → Int → List Bk → Prop

def NewPost (I : Hold) (m : Int) (w : World) (e : Ending) (w' : World) : Prop := ∃ g F, e = .returned (.pointer (some ⟨g, 0, none⟩)) ∧ I w' g F (clampW m) [] ∧ Off [] w w' ∧ ∀ k ∈ F, w.heap.size ≤ k
def TurnPost (I : Hold) (w : World) (g : Nat) (F : List Nat) (W : Int) (b : Bool) (l' : List Bk) (e : Ending) (w' : World) : Prop := e = .returned (.bool b) ∧ (∃ F', I w' g F' W l' ∧ ∀ k ∈ F', k ∈ F ∨ w.heap.size ≤ k) ∧ Off F w w'
def TellPost (w : World) (l : List Bk) (e : Ending) (w' : World) : Prop := (∃ u, e = .returned u ∧ Rd w' u l) ∧ Off [] w w'

end Go.Proofs.Ytfgkjfneeggbjaa.Mod
