/- WordsPlays: what holds at each round's head. -/
import Derived.Test.YtaegjkpodhkogaaActB
import Derived.Test.YtaegjkpodhkogaaOpenD
import Derived.Deep.RegionHeld3
namespace Go.Proofs.Ytaegjkpodhkogaa.Open
open Mem
theorem IsRowU.off {w w' : World} {a : Option Addr} {len cap : Nat} {z : Nat → Int} (h : IsRowU w a len cap z) (ho : Off [] w w') : IsRowU w' a len cap z :=
  ⟨h.nums, fun h0 => by
    obtain ⟨b, off, e, hb, h1, h2, hc⟩ := h.some_ h0
    exact ⟨b, off, e, Nat.lt_of_lt_of_le hb ho.size, h1, h2, fun i hi => by rw [ho.cell hb (by simp)]; exact hc i hi⟩⟩
end Go.Proofs.Ytaegjkpodhkogaa.Open
namespace Go.Proofs.Ytaegjkpodhkogaa.Words
open Go.RowKit Mem Go.Proofs.Ytaegjkpodhkogaa.Open

/-- In the midst of a region that draws: more may be held from here on. -/
theorem held_weaken {P : Program} {md : Region.Mode} {ops : Array Oper} {Q : Exit → Act → World → Prop} {S S' : World → Prop} (hS : ∀ w, S' w → S w) :
    ∀ (fuel : Nat) (listed : Array Bool) (a : Act) (w : World), wpAnyH P md ops Q S' fuel listed a w → wpAnyH P md ops Q S fuel listed a w
  | 0, _, _, _, h => h
  | fuel + 1, _, _, _, h => ⟨h.1, fun i hi => wpOp_mono (fun a' w' h' => ⟨hS _ h'.1, held_weaken hS fuel _ a' w' h'.2⟩) (h.2 i hi)⟩

/-- What holds when j deeds are done. -/
structure Play (W : World) (len g h gm hm q5 q6 j : Nat) (s : St) (wr : World) : Prop where
  both : Both wr W.heap.size g h gm hm s
  len : s.row.length = len
  lo : 0 ≤ s.steps
  hi : s.steps ≤ j
  b5 : Blk wr q5 23 #[.pointer (some ⟨g, 0, none⟩)]
  b6 : Blk wr q6 38 #[.pointer (some ⟨gm, 0, none⟩)]
  below : Below W.heap.size W wr

def PlayRel (W : World) (len nd g h gm hm q5 q6 : Nat) (i : Value) (wr : World) : Prop :=
  ∃ (j : Nat) (s : St), j ≤ nd ∧ i = .int .i64 j ∧ Play W len g h gm hm q5 q6 j s wr

/-- The cells of the j-th deed. -/
theorem deed_at {W wr : World} {bd offd : Nat} {z : Five} {j : Nat} (hbd : bd < W.heap.size) (hc : ∀ i u, z.cells[i]? = some u → W.cell? ⟨bd, offd + j * 5 + i, none⟩ = some u) (hb : Below W.heap.size W wr) :
    wr.cell? ⟨bd, offd + j * 5, none⟩ = some (.int .i64 z.n0) ∧ wr.cell? ⟨bd, offd + j * 5 + 1, none⟩ = some (.int .i64 z.n1) ∧ wr.cell? ⟨bd, offd + j * 5 + 2, none⟩ = some (.int .i64 z.n2) ∧ wr.cell? ⟨bd, offd + j * 5 + 3, none⟩ = some (.int .u64 z.n3) ∧ wr.cell? ⟨bd, offd + j * 5 + 4, none⟩ = some (.int .u64 z.n4) := by
  have k : ∀ i u, z.cells[i]? = some u → wr.cell? ⟨bd, offd + j * 5 + i, none⟩ = some u := fun i u hu => by rw [hb.cell hbd]; exact hc i u hu
  exact ⟨k 0 _ rfl, k 1 _ rfl, k 2 _ rfl, k 3 _ rfl, k 4 _ rfl⟩

theorem Env.off0 {w w' : World} {q5 q6 q8 q9 q10 g gm : Nat} {o c p u x : Int} {inb : Bool} (he : Env w q5 q6 q8 q9 q10 g gm o c p u x inb) (ho : Off [] w w') : Env w' q5 q6 q8 q9 q10 g gm o c p u x inb :=
  ⟨ho.blk he.b5 (by simp), ho.blk he.b6 (by simp), ho.blk he.b8 (by simp), ho.blk he.b9 (by simp), ho.blk he.b10 (by simp), he.ne⟩

theorem env_new {wr : World} {q5 q6 g gm : Nat} (b5 : Blk wr q5 23 #[.pointer (some ⟨g, 0, none⟩)]) (b6 : Blk wr q6 38 #[.pointer (some ⟨gm, 0, none⟩)]) (o c p u x : Int) (inb : Bool) :
    Env (((wr.alloc (.cells #[.int .i64 o, .int .i64 c, .int .i64 p, .int .u64 u, .int .u64 x] 41)).alloc (.cells #[.bool inb] 4)).alloc (.cells #[.bool true] 4)) q5 q6 wr.heap.size (wr.heap.size + 1) (wr.heap.size + 1 + 1) g gm o c p u x inb := by
  refine ⟨((b5.alloc _).alloc _).alloc _, ((b6.alloc _).alloc _).alloc _, ((Blk.new wr _ _).alloc _).alloc _, (new_past wr _ _ _).alloc _, ?_, by omega⟩
  have h := new_past (wr.alloc (.cells #[.int .i64 o, .int .i64 c, .int .i64 p, .int .u64 u, .int .u64 x] 41)) (.cells #[.bool inb] 4) 4 #[.bool true]
  simpa using h

/-- One deed more. -/
theorem play_next {W wr w4 w4' w5 w8 : World} {len g h gm hm q5 q6 q8 q9 q10 j : Nat} {o c p u x : Int} {inb : Bool} {s s5 : St} (hp : Play W len g h gm hm q5 q6 j s wr) (o4 : Off [] wr w4)
    (p5 : Past w4' W.heap.size q5 q6 q8 q9 q10 g h gm hm o c p u x inb s w5 s5) (hge : W.heap.size ≤ q10) (o8 : Off [] w5 w8) (o4' : Off [] w4 w4') : Play W len g h gm hm q5 q6 (j + 1) s5 w8 := by
  have e8 := p5.env.off0 o8
  have b8 := p5.both.off0 o8
  have h1 := p5.lo
  have h2 := p5.hi
  have h3 := hp.lo
  have h4 := hp.hi
  have lo := hp.both.ism.lo
  refine ⟨b8, by rw [p5.len, hp.len], by omega, by omega, e8.b5, e8.b6, ?_⟩
  have s4 : wr.heap.size ≤ w4'.heap.size := Nat.le_trans o4.size o4'.size
  have k := p5.save.below (Nat.le_trans lo s4) (by
    have := b8.bg
    have := b8.bh
    have := b8.ism.hg
    have := b8.ism.hh
    intro i hi
    simp at hi
    omega)
  exact (hp.below.trans (((o4.trans o4').nil_below.mono lo).trans k)).trans (o8.nil_below.mono (Nat.le_trans (Nat.le_trans lo s4) p5.save.size))

/-- The captured variables where nothing is guarded. -/
structure Env2 (w : World) (q5 q6 q8 q9 g gm : Nat) (o c p u x : Int) (inb : Bool) : Prop where
  b5 : Blk w q5 23 #[.pointer (some ⟨g, 0, none⟩)]
  b6 : Blk w q6 38 #[.pointer (some ⟨gm, 0, none⟩)]
  b8 : Blk w q8 41 #[.int .i64 o, .int .i64 c, .int .i64 p, .int .u64 u, .int .u64 x]
  b9 : Blk w q9 4 #[.bool inb]
theorem Env2.off {w w' : World} {q5 q6 q8 q9 g gm : Nat} {o c p u x : Int} {inb : Bool} {S : List Nat} (he : Env2 w q5 q6 q8 q9 g gm o c p u x inb) (ho : Off S w w') (hS : ∀ k, k ∈ S → ∃ cs, Blk w k 25 cs) : Env2 w' q5 q6 q8 q9 g gm o c p u x inb := by
  have key : ∀ (q : Nat) (t : TypeId) (cs : Array Value), Blk w q t cs → t ≠ 25 → q ∉ S := fun q t cs hq ht m => by
    obtain ⟨cs', hk⟩ := hS q m
    exact hq.ne hk ht rfl
  exact ⟨ho.blk he.b5 (key _ _ _ he.b5 (by decide)), ho.blk he.b6 (key _ _ _ he.b6 (by decide)), ho.blk he.b8 (key _ _ _ he.b8 (by decide)), ho.blk he.b9 (key _ _ _ he.b9 (by decide))⟩
theorem env2_new {wr : World} {q5 q6 g gm : Nat} (b5 : Blk wr q5 23 #[.pointer (some ⟨g, 0, none⟩)]) (b6 : Blk wr q6 38 #[.pointer (some ⟨gm, 0, none⟩)]) (o c p u x : Int) (inb : Bool) :
    Env2 ((wr.alloc (.cells #[.int .i64 o, .int .i64 c, .int .i64 p, .int .u64 u, .int .u64 x] 41)).alloc (.cells #[.bool inb] 4)) q5 q6 wr.heap.size (wr.heap.size + 1) g gm o c p u x inb :=
  ⟨(b5.alloc _).alloc _, (b6.alloc _).alloc _, (Blk.new wr _ _).alloc _, new_past wr _ _ _⟩

/-- One deed more, that is no step. -/
theorem play_still {W wr w4 w8 : World} {len g h gm hm q5 q6 q8 q9 j : Nat} {o c p u x : Int} {inb : Bool} {s s8 : St} (hp : Play W len g h gm hm q5 q6 j s wr) (o4 : Off [] wr w4)
    (b8 : Both w8 W.heap.size g h gm hm s8) (e8 : Env2 w8 q5 q6 q8 q9 g gm o c p u x inb) (hl : s8.row.length = s.row.length) (hs : s8.steps = s.steps) (o8 : Off [h, hm] w4 w8) : Play W len g h gm hm q5 q6 (j + 1) s8 w8 := by
  have h3 := hp.lo
  have h4 := hp.hi
  have lo := hp.both.ism.lo
  refine ⟨b8, by rw [hl, hp.len], by omega, by omega, e8.b5, e8.b6, (hp.below.trans (o4.nil_below.mono lo)).trans (o8.below (Nat.le_trans lo o4.size) ?_)⟩
  have := b8.bh
  have := b8.ism.hh
  intro i hi
  simp at hi
  omega

end Go.Proofs.Ytaegjkpodhkogaa.Words
