/- Package pack: words made; who may stand where: a contract each. -/
import Derived.Test.YtdnahojpeplajaaPackB
namespace Go.Proofs.Ytdnahojpeplajaa.Pack
open Go.RowKit Mem Plan

theorem parts_cells {w : World} {g : Nat} {t : TypeId} {k a b c : Int} (h : Blk w g t #[.int .i64 k, .int .i64 a, .int .i64 b, .int .i64 c]) :
    w.cell? ⟨g, 0, none⟩ = some (.int .i64 k) ∧ w.cell? ⟨g, 1, none⟩ = some (.int .i64 a) ∧ w.cell? ⟨g, 2, none⟩ = some (.int .i64 b) ∧ w.cell? ⟨g, 3, none⟩ = some (.int .i64 c) := ⟨h.cell 0, h.cell 1, h.cell 2, h.cell 3⟩

/-- What was boxed, and what was made behind it. -/
theorem box_two (w : World) (t t' : TypeId) (cs cs' : Array Value) : Blk ((w.alloc (.cells cs t)).alloc (.cells cs' t')) (w.heap.size + 1) t' cs' ∧ Blk ((w.alloc (.cells cs t)).alloc (.cells cs' t')) w.heap.size t cs ∧ Off [] w ((w.alloc (.cells cs t)).alloc (.cells cs' t')) := by
  have h := Blk.new (w.alloc (.cells cs t)) t' cs'
  simp only [World.size_alloc] at h
  exact ⟨h, (Blk.new w t cs).alloc _, ((Off.refl _ _).alloc _).alloc _⟩

theorem putEntry_any (a b c : Int) (w : World) :
    Calls Try.prog 34 #[.agg #[.int .i64 a, .int .i64 b, .int .i64 c]] w fun e w' => e = .returned (.int .u64 (entryW a b c)) ∧ Off [] w w' := by
  by_cases hb : isEntryB 1 a b c = true
  · have hq := hb
    rw [show entryW a b c = wordI 1 a b c from by unfold entryW; rw [if_pos hb]]
    have HQ := Lib.hid (entry_parts hq)
    clear hq
    obtain ⟨h1, h0, hof⟩ := box_two w 68 99 #[.int .i64 a, .int .i64 b, .int .i64 c] #[.int .i64 1, .int .i64 a, .int .i64 b, .int .i64 c]
    have HP := Lib.hid h1
    have HO := Lib.hid hof
    clear h0 h1 hof
    go_enter Try.func34, Try.ntmps34
    go_wp2_with (first | (go_at_call 54; refine (isEntry_any _ _ _ _ _).mono ?_; rintro e w1 ⟨rfl, ho⟩; obtain ⟨c0, c1, c2, c3⟩ := parts_cells (ho.blk HP.out (by simp))) | (go_at_call 55; refine (join_any _ _ _ _ HQ.out _).mono ?_; rintro e w2 ⟨rfl, ho2⟩))
    go_ret
    exact ⟨rfl, (HO.out.trans ho).trans ho2⟩
  · replace hb : isEntryB 1 a b c = false := by simpa using hb
    rw [show entryW a b c = 0 from by unfold entryW; rw [hb]; rfl]
    obtain ⟨h1, h0, hof⟩ := box_two w 68 99 #[.int .i64 a, .int .i64 b, .int .i64 c] #[.int .i64 1, .int .i64 a, .int .i64 b, .int .i64 c]
    have HP := Lib.hid h1
    have HO := Lib.hid hof
    clear h0 h1 hof
    go_enter Try.func34, Try.ntmps34
    go_wp2_with ((go_at_call 54; refine (isEntry_any _ _ _ _ _).mono ?_; rintro e w1 ⟨rfl, ho⟩; obtain ⟨c0, c1, c2, c3⟩ := parts_cells (ho.blk HP.out (by simp))))
    go_ret
    exact ⟨rfl, HO.out.trans ho⟩

/-- What a shape that may be has. -/
def hasPageB (P C M p : Int) : Bool := decide (0 ≤ pageI P C M p)
def hasClientB (P C M c : Int) : Bool := decide (0 ≤ statusI P C M c)
def hasClassB (k : Int) : Bool := decide (0 < slotsI k)
theorem hasPage_iff {P C M p : Int} : hasPageB P C M p = true ↔ Fit P C M ∧ 0 ≤ p ∧ p < P := by
  unfold hasPageB pageI
  rw [decide_eq_true_iff]
  constructor
  · intro h
    split at h
    · rename_i g; exact ⟨mayB_iff.1 g.1, g.2⟩
    · omega
  · intro ⟨hf, h⟩
    rw [if_pos ⟨mayB_t hf, h⟩]
    have := hf.c1
    omega
theorem hasClient_iff {P C M c : Int} : hasClientB P C M c = true ↔ Fit P C M ∧ 0 ≤ c ∧ c < C := by
  unfold hasClientB statusI
  rw [decide_eq_true_iff]
  constructor
  · intro h
    split at h
    · rename_i g; exact ⟨mayB_iff.1 g.1, g.2⟩
    · omega
  · intro ⟨hf, h⟩
    rw [if_pos ⟨mayB_t hf, h⟩]
    exact h.1
theorem hasClass_iff {k : Int} : hasClassB k = true ↔ 0 ≤ k ∧ k < 4 := by
  unfold hasClassB slotsI
  rw [decide_eq_true_iff]
  omega

theorem hasPage_any (P C M p : Int) (w : World) :
    Calls Try.prog 57 #[.agg #[.int .i64 P, .int .i64 C, .int .i64 M], .int .i64 p] w fun e w' => e = .returned (.bool (hasPageB P C M p)) ∧ Off [] w w' := by
  unfold hasPageB
  go_enter Try.func57, Try.ntmps57
  go_wp2_with (go_at_call 67; refine (page_any _ _ _ _ _).mono ?_; rintro e w1 ⟨rfl, ho⟩)
  go_ret
  exact ⟨rfl, ((Off.refl _ _).alloc _).trans ho⟩
end Go.Proofs.Ytdnahojpeplajaa.Pack
