/- Package pack: words made; who may stand where: a contract each. -/
import Derived.Test.YtmiodkcabjfbbaaPackB
namespace Go.Proofs.Ytmiodkcabjfbbaa.Pack
open Go.RowKit Mem Plan

theorem parts_cells {w : World} {g : Nat} {t : TypeId} {k a b c : Int} (h : Blk w g t #[.int .i64 k, .int .i64 a, .int .i64 b, .int .i64 c]) :
    w.cell? ⟨g, 0, none⟩ = some (.int .i64 k) ∧ w.cell? ⟨g, 1, none⟩ = some (.int .i64 a) ∧ w.cell? ⟨g, 2, none⟩ = some (.int .i64 b) ∧ w.cell? ⟨g, 3, none⟩ = some (.int .i64 c) := ⟨h.cell 0, h.cell 1, h.cell 2, h.cell 3⟩

/-- What was boxed, and what was made behind it. -/
theorem box_two (w : World) (t t' : TypeId) (cs cs' : Array Value) : Blk ((w.alloc (.cells cs t)).alloc (.cells cs' t')) (w.heap.size + 1) t' cs' ∧ Blk ((w.alloc (.cells cs t)).alloc (.cells cs' t')) w.heap.size t cs ∧ Off [] w ((w.alloc (.cells cs t)).alloc (.cells cs' t')) := by
  have h := Blk.new (w.alloc (.cells cs t)) t' cs'
  simp only [World.size_alloc] at h
  exact ⟨h, (Blk.new w t cs).alloc _, ((Off.refl _ _).alloc _).alloc _⟩

theorem putStatus_any (k a : Int) (w : World) :
    Calls Try.prog 9 #[.int .i64 k, .int .i64 a] w fun e w' => e = .returned (.int .u64 (statusW k a)) ∧ Off [] w w' := by
  by_cases hb : isStatusB k a 0 0 = true
  · have hq := hb
    rw [show statusW k a = wordI k a 0 0 from by unfold statusW; rw [if_pos hb]]
    have HQ := Lib.hid (status_parts hq)
    clear hq
    obtain ⟨h1, hof⟩ := box_new w 48 #[.int .i64 k, .int .i64 a, .int .i64 0, .int .i64 0]
    have HP := Lib.hid h1
    have HO := Lib.hid hof
    clear h1 hof
    go_enter Try.func9, Try.ntmps9
    go_wp2_with (first | (go_at_call 18; refine (isStatus_any _ _ _ _ _).mono ?_; rintro e w1 ⟨rfl, ho⟩; obtain ⟨c0, c1, c2, c3⟩ := parts_cells (ho.blk HP.out (by simp))) | (go_at_call 15; refine (join_any _ _ _ _ HQ.out _).mono ?_; rintro e w2 ⟨rfl, ho2⟩))
    go_ret
    exact ⟨rfl, (HO.out.trans ho).trans ho2⟩
  · replace hb : isStatusB k a 0 0 = false := by simpa using hb
    rw [show statusW k a = 0 from by unfold statusW; rw [hb]; rfl]
    obtain ⟨h1, hof⟩ := box_new w 48 #[.int .i64 k, .int .i64 a, .int .i64 0, .int .i64 0]
    have HP := Lib.hid h1
    have HO := Lib.hid hof
    clear h1 hof
    go_enter Try.func9, Try.ntmps9
    go_wp2_with ((go_at_call 18; refine (isStatus_any _ _ _ _ _).mono ?_; rintro e w1 ⟨rfl, ho⟩; obtain ⟨c0, c1, c2, c3⟩ := parts_cells (ho.blk HP.out (by simp))))
    go_ret
    exact ⟨rfl, HO.out.trans ho⟩

theorem putPage_any (k a b : Int) (w : World) :
    Calls Try.prog 6 #[.agg #[.int .i64 k, .int .i64 a, .int .i64 b]] w fun e w' => e = .returned (.int .u64 (pageW k a b)) ∧ Off [] w w' := by
  by_cases hb : isPageB k a b 0 = true
  · have hq := hb
    rw [show pageW k a b = wordI k a b 0 from by unfold pageW; rw [if_pos hb]]
    have HQ := Lib.hid (page_parts hq)
    clear hq
    obtain ⟨h1, h0, hof⟩ := box_two w 25 48 #[.int .i64 k, .int .i64 a, .int .i64 b] #[.int .i64 k, .int .i64 a, .int .i64 b, .int .i64 0]
    have HP := Lib.hid h1
    have HO := Lib.hid hof
    clear h0 h1 hof
    go_enter Try.func6, Try.ntmps6
    go_wp2_with (first | (go_at_call 14; refine (isPage_any _ _ _ _ _).mono ?_; rintro e w1 ⟨rfl, ho⟩; obtain ⟨c0, c1, c2, c3⟩ := parts_cells (ho.blk HP.out (by simp))) | (go_at_call 15; refine (join_any _ _ _ _ HQ.out _).mono ?_; rintro e w2 ⟨rfl, ho2⟩))
    go_ret
    exact ⟨rfl, (HO.out.trans ho).trans ho2⟩
  · replace hb : isPageB k a b 0 = false := by simpa using hb
    rw [show pageW k a b = 0 from by unfold pageW; rw [hb]; rfl]
    obtain ⟨h1, h0, hof⟩ := box_two w 25 48 #[.int .i64 k, .int .i64 a, .int .i64 b] #[.int .i64 k, .int .i64 a, .int .i64 b, .int .i64 0]
    have HP := Lib.hid h1
    have HO := Lib.hid hof
    clear h0 h1 hof
    go_enter Try.func6, Try.ntmps6
    go_wp2_with ((go_at_call 14; refine (isPage_any _ _ _ _ _).mono ?_; rintro e w1 ⟨rfl, ho⟩; obtain ⟨c0, c1, c2, c3⟩ := parts_cells (ho.blk HP.out (by simp))))
    go_ret
    exact ⟨rfl, HO.out.trans ho⟩

theorem putSlot_any (k a : Int) (w : World) :
    Calls Try.prog 7 #[.agg #[.int .i64 k, .int .i64 a]] w fun e w' => e = .returned (.int .u64 (slotW k a)) ∧ Off [] w w' := by
  by_cases hb : isSlotB k a 0 0 = true
  · have hq := hb
    rw [show slotW k a = wordI k a 0 0 from by unfold slotW; rw [if_pos hb]]
    have HQ := Lib.hid (slot_parts hq)
    clear hq
    obtain ⟨h1, h0, hof⟩ := box_two w 27 48 #[.int .i64 k, .int .i64 a] #[.int .i64 k, .int .i64 a, .int .i64 0, .int .i64 0]
    have HP := Lib.hid h1
    have HO := Lib.hid hof
    clear h0 h1 hof
    go_enter Try.func7, Try.ntmps7
    go_wp2_with (first | (go_at_call 16; refine (isSlot_any _ _ _ _ _).mono ?_; rintro e w1 ⟨rfl, ho⟩; obtain ⟨c0, c1, c2, c3⟩ := parts_cells (ho.blk HP.out (by simp))) | (go_at_call 15; refine (join_any _ _ _ _ HQ.out _).mono ?_; rintro e w2 ⟨rfl, ho2⟩))
    go_ret
    exact ⟨rfl, (HO.out.trans ho).trans ho2⟩
  · replace hb : isSlotB k a 0 0 = false := by simpa using hb
    rw [show slotW k a = 0 from by unfold slotW; rw [hb]; rfl]
    obtain ⟨h1, h0, hof⟩ := box_two w 27 48 #[.int .i64 k, .int .i64 a] #[.int .i64 k, .int .i64 a, .int .i64 0, .int .i64 0]
    have HP := Lib.hid h1
    have HO := Lib.hid hof
    clear h0 h1 hof
    go_enter Try.func7, Try.ntmps7
    go_wp2_with ((go_at_call 16; refine (isSlot_any _ _ _ _ _).mono ?_; rintro e w1 ⟨rfl, ho⟩; obtain ⟨c0, c1, c2, c3⟩ := parts_cells (ho.blk HP.out (by simp))))
    go_ret
    exact ⟨rfl, HO.out.trans ho⟩

theorem putEntry_any (a b c : Int) (w : World) :
    Calls Try.prog 8 #[.agg #[.int .i64 a, .int .i64 b, .int .i64 c]] w fun e w' => e = .returned (.int .u64 (entryW a b c)) ∧ Off [] w w' := by
  by_cases hb : isEntryB 1 a b c = true
  · have hq := hb
    rw [show entryW a b c = wordI 1 a b c from by unfold entryW; rw [if_pos hb]]
    have HQ := Lib.hid (entry_parts hq)
    clear hq
    obtain ⟨h1, h0, hof⟩ := box_two w 29 48 #[.int .i64 a, .int .i64 b, .int .i64 c] #[.int .i64 1, .int .i64 a, .int .i64 b, .int .i64 c]
    have HP := Lib.hid h1
    have HO := Lib.hid hof
    clear h0 h1 hof
    go_enter Try.func8, Try.ntmps8
    go_wp2_with (first | (go_at_call 17; refine (isEntry_any _ _ _ _ _).mono ?_; rintro e w1 ⟨rfl, ho⟩; obtain ⟨c0, c1, c2, c3⟩ := parts_cells (ho.blk HP.out (by simp))) | (go_at_call 15; refine (join_any _ _ _ _ HQ.out _).mono ?_; rintro e w2 ⟨rfl, ho2⟩))
    go_ret
    exact ⟨rfl, (HO.out.trans ho).trans ho2⟩
  · replace hb : isEntryB 1 a b c = false := by simpa using hb
    rw [show entryW a b c = 0 from by unfold entryW; rw [hb]; rfl]
    obtain ⟨h1, h0, hof⟩ := box_two w 29 48 #[.int .i64 a, .int .i64 b, .int .i64 c] #[.int .i64 1, .int .i64 a, .int .i64 b, .int .i64 c]
    have HP := Lib.hid h1
    have HO := Lib.hid hof
    clear h0 h1 hof
    go_enter Try.func8, Try.ntmps8
    go_wp2_with ((go_at_call 17; refine (isEntry_any _ _ _ _ _).mono ?_; rintro e w1 ⟨rfl, ho⟩; obtain ⟨c0, c1, c2, c3⟩ := parts_cells (ho.blk HP.out (by simp))))
    go_ret
    exact ⟨rfl, HO.out.trans ho⟩

/-- What a shape that may be has. -/
def hasPageB (P C M p : Int) : Bool := decide (0 ≤ pageI P C M p)
def hasClientB (P C M c : Int) : Bool := decide (0 ≤ statusI P C M c)
def hasClassB (k : Int) : Bool := decide (0 < slotsI k)
theorem hasPage_iff {P C M p : Int} : hasPageB P C M p = true ↔ Fit P C M ∧ 0 ≤ p ∧ p < P := by
  unfold hasPageB pageI
  rw [decide_eq_true_iff]
  constructor
  · intro h
    split at h
    · rename_i g; exact ⟨mayB_iff.1 g.1, g.2⟩
    · omega
  · intro ⟨hf, h⟩
    rw [if_pos ⟨mayB_t hf, h⟩]
    have := hf.c1
    omega
theorem hasClient_iff {P C M c : Int} : hasClientB P C M c = true ↔ Fit P C M ∧ 0 ≤ c ∧ c < C := by
  unfold hasClientB statusI
  rw [decide_eq_true_iff]
  constructor
  · intro h
    split at h
    · rename_i g; exact ⟨mayB_iff.1 g.1, g.2⟩
    · omega
  · intro ⟨hf, h⟩
    rw [if_pos ⟨mayB_t hf, h⟩]
    exact h.1
theorem hasClass_iff {k : Int} : hasClassB k = true ↔ 0 ≤ k ∧ k < 4 := by
  unfold hasClassB slotsI
  rw [decide_eq_true_iff]
  omega

theorem hasPage_any (P C M p : Int) (w : World) :
    Calls Try.prog 21 #[.agg #[.int .i64 P, .int .i64 C, .int .i64 M], .int .i64 p] w fun e w' => e = .returned (.bool (hasPageB P C M p)) ∧ Off [] w w' := by
  unfold hasPageB
  go_enter Try.func21, Try.ntmps21
  go_wp2_with (go_at_call 26; refine (page_any _ _ _ _ _).mono ?_; rintro e w1 ⟨rfl, ho⟩)
  go_ret
  exact ⟨rfl, ((Off.refl _ _).alloc _).trans ho⟩
theorem hasClient_any (P C M c : Int) (w : World) :
    Calls Try.prog 24 #[.agg #[.int .i64 P, .int .i64 C, .int .i64 M], .int .i64 c] w fun e w' => e = .returned (.bool (hasClientB P C M c)) ∧ Off [] w w' := by
  unfold hasClientB
  go_enter Try.func24, Try.ntmps24
  go_wp2_with (go_at_call 28; refine (status_any _ _ _ _ _).mono ?_; rintro e w1 ⟨rfl, ho⟩)
  go_ret
  exact ⟨rfl, ((Off.refl _ _).alloc _).trans ho⟩
theorem hasClass_any (k : Int) (w : World) :
    Calls Try.prog 25 #[.int .i64 k] w fun e w' => e = .returned (.bool (hasClassB k)) ∧ w = w' := by
  unfold hasClassB
  go_enter Try.func25, Try.ntmps25
  go_wp2_with (go_at_call 22; refine (slots_any _ _).mono ?_; rintro e w1 ⟨rfl, rfl⟩)
  go_ret
  exact ⟨rfl, rfl⟩

end Go.Proofs.Ytmiodkcabjfbbaa.Pack
