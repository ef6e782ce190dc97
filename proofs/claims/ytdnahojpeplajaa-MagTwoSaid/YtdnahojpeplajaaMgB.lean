/- Stage 8: the program's own taker: see, Done, Found. -/
import Derived.Test.YtdnahojpeplajaaMgA
import Derived.Test.YtdnahojpeplajaaPackF
import Derived.Test.YtdnahojpeplajaaCountsW
import Derived.BigQuiet
namespace Go.Proofs.Ytdnahojpeplajaa.Mag
open Go.RowKit Mem Go.Proofs.Ytdnahojpeplajaa.Words Go.Proofs.Ytdnahojpeplajaa.Plan Go.Proofs.Ytdnahojpeplajaa.Pack Go.Proofs.Ytdnahojpeplajaa.Told
set_option maxRecDepth 100000
set_option maxHeartbeats 4000000

/-- The cells of a taker. -/
def tcs (P C M c i n k e0 e1 e2 : Int) (f : Bool) : Array Value := wk P C M c i n [.int .i64 k, .int .i64 e0, .int .i64 e1, .int .i64 e2, .bool f]
theorem cells3 {w : World} {b : Nat} {ty : TypeId} {x y z : Value} (h : Blk w b ty #[x, y, z]) : w.cell? ⟨b, 0, none⟩ = some x ∧ w.cell? ⟨b, 1, none⟩ = some y ∧ w.cell? ⟨b, 2, none⟩ = some z := ⟨h.cell 0, h.cell 1, h.cell 2⟩
section
variable {w w' : World} {g : Nat} {P C M c i n k e0 e1 e2 x : Int} {f : Bool}
theorem tcs_cells (h : Blk w g 70 (tcs P C M c i n k e0 e1 e2 f)) : w.cell? ⟨g, 6, none⟩ = some (.int .i64 k) ∧ w.cell? ⟨g, 7, none⟩ = some (.int .i64 e0) ∧ w.cell? ⟨g, 8, none⟩ = some (.int .i64 e1) ∧ w.cell? ⟨g, 9, none⟩ = some (.int .i64 e2) ∧ w.cell? ⟨g, 10, none⟩ = some (.bool f) :=
  ⟨h.cell 6, h.cell 7, h.cell 8, h.cell 9, h.cell 10⟩

theorem taker_see_yes (h : Blk w g 70 (tcs P C M c i n k e0 e1 e2 f)) (hx0 : 0 ≤ x) (hx1 : x < 18446744073709551616) (hq : (readEntryB P C M x && decide (cI x = k)) = true) :
    Calls Try.prog 36 #[.pointer (some ⟨g, 0, none⟩), .int .u64 x] w fun e w' => e = .returned (.tuple #[]) ∧ Blk w' g 70 (tcs P C M c i 2 k (aI x) (bI x) (cI x) f) ∧ Off [g] w w' := by
  rw [Bool.and_eq_true, decide_eq_true_eq] at hq
  obtain ⟨hq1, hk⟩ := hq
  have he : entryV P C M x = .agg #[.int .i64 (aI x), .int .i64 (bI x), .int .i64 (cI x)] := by unfold entryV; rw [if_pos hq1]
  have HE := Lib.hid (And.intro he hq1)
  clear he hq1
  generalize aI x = a0 at *
  generalize bI x = a1 at *
  generalize cI x = a2 at *
  subst hk
  obtain ⟨c0, c1, c2, c3, c4, c5⟩ := wk_cells h
  have HB := Lib.hid h
  clear h
  go_enter Try.func36, Try.ntmps36
  go_upto_region 1 with (go_at_call 35; refine (readEntry_any _ _ _ _ hx0 hx1 _).mono ?_; rintro e w1 ⟨rfl, o1⟩; rw [HE.out.1, HE.out.2])
  refine at_worldT (R := fun W' => ∃ b, b = w1.heap.size ∧ w.heap.size ≤ b ∧ Off [] w W' ∧ Blk W' b 68 #[.int .i64 a0, .int .i64 a1, .int .i64 a2]) ⟨_, rfl, o1.size, o1.alloc _, Blk.new _ _ _⟩ ?_
  clear HE
  rintro W1 ⟨b, hb, hle, o, he⟩
  rw [← hb]
  have hg := o.blk HB.out (by simp)
  clear c0 c1 c2 c3 c4 c5 hb o1 hx0 hx1
  obtain ⟨c0, c1, c2, c3, c4, c5⟩ := wk_cells hg
  obtain ⟨c6, c7, c8, c9, c10⟩ := tcs_cells hg
  obtain ⟨b0, b1, b2⟩ := cells3 he
  have z5 := hg.free 5
  have z7 := hg.free 7
  have z8 := hg.free 8
  have z9 := hg.free 9
  go_quiet (fail)
  go_wp2
  go_end0
  have hm : g ∈ [g] ∨ w.heap.size ≤ g := .inl (by simp)
  exact ⟨rfl, (((((hg.drewN _).set 7 _).set 8 _).set 9 _).set 5 _).to rfl, (((((o.more (by simp)).drewN _).set hm _).set hm _).set hm _).set hm _⟩
theorem taker_see_no1 (h : Blk w g 70 (tcs P C M c i n k e0 e1 e2 f)) (hx0 : 0 ≤ x) (hx1 : x < 18446744073709551616) (hi0 : 0 ≤ i) (hi1 : i < 9223372036854775807) (hq : readEntryB P C M x = false) :
    Calls Try.prog 36 #[.pointer (some ⟨g, 0, none⟩), .int .u64 x] w fun e w' => e = .returned (.tuple #[]) ∧ Blk w' g 70 (tcs P C M c (i + 1) (nxt P C M c (i + 1) n) k e0 e1 e2 f) ∧ Off [g] w w' := by
  have he : entryV P C M x = .agg #[.int .i64 0, .int .i64 0, .int .i64 0] := by unfold entryV; rw [hq]; rfl
  have HE := Lib.hid (And.intro he hq)
  clear he hq
  obtain ⟨c0, c1, c2, c3, c4, c5⟩ := wk_cells h
  have HB := Lib.hid h
  clear h
  go_enter Try.func36, Try.ntmps36
  go_upto_region 1 with (go_at_call 35; refine (readEntry_any _ _ _ _ hx0 hx1 _).mono ?_; rintro e w1 ⟨rfl, o1⟩; rw [HE.out.1, HE.out.2])
  refine at_worldT (R := fun W' => ∃ b, b = w1.heap.size ∧ w.heap.size ≤ b ∧ Off [] w W' ∧ Blk W' b 68 #[.int .i64 0, .int .i64 0, .int .i64 0]) ⟨_, rfl, o1.size, o1.alloc _, Blk.new _ _ _⟩ ?_
  clear HE
  rintro W1 ⟨b, hb, hle, o, he⟩
  rw [← hb]
  have hg := o.blk HB.out (by simp)
  clear c0 c1 c2 c3 c4 c5 hb o1 hx0 hx1
  obtain ⟨c0, c1, c2, c3, c4, c5⟩ := wk_cells hg
  obtain ⟨c6, c7, c8, c9, c10⟩ := tcs_cells hg
  obtain ⟨b0, b1, b2⟩ := cells3 he
  go_quiet (fail)
  go_wp2_with (go_at_call 58; refine (walk_on (hg.drewN _) hi0 hi1).mono ?_; rintro e w3 ⟨rfl, hb3, o3⟩)
  exact bodyPost_ret (v := .tuple #[]) (by simp [results, Try.results36]) rfl ⟨rfl, hb3, ((o.more (by simp)).drewN _).trans o3⟩
theorem taker_see_no2 (h : Blk w g 70 (tcs P C M c i n k e0 e1 e2 f)) (hx0 : 0 ≤ x) (hx1 : x < 18446744073709551616) (hi0 : 0 ≤ i) (hi1 : i < 9223372036854775807) (hq : readEntryB P C M x = true) (hk : decide (cI x = k) = false) :
    Calls Try.prog 36 #[.pointer (some ⟨g, 0, none⟩), .int .u64 x] w fun e w' => e = .returned (.tuple #[]) ∧ Blk w' g 70 (tcs P C M c (i + 1) (nxt P C M c (i + 1) n) k e0 e1 e2 f) ∧ Off [g] w w' := by
  have he : entryV P C M x = .agg #[.int .i64 (aI x), .int .i64 (bI x), .int .i64 (cI x)] := by unfold entryV; rw [if_pos hq]
  have HE := Lib.hid (And.intro he hq)
  clear he hq
  generalize aI x = a0 at *
  generalize bI x = a1 at *
  generalize cI x = a2 at *
  obtain ⟨c0, c1, c2, c3, c4, c5⟩ := wk_cells h
  have HB := Lib.hid h
  clear h
  go_enter Try.func36, Try.ntmps36
  go_upto_region 1 with (go_at_call 35; refine (readEntry_any _ _ _ _ hx0 hx1 _).mono ?_; rintro e w1 ⟨rfl, o1⟩; rw [HE.out.1, HE.out.2])
  refine at_worldT (R := fun W' => ∃ b, b = w1.heap.size ∧ w.heap.size ≤ b ∧ Off [] w W' ∧ Blk W' b 68 #[.int .i64 a0, .int .i64 a1, .int .i64 a2]) ⟨_, rfl, o1.size, o1.alloc _, Blk.new _ _ _⟩ ?_
  clear HE
  rintro W1 ⟨b, hb, hle, o, he⟩
  rw [← hb]
  have hg := o.blk HB.out (by simp)
  clear c0 c1 c2 c3 c4 c5 hb o1 hx0 hx1
  obtain ⟨c0, c1, c2, c3, c4, c5⟩ := wk_cells hg
  obtain ⟨c6, c7, c8, c9, c10⟩ := tcs_cells hg
  obtain ⟨b0, b1, b2⟩ := cells3 he
  have hkd : (a2 == k) = false := by simpa using hk
  go_quiet (fail)
  go_wp2_with (go_at_call 58; refine (walk_on (hg.drewN _) hi0 hi1).mono ?_; rintro e w3 ⟨rfl, hb3, o3⟩)
  exact bodyPost_ret (v := .tuple #[]) (by simp [results, Try.results36]) rfl ⟨rfl, hb3, ((o.more (by simp)).drewN _).trans o3⟩
theorem taker_see_no (h : Blk w g 70 (tcs P C M c i n k e0 e1 e2 f)) (hx0 : 0 ≤ x) (hx1 : x < 18446744073709551616) (hi0 : 0 ≤ i) (hi1 : i < 9223372036854775807) (hq : (readEntryB P C M x && decide (cI x = k)) = false) :
    Calls Try.prog 36 #[.pointer (some ⟨g, 0, none⟩), .int .u64 x] w fun e w' => e = .returned (.tuple #[]) ∧ Blk w' g 70 (tcs P C M c (i + 1) (nxt P C M c (i + 1) n) k e0 e1 e2 f) ∧ Off [g] w w' := by
  cases hb : readEntryB P C M x
  · exact taker_see_no1 h hx0 hx1 hi0 hi1 hb
  · rw [hb, Bool.true_and] at hq
    exact taker_see_no2 h hx0 hx1 hi0 hi1 hb hq
end
end Go.Proofs.Ytdnahojpeplajaa.Mag
