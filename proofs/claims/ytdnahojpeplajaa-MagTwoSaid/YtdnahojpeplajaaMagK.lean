/- Stage 8: awake, over the contracts of the program's taker. -/
import Derived.Test.YtdnahojpeplajaaMagT
import Derived.Test.YtdnahojpeplajaaCountsW
namespace Go.Proofs.Ytdnahojpeplajaa.Mag
open Go.RowKit Mem Go.Proofs.Ytdnahojpeplajaa.Words Go.Proofs.Ytdnahojpeplajaa.Plan Go.Proofs.Ytdnahojpeplajaa.Pack Go.Proofs.Ytdnahojpeplajaa.Open

def kz : Nat → Int := fun i => if i = 18 then entryW 0 2 0 else 0
def ks0 : St := St.fill kz 19 19
def kt0 : Tk := tk0 1 1 1 0 0
def kt1 : Tk := kt0.next ks0
def ks1 : St := kt0.words ks0
def kt2 : Tk := kt1.next ks1
def ks2 : St := kt1.words ks1
theorem kt2_is : kt2.over = true ∧ kt2.found = true ∧ kt2.page = 0 ∧ kt2.slot = 2 := ⟨by kernel_rfl, by kernel_rfl, by kernel_rfl, by kernel_rfl⟩
theorem ks2_is : ks2.at 18 = 0 ∧ ks2.row.length = 19 := ⟨by kernel_rfl, by kernel_rfl⟩
theorem ks_len : ks0.row.length = 19 ∧ ks1.row.length = 19 ∧ (wordsI 1 1 1 = 19) := ⟨by kernel_rfl, by kernel_rfl, by kernel_rfl⟩
theorem ks_steps : ks0.steps = 0 ∧ ks1.steps = 1 := ⟨by kernel_rfl, by kernel_rfl⟩
theorem kz_ok (i : Nat) : 0 ≤ kz i ∧ kz i < 18446744073709551616 := by
  unfold kz
  split
  · have := entryW_bd 0 2 0; omega
  · decide
theorem kt_shape : (kt0.P = 1 ∧ kt0.C = 1 ∧ kt0.M = 1) ∧ kt1.P = 1 ∧ kt1.C = 1 ∧ kt1.M = 1 := ⟨⟨rfl, rfl, rfl⟩, by kernel_rfl, by kernel_rfl, by kernel_rfl⟩
theorem total19 (w : World) : Calls Try.prog 8 #[.agg #[.int .i64 1, .int .i64 1, .int .i64 1]] w fun e w' => e = .returned (.int .i64 19) ∧ Off [] w w' := by
  have h := total_any 1 1 1 w
  rw [ks_len.2.2] at h
  exact h
theorem kfill {w : World} {b : Nat} (h : Blk w b 27 ((rowCells (List.replicate 19 0)).setIfInBounds 18 (.int .u64 (entryW 0 2 0)))) : IsRowU w (some ⟨b, 0, none⟩) 19 19 kz := by
  refine ⟨kz_ok, fun _ => ⟨b, 0, rfl, h.lt, Nat.le_refl _, by decide, fun i hi => ?_⟩⟩
  rw [h.cell, Nat.zero_add, Array.getElem?_setIfInBounds]
  unfold kz
  by_cases e : i = 18
  · subst e
    rw [if_pos rfl, if_pos rfl, if_pos (by simp [rowCells])]
  · rw [if_neg (fun h => e h.symm), if_neg e, row_cell _ _ (by simpa using hi)]
    have : ∀ i, i < 19 → (List.replicate 19 (0 : Int)).getD i 0 = 0 := by decide
    rw [this i hi]

/-- A taker and words, both made since w. -/
structure LiveT (I : HoldT) (w : World) (g : Nat) (F : List Nat) (t : Tk) (gw hw : Nat) (s : St) (W : World) : Prop where
  q : I W g F t
  p : IsW W gw hw s
  n : gw ∉ F ∧ hw ∉ F
  f : ∀ k ∈ F, w.heap.size ≤ k
  g : w.heap.size ≤ gw ∧ w.heap.size ≤ hw
  o : Off [] w W
section
variable {I : HoldT} {w W W' : World} {g gw hw : Nat} {F : List Nat} {t : Tk} {s : St}
theorem LiveT.off0 (C : ConT I) (h : LiveT I w g F t gw hw s W) (o : Off [] W W') : LiveT I w g F t gw hw s W' :=
  ⟨C.keep h.q (fun k hk => o.block k (C.lt h.q k hk) (by simp)), h.p.off o (by simp) (by simp), h.n, h.f, h.g, h.o.trans o⟩
theorem live_step (C : ConT I) (h : LiveT I w g F t gw hw s W) (hok : t.Ok) (hlen : t.over = false → (s.row.length : Int) = wordsI t.P t.C t.M) (hrow : RowOk s) (h0 : 0 ≤ s.steps) (h1 : s.steps < 9223372036854775807) :
    Calls Try.prog 13 #[.pointer (some ⟨g, 0, none⟩), .pointer (some ⟨gw, 0, none⟩)] W fun e W' => e = .returned (.tuple #[]) ∧ ∃ F', LiveT I w g F' (t.next s) gw hw (t.words s) W' := by
  refine (C.step h.q hok h.p h.n.1 h.n.2 hlen hrow h0 h1).mono ?_
  rintro e W' ⟨rfl, ⟨F', hi, hf⟩, hp, o⟩
  have hs := h.o.size
  refine ⟨rfl, F', hi, hp, ⟨fun hm => ?_, fun hm => ?_⟩, fun k hk => ?_, h.g, h.o.trans' o (fun k hk => .inr ?_)⟩
  · rcases hf _ hm with h2 | h2
    · exact h.n.1 h2
    · have := h.p.head.lt; omega
  · rcases hf _ hm with h2 | h2
    · exact h.n.2 h2
    · have := h.p.row.lt; omega
  · rcases hf k hk with h2 | h2
    · exact h.f k h2
    · omega
  · simp only [List.mem_cons] at hk
    rcases hk with rfl | rfl | hk
    · exact h.g.1
    · exact h.g.2
    · exact h.f k hk
end

set_option maxRecDepth 100000 in
set_option maxHeartbeats 4000000 in
theorem awake_mag {I : HoldT} (C0 : ConT I) (w : World) :
    Calls Try.prog 7 #[] w fun e w' => e = .returned (.bool true) ∧ Off [] w w' := by
  have HC := Lib.hid C0
  have hmk : ∀ W, (Instr.makeSlice 25 (.int .i64 19) (.int .i64 19)).run Try.prog W = .ok (.slice (some ⟨W.heap.size, 0, none⟩) 19 19) (W.alloc (.cells (rowCells (List.replicate 19 0)) 27)) := fun W => make_row 19 (by decide) W
  clear C0
  go_enter Try.func7, Try.ntmps7
  go_upto_region 3 with (go_at_call 8; refine (total19 _).mono ?_; rintro e w1 ⟨rfl, o1⟩)
  refine at_worldM (R := fun W' => ∃ b, b = w1.heap.size ∧ Off [] w W' ∧ w.heap.size ≤ b ∧ (Blk W' w.heap.size 24 #[.int .i64 1, .int .i64 1, .int .i64 1] ∧ w.heap.size < b) ∧ Blk W' b 27 (rowCells (List.replicate 19 0))) ⟨_, rfl, (((Off.refl _ _).alloc _).trans o1).alloc _, ?_, ⟨(o1.blk (Blk.new _ _ _) (by simp)).alloc _, ?_⟩, Blk.new _ _ _⟩ ?_
  · have := o1.size; simp at this; omega
  · have := o1.size; simp at this; omega
  rintro W1 ⟨b, hb, oW, hwb, ⟨hs, hsb⟩, hrow⟩
  rw [← hb]
  clear hmk
  have HOW := Lib.hid oW
  have HS := Lib.hid hs
  have HRW := Lib.hid hrow
  clear oW hs hrow hb o1
  go_upto_region 4 with (go_at_call 9; refine (rputEntry_any _ _ _ _).mono ?_; rintro e w3 ⟨rfl, o3⟩; have hr3 := o3.blk HRW.out (by simp); have c18 := (hr3.cell 18).trans (row_cell _ 18 (by simp)); have z18 := hr3.free 18)
  refine at_worldM (R := fun W' => Off [] w W' ∧ Blk W' w.heap.size 24 #[.int .i64 1, .int .i64 1, .int .i64 1] ∧ Blk W' b 27 ((rowCells (List.replicate 19 0)).setIfInBounds 18 (.int .u64 (entryW 0 2 0)))) ⟨(HOW.out.trans o3).set (.inr hwb) _, (o3.blk HS.out (by simp)).far (by omega) _ _, hr3.set 18 _⟩ ?_
  clear hr3 c18 z18 o3 HOW HS HRW
  rintro W2 ⟨oW, hs, hrow⟩
  obtain ⟨s0, s1, s2⟩ := shp_cells hs
  have HOW := Lib.hid oW
  have HR := Lib.hid (kfill hrow)
  have HS := Lib.hid hs
  clear oW hrow hs s0 s1 s2
  go_upto_region 5 with (go_at_call 10; refine (fill_any _ 19 19 kz _ HR.out (by decide)).mono ?_; rintro e w4 ⟨gw, hw, rfl, hp4, o4, hg4, hh4⟩; obtain ⟨s0, s1, s2⟩ := shp_cells (o4.blk HS.out (by simp)))
  have HP4 := Lib.hid (show IsW w4 gw hw ks0 from hp4)
  go_upto_region 6 with (go_at_call 11; refine (HC.out.new 1 1 1 0 0 _).mono ?_; rintro e w5 ⟨⟨gT, F, rfl, hi, hf⟩, o5⟩)
  have HI := Lib.hid (show I w5 gT F kt0 from hi)
  have HP5 := Lib.hid (HP4.out.off o5 (by simp) (by simp))
  have HL0 : Hid (LiveT I w gT F kt0 gw hw ks0 w5) := Lib.hid (by
    have h := HOW.out.size
    have h4 := (HOW.out.trans o4).size
    exact ⟨HI.out, HP5.out, ⟨fun h => by have := hf _ h; have := HP4.out.head.lt; omega, fun h => by have := hf _ h; have := HP4.out.row.lt; omega⟩, fun j hj => Nat.le_trans h4 (hf j hj), ⟨by omega, by omega⟩, (HOW.out.trans o4).trans o5⟩)
  clear hp4 o4 s0 s1 s2 hi hf o5 HP4 HOW HR HS hsb hwb hg4 hh4 HI HP5
  go_upto_region 9 with (go_at_call 13; refine (live_step HC.out HL0.out (tk0_ok _ _ _ _ _) (fun _ => by kernel_rfl) (fill_ok kz_ok _ _) (by rw [ks_steps.1]; decide) (by rw [ks_steps.1]; decide)).mono ?_; rintro e w6 ⟨rfl, F6, h6⟩)
  have HL1 : Hid (LiveT I w gT F6 kt1 gw hw ks1 w6) := Lib.hid h6
  clear h6 HL0
  go_upto_region 10 with (go_at_call 13; refine (live_step HC.out HL1.out ((tk0_ok _ _ _ _ _).next _) (fun _ => by kernel_rfl) (Tk.words_ok (fill_ok kz_ok _ _)) (by rw [ks_steps.2]; decide) (by rw [ks_steps.2]; decide)).mono ?_; rintro e w7 ⟨rfl, F7, h7⟩)
  have HL2 : Hid (LiveT I w gT F7 kt2 gw hw ks2 w7) := Lib.hid h7
  clear h7 HL1
  obtain ⟨b1, b2, b3, b4⟩ := kt2_is
  have HB := Lib.hid (And.intro b1 (And.intro b2 (And.intro b3 b4)))
  clear b1 b2 b3 b4
  go_upto_region 11 with (go_at_call 23; refine (HC.out.found HL2.out.q).mono ?_; rintro e w8 ⟨hq1, -, o8⟩; obtain rfl := hq1 HB.out.2.1; rw [HB.out.2.2.1, HB.out.2.2.2]; clear hq1)
  have HL3 := Lib.hid (HL2.out.off0 HC.out o8)
  clear HL2 o8
  go_wp2_with (first | (go_at_call 16; refine (HC.out.done HL3.out.q).mono ?_; rintro e w9 ⟨rfl, o9⟩; rw [HB.out.1]; have HL4 := Lib.hid (HL3.out.off0 HC.out o9)) | (go_at_call 28; refine (look_i HL4.out.p _ 18 (by rfl) (by rw [ks2_is.2]; decide)).mono ?_; rintro e w10 ⟨rfl, rfl⟩; rw [ks2_is.1]))
  go_ret
  exact ⟨rfl, HL4.out.o⟩

end Go.Proofs.Ytdnahojpeplajaa.Mag
