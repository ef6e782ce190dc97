/- WordsPlays: one access, by both. (Written by wip/tools/act_gen.py.) -/
import Derived.Test.YtaegjkpodhkogaaRefC
import Derived.Test.YtaegjkpodhkogaaOneW
namespace Go.Proofs.Ytaegjkpodhkogaa.Words
open Go.RowKit Mem Go.Proofs.Ytaegjkpodhkogaa.Open

/-- The program's object and the document's say the same. -/
structure Both (w : World) (base g h gm hm : Nat) (s : St) : Prop where
  isw : IsW w g h s
  ism : IsM w base gm hm s
  ne : h ≠ hm
  bg : base ≤ g
  bh : base ≤ h

section
variable {w w' : World} {base g h gm hm : Nat} {s s' : St}
theorem Both.apart (hb : Both w base g h gm hm s) : g ≠ gm ∧ g ≠ hm ∧ h ≠ gm ∧ h ≠ hm := by
  obtain ⟨cs, hk⟩ := hb.ism.blk
  exact ⟨hb.isw.head.ne hk (by decide), hb.isw.head.ne hb.ism.row (by decide), hb.isw.row.ne hk (by decide), hb.ne⟩
/-- Behind a step of the program. -/
theorem Both.left (hb : Both w base g h gm hm s) {S : List Nat} (hs : ∀ k, k ∈ S → k = g ∨ k = h) (ho : Off S w w') : IsM w' base gm hm s := by
  obtain ⟨h1, h2, h3, h4⟩ := hb.apart
  refine hb.ism.off ho (fun m => ?_) (fun m => ?_) (fun k m => ?_)
  · rcases hs _ m with e | e
    · exact h1 e.symm
    · exact h3 e.symm
  · rcases hs _ m with e | e
    · exact h2 e.symm
    · exact h4 e.symm
  · rcases hs k m with rfl | rfl
    · exact ⟨_, _, hb.isw.head, by decide⟩
    · exact ⟨_, _, hb.isw.row, by decide⟩
theorem IsW.save {S : List Nat} (hw : IsW w g h s) (ho : Save S base w w') (h1 : g ∉ S) (h2 : h ∉ S) : IsW w' g h s := ⟨ho.blk hw.head h1 (by decide), ho.blk hw.row h2 (by decide), hw.small⟩
theorem Both.off0 (hb : Both w base g h gm hm s) (ho : Off [] w w') : Both w' base g h gm hm s :=
  ⟨hb.isw.off ho (by simp) (by simp), hb.ism.off0 ho, hb.ne, hb.bg, hb.bh⟩
theorem Both.drewN (hb : Both w base g h gm hm s) (n : Nat) : Both (w.drewN n) base g h gm hm s := hb.off0 ((Off.refl _ _).drewN n)
end

def Acted (w : World) (base g h gm hm : Nat) (s : St) (w' : World) : Prop :=
  ∃ s', Both w' base g h gm hm s' ∧ s'.row.length = s.row.length ∧ s'.steps = s.steps + 1 ∧ Save [g, h, gm, hm] base w w'

theorem acted {w w0 w1 w2 : World} {base g h gm hm : Nat} {s s' : St} (hb : Both w base g h gm hm s) (ho0 : Off [] w w0) (hw1 : IsW w1 g h s') {S : List Nat} (hS : ∀ k, k ∈ S → k = g ∨ k = h) (ho1 : Off S w0 w1) (hm2 : IsM w2 base gm hm s') (ho2 : Save [gm, hm] base w1 w2)
    (hl : s'.row.length = s.row.length) (hs : s'.steps = s.steps + 1) : Acted w base g h gm hm s w2 := by
  obtain ⟨h1, h2, h3, h4⟩ := hb.apart
  refine ⟨s', ⟨hw1.save ho2 (by simp [h1, h2]) (by simp [h3, h4]), hm2, hb.ne, hb.bg, hb.bh⟩, hl, hs, ?_⟩
  refine ((Save.of_off (ho0.more (by simp)) base).trans (Save.of_off (ho1.more (fun k m => ?_)) base)).trans (ho2.more (by intro k m; simp at m; simp; omega))
  have := hS k m
  simp
  omega

set_option maxRecDepth 100000 in
set_option maxHeartbeats 4000000 in
theorem act_load {w : World} {base g h gm hm : Nat} {s : St} (hb : Both w base g h gm hm s) (o c u x : Int) (k : Nat) (hk : k < s.row.length) (hs0 : 0 ≤ s.steps) (hs1 : s.steps < 900) (h1 : o ≤ 1) :
    Calls Try.prog 24 #[.pointer (some ⟨g, 0, none⟩), .pointer (some ⟨gm, 0, none⟩), .agg #[.int .i64 o, .int .i64 c, .int .i64 k, .int .u64 u, .int .u64 x], .bool true] w fun e w' => e = .returned (.bool true) ∧ Acted w base g h gm hm s w' := by
  have D0 := Blk.new w 41 #[.int .i64 o, .int .i64 c, .int .i64 k, .int .u64 u, .int .u64 x]
  have ho0 := (Off.refl [] w).alloc (.cells #[.int .i64 o, .int .i64 c, .int .i64 k, .int .u64 u, .int .u64 x] 41)
  have hb0 := hb.off0 ho0
  have hg := hb.isw.head.lt
  have hh := hb.isw.row.lt
  go_enter Try.func24, Try.ntmps24
  go_wp2_with (first
    | (go_at_call 11; refine (load_in hb0.isw c k hk hs0 (by omega)).mono ?_; rintro e w1 ⟨rfl, hw1, ho1⟩; have hm1 := hb0.left (by simp) ho1; obtain ⟨d0, d1, d2, d3, d4⟩ := deed_cells (ho1.blk D0 (by simp; omega)))
    | (go_at_call 38; refine (rload_in hm1 c k hk hs0 hs1).mono ?_; rintro e w2 ⟨rfl, hm2, ho2⟩))
  go_ret
  exact ⟨rfl, acted hb ho0 hw1 (by simp) ho1 hm2 ho2 (by simp [St.note]) rfl⟩

set_option maxRecDepth 100000 in
set_option maxHeartbeats 4000000 in
theorem act_store {w : World} {base g h gm hm : Nat} {s : St} (hb : Both w base g h gm hm s) (o c u x : Int) (k : Nat) (hk : k < s.row.length) (hs0 : 0 ≤ s.steps) (hs1 : s.steps < 900) (h1 : ¬ o ≤ 1) (h2 : (o == 2) = true) :
    Calls Try.prog 24 #[.pointer (some ⟨g, 0, none⟩), .pointer (some ⟨gm, 0, none⟩), .agg #[.int .i64 o, .int .i64 c, .int .i64 k, .int .u64 u, .int .u64 x], .bool true] w fun e w' => e = .returned (.bool true) ∧ Acted w base g h gm hm s w' := by
  have D0 := Blk.new w 41 #[.int .i64 o, .int .i64 c, .int .i64 k, .int .u64 u, .int .u64 x]
  have ho0 := (Off.refl [] w).alloc (.cells #[.int .i64 o, .int .i64 c, .int .i64 k, .int .u64 u, .int .u64 x] 41)
  have hb0 := hb.off0 ho0
  have hg := hb.isw.head.lt
  have hh := hb.isw.row.lt
  go_enter Try.func24, Try.ntmps24
  go_wp2_with (first
    | (go_at_call 13; refine (store_in hb0.isw c x k hk hs0 (by omega)).mono ?_; rintro e w1 ⟨rfl, hw1, ho1⟩; have hm1 := hb0.left (by simp) ho1; obtain ⟨d0, d1, d2, d3, d4⟩ := deed_cells (ho1.blk D0 (by simp; omega)))
    | (go_at_call 39; refine (rstore_in hm1 c x k hk hs0 hs1).mono ?_; rintro e w2 ⟨rfl, hm2, ho2⟩))
  go_ret
  exact ⟨rfl, acted hb ho0 hw1 (by simp) ho1 hm2 ho2 (by simp [St.note, St.lay]) rfl⟩

set_option maxRecDepth 100000 in
set_option maxHeartbeats 4000000 in
theorem act_swap {w : World} {base g h gm hm : Nat} {s : St} (hb : Both w base g h gm hm s) (o c u x : Int) (k : Nat) (hk : k < s.row.length) (hs0 : 0 ≤ s.steps) (hs1 : s.steps < 900) (h1 : ¬ o ≤ 1) (h2 : (o == 2) = false) (h3 : o ≤ 4) (hq : (s.at k == u) = true) :
    Calls Try.prog 24 #[.pointer (some ⟨g, 0, none⟩), .pointer (some ⟨gm, 0, none⟩), .agg #[.int .i64 o, .int .i64 c, .int .i64 k, .int .u64 u, .int .u64 x], .bool true] w fun e w' => e = .returned (.bool true) ∧ Acted w base g h gm hm s w' := by
  have D0 := Blk.new w 41 #[.int .i64 o, .int .i64 c, .int .i64 k, .int .u64 u, .int .u64 x]
  have ho0 := (Off.refl [] w).alloc (.cells #[.int .i64 o, .int .i64 c, .int .i64 k, .int .u64 u, .int .u64 x] 41)
  have hb0 := hb.off0 ho0
  have hg := hb.isw.head.lt
  have hh := hb.isw.row.lt
  go_enter Try.func24, Try.ntmps24
  go_wp2_with (first
    | (go_at_call 28; refine (swap_yes hb0.isw c u x k hk hs0 (by omega) hq).mono ?_; rintro e w1 ⟨rfl, hw1, ho1⟩; have hm1 := hb0.left (by simp) ho1; obtain ⟨d0, d1, d2, d3, d4⟩ := deed_cells (ho1.blk D0 (by simp; omega)))
    | (go_at_call 40; refine (rswap_yes hm1 c u x k hk hs0 hs1 hq).mono ?_; rintro e w2 ⟨rfl, hm2, ho2⟩))
  go_ret
  exact ⟨rfl, acted hb ho0 hw1 (by simp) ho1 hm2 ho2 (by simp [St.note, St.lay]) rfl⟩

set_option maxRecDepth 100000 in
set_option maxHeartbeats 4000000 in
theorem act_keep {w : World} {base g h gm hm : Nat} {s : St} (hb : Both w base g h gm hm s) (o c u x : Int) (k : Nat) (hk : k < s.row.length) (hs0 : 0 ≤ s.steps) (hs1 : s.steps < 900) (h1 : ¬ o ≤ 1) (h2 : (o == 2) = false) (h3 : o ≤ 4) (hq : (s.at k == u) = false) :
    Calls Try.prog 24 #[.pointer (some ⟨g, 0, none⟩), .pointer (some ⟨gm, 0, none⟩), .agg #[.int .i64 o, .int .i64 c, .int .i64 k, .int .u64 u, .int .u64 x], .bool true] w fun e w' => e = .returned (.bool true) ∧ Acted w base g h gm hm s w' := by
  have D0 := Blk.new w 41 #[.int .i64 o, .int .i64 c, .int .i64 k, .int .u64 u, .int .u64 x]
  have ho0 := (Off.refl [] w).alloc (.cells #[.int .i64 o, .int .i64 c, .int .i64 k, .int .u64 u, .int .u64 x] 41)
  have hb0 := hb.off0 ho0
  have hg := hb.isw.head.lt
  have hh := hb.isw.row.lt
  go_enter Try.func24, Try.ntmps24
  go_wp2_with (first
    | (go_at_call 28; refine (swap_no hb0.isw c u x k hk hs0 (by omega) hq).mono ?_; rintro e w1 ⟨rfl, hw1, ho1⟩; have hm1 := hb0.left (by simp) ho1; obtain ⟨d0, d1, d2, d3, d4⟩ := deed_cells (ho1.blk D0 (by simp; omega)))
    | (go_at_call 40; refine (rswap_no hm1 c u x k hk hs0 hs1 hq).mono ?_; rintro e w2 ⟨rfl, hm2, ho2⟩))
  go_ret
  exact ⟨rfl, acted hb ho0 hw1 (by simp) ho1 hm2 ho2 (by simp [St.note]) rfl⟩

set_option maxRecDepth 100000 in
set_option maxHeartbeats 4000000 in
theorem act_add {w : World} {base g h gm hm : Nat} {s : St} (hb : Both w base g h gm hm s) (o c u x : Int) (k : Nat) (hk : k < s.row.length) (hs0 : 0 ≤ s.steps) (hs1 : s.steps < 900) (h1 : ¬ o ≤ 1) (h2 : (o == 2) = false) (h3 : ¬ o ≤ 4) :
    Calls Try.prog 24 #[.pointer (some ⟨g, 0, none⟩), .pointer (some ⟨gm, 0, none⟩), .agg #[.int .i64 o, .int .i64 c, .int .i64 k, .int .u64 u, .int .u64 x], .bool true] w fun e w' => e = .returned (.bool true) ∧ Acted w base g h gm hm s w' := by
  have D0 := Blk.new w 41 #[.int .i64 o, .int .i64 c, .int .i64 k, .int .u64 u, .int .u64 x]
  have ho0 := (Off.refl [] w).alloc (.cells #[.int .i64 o, .int .i64 c, .int .i64 k, .int .u64 u, .int .u64 x] 41)
  have hb0 := hb.off0 ho0
  have hg := hb.isw.head.lt
  have hh := hb.isw.row.lt
  go_enter Try.func24, Try.ntmps24
  go_wp2_with (first
    | (go_at_call 27; refine (add_in hb0.isw c x k hk hs0 (by omega)).mono ?_; rintro e w1 ⟨rfl, hw1, ho1⟩; have hm1 := hb0.left (by simp) ho1; obtain ⟨d0, d1, d2, d3, d4⟩ := deed_cells (ho1.blk D0 (by simp; omega)))
    | (go_at_call 41; refine (radd_in hm1 c x k hk hs0 hs1).mono ?_; rintro e w2 ⟨rfl, hm2, ho2⟩))
  go_ret
  exact ⟨rfl, acted hb ho0 hw1 (by simp) ho1 hm2 ho2 (by simp [St.note, St.lay]) rfl⟩

/-- In place. -/
theorem act_in {w : World} {base g h gm hm : Nat} {s : St} (hb : Both w base g h gm hm s) (o c u x : Int) (k : Nat) (hk : k < s.row.length) (hs0 : 0 ≤ s.steps) (hs1 : s.steps < 900) :
    Calls Try.prog 24 #[.pointer (some ⟨g, 0, none⟩), .pointer (some ⟨gm, 0, none⟩), .agg #[.int .i64 o, .int .i64 c, .int .i64 k, .int .u64 u, .int .u64 x], .bool true] w fun e w' => e = .returned (.bool true) ∧ Acted w base g h gm hm s w' := by
  by_cases h1 : o ≤ 1
  · exact act_load hb o c u x k hk hs0 hs1 h1
  · by_cases h2 : o = 2
    · exact act_store hb o c u x k hk hs0 hs1 h1 (by simp [h2])
    · by_cases h3 : o ≤ 4
      · by_cases hq : s.at k = u
        · exact act_swap hb o c u x k hk hs0 hs1 h1 (by simp [h2]) h3 (by simp [hq])
        · exact act_keep hb o c u x k hk hs0 hs1 h1 (by simp [h2]) h3 (by simp [hq])
      · exact act_add hb o c u x k hk hs0 hs1 h1 (by simp [h2]) h3

set_option maxRecDepth 100000 in
set_option maxHeartbeats 4000000 in
theorem actout_load {w : World} {base g h gm hm : Nat} {s : St} (hb : Both w base g h gm hm s) (o c p u x : Int) (hp : ¬ (0 ≤ p ∧ p < s.row.length)) (h1 : o ≤ 1) :
    Calls Try.prog 24 #[.pointer (some ⟨g, 0, none⟩), .pointer (some ⟨gm, 0, none⟩), .agg #[.int .i64 o, .int .i64 c, .int .i64 p, .int .u64 u, .int .u64 x], .bool false] w fun e w' => Off [] w w' ∧ ∃ t v, e = .panicked [{ v := .iface t v, recovered := false }] := by
  have ho0 := (Off.refl [] w).alloc (.cells #[.int .i64 o, .int .i64 c, .int .i64 p, .int .u64 u, .int .u64 x] 41)
  have hb0 := hb.off0 ho0
  go_enter Try.func24, Try.ntmps24
  go_wp2_with (go_at_call 11; refine (load_out hb0.isw c p hp).mono ?_; rintro e w1 ⟨rfl, t, v, rfl⟩)
  exact ⟨rfl, ho0, _, _, rfl⟩

set_option maxRecDepth 100000 in
set_option maxHeartbeats 4000000 in
theorem actout_store {w : World} {base g h gm hm : Nat} {s : St} (hb : Both w base g h gm hm s) (o c p u x : Int) (hp : ¬ (0 ≤ p ∧ p < s.row.length)) (h1 : ¬ o ≤ 1) (h2 : (o == 2) = true) :
    Calls Try.prog 24 #[.pointer (some ⟨g, 0, none⟩), .pointer (some ⟨gm, 0, none⟩), .agg #[.int .i64 o, .int .i64 c, .int .i64 p, .int .u64 u, .int .u64 x], .bool false] w fun e w' => Off [] w w' ∧ ∃ t v, e = .panicked [{ v := .iface t v, recovered := false }] := by
  have ho0 := (Off.refl [] w).alloc (.cells #[.int .i64 o, .int .i64 c, .int .i64 p, .int .u64 u, .int .u64 x] 41)
  have hb0 := hb.off0 ho0
  go_enter Try.func24, Try.ntmps24
  go_wp2_with (go_at_call 13; refine (store_out hb0.isw c x p hp).mono ?_; rintro e w1 ⟨rfl, t, v, rfl⟩)
  exact ⟨rfl, ho0, _, _, rfl⟩

set_option maxRecDepth 100000 in
set_option maxHeartbeats 4000000 in
theorem actout_swap {w : World} {base g h gm hm : Nat} {s : St} (hb : Both w base g h gm hm s) (o c p u x : Int) (hp : ¬ (0 ≤ p ∧ p < s.row.length)) (h1 : ¬ o ≤ 1) (h2 : (o == 2) = false) (h3 : o ≤ 4) :
    Calls Try.prog 24 #[.pointer (some ⟨g, 0, none⟩), .pointer (some ⟨gm, 0, none⟩), .agg #[.int .i64 o, .int .i64 c, .int .i64 p, .int .u64 u, .int .u64 x], .bool false] w fun e w' => Off [] w w' ∧ ∃ t v, e = .panicked [{ v := .iface t v, recovered := false }] := by
  have ho0 := (Off.refl [] w).alloc (.cells #[.int .i64 o, .int .i64 c, .int .i64 p, .int .u64 u, .int .u64 x] 41)
  have hb0 := hb.off0 ho0
  go_enter Try.func24, Try.ntmps24
  go_wp2_with (go_at_call 28; refine (swap_out hb0.isw c u x p hp).mono ?_; rintro e w1 ⟨rfl, t, v, rfl⟩)
  exact ⟨rfl, ho0, _, _, rfl⟩

set_option maxRecDepth 100000 in
set_option maxHeartbeats 4000000 in
theorem actout_add {w : World} {base g h gm hm : Nat} {s : St} (hb : Both w base g h gm hm s) (o c p u x : Int) (hp : ¬ (0 ≤ p ∧ p < s.row.length)) (h1 : ¬ o ≤ 1) (h2 : (o == 2) = false) (h3 : ¬ o ≤ 4) :
    Calls Try.prog 24 #[.pointer (some ⟨g, 0, none⟩), .pointer (some ⟨gm, 0, none⟩), .agg #[.int .i64 o, .int .i64 c, .int .i64 p, .int .u64 u, .int .u64 x], .bool false] w fun e w' => Off [] w w' ∧ ∃ t v, e = .panicked [{ v := .iface t v, recovered := false }] := by
  have ho0 := (Off.refl [] w).alloc (.cells #[.int .i64 o, .int .i64 c, .int .i64 p, .int .u64 u, .int .u64 x] 41)
  have hb0 := hb.off0 ho0
  go_enter Try.func24, Try.ntmps24
  go_wp2_with (go_at_call 27; refine (add_out hb0.isw c x p hp).mono ?_; rintro e w1 ⟨rfl, t, v, rfl⟩)
  exact ⟨rfl, ho0, _, _, rfl⟩

/-- Out of place. -/
theorem act_out {w : World} {base g h gm hm : Nat} {s : St} (hb : Both w base g h gm hm s) (o c p u x : Int) (hp : ¬ (0 ≤ p ∧ p < s.row.length)) :
    Calls Try.prog 24 #[.pointer (some ⟨g, 0, none⟩), .pointer (some ⟨gm, 0, none⟩), .agg #[.int .i64 o, .int .i64 c, .int .i64 p, .int .u64 u, .int .u64 x], .bool false] w fun e w' => Off [] w w' ∧ ∃ t v, e = .panicked [{ v := .iface t v, recovered := false }] := by
  by_cases h1 : o ≤ 1
  · exact actout_load hb o c p u x hp h1
  · by_cases h2 : o = 2
    · exact actout_store hb o c p u x hp h1 (by simp [h2])
    · by_cases h3 : o ≤ 4
      · exact actout_swap hb o c p u x hp h1 (by simp [h2]) h3
      · exact actout_add hb o c p u x hp h1 (by simp [h2]) h3

end Go.Proofs.Ytaegjkpodhkogaa.Words
