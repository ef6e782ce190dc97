/- WordsGuards: its guarded functions. -/
import Derived.Test.YtaegjkpodhkogaaWordsD
import Derived.Test.YtaegjkpodhkogaaCountsW
import Derived.BigQuiet
import Derived.Deep.QuietTactic
import Derived.Deep.RegionHeld3
import Derived.RegionTactic
namespace Go.Proofs.Ytaegjkpodhkogaa.Words
open Go.RowKit Mem Go.Proofs.Ytaegjkpodhkogaa.Open

theorem asks_guards1 (cap : Array Value) : Asks 29 cap := fun _ => by kernel_rfl
theorem asks_guards11 (cap : Array Value) : Asks 30 cap := fun _ => by kernel_rfl
theorem asks_guards2 (cap : Array Value) : Asks 31 cap := fun _ => by kernel_rfl
theorem asks_guards3 (cap : Array Value) : Asks 32 cap := fun _ => by kernel_rfl

/-- What the words are when k steps have been done: place 1 holds a, place 2 b, place 3 c. -/
structure Deeply (w' : World) (g h : Nat) (s : St) (a b c : Int) : Prop where
  isw : IsW w' g h s
  len : s.row.length = 4
  at1 : s.at 1 = a
  at2 : s.at 2 = b
  at3 : s.at 3 = c
  lo : 0 ≤ s.steps
  hi : s.steps < 1000

section
variable {g h q qa qk : Nat} {w : World}

/-- The inner one, at a place that is there. -/
theorem inner_in {s : St} {a c at_ : Int} (hq : Blk w q 23 #[.pointer (some ⟨g, 0, none⟩)]) (ha : Blk w qa 3 #[.int .i64 at_]) (hd : Deeply w g h s a 0 c) (hin : 0 ≤ at_ ∧ at_ < 4) (hm : s.steps < 100) :
    Calls Try.prog 30 #[.pointer (some ⟨q, 0, none⟩), .pointer (some ⟨qa, 0, none⟩)] w fun e w' => e = .returned (.tuple #[]) ∧ (∃ s', Deeply w' g h s' a 7 c ∧ s'.steps < 200) ∧ Off [g, h] w w' := by
  obtain ⟨k, rfl⟩ : ∃ k : Nat, at_ = (k : Int) := ⟨at_.toNat, by omega⟩
  have c0 := hq.cell 0
  have hlo := hd.lo
  have hhi := hd.hi
  have hlen := Lib.hid hd.len
  have hqg := hq.ne hd.isw.head (by decide)
  have hqh := hq.ne hd.isw.row (by decide)
  have hag := ha.ne hd.isw.head (by decide)
  have hah := ha.ne hd.isw.row (by decide)
  go_enter Try.func30, Try.ntmps30
  go_wp2_with (first
    | (go_at_call 13; refine (store_in hd.isw 1 7 2 (by rw [hlen.out]; omega) hlo (by omega)).mono ?_; rintro e w1 ⟨rfl, hw1, ho1⟩; have hq1 := (ho1.blk hq (by simp [hqg, hqh])).cell 0; have ha1 := (ho1.blk ha (by simp [hag, hah])).cell 0)
    | (go_at_call 11; refine (load_in hw1 1 k (by rw [length_lay, length_note, hlen.out]; omega) (by show 0 ≤ s.steps + 1; omega) (by show s.steps + 1 < 9223372036854775807; omega)).mono ?_; rintro e w2 ⟨rfl, hw2, ho2⟩))
  go_end0
  have h2 : 2 < (s.note ⟨1, 1, 2, s.at 2, 7, true⟩).row.length := by rw [length_note, hlen.out]; omega
  refine ⟨rfl, ⟨_, ⟨hw2, ?_, ?_, ?_, ?_, ?_, ?_⟩, ?_⟩, ho1.trans (ho2.more (by simp))⟩
  · rw [length_note, length_lay, length_note, hlen.out]
  · rw [at_note, at_lay_other _ _ _ _ (by omega), at_note, hd.at1]
  · rw [at_note]; exact at_lay_same _ _ _ h2
  · rw [at_note, at_lay_other _ _ _ _ (by omega), at_note, hd.at3]
  · show 0 ≤ s.steps + 1 + 1; omega
  · show s.steps + 1 + 1 < 1000; omega
  · show s.steps + 1 + 1 < 200; omega

/-- The inner one, at a place that is not there: what was done ahead of it stays done. -/
theorem inner_out {s : St} {a c at_ : Int} (hq : Blk w q 23 #[.pointer (some ⟨g, 0, none⟩)]) (ha : Blk w qa 3 #[.int .i64 at_]) (hd : Deeply w g h s a 0 c) (hin : ¬ (0 ≤ at_ ∧ at_ < 4)) (hm : s.steps < 100) :
    Calls Try.prog 30 #[.pointer (some ⟨q, 0, none⟩), .pointer (some ⟨qa, 0, none⟩)] w fun e w' => ((∃ s', Deeply w' g h s' a 7 c ∧ s'.steps < 200) ∧ Off [g, h] w w') ∧ ∃ t v, e = .panicked [{ v := .iface t v, recovered := false }] := by
  have c0 := hq.cell 0
  have hlo := hd.lo
  have hhi := hd.hi
  have hlen := Lib.hid hd.len
  have hqg := hq.ne hd.isw.head (by decide)
  have hqh := hq.ne hd.isw.row (by decide)
  have hag := ha.ne hd.isw.head (by decide)
  have hah := ha.ne hd.isw.row (by decide)
  go_enter Try.func30, Try.ntmps30
  go_wp2_with (first
    | (go_at_call 13; refine (store_in hd.isw 1 7 2 (by rw [hlen.out]; omega) hlo (by omega)).mono ?_; rintro e w1 ⟨rfl, hw1, ho1⟩; have hq1 := (ho1.blk hq (by simp [hqg, hqh])).cell 0; have ha1 := (ho1.blk ha (by simp [hag, hah])).cell 0)
    | (go_at_call 11; refine (load_out hw1 1 at_ (by rw [length_lay, length_note, hlen.out]; exact hin)).mono ?_; rintro e w2 ⟨rfl, t, v, rfl⟩))
  have h2 : 2 < (s.note ⟨1, 1, 2, s.at 2, 7, true⟩).row.length := by rw [length_note, hlen.out]; omega
  refine ⟨rfl, ⟨⟨_, ⟨hw1, ?_, ?_, ?_, ?_, ?_, ?_⟩, ?_⟩, ho1⟩, _, _, rfl⟩
  · rw [length_lay, length_note, hlen.out]
  · rw [at_lay_other _ _ _ _ (by omega), at_note, hd.at1]
  · exact at_lay_same _ _ _ h2
  · rw [at_lay_other _ _ _ _ (by omega), at_note, hd.at3]
  · show 0 ≤ s.steps + 1; omega
  · show s.steps + 1 < 1000; omega
  · show s.steps + 1 < 200; omega

theorem guard_inner_in {s : St} {a c at_ : Int} (hq : Blk w q 23 #[.pointer (some ⟨g, 0, none⟩)]) (ha : Blk w qa 3 #[.int .i64 at_]) (hd : Deeply w g h s a 0 c) (hin : 0 ≤ at_ ∧ at_ < 4) (hm : s.steps < 100) :
    Calls Try.prog 15 #[.func (.func 30) #[] #[.pointer (some ⟨q, 0, none⟩), .pointer (some ⟨qa, 0, none⟩)]] w fun e w' => e = .returned (.bool true) ∧ (∃ s', Deeply w' g h s' a 7 c ∧ s'.steps < 200) ∧ Off [g, h] w w' :=
  guard_ends _ _ (asks_guards11 _) w (fun w' => (∃ s', Deeply w' g h s' a 7 c ∧ s'.steps < 200) ∧ Off [g, h] w w') (inner_in hq ha hd hin hm)
theorem guard_inner_out {s : St} {a c at_ : Int} (hq : Blk w q 23 #[.pointer (some ⟨g, 0, none⟩)]) (ha : Blk w qa 3 #[.int .i64 at_]) (hd : Deeply w g h s a 0 c) (hin : ¬ (0 ≤ at_ ∧ at_ < 4)) (hm : s.steps < 100) :
    Calls Try.prog 15 #[.func (.func 30) #[] #[.pointer (some ⟨q, 0, none⟩), .pointer (some ⟨qa, 0, none⟩)]] w fun e w' => e = .returned (.bool false) ∧ (∃ s', Deeply w' g h s' a 7 c ∧ s'.steps < 200) ∧ Off [g, h] w w' :=
  guard_panics _ _ (asks_guards11 _) w (fun w' => (∃ s', Deeply w' g h s' a 7 c ∧ s'.steps < 200) ∧ Off [g, h] w w') (inner_out hq ha hd hin hm)

/-- nil words. -/
theorem guard_nothing (hq : Blk w q 23 #[.pointer none]) :
    Calls Try.prog 15 #[.func (.func 31) #[] #[.pointer (some ⟨q, 0, none⟩)]] w fun e w' => e = .returned (.bool false) ∧ w = w' := by
  refine guard_panics _ _ (asks_guards2 _) w (fun w' => w = w') ?_
  have c0 := hq.cell 0
  go_enter Try.func31, Try.ntmps31
  go_wp2_with (go_at_call 11; refine (load_nil 0 0 _).mono ?_; rintro e w' ⟨rfl, t, v, rfl⟩)
  exact ⟨rfl, rfl, _, _, rfl⟩

set_option maxHeartbeats 2000000 in
/-- No words at all. -/
theorem guard_empty {x : ByteArray} (hq : Blk w q 9 #[.string x]) :
    Calls Try.prog 15 #[.func (.func 32) #[] #[.pointer (some ⟨q, 0, none⟩)]] w fun e w' => e = .returned (.bool false) ∧ Off [] w w' := by
  refine guard_panics _ _ (asks_guards3 _) w (fun w' => Off [] w w') ?_
  have c0 := hq.cell 0
  have HQ := Lib.hid hq
  clear hq
  go_enter Try.func32, Try.ntmps32
  go_wp2_with fail
  refine wp_region_any (by kernel_rfl) ?_
  change wpAny _ _ _ _ _ _ _ (World.drew _)
  refine wpAny_ready (rs := [0, 1]) (by kernel_rfl) (by simp) (AllReady.cons rfl (fun K hK => ?_) (AllReady.cons rfl (fun K hK => ?_) AllReady.nil))
  · go_simp
    go_wp2_with (go_at_call 9; refine (new_in 0 (by omega) _).mono ?_; rintro e w1 ⟨g, h, rfl, hw1, ho1, hg, hh⟩; have c1 := (ho1.blk (show Blk _ q 9 #[.string x] from ⟨HQ.out.eq⟩) (by simp)).cell 0; have ho2 : Off [] w w1 := ⟨ho1.os, ho1.tape, ho1.output, ho1.size, ho1.block⟩)
    refine wpAny_ready (rs := [1]) (by kernel_rfl) (by simp) (AllReady.cons rfl (fun K hK => ?_) AllReady.nil)
    go_simp
    refine hK _ _ ?_
    clear hK K
    refine wpAny_ready (rs := [2]) (by kernel_rfl) (by simp) (AllReady.cons rfl (fun K hK => ?_) AllReady.nil)
    go_simp
    refine hK _ _ ?_
    clear hK K
    refine wpAny_ready (rs := [3]) (by kernel_rfl) (by simp) (AllReady.cons rfl (fun K hK => ?_) AllReady.nil)
    go_simp
    refine (load_out hw1 0 _ (by simp [St.new])).mono ?_
    rintro e w2 ⟨rfl, t, v, rfl⟩
    exact ⟨rfl, ho2, _, _, rfl⟩
  · go_simp
    refine hK _ _ ?_
    clear hK K
    refine wpAny_ready (rs := [0, 2]) (by kernel_rfl) (by simp) (AllReady.cons rfl (fun K hK => ?_) (AllReady.cons rfl (fun K hK => ?_) AllReady.nil))
    · go_simp
      go_wp2_with (go_at_call 9; refine (new_in 0 (by omega) _).mono ?_; rintro e w1 ⟨g, h, rfl, hw1, ho1, hg, hh⟩; have c1 := (ho1.blk (show Blk _ q 9 #[.string x] from ⟨HQ.out.eq⟩) (by simp)).cell 0; have ho2 : Off [] w w1 := ⟨ho1.os, ho1.tape, ho1.output, ho1.size, ho1.block⟩)
      refine wpAny_ready (rs := [2]) (by kernel_rfl) (by simp) (AllReady.cons rfl (fun K hK => ?_) AllReady.nil)
      go_simp
      refine hK _ _ ?_
      clear hK K
      refine wpAny_ready (rs := [3]) (by kernel_rfl) (by simp) (AllReady.cons rfl (fun K hK => ?_) AllReady.nil)
      go_simp
      refine (load_out hw1 0 _ (by simp [St.new])).mono ?_
      rintro e w2 ⟨rfl, t, v, rfl⟩
      exact ⟨rfl, ho2, _, _, rfl⟩
    · go_simp
      refine hK _ _ ?_
      clear hK K
      refine wpAny_ready (rs := [0]) (by kernel_rfl) (by simp) (AllReady.cons rfl (fun K hK => ?_) AllReady.nil)
      go_simp
      go_wp2_with (go_at_call 9; refine (new_in 0 (by omega) _).mono ?_; rintro e w1 ⟨g, h, rfl, hw1, ho1, hg, hh⟩; have c1 := (ho1.blk (show Blk _ q 9 #[.string x] from ⟨HQ.out.eq⟩) (by simp)).cell 0; have ho2 : Off [] w w1 := ⟨ho1.os, ho1.tape, ho1.output, ho1.size, ho1.block⟩)
      refine wpAny_ready (rs := [3]) (by kernel_rfl) (by simp) (AllReady.cons rfl (fun K hK => ?_) AllReady.nil)
      go_simp
      refine (load_out hw1 0 _ (by simp [St.new])).mono ?_
      rintro e w2 ⟨rfl, t, v, rfl⟩
      exact ⟨rfl, ho2, _, _, rfl⟩

def DeepRel (w : World) (g h k : Nat) (i : Value) (wr : World) : Prop :=
  ∃ (j : Nat) (s : St), j ≤ k ∧ i = .int .i64 j ∧ Deeply wr g h s j 0 0 ∧ s.steps = j ∧ Off [g, h] w wr

theorem deep_add {w' : World} {s : St} {j : Nat} {a : Acc} (hd : s.row.length = 4 ∧ s.at 1 = (j : Int) ∧ s.at 2 = 0 ∧ s.at 3 = 0 ∧ s.steps = (j : Int)) (hj : j < 20)
    (hw : IsW w' g h ((s.note a).lay 1 (IntKind.u64.wrap (s.at 1 + 1)))) : Deeply w' g h ((s.note a).lay 1 (IntKind.u64.wrap (s.at 1 + 1))) ((j + 1 : Nat) : Int) 0 0 ∧ ((s.note a).lay 1 (IntKind.u64.wrap (s.at 1 + 1))).steps = ((j + 1 : Nat) : Int) := by
  obtain ⟨h0, h1, h2, h3, h4⟩ := hd
  have hl : 1 < (s.note a).row.length := by rw [length_note, h0]; omega
  have e : ((s.note a).lay 1 (IntKind.u64.wrap (s.at 1 + 1))).steps = ((j + 1 : Nat) : Int) := by show s.steps + 1 = _; rw [h4]; omega
  refine ⟨⟨hw, by rw [length_lay, length_note, h0], ?_, ?_, ?_, by rw [e]; omega, by rw [e]; omega⟩, e⟩
  · rw [at_lay_same _ _ _ hl, h1, wrap_u64]; omega
  · rw [at_lay_other _ _ _ _ (by omega), at_note, h2]
  · rw [at_lay_other _ _ _ _ (by omega), at_note, h3]

theorem deep_last {w' : World} {s : St} {a b : Int} {x : Acc} (hd : Deeply w' g h s a b 0) (hs : s.steps < 200) {w'' : World} (hw : IsW w'' g h ((s.note x).lay 3 9)) : Deeply w'' g h ((s.note x).lay 3 9) a b 9 := by
  have hl : 3 < (s.note x).row.length := by rw [length_note, hd.len]; omega
  have h0 := hd.lo
  refine ⟨hw, by rw [length_lay, length_note, hd.len], ?_, ?_, at_lay_same _ _ _ hl, ?_, ?_⟩
  · rw [at_lay_other _ _ _ _ (by omega), at_note, hd.at1]
  · rw [at_lay_other _ _ _ _ (by omega), at_note, hd.at2]
  · show 0 ≤ s.steps + 1; omega
  · show s.steps + 1 < 1000; omega

set_option maxHeartbeats 2000000 in
theorem guard_deep {s : St} {at_ : Int} {k : Nat} (hk : k < 20) (hqk : Blk w qk 3 #[.int .i64 (k : Int)]) (hq : Blk w q 23 #[.pointer (some ⟨g, 0, none⟩)]) (ha : Blk w qa 3 #[.int .i64 at_])
    (hd : Deeply w g h s 0 0 0) (hs : s.steps = 0) :
    Calls Try.prog 15 #[.func (.func 29) #[] #[.pointer (some ⟨qk, 0, none⟩), .pointer (some ⟨q, 0, none⟩), .pointer (some ⟨qa, 0, none⟩)]] w
      fun e w' => e = .returned (.bool true) ∧ (∃ s', Deeply w' g h s' k 7 (if 0 ≤ at_ ∧ at_ < 4 then 0 else 9)) ∧ Off [g, h] w w' := by
  refine guard_ends _ _ (asks_guards1 _) w (fun w' => (∃ s', Deeply w' g h s' k 7 (if 0 ≤ at_ ∧ at_ < 4 then 0 else 9)) ∧ Off [g, h] w w') ?_
  have hqg := hq.ne hd.isw.head (by decide)
  have hqh := hq.ne hd.isw.row (by decide)
  have hag := ha.ne hd.isw.head (by decide)
  have hah := ha.ne hd.isw.row (by decide)
  have hkg := hqk.ne hd.isw.head (by decide)
  have hkh := hqk.ne hd.isw.row (by decide)
  have HQ := Lib.hid (fun (w' : World) (ho : Off [g, h] w w') => ho.blk hq (by simp [hqg, hqh]))
  have HA := Lib.hid (fun (w' : World) (ho : Off [g, h] w w') => ho.blk ha (by simp [hag, hah]))
  have HK := Lib.hid (fun (w' : World) (ho : Off [g, h] w w') => ho.blk hqk (by simp [hkg, hkh]))
  have HS := Lib.hid hs
  clear hs hq ha hqk
  go_enter Try.func29, Try.ntmps29
  go_wp2_with fail
  go_loopw [3] (fun i wr => DeepRel w g h k i wr) (fun i _ => k - (intOf i).toNat)
  case atStart => exact ⟨0, s, Nat.zero_le _, rfl, hd, HS.out, Off.refl _ _⟩
  case round =>
    obtain ⟨j, s1, hj, rfl, hd1, hs1, ho1⟩ := hrel
    have ck := (HK.out wr ho1).cell 0
    have cq := (HQ.out wr ho1).cell 0
    have hl1 := Lib.hid (show s1.row.length = 4 ∧ s1.at 1 = (j : Int) ∧ s1.at 2 = 0 ∧ s1.at 3 = 0 ∧ s1.steps = (j : Int) from ⟨hd1.len, hd1.at1, hd1.at2, hd1.at3, hs1⟩)
    have hlo := hd1.lo
    have hhi := hd1.hi
    have hst : s1.steps < 100 := by omega
    clear hs1
    by_cases hlt : j < k
    · have hi : (j : Int) < (k : Int) := by omega
      go_wp2_with (go_at_call 27; refine (add_in hd1.isw 0 1 1 (by rw [hl1.out.1]; omega) hlo (by omega)).mono ?_; rintro e w2 ⟨rfl, hw2, ho2⟩)
      go_roundw
      case rel => exact ⟨j + 1, _, by omega, by go_num, (deep_add hl1.out (by omega) hw2).1, (deep_add hl1.out (by omega) hw2).2, ho1.trans ho2⟩
      case measure => simp [intOf]; omega
    · obtain rfl : j = k := by omega
      have hmf : ∀ (fn : Fn) (first cap : Array Value) (w : World), (Instr.makeFunc fn first cap).run Try.prog w = .ok (.func fn first cap) w := fun _ _ _ _ => rfl
      by_cases hin : 0 ≤ at_ ∧ at_ < 4
      · go_wp2_with (go_at_call 15; refine (guard_inner_in (HQ.out wr ho1) (HA.out wr ho1) hd1 hin hst).mono ?_; rintro e w2 ⟨rfl, ⟨s2, hd2, hs2⟩, ho2⟩)
        go_end0
        exact ⟨rfl, ⟨s2, hd2⟩, ho1.trans ho2⟩
      · go_wp2_with (first
          | (go_at_call 15; refine (guard_inner_out (HQ.out wr ho1) (HA.out wr ho1) hd1 hin hst).mono ?_; rintro e w2 ⟨rfl, ⟨s2, hd2, hs2⟩, ho2⟩; have cq2 := (HQ.out w2 (ho1.trans ho2)).cell 0; have hl2 := Lib.hid hd2.len; have hlo2 := hd2.lo)
          | (go_at_call 13; refine (store_in hd2.isw 1 9 3 (by rw [hl2.out]; omega) hlo2 (by omega)).mono ?_; rintro e w3 ⟨rfl, hw3, ho3⟩))
        go_end0
        exact ⟨rfl, ⟨_, deep_last hd2 hs2 hw3⟩, (ho1.trans ho2).trans ho3⟩
end

end Go.Proofs.Ytaegjkpodhkogaa.Words
