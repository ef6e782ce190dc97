/- WordsCounts: the walk. -/
import Derived.Test.YtaegjkpodhkogaaWordsC
import Derived.Test.YtaegjkpodhkogaaOpenU
namespace Go.Proofs.Ytaegjkpodhkogaa.Words
open Go.RowKit Mem Go.Proofs.Ytaegjkpodhkogaa.Open

theorem at_note (s : St) (a : Acc) (k : Nat) : (s.note a).at k = s.at k := rfl
theorem at_lay_same (s : St) (k : Nat) (x : Int) (h : k < s.row.length) : (s.lay k x).at k = x := by simp [St.at, St.lay, h]
theorem at_lay_other (s : St) (k j : Nat) (x : Int) (h : k ≠ j) : (s.lay k x).at j = s.at j := by simp [St.at, St.lay, h]
theorem length_note (s : St) (a : Acc) : (s.note a).row.length = s.row.length := rfl
theorem length_lay (s : St) (k : Nat) (x : Int) : (s.lay k x).row.length = s.row.length := by simp [St.lay]
theorem at_new (n k : Nat) : (St.new n).at k = 0 := by
  rcases Nat.lt_or_ge k n with c | c <;> simp [St.at, St.new, c]

theorem look_i {g h : Nat} {s : St} {w : World} (hw : IsW w g h s) (a : Int) (k : Nat) (e : a = k) (hk : k < s.row.length) :
    Calls Try.prog 18 #[.pointer (some ⟨g, 0, none⟩), .int .i64 a] w fun e w' => e = .returned (.int .u64 (s.at k)) ∧ w = w' := by
  subst e; exact look_in hw k hk

section
variable {g h : Nat} {s : St} {w : World}
theorem load_i (hw : IsW w g h s) (c a : Int) (k : Nat) (e : a = k) (hk : k < s.row.length) (hs0 : 0 ≤ s.steps) (hs1 : s.steps < 9223372036854775807) :
    Calls Try.prog 11 #[.pointer (some ⟨g, 0, none⟩), .int .i64 c, .int .i64 a] w fun e w' => e = .returned (.int .u64 (s.at k)) ∧ IsW w' g h (s.note ⟨c, 0, k, s.at k, 0, true⟩) ∧ Off [g] w w' := by
  subst e; exact load_in hw c k hk hs0 hs1
theorem store_i (hw : IsW w g h s) (c a x : Int) (k : Nat) (e : a = k) (hk : k < s.row.length) (hs0 : 0 ≤ s.steps) (hs1 : s.steps < 9223372036854775807) :
    Calls Try.prog 13 #[.pointer (some ⟨g, 0, none⟩), .int .i64 c, .int .i64 a, .int .u64 x] w fun e w' => e = .returned (.tuple #[]) ∧ IsW w' g h ((s.note ⟨c, 1, k, s.at k, x, true⟩).lay k x) ∧ Off [g, h] w w' := by
  subst e; exact store_in hw c x k hk hs0 hs1
theorem swap_yes_i (hw : IsW w g h s) (c a was x : Int) (k : Nat) (e : a = k) (hk : k < s.row.length) (hs0 : 0 ≤ s.steps) (hs1 : s.steps < 9223372036854775807) (hq : (s.at k == was) = true) :
    Calls Try.prog 28 #[.pointer (some ⟨g, 0, none⟩), .int .i64 c, .int .i64 a, .int .u64 was, .int .u64 x] w fun e w' => e = .returned (.bool true) ∧ IsW w' g h ((s.note ⟨c, 2, k, s.at k, x, true⟩).lay k x) ∧ Off [g, h] w w' := by
  subst e; exact swap_yes hw c was x k hk hs0 hs1 hq
theorem swap_no_i (hw : IsW w g h s) (c a was x : Int) (k : Nat) (e : a = k) (hk : k < s.row.length) (hs0 : 0 ≤ s.steps) (hs1 : s.steps < 9223372036854775807) (hq : (s.at k == was) = false) :
    Calls Try.prog 28 #[.pointer (some ⟨g, 0, none⟩), .int .i64 c, .int .i64 a, .int .u64 was, .int .u64 x] w fun e w' => e = .returned (.bool false) ∧ IsW w' g h (s.note ⟨c, 2, k, s.at k, x, false⟩) ∧ Off [g, h] w w' := by
  subst e; exact swap_no hw c was x k hk hs0 hs1 hq
theorem add_i (hw : IsW w g h s) (c a x : Int) (k : Nat) (e : a = k) (hk : k < s.row.length) (hs0 : 0 ≤ s.steps) (hs1 : s.steps < 9223372036854775807) :
    Calls Try.prog 27 #[.pointer (some ⟨g, 0, none⟩), .int .i64 c, .int .i64 a, .int .u64 x] w fun e w' => e = .returned (.int .u64 (s.at k)) ∧ IsW w' g h ((s.note ⟨c, 3, k, s.at k, x, true⟩).lay k (IntKind.u64.wrap (s.at k + x))) ∧ Off [g, h] w w' := by
  subst e; exact add_in hw c x k hk hs0 hs1
end

/-- How many steps j words take. -/
def stepsOf (j : Nat) : Int := (j + 1) / 2 + 3 * (j / 2)

/-- What holds when j words are done. -/
structure Counted (w : World) (g h k j : Nat) (wr : World) (s : St) : Prop where
  isw : IsW wr g h s
  len : s.row.length = 3
  lo : 0 ≤ s.at k
  hi : s.at k < 18446744073709551616
  next : s.at ((k + 1) % 3) = 0
  steps : s.steps = stepsOf j
  off : Off [] w wr

theorem wrap_u64 (n : Int) : IntKind.u64.wrap n = n % 18446744073709551616 := rfl

theorem Counted.add {w wr w' : World} {g h k j : Nat} {s : St} {x : Int} {a : Acc} (hc : Counted w g h k j wr s) (hk : k < 3) (hj : j % 2 = 0) (hg : w.heap.size ≤ g) (hh : w.heap.size ≤ h)
    (hw : IsW w' g h ((s.note a).lay k (IntKind.u64.wrap (s.at k + x)))) (ho : Off [g, h] wr w') : Counted w g h k (j + 1) w' ((s.note a).lay k (IntKind.u64.wrap (s.at k + x))) := by
  have hl : k < (s.note a).row.length := by rw [length_note, hc.len]; exact hk
  refine ⟨hw, ?_, ?_, ?_, ?_, ?_, hc.off.trans' ho ?_⟩
  · rw [length_lay, length_note, hc.len]
  · rw [at_lay_same _ _ _ hl, wrap_u64]; omega
  · rw [at_lay_same _ _ _ hl, wrap_u64]; omega
  · rw [at_lay_other _ _ _ _ (by omega), at_note, hc.next]
  · show s.steps + 1 = _
    rw [hc.steps]; unfold stepsOf; omega
  · intro i hi
    simp at hi
    omega

theorem Counted.swap {w wr w' : World} {g h k j : Nat} {s : St} {x : Int} {a b c : Acc} (hc : Counted w g h k j wr s) (hk : k < 3) (hj : j % 2 = 1) (hx : 0 ≤ x ∧ x < 18446744073709551616) (hg : w.heap.size ≤ g) (hh : w.heap.size ≤ h)
    (hw : IsW w' g h ((((s.note a).note b).note c).lay k x)) (ho : Off [g, h] wr w') : Counted w g h k (j + 1) w' ((((s.note a).note b).note c).lay k x) := by
  have hl : k < (((s.note a).note b).note c).row.length := by rw [length_note, length_note, length_note, hc.len]; exact hk
  refine ⟨hw, ?_, ?_, ?_, ?_, ?_, hc.off.trans' ho ?_⟩
  · rw [length_lay, length_note, length_note, length_note, hc.len]
  · rw [at_lay_same _ _ _ hl]; exact hx.1
  · rw [at_lay_same _ _ _ hl]; exact hx.2
  · rw [at_lay_other _ _ _ _ (by omega), at_note, at_note, at_note, hc.next]
  · show s.steps + 1 + 1 + 1 = _
    rw [hc.steps]; unfold stepsOf; omega
  · intro i hi
    simp at hi
    omega

theorem stepsOf_bound (j : Nat) (h : j ≤ 100) : 0 ≤ stepsOf j ∧ stepsOf j < 1000 := by unfold stepsOf; omega

def CountRel (w : World) (g h k len : Nat) (u i : Value) (wr : World) : Prop :=
  ∃ (j : Nat) (s : St), j ≤ len ∧ i = .int .i64 j ∧ u = .int .u64 (s.at k) ∧ Counted w g h k j wr s

set_option maxRecDepth 100000 in
set_option maxHeartbeats 4000000 in
theorem counts_walk (a : Option Addr) (len cap : Nat) (z : Nat → Int) (at_ : Int) (w : World) (hrow : IsRowU w a len cap z) (hat : (Lit.int .u8 at_).wf = true) :
    Calls Try.prog 5 #[.slice a len cap, .int .u8 at_] w fun e w' => e = .returned (.bool true) ∧ Below w.heap.size w w' := by
  by_cases hfew : len ≤ 100
  · have hb1 : 0 ≤ at_ := by
      have hmin : IntKind.u8.min = 0 := rfl
      simp only [Lit.wf, Bool.and_eq_true, decide_eq_true_eq] at hat; omega
    have hb2 : at_ ≤ 255 := by
      have hmax : IntKind.u8.max = 255 := rfl
      simp only [Lit.wf, Bool.and_eq_true, decide_eq_true_eq] at hat; omega
    clear hat
    have hd : decide (100 < (len : Int)) = false := by simp; omega
    have HR := Lib.hid hrow
    clear hrow
    go_enter Try.func5, Try.ntmps5
    go_wp2_with (first
      | (go_at_call 8; refine (awake_any _).mono ?_; rintro e w0 ⟨rfl, ho0⟩)
      | (go_at_call 9; refine (new_in 3 (by omega) _).mono ?_; rintro e w1 ⟨g, h, rfl, hw1, ho1, hg, hh⟩))
    replace hg := Nat.le_trans ho0.size hg
    replace hh := Nat.le_trans ho0.size hh
    obtain ⟨k, hk, hkk⟩ : ∃ k : Nat, k < 3 ∧ at_ % 3 = (k : Int) := ⟨(at_ % 3).toNat, by omega, by omega⟩
    have HK := Lib.hid hkk
    clear hkk
    go_loopw [7, 8] (fun u i wr => CountRel w g h k len u i wr) (fun _ i _ => len - (intOf i).toNat)
    case atStart =>
      refine ⟨0, St.new 3, Nat.zero_le _, rfl, by rw [at_new], ⟨hw1, rfl, ?_, ?_, at_new _ _, rfl, ho0.trans ho1⟩⟩
      · rw [at_new]; omega
      · rw [at_new]; omega
    case round =>
      obtain ⟨j, s, hj, rfl, rfl, hc⟩ := hrel
      have hst := stepsOf_bound j (by omega)
      have hs0 : 0 ≤ s.steps := by rw [hc.steps]; omega
      have hs1 : s.steps < 9223372036854770000 := by rw [hc.steps]; omega
      have hkl : k < s.row.length := by rw [hc.len]; exact hk
      clear hst
      by_cases hlt : j < len
      · obtain ⟨b, off, rfl, hbl, hcap, hmax, hcell⟩ := HR.out.some_ (by omega)
        have ck := hcell j hlt
        have hz := HR.out.nums j
        have ck' : ∀ w', Off [] w w' → w'.cell? ⟨b, off + j, none⟩ = some (.int .u64 (z j)) := fun w' ho => by rw [ho.cell hbl (by simp)]; exact ck
        have HCK := Lib.hid ck'
        clear hcell ck ck'
        have hi : (j : Int) < (len : Int) := by omega
        have hlen : len ≤ 9223372036854775807 := by omega
        by_cases hm : j % 2 = 0
        · have hm1 : ((j : Int) % 2 == 0) = true := by simp; omega
          have ck1 := HCK.out _ hc.off
          have HM := Lib.hid hm
          clear hm
          go_wp2_with (go_at_call 27; refine (add_i hc.isw _ _ _ k HK.out hkl hs0 (by omega)).mono ?_; rintro e w2 ⟨rfl, hw2, ho2⟩; have ck2 := HCK.out _ (hc.add hk HM.out hg hh hw2 ho2).off)
          go_roundw
          case rel => exact ⟨j + 1, _, by omega, by go_num, congrArg (Value.int .u64) (at_lay_same _ _ _ (by exact hkl)).symm, hc.add hk HM.out hg hh hw2 ho2⟩
          case measure => simp [intOf]; omega
        · have hm1 : ((j : Int) % 2 == 0) = false := by simp; omega
          have hm2 : j % 2 = 1 := by omega
          have ck1 := HCK.out _ hc.off
          have hq : (s.at k == IntKind.u64.wrap (s.at k + 1)) = false := by
            have h1 := hc.lo
            have h2 := hc.hi
            rw [wrap_u64]; simp; omega
          have HM := Lib.hid hm2
          have HQ := Lib.hid hq
          clear hm hm2 hq
          go_wp2_with (first
            | (go_at_call 11; refine (load_i hc.isw _ _ k HK.out hkl hs0 (by omega)).mono ?_; rintro e w2 ⟨rfl, hw2, ho2⟩)
            | (go_at_call_of 28 (Value.int .u64 5); refine (swap_no_i hw2 _ _ _ _ k HK.out hkl (by show 0 ≤ s.steps + 1; omega) (by show s.steps + 1 < 9223372036854775807; omega) HQ.out).mono ?_; rintro e w3 ⟨rfl, hw3, ho3⟩; have ck2 := HCK.out w3 (hc.off.trans' ((ho2.more (by simp)).trans ho3) (by intro i hi; simp at hi; omega)))
            | (go_at_call 28; refine (swap_yes_i hw3 _ _ _ _ k HK.out hkl (by show 0 ≤ s.steps + 1 + 1; omega) (by show s.steps + 1 + 1 < 9223372036854775807; omega) (by simp [at_note])).mono ?_; rintro e w4 ⟨rfl, hw4, ho4⟩; have ck3 := HCK.out _ (hc.swap hk HM.out hz hg hh hw4 (((ho2.more (by simp)).trans ho3).trans ho4)).off))
          go_roundw
          case rel => exact ⟨j + 1, _, by omega, by go_num, congrArg (Value.int .u64) (at_lay_same _ _ _ (by exact hkl)).symm, hc.swap hk HM.out hz hg hh hw4 (((ho2.more (by simp)).trans ho3).trans ho4)⟩
          case measure => simp [intOf]; omega
      · have e : j = len := by omega
        subst e
        have hoff := hc.off
        have hnx := Lib.hid hc.next
        have hstp := Lib.hid hc.steps
        have hk3 : (k + 1) % 3 < s.row.length := by rw [hc.len]; omega
        go_wp2_with (first
          | (go_at_call 18; (with_reducible refine (look_i hc.isw _ k HK.out hkl).mono ?_); rintro e w2 ⟨rfl, rfl⟩)
          | (go_at_call 18; (with_reducible refine (look_i hc.isw _ ((k + 1) % 3) (by have := HK.out; omega) hk3).mono ?_); rintro e w3 ⟨he, rfl⟩; obtain rfl : e = .returned (.int .u64 0) := by rw [he, hnx.out])
          | (go_at_call 17; refine (steps_any hc.isw).mono ?_; rintro e w4 ⟨he, rfl⟩; obtain rfl : e = .returned (.int .i64 (((j : Int) + 1) / 2 + 3 * ((j : Int) / 2))) := by rw [he, hstp.out]; rfl))
        go_ret
        exact ⟨rfl, hoff.nil_below⟩
  · have hd : decide (100 < (len : Int)) = true := by simp; omega
    go_enter Try.func5, Try.ntmps5
    go_wp2_with (go_at_call 8; refine (awake_any _).mono ?_; rintro e w0 ⟨rfl, ho0⟩)
    go_ret
    exact ⟨rfl, ho0.nil_below⟩

end Go.Proofs.Ytaegjkpodhkogaa.Words
