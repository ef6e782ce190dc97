/- The program's judge: Ruling, Pending, Rule; it keeps every contract that the laws' walks ask. -/
import Derived.Test.YtfgkjfneeggbjaaJgG
import Derived.Test.YtfgkjfneeggbjaaJudK
namespace Go.Proofs.Ytfgkjfneeggbjaa.Jud
open Go.RowKit Mem Go.Proofs.Ytfgkjfneeggbjaa.Mod Go.Proofs.Ytfgkjfneeggbjaa.Plan
set_option maxRecDepth 100000
set_option maxHeartbeats 4000000

theorem newj_any (P C M : Int) (w : World) : Calls Try.prog 9 #[.agg #[.int .i64 P, .int .i64 C, .int .i64 M]] w (NewQ w (st0 P C M)) := by
  unfold st0
  cases hm : mayB P C M
  · rw [if_neg (by decide)]
    exact newj_no hm w
  · rw [if_pos rfl]
    have hf := mayB_iff.1 hm
    obtain ⟨n, rfl⟩ : ∃ n : Nat, C = n := ⟨C.toNat, by have := hf.c1; omega⟩
    have h := newj_yes hm w
    have e : clampW (P * 64) = P * 64 := by
      have := hf.p1
      have := hf.p2
      unfold clampW
      rw [if_pos (by omega)]
    rw [e] at h
    exact h

theorem ruling_well {w : World} {g : Nat} {F : List Nat} {s : St} (hf : Full w g F s 0 0) :
    Calls Try.prog 16 #[.pointer (some ⟨g, 0, none⟩)] w fun r w' => r = .returned (.agg #[.int .i64 (-1), .int .i64 0]) ∧ Off [] w w' := by
  obtain ⟨h, b, Fm, tb, B, -, -, -⟩ := hf
  have hlt := B.obj.lt
  obtain ⟨-, -, -, c3, c4⟩ := B.read
  clear B
  go_enter Try.func16, Try.ntmps16
  go_wp2
  exact bodyPost_ret (v := .agg #[.int .i64 (-1), .int .i64 0]) (by simp [results, Try.results16, go_sem]) rfl ⟨rfl, (Off.refl _ _).alloc _⟩
theorem ruling_bad {w : World} {g : Nat} {F : List Nat} {s : St} {x y : Int} (hf : Full w g F s x y) (hy : y ≠ 0) :
    Calls Try.prog 16 #[.pointer (some ⟨g, 0, none⟩)] w fun r w' => r = .returned (.agg #[.int .i64 x, .int .i64 y]) ∧ Off [] w w' := by
  obtain ⟨h, b, Fm, tb, B, -, -, -⟩ := hf
  have hlt := B.obj.lt
  obtain ⟨-, -, -, c3, c4⟩ := B.read
  have dy : (y == 0) = false := by simpa using hy
  clear B hy
  go_enter Try.func16, Try.ntmps16
  go_wp2
  exact bodyPost_ret (v := .agg #[.int .i64 x, .int .i64 y]) (by simp [results, Try.results16, go_sem]) rfl ⟨rfl, (Off.refl _ _).alloc _⟩

theorem pending_any {w : World} {g : Nat} {F : List Nat} {s : St} {x y : Int} (hf : Full w g F s x y) (c : Int) :
    Calls Try.prog 23 #[.pointer (some ⟨g, 0, none⟩), .int .i64 c] w fun e w' => (∃ a b d, e = .returned (.tuple #[.agg #[.int .i64 a, .int .i64 b, .int .i64 d], .bool (pendB s c)])) ∧ Off [] w w' := by
  obtain ⟨h, b, Fm, tb, B, -, -, -⟩ := hf
  have HB := Lib.hid B
  unfold pendB
  by_cases hin : 0 ≤ c ∧ c < s.c
  · obtain ⟨i, rfl⟩ : ∃ i : Nat, c = i := ⟨c.toNat, by omega⟩
    have hi : i < s.c := by omega
    have HI := Lib.hid hi
    have hcl := (B.off0 ((Off.refl [] w).alloc (.cells #[.int .i64 0, .int .i64 0, .int .i64 0] 38))).row.cli hi
    have k2 := hcl.c2
    rw [show decide (0 ≤ (i : Int) ∧ (i : Int) < s.c) = true from by simpa using hin]
    simp only [Int.toNat_natCast, Bool.true_and]
    have hlt := B.obj.lt
    unfold tkV at k2
    by_cases ha : (s.p i).asks = true
    · rw [if_pos ha] at k2
      rw [ha]
      have htk := (B.task i hi ha).1
      have htl := htk.lt
      obtain ⟨t0, t1, t2, -, -, -, -⟩ := tk_cells htk
      clear htk ha hcl hi hin B
      go_enter Try.func23, Try.ntmps23
      go_wp2_with (go_at_call 28; refine (known_in (HB.out.off0 ((Off.refl _ _).alloc _)).read.2.1 HI.out).mono ?_; rintro e w' ⟨rfl, rfl⟩)
      exact bodyPost_ret (v := .tuple #[.agg #[.int .i64 (s.p i).k, .int .i64 (s.p i).a, .int .i64 (s.p i).n], .bool true]) (by simp [results, Try.results23, go_sem]) rfl ⟨⟨_, _, _, rfl⟩, (Off.refl _ _).alloc _⟩
    · rw [if_neg ha] at k2
      rw [show (s.p i).asks = false from by simpa using ha]
      clear ha hcl hi hin B
      go_enter Try.func23, Try.ntmps23
      go_wp2_with (go_at_call 28; refine (known_in (HB.out.off0 ((Off.refl _ _).alloc _)).read.2.1 HI.out).mono ?_; rintro e w' ⟨rfl, rfl⟩)
      exact bodyPost_ret (v := .tuple #[.agg #[.int .i64 0, .int .i64 0, .int .i64 0], .bool false]) (by simp [results, Try.results23, go_sem]) rfl ⟨⟨_, _, _, rfl⟩, (Off.refl _ _).alloc _⟩
  · have HN := Lib.hid hin
    rw [show decide (0 ≤ c ∧ c < s.c) = false from by simpa using hin]
    simp only [Bool.false_and]
    clear hin B
    go_enter Try.func23, Try.ntmps23
    go_wp2_with (go_at_call 28; refine (known_out (HB.out.off0 ((Off.refl _ _).alloc _)).read.2.1 HN.out).mono ?_; rintro e w' ⟨rfl, rfl⟩)
    exact bodyPost_ret (v := .tuple #[.agg #[.int .i64 0, .int .i64 0, .int .i64 0], .bool false]) (by simp [results, Try.results23, go_sem]) rfl ⟨⟨_, _, _, rfl⟩, (Off.refl _ _).alloc _⟩

def RuleSt (wr : World) (g : Nat) (F : List Nat) (s0 : St) (L : List Ev) (k : Nat) : Prop :=
  (∃ t, Goes s0 (L.take k) t ∧ Full wr g F t 0 0) ∨ ∃ t x y, y ≠ 0 ∧ runS s0 L = (x, y) ∧ Full wr g F t x y
def RuleRel (W1 : World) (g : Nat) (s0 : St) (L : List Ev) (i : Value) (wr : World) : Prop :=
  Off [] W1 wr ∧ ∃ k : Nat, k ≤ L.length ∧ i = .int .i64 k ∧ ∃ F, (∀ j ∈ F, W1.heap.size ≤ j) ∧ RuleSt wr g F s0 L k
theorem wrap_small {n : Nat} (h : n ≤ 1000) : wrap64 (n : Int) = n := IntWalk.wrap64_in _ (by omega)
theorem st0_i (P C M : Int) : (st0 P C M).i = 0 := by
  unfold st0
  split <;> rfl

/-- One event more. -/
theorem rule_hear {W1 wr : World} {g : Nat} {F : List Nat} {s0 : St} {L : List Ev} {k : Nat} (h0 : s0.i = 0) (hl : L.length ≤ 1000) (hk : k < L.length) (hf : ∀ j ∈ F, W1.heap.size ≤ j) (ho : Off [] W1 wr) (h : RuleSt wr g F s0 L k) :
    Calls Try.prog 10 #[.pointer (some ⟨g, 0, none⟩), evV L[k]] wr fun r w' => (∃ b, r = .returned (.bool b)) ∧ Off [] W1 w' ∧ ∃ F', (∀ j ∈ F', W1.heap.size ≤ j) ∧ RuleSt w' g F' s0 L (k + 1) := by
  have hs := ho.size
  rcases h with ⟨t, hg, hF⟩ | ⟨t, x, y, hy, hr, hF⟩
  · by_cases hw : whyS t L[k] = 0
    · refine (hear_ok hF L[k] hw).mono ?_
      rintro r w' ⟨rfl, o, F', hF', hfu⟩
      refine ⟨⟨_, rfl⟩, ho.trans' o (fun j hj => .inr (hf j hj)), F', fun j hj => ?_, .inl ⟨_, ?_, hfu⟩⟩
      · rcases hF' j hj with h1 | h1
        · exact hf j h1
        · omega
      · rw [List.take_succ_eq_append_getElem hk]
        exact goes_snoc hg hw
    · refine (hear_no hF L[k] hw).mono ?_
      rintro r w' ⟨rfl, o, F', hF', hfu⟩
      have hti := (goes_i hg).1
      rw [List.length_take] at hti
      rw [wrap_small (by omega)] at hfu
      refine ⟨⟨_, rfl⟩, ho.trans' o (fun j hj => .inr (hf j hj)), F', fun j hj => ?_, .inr ⟨t, _, _, hw, ?_, hfu⟩⟩
      · rcases hF' j hj with h1 | h1
        · exact hf j h1
        · omega
      · have e : L = L.take k ++ L[k] :: L.drop (k + 1) := by rw [← List.drop_eq_getElem_cons hk, List.take_append_drop]
        have := run_goes (M := L[k] :: L.drop (k + 1)) hg
        rw [← e, runS, if_neg hw] at this
        exact this
  · refine (hear_bad hF hy L[k]).mono ?_
    rintro r w' ⟨rfl, o⟩
    exact ⟨⟨_, rfl⟩, ho.trans o, F, hf, .inr ⟨t, x, y, hy, hr, hF.keep o (by simp)⟩⟩
theorem rule_ruling {wr : World} {g : Nat} {F : List Nat} {s0 : St} {L : List Ev} (h : RuleSt wr g F s0 L L.length) :
    Calls Try.prog 16 #[.pointer (some ⟨g, 0, none⟩)] wr fun r w' => r = .returned (.agg #[.int .i64 (runS s0 L).1, .int .i64 (runS s0 L).2]) ∧ Off [] wr w' := by
  rcases h with ⟨t, hg, hF⟩ | ⟨t, x, y, hy, hr, hF⟩
  · have e := run_goes (M := []) hg
    rw [List.take_length, List.append_nil] at e
    rw [e]
    exact ruling_well hF
  · rw [hr]
    exact ruling_bad hF hy

theorem rule_any (P C M : Int) (w : World) (v : Value) (L : List Ev) (hv : RdE w v L) (hl : L.length ≤ 1000) :
    Calls Try.prog 8 #[.agg #[.int .i64 P, .int .i64 C, .int .i64 M], v] w fun e w' => e = .returned (.agg #[.int .i64 (runS (st0 P C M) L).1, .int .i64 (runS (st0 P C M) L).2]) ∧ Off [] w w' := by
  have HV := Lib.hid hv
  have HL := Lib.hid hl
  obtain ⟨va, vc, rfl, hvc⟩ := hv.parts
  have hsi := st0_i P C M
  have HSI := Lib.hid hsi
  have HNW := Lib.hid (newj_any P C M)
  clear hv hl hsi
  generalize st0 P C M = S0 at *
  go_enter Try.func8, Try.ntmps8
  go_upto_region 1 with fail
  refine at_worldJ (R := fun W' => Off [] w W' ∧ Blk W' w.heap.size 23 #[.int .i64 P, .int .i64 C, .int .i64 M] ∧ Blk W' (w.heap.size + 1) 27 #[.int .i64 0, .int .i64 0]) ⟨((Off.refl _ _).alloc _).alloc _, (Blk.new _ _ _).alloc _, by simpa using Blk.new (w.alloc (.cells #[.int .i64 P, .int .i64 C, .int .i64 M] 23)) 27 #[.int .i64 0, .int .i64 0]⟩ ?_
  rintro W1 ⟨oW, hs, hr⟩
  obtain ⟨s0, s1, s2⟩ := three_cell hs
  have HOW := Lib.hid oW
  have HR := Lib.hid hr
  clear oW hs hr
  go_wp2_with (go_at_call 9; refine (HNW.out _).mono ?_; rintro e w3 ⟨⟨g, F, rfl, hfu, hf⟩, o3⟩)
  have HST : Hid (RuleSt w3 g F S0 L 0) := Lib.hid (.inl ⟨_, rfl, hfu⟩)
  have HF0 := Lib.hid hf
  have HO3 := Lib.hid o3
  clear s0 s1 s2 hfu hf o3
  go_loopw [7, 12] (fun _ i wr => RuleRel W1 g S0 L i wr) (fun _ i _ => L.length - (intOf i).toNat)
  case atStart => exact ⟨HO3.out, 0, Nat.zero_le _, rfl, F, HF0.out, HST.out⟩
  case round =>
    clear HST HF0 HO3
    obtain ⟨ho, k, hk, rfl, F2, hf2, hst⟩ := hrel
    have HO := Lib.hid ho
    have HF2 := Lib.hid hf2
    have HST := Lib.hid hst
    clear ho hf2 hst
    by_cases hlt : k < L.length
    · have d1 : (k : Int) < (L.length : Int) := by omega
      have hl1 : (L.length : Int) ≤ 1000 := by have := HL.out; omega
      obtain ⟨eg, eo, rfl, c0, c1, c2, c3, c4, c5, c6, c7⟩ := (HV.out.off (HOW.out.trans HO.out) (by simp)).at k hlt
      have HH := Lib.hid (rule_hear HSI.out HL.out hlt HF2.out (HO.out.alloc (.cells (evL L[k]).toArray 41)) (by
        rcases HST.out with ⟨t, hg, hF⟩ | ⟨t, x, y, hy, hr, hF⟩
        · exact .inl ⟨t, hg, hF.keep ((Off.refl [] _).alloc _) (by simp)⟩
        · exact .inr ⟨t, x, y, hy, hr, hF.keep ((Off.refl [] _).alloc _) (by simp)⟩))
      generalize L[k] = e at *
      clear HST HF2 HO
      go_wp2_with (go_at_call 10; refine HH.out.mono ?_; rintro r w5 ⟨⟨b, rfl⟩, o5, F5, hf5, hst5⟩)
      go_roundw
      case rel => exact ⟨o5, k + 1, by omega, by go_num, F5, hf5, hst5⟩
      case measure => simp [intOf]; omega
    · obtain rfl : k = L.length := by omega
      have HRU := Lib.hid (rule_ruling HST.out)
      go_wp2_with (go_at_call 16; refine HRU.out.mono ?_; rintro r w5 ⟨rfl, o5⟩; have hb := (HO.out.trans o5).blk HR.out (by simp); obtain ⟨-, y0, y1⟩ := two_cells hb; have z0 := hb.free 0; have z1 := hb.free 1; clear hb)
      exact bodyPost_ret (v := .agg #[.int .i64 (runS S0 L).1, .int .i64 (runS S0 L).2]) (by simp [results, Try.results8, go_sem, y0, y1]) rfl ⟨rfl, (((HOW.out.trans HO.out).trans o5).set (.inr (Nat.le_succ _)) _).set (.inr (Nat.le_succ _)) _⟩

/-- The program's judge in order, and out of order. -/
def IsJ (w : World) (g : Nat) (F : List Nat) (s : St) : Prop := Full w g F s 0 0
def IsB (w : World) (g : Nat) (F : List Nat) : Prop := ∃ s x y, y ≠ 0 ∧ Full w g F s x y
theorem con_judge : ConJ IsJ IsB where
  lt := fun ⟨_, _, _, _, _, _, _, h⟩ => h
  ltB := fun ⟨_, _, _, _, _, _, _, _, _, _, _, h⟩ => h
  keep := fun h ho hs => Full.keep h ho hs
  keepB := fun ⟨s, x, y, hy, h⟩ ho hs => ⟨s, x, y, hy, Full.keep h ho hs⟩
  mod := fun ⟨h, b, Fm, tb, B, O, _, _⟩ => ⟨h, Fm, B.read.1, B.mod, O.mod⟩
  new := fun P C M w => (newj_any P C M w).mono fun _ _ ⟨⟨g, F, h1, h2, h3⟩, h4⟩ => ⟨g, F, h1, h2, h4, h3⟩
  hear := fun {w g F s} h e _ => by
    by_cases hw : whyS s e = 0
    · refine (hear_ok h e hw).mono ?_
      rintro r w' ⟨rfl, o, F', h1, h2⟩
      exact ⟨by rw [decide_eq_true hw], ⟨F', fun _ => h2, fun h0 => absurd hw h0, h1⟩, o⟩
    · refine (hear_no h e hw).mono ?_
      rintro r w' ⟨rfl, o, F', h1, h2⟩
      exact ⟨by rw [decide_eq_false hw], ⟨F', fun h0 => absurd h0 hw, fun _ => ⟨s, _, _, hw, h2⟩, h1⟩, o⟩
  hearB := fun {w g F} ⟨s, x, y, hy, h⟩ e _ => by
    refine (hear_bad h hy e).mono ?_
    rintro r w' ⟨rfl, o⟩
    exact ⟨rfl, ⟨F, ⟨s, x, y, hy, Full.keep h o (by simp)⟩, fun k hk => .inl hk⟩, o.more (by simp)⟩
  rule := fun P C M w v L hv hl _ => rule_any P C M w v L hv hl
  pend := fun h c => pending_any h c
  pendB := fun ⟨s, x, y, hy, h⟩ c => (pending_any h c).mono fun _ _ ⟨⟨a, b, d, h1⟩, h2⟩ => ⟨⟨a, b, d, _, h1⟩, h2⟩

end Go.Proofs.Ytfgkjfneeggbjaa.Jud
