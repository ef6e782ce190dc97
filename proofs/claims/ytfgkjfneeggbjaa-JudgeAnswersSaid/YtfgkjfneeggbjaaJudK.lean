/- Stage 7: JudgeKills, over the contracts of the program's judge. -/
import Derived.Test.YtfgkjfneeggbjaaJudB
import Derived.Test.YtfgkjfneeggbjaaPlanC
namespace Go.Proofs.Ytfgkjfneeggbjaa.Jud
open Go.RowKit Mem Go.Proofs.Ytfgkjfneeggbjaa.Mod Go.Proofs.Ytfgkjfneeggbjaa.Plan

/-- The event at a place: its eight cells. -/
theorem RdE.at {w : World} {a : Option Addr} {c : Nat} {L : List Ev} (h : RdE w (.slice a L.length c) L) (i : Nat) (hi : i < L.length) :
    ∃ g o, a = some ⟨g, o, none⟩ ∧ w.cell? ⟨g, o + i * 8, none⟩ = some (.int .i64 L[i].kind) ∧ w.cell? ⟨g, o + i * 8 + 1, none⟩ = some (.int .i64 L[i].client) ∧ w.cell? ⟨g, o + i * 8 + 2, none⟩ = some (.int .i64 L[i].ok) ∧
      w.cell? ⟨g, o + i * 8 + 3, none⟩ = some (.int .i64 L[i].oa) ∧ w.cell? ⟨g, o + i * 8 + 4, none⟩ = some (.int .i64 L[i].on) ∧ w.cell? ⟨g, o + i * 8 + 5, none⟩ = some (.int .i64 L[i].at_) ∧ w.cell? ⟨g, o + i * 8 + 6, none⟩ = some (.int .i64 L[i].n) ∧
      w.cell? ⟨g, o + i * 8 + 7, none⟩ = some (.int .i64 L[i].err) := by
  rcases h with ⟨_, rfl⟩ | ⟨g, o, c', hv, _, hc⟩
  · exact absurd hi (Nat.not_lt_zero _)
  · injection hv with h1 _ _
    have h2 := hc i _ (List.getElem?_eq_getElem hi)
    exact ⟨g, o, h1, h2 0 _ rfl, h2 1 _ rfl, h2 2 _ rfl, h2 3 _ rfl, h2 4 _ rfl, h2 5 _ rfl, h2 6 _ rfl, h2 7 _ rfl⟩

def HeardRel (J : HoldJ) (w : World) (g : Nat) (s0 : St) (L : List Ev) (k : Nat) (i : Value) (wr : World) : Prop :=
  ∃ (m : Nat) (s : St) (F : List Nat), m ≤ k ∧ i = .int .i64 m ∧ Goes s0 (L.take m) s ∧ LiveJ J w g F s wr
def LivesRel (W1 : World) (c : Int) (L : List Ev) (k : Nat) (b i : Value) (wr : World) : Prop := wr = W1 ∧ ∃ m : Nat, m ≤ k ∧ i = .int .i64 m ∧ b = .bool (livesL c (L.take m))
def TookRel (W1 : World) (c : Int) (L : List Ev) (k : Nat) (b i : Value) (wr : World) : Prop :=
  wr = W1 ∧ ∃ (m : Nat) (t : Bool), m ≤ k ∧ i = .int .i64 ((m : Int) - 1) ∧ b = .bool t ∧ (t = true → tookL c (L.take k) = true) ∧ (t = false → tookL c (L.take k) = tookL c (L.take m))

theorem inI0 : inI 0 := ⟨by decide, by decide⟩
theorem ev_wf (k c : Int) (h1 : 0 ≤ k ∧ k ≤ 5) (h2 : 0 ≤ c ∧ c ≤ 12) : (ev k c 0 0 0 0 0 0).wf :=
  ⟨show inI k from ⟨by omega, by omega⟩, show inI c from ⟨by omega, by omega⟩, inI0, inI0, inI0, inI0, inI0, inI0⟩
theorem started_why {c : Int} {s : St} {e : Ev} (h : (s.p c.toNat).was = true) (hc : 0 ≤ c ∧ c < s.c) (he : e.client = c) (k : e.kind = 0) : whyS s e = 1 := by
  unfold whyS
  rw [he, if_pos hc, why_started k, if_pos h]
theorem at_worldK {K : Act → World → Prop} {a : Act} {w : World} {R : World → Prop} (h : R w) (k : ∀ W, R W → K a W) : K a w := k w h
theorem size_one (w : World) (c : Array Value) (t : TypeId) : (w.alloc (.cells c t)).heap.size = w.heap.size + 1 := by simp
theorem goes_knows {c : Int} (hc : 0 ≤ c) {s t : St} {A L : List Ev} (h : Goes s L t) (hk : Knows c A (s.p c.toNat)) : Knows c (A ++ L) (t.p c.toNat) := by
  induction L generalizing s A with
  | nil => cases h; rw [List.append_nil]; exact hk
  | cons a L ih =>
    have := ih h.2 (hk.step hc h.1)
    rwa [List.append_assoc] at this

set_option maxRecDepth 100000 in
set_option maxHeartbeats 8000000 in
theorem kills_any {J : HoldJ} {B : HoldB} (C0 : ConJ J B) (P C M : Int) (v : Value) (L : List Ev) (at_ who : Nat) (_ : at_ < 256) (_ : who < 256) (w : World) (hv : RdE w v L) (hwf : ∀ e ∈ L, e.wf) (hcap : ∀ a l c, v = .slice a l c → c ≤ 9223372036854775807) :
    Calls Try.prog 14 #[.agg #[.int .i64 P, .int .i64 C, .int .i64 M], v, .int .i64 at_, .int .i64 who] w fun e w' => e = .returned (.bool true) ∧ Off [] w w' := by
  have HC := Lib.hid C0
  have HV := Lib.hid hv
  have HWF := Lib.hid hwf
  obtain ⟨va, vc, rfl, hvc⟩ := hv.parts
  have hvm := hcap _ _ _ rfl
  clear C0 hv hwf hcap
  obtain ⟨len, hlen⟩ : ∃ len, L.length = len := ⟨_, rfl⟩
  have HLN := Lib.hid hlen
  rw [hlen] at HV hvc ⊢
  clear hlen
  by_cases hq : 200 < len ∨ mayB P C M = false ∨ len = 0
  · by_cases q1 : 200 < len
    · have d1 : decide (200 < len) = true := by simpa using q1
      go_enter Try.func14, Try.ntmps14
      go_wp2_with (go_at_call 7; refine (awake_any HC.out _).mono ?_; rintro e w1 ⟨rfl, o1⟩; have O1 := Lib.hid (((Off.refl [] w).alloc _).trans o1); clear o1)
      go_ret
      exact ⟨rfl, O1.out⟩
    · have d1 : decide (200 < len) = false := by simpa using q1
      by_cases q2 : mayB P C M = false
      · go_enter Try.func14, Try.ntmps14
        go_wp2_with (first | (go_at_call 22; refine (rmay_any P C M _).mono ?_; rw [q2]; rintro e w1 ⟨rfl, o1⟩; have O1 := Lib.hid (((Off.refl [] w).alloc _).trans o1); clear o1) | (go_at_call 7; refine (awake_any HC.out _).mono ?_; rintro e w2 ⟨rfl, o2⟩; have O2 := Lib.hid (O1.out.trans o2); clear o2))
        go_ret
        exact ⟨rfl, O2.out⟩
      · have q2 : mayB P C M = true := by simpa using q2
        obtain rfl : len = 0 := by
          rcases hq with h | h | h
          · exact absurd h q1
          · rw [q2] at h; cases h
          · exact h
        go_enter Try.func14, Try.ntmps14
        go_wp2_with (first | (go_at_call 22; refine (rmay_any P C M _).mono ?_; rw [q2]; rintro e w1 ⟨rfl, o1⟩; have O1 := Lib.hid (((Off.refl [] w).alloc _).trans o1); clear o1) | (go_at_call 7; refine (awake_any HC.out _).mono ?_; rintro e w2 ⟨rfl, o2⟩; have O2 := Lib.hid (O1.out.trans o2); clear o2))
        go_ret
        exact ⟨rfl, O2.out⟩
  · have q1 : decide (200 < (len : Int)) = false := by simp; omega
    have q4 : ((len : Int) == 0) = false := by simp; omega
    have q2 : mayB P C M = true := by
      cases h : mayB P C M
      · exact absurd (.inr (.inl h)) hq
      · rfl
    have q3 : ¬ len = 0 := fun h => hq (.inr (.inr h))
    have hl200 : len ≤ 200 := by omega
    have hC : 1 ≤ C ∧ C ≤ 12 := by
      simp only [mayB, fromB, Bool.and_eq_true, decide_eq_true_eq] at q2
      omega
    obtain ⟨Cn, rfl⟩ := Int.eq_ofNat_of_zero_le (show 0 ≤ C by omega)
    obtain ⟨k, hk⟩ : ∃ k, at_ % (len + 1) = k := ⟨_, rfl⟩
    obtain ⟨c, hc⟩ : ∃ c, who % Cn = c := ⟨_, rfl⟩
    have hkl : k ≤ len := by have := Nat.mod_lt at_ (show len + 1 > 0 by omega); omega
    have hcl : c < Cn := by have := Nat.mod_lt who (show Cn > 0 by omega); omega
    have HS0 : Hid ((st0 P Cn M).c = Cn) := Lib.hid (by unfold st0; rw [if_pos q2]; rfl)
    have HQ3 := Lib.hid q3
    clear hq
    have w1 : IntKind.i64.wrap ((len : Int) + 1) = (len : Int) + 1 := IntWalk.i64_in _ (by omega)
    have w2 : ¬ ((len : Int) + 1 = 0) := by omega
    have w3 : ¬ ((Cn : Int) = 0) := by omega
    have w4 : ¬ (Cn = 0) := by omega
    have w5 : Int.tmod (at_ : Int) ((len : Int) + 1) = (k : Int) := by rw [← hk]; rfl
    have w6 : Int.tmod (who : Int) (Cn : Int) = (c : Int) := by rw [← hc]; rfl
    have w7 : (at_ : Int) % ((len : Int) + 1) = (k : Int) := by rw [← hk]; rfl
    have w8 : (who : Int) % (Cn : Int) = (c : Int) := by rw [← hc]; rfl
    go_enter Try.func14, Try.ntmps14
    go_upto_region 3 with (go_at_call 22; refine (rmay_any P Cn M _).mono ?_; rw [q2]; rintro e w1 ⟨rfl, o1⟩)
    refine at_worldJ (R := fun W' => Off [] w W' ∧ Blk W' w.heap.size 23 #[.int .i64 P, .int .i64 Cn, .int .i64 M]) ⟨((Off.refl _ _).alloc _).trans o1, o1.blk (Blk.new _ _ _) (by simp)⟩ ?_
    rintro W1 ⟨oW, hs⟩
    have HOW := Lib.hid oW
    have HS := Lib.hid hs
    obtain ⟨s0, s1, s2⟩ := three_cell hs
    clear oW hs o1
    go_cut [9, 10] from 35 to 43 (fun x y wx => (∃ n, wx = W1.drewN n) ∧ x = .int .i64 k ∧ y = .int .i64 c)
    case first =>
      go_quiet (fail)
      go_wp2_with fail
      go_meet
      case rel => exact ⟨⟨_, rfl⟩, rfl, rfl⟩
    case rest =>
      obtain ⟨⟨nd, hwc⟩, rfl, rfl⟩ := hcut
      subst hwc
      refine at_worldK (R := fun W' => Off [] w W' ∧ Blk W' w.heap.size 23 #[.int .i64 P, .int .i64 Cn, .int .i64 M]) ⟨HOW.out.drewN _, HS.out.drewN _⟩ ?_
      clear w2 w3 w4 w5 w6 w7 w8 s0 s1 s2 HS
      rintro W2 ⟨oW2, hs2⟩
      obtain ⟨s0, s1, s2⟩ := three_cell hs2
      have HOW2 := Lib.hid oW2
      clear oW2 hs2
      go_wp2_with (first | (go_at_call 9; refine (HC.out.new P Cn M _).mono ?_; rintro e w3 ⟨g, F, rfl, hj, o3, hf⟩; obtain ⟨h0, Fm, m0, -, -⟩ := HC.out.mod hj) | (go_at_call 7; refine (awake_any HC.out _).mono ?_; rintro e w4 ⟨rfl, o4⟩))
      have HL0 : Hid (LiveJ J w g F (st0 P Cn M) w4) := Lib.hid (HC.out.off0 ⟨hj, HOW2.out.trans o3, fun k hk => Nat.le_trans HOW2.out.size (hf k hk)⟩ o4)
      clear hj o3 hf o4 m0 s0 s1 s2
      go_loopw [12] (fun i wr => HeardRel J w g (st0 P Cn M) L k i wr) (fun i _ => k - (intOf i).toNat)
      case atStart => exact ⟨0, _, F, Nat.zero_le _, rfl, rfl, HL0.out⟩
      case round =>
        clear HL0
        obtain ⟨m, s, F2, hm, rfl, hg, hl⟩ := hrel
        have HG := Lib.hid hg
        have HL := Lib.hid hl
        have HRD : Hid (RdE wr (.slice va L.length vc) L) := Lib.hid (by rw [HLN.out]; exact HV.out.off hl.off (by simp))
        clear hg hl
        by_cases hlt : m < k
        · have d1 : (m : Int) < (k : Int) := by omega
          have d2 : (m : Int) < (len : Int) := by omega
          have hml : m < L.length := by rw [HLN.out]; omega
          obtain ⟨eg, eo, rfl, c0, c1, c2, c3, c4, c5, c6, c7⟩ := HRD.out.at m hml
          have HT := Lib.hid (List.take_succ_eq_append_getElem hml)
          have hh := con_hear HC.out HL.out L[m] (HWF.out _ (List.getElem_mem hml))
          generalize L[m] = x at *
          by_cases hw : whyS s x = 0
          · rw [decide_eq_true hw] at hh
            have HH := Lib.hid hh
            have HW := Lib.hid hw
            clear hh hw
            go_wp2_with (go_at_call 10; refine HH.out.mono ?_; rintro e w5 ⟨rfl, o5, F5, h5, h6, h7⟩)
            go_roundw
            case rel => exact ⟨m + 1, nextS s x, F5, by omega, by go_num, by rw [HT.out]; exact goes_snoc HG.out HW.out, h6 HW.out⟩
            case measure => simp [intOf]; omega
          · rw [decide_eq_false hw] at hh
            have HH := Lib.hid hh
            have HW := Lib.hid hw
            clear hh hw
            go_wp2_with (go_at_call 10; refine HH.out.mono ?_; rintro e w5 ⟨rfl, o5, F5, h5, h6, h7⟩)
            go_ret
            exact ⟨rfl, (h7 HW.out).2⟩
        · obtain rfl : m = k := by omega
          have hsc : s.c = Cn := by rw [(goes_i HG.out).2.1]; exact HS0.out
          have HK : Hid (Knows c (L.take m) (s.p c)) := Lib.hid (by
            have := goes_knows (c := (c : Int)) (by omega) HG.out (A := []) (by rw [st0_p]; exact Knows.zero _)
            simpa using this)
          have HSC := Lib.hid hsc
          clear hsc hlt HG
          obtain ⟨bl, hbl⟩ : ∃ bl, livesL c (L.take m) = bl := ⟨_, rfl⟩
          obtain ⟨bt, hbt⟩ : ∃ bt, tookL c (L.take m) = bt := ⟨_, rfl⟩
          have HBL := Lib.hid hbl
          have HBT := Lib.hid hbt
          clear hbl hbt
          go_upto_block 2 with fail
          go_cut [13, 14] from 71 to 105 (fun b _ wx => wx = wr ∧ b = .bool bl)
          case first =>
            go_wp2_with fail
            go_loopw [13, 14] (fun b i w2 => LivesRel wr c L m b i w2) (fun _ i _ => m - (intOf i).toNat)
            case atStart => exact ⟨rfl, 0, Nat.zero_le _, rfl, rfl⟩
            case round =>
              obtain ⟨hw2, j, hj, rfl, rfl⟩ := hrel
              subst hw2
              by_cases hlt : j < m
              · have d1 : (j : Int) < (m : Int) := by omega
                have d2 : (j : Int) < (len : Int) := by omega
                have hml : j < L.length := by rw [HLN.out]; omega
                obtain ⟨eg, eo, rfl, c0, c1, -⟩ := HRD.out.at j hml
                have HT : Hid (livesL c (L.take (j + 1)) = livesE c (livesL c (L.take j)) L[j]) := Lib.hid (by rw [List.take_succ_eq_append_getElem hml, livesL_snoc])
                generalize L[j] = x at *
                by_cases x1 : x.client = (c : Int)
                · by_cases x2 : x.kind = 0
                  · have e1 : livesE c (livesL c (L.take j)) x = true := by rw [livesE, if_pos ⟨x1, x2⟩]
                    rw [x1] at c1
                    rw [x2] at c0
                    have HE := Lib.hid (HT.out.trans e1)
                    clear e1 x1 x2
                    go_wp2_with fail
                    go_roundw
                    case rel => exact ⟨rfl, j + 1, by omega, by go_num, by rw [HE.out]⟩
                    case measure => simp [intOf]; omega
                  · by_cases x3 : x.kind = 1
                    · have e1 : livesE c (livesL c (L.take j)) x = false := by rw [livesE, if_neg (fun h => x2 h.2), if_pos ⟨x1, x3⟩]
                      rw [x1] at c1
                      rw [x3] at c0
                      have HE := Lib.hid (HT.out.trans e1)
                      clear e1 x1 x2 x3
                      go_wp2_with fail
                      go_roundw
                      case rel => exact ⟨rfl, j + 1, by omega, by go_num, by rw [HE.out]⟩
                      case measure => simp [intOf]; omega
                    · have e1 : livesE c (livesL c (L.take j)) x = livesL c (L.take j) := by rw [livesE, if_neg (fun h => x2 h.2), if_neg (fun h => x3 h.2)]
                      have f2 : (x.kind == 0) = false := by simpa using x2
                      have f3 : (x.kind == 1) = false := by simpa using x3
                      rw [x1] at c1
                      have HE := Lib.hid (HT.out.trans e1)
                      clear e1 x1 x2 x3
                      go_wp2_with fail
                      go_roundw
                      case rel => exact ⟨rfl, j + 1, by omega, by go_num, by rw [HE.out]⟩
                      case measure => simp [intOf]; omega
                · have e1 : livesE c (livesL c (L.take j)) x = livesL c (L.take j) := by rw [livesE, if_neg (fun h => x1 h.1), if_neg (fun h => x1 h.1)]
                  have f1 : (x.client == (c : Int)) = false := by simpa using x1
                  have HE := Lib.hid (HT.out.trans e1)
                  clear e1 x1
                  go_wp2_with fail
                  go_roundw
                  case rel => exact ⟨rfl, j + 1, by omega, by go_num, by rw [HE.out]⟩
                  case measure => simp [intOf]; omega
              · obtain rfl : j = m := by omega
                go_wp2_with fail
                go_meet
                case rel => exact ⟨rfl, by rw [HBL.out]⟩
          case rest =>
            obtain ⟨hwc, rfl⟩ := hcut
            subst hwc
            obtain ⟨h1m, Fm, m0, hmod, -⟩ := HC.out.mod HL.out.i
            have HU := Lib.hid (used_any hmod)
            clear hmod
            go_upto_region 21 with (go_at_call 11; refine HU.out.mono ?_; rintro e w6 ⟨rfl, o6⟩)
            have HL6 := Lib.hid (HC.out.off0 HL.out o6)
            have HR6 : Hid (RdE w6 (.slice va L.length vc) L) := Lib.hid (HRD.out.off o6 (by simp))
            clear o6 m0 HU HL HRD
            go_cut [16] from 111 to 131 (fun x wx => wx = w6 ∧ ∃ t, x = .bool t ∧ (t = true → bt = true))
            case first =>
              by_cases hm0 : m = 0
              · subst hm0
                go_wp2_with fail
                go_meet
                case rel => exact ⟨rfl, false, rfl, fun h => by cases h⟩
              · obtain ⟨j, hj⟩ : ∃ j, m = j + 1 := ⟨m - 1, by omega⟩
                have d1 : (0 : Int) < (m : Int) := by omega
                have d2 : (j : Int) < (len : Int) := by omega
                have d3 : IntKind.i64.wrap ((m : Int) - 1) = (j : Int) := by rw [IntWalk.i64_in _ (by omega)]; omega
                have d4 : (m : Int) - 1 = (j : Int) := by omega
                have hml : j < L.length := by rw [HLN.out]; omega
                obtain ⟨eg, eo, rfl, c0, c1, -⟩ := HR6.out.at j hml
                have HT : Hid (bt = tookE c (tookL c (L.take j)) L[j]) := Lib.hid (by rw [← HBT.out, hj, List.take_succ_eq_append_getElem hml, tookL_snoc])
                have HJ := Lib.hid hj
                clear hj hm0
                generalize L[j] = x at *
                by_cases x1 : x.client = (c : Int)
                · by_cases x2 : x.kind = 3
                  · have e1 : bt = true := by rw [HT.out, tookE, if_pos x1]; simpa using x2
                    have HE := Lib.hid e1
                    rw [x1] at c1
                    rw [x2] at c0
                    clear e1 x1 x2
                    go_wp2_with fail
                    go_meet
                    case rel => exact ⟨rfl, true, rfl, fun _ => HE.out⟩
                  · have f2 : (x.kind == 3) = false := by simpa using x2
                    rw [x1] at c1
                    clear x1 x2
                    go_wp2_with fail
                    go_meet
                    case rel => exact ⟨rfl, false, rfl, fun h => by cases h⟩
                · have f1 : (x.client == (c : Int)) = false := by simpa using x1
                  clear x1
                  go_wp2_with fail
                  go_meet
                  case rel => exact ⟨rfl, false, rfl, fun h => by cases h⟩
            case rest =>
              obtain ⟨hwc, t0, rfl, ht0⟩ := hcut
              subst hwc
              have HT0 := Lib.hid ht0
              have w9 : IntKind.i64.wrap ((m : Int) - 1) = (m : Int) - 1 := IntWalk.i64_in _ (by omega)
              clear ht0
              go_upto_block 4 with fail
              clear w9
              go_cut [16, 17] from 134 to 154 (fun x _ wx => wx = wc ∧ x = .bool bt)
              case first =>
                go_wp2_with fail
                go_loopw [16, 17] (fun b i w2 => TookRel wc c L m b i w2) (fun _ i _ => (intOf i + 1).toNat)
                case atStart => exact ⟨rfl, m, t0, Nat.le_refl _, rfl, rfl, fun h => HBT.out.trans (HT0.out h), fun _ => rfl⟩
                case round =>
                  obtain ⟨hw2, j, t, hj, rfl, rfl, ht, hf⟩ := hrel
                  subst hw2
                  have HTT := Lib.hid ht
                  have HTF := Lib.hid hf
                  clear ht hf
                  cases t with
                  | true =>
                    have HE : Hid (bt = true) := Lib.hid (by rw [← HBT.out]; exact HTT.out rfl)
                    clear HTT HTF
                    by_cases hj0 : (0 : Int) ≤ (j : Int) - 1
                    · have d0 : decide ((0 : Int) ≤ (j : Int) - 1) = true := by simpa using hj0
                      go_wp2_with fail
                      go_meet
                      case rel => exact ⟨rfl, by rw [HE.out]⟩
                    · have d0 : decide ((0 : Int) ≤ (j : Int) - 1) = false := by simpa using hj0
                      go_wp2_with fail
                      go_meet
                      case rel => exact ⟨rfl, by rw [HE.out]⟩
                  | false =>
                    by_cases hj0 : j = 0
                    · have HE : Hid (bt = false) := Lib.hid (by rw [← HBT.out, HTF.out rfl, hj0]; rfl)
                      subst hj0
                      go_wp2_with fail
                      go_meet
                      case rel => exact ⟨rfl, by rw [HE.out]⟩
                    · obtain ⟨i, hi⟩ : ∃ i, j = i + 1 := ⟨j - 1, by omega⟩
                      have hil : i < L.length := by rw [HLN.out]; omega
                      obtain ⟨eg, eo, rfl, c0, c1, -⟩ := HR6.out.at i hil
                      have HT : Hid (bt = tookE c (tookL c (L.take i)) L[i]) := Lib.hid (by rw [← HBT.out, HTF.out rfl, hi, List.take_succ_eq_append_getElem hil, tookL_snoc])
                      subst hi
                      have d4 : (((i + 1 : Nat) : Int) - 1) = (i : Int) := by omega
                      rw [d4]
                      have d2 : (i : Int) < (len : Int) := by omega
                      have d3 : (0 : Int) ≤ (i : Int) := by omega
                      have d5 : IntKind.i64.wrap ((i : Int) - 1) = (i : Int) - 1 := IntWalk.i64_in _ (by omega)
                      clear d4 hj0
                      generalize L[i] = x at *
                      by_cases x1 : x.client = (c : Int)
                      · have HE : Hid (bt = decide (x.kind = 3)) := Lib.hid (by rw [HT.out, tookE, if_pos x1])
                        rw [x1] at c1
                        clear x1
                        go_wp2_with fail
                        go_meet
                        case rel => exact ⟨rfl, by rw [HE.out]; congr 1⟩
                      · have f1 : (x.client == (c : Int)) = false := by simpa using x1
                        have HE : Hid (bt = tookL c (L.take i)) := Lib.hid (by rw [HT.out, tookE, if_neg x1])
                        clear x1
                        go_wp2_with fail
                        go_roundw
                        case rel => exact ⟨rfl, i, false, by omega, rfl, rfl, fun h => (by cases h), fun _ => by rw [HBT.out]; exact HE.out⟩
                        case measure => first | omega | (simp [intOf]; done) | (simp [intOf]; omega)
              case rest =>
                obtain ⟨hwc2, rfl⟩ := hcut
                subst hwc2
                clear HT0 HR6
                have hwk : (ev 1 c 0 0 0 0 0 0).wf := ev_wf 1 c (by omega) (by omega)
                have hws : (ev 0 c 0 0 0 0 0 0).wf := ev_wf 0 c (by omega) (by omega)
                have hcc : (0 : Int) ≤ (c : Int) ∧ (c : Int) < (s.c : Int) := ⟨by omega, by rw [HSC.out]; omega⟩
                have hkw := kill_why (e := ev 1 c 0 0 0 0 0 0) HK.out hcc rfl rfl
                rw [HBL.out, HBT.out] at hkw
                have hh := con_hear HC.out HL6.out (ev 1 c 0 0 0 0 0 0) hwk
                by_cases hok : bl = true ∧ bt = false
                · have hw0 := hkw.2 hok
                  obtain ⟨ka, kw, kl⟩ := killed_is (e := ev 1 c 0 0 0 0 0 0) HK.out hcc rfl rfl hw0
                  rw [decide_eq_true hw0] at hh
                  have HH := Lib.hid hh
                  have HW := Lib.hid hw0
                  obtain ⟨rfl, rfl⟩ := hok
                  have hst : whyS (nextS s (ev 1 c 0 0 0 0 0 0)) (ev 0 c 0 0 0 0 0 0) = 1 := started_why (by rw [kw]) ⟨hcc.1, hcc.2⟩ rfl rfl
                  have hpb : pendB (nextS s (ev 1 c 0 0 0 0 0 0)) c = false := by
                    unfold pendB
                    rw [ka, Bool.and_false]
                  have HPB := Lib.hid hpb
                  have HST := Lib.hid hst
                  have HKL := Lib.hid kl
                  have HWS := Lib.hid hws
                  clear hh hw0 hkw hst hpb kl ka kw hwk hws
                  generalize nextS s (ev 1 c 0 0 0 0 0 0) = s2 at *
                  go_upto_region 30 with (go_at_call 10; refine HH.out.mono ?_; rintro e w7 ⟨rfl, o7, F7, f7, h7, -⟩; have HL7 := Lib.hid (h7 HW.out); clear o7 f7 h7)
                  have HP : Hid (Calls Try.prog 23 #[.pointer (some ⟨g, 0, none⟩), .int .i64 c] w7 fun e w' => (∃ x y z, e = .returned (.tuple #[.agg #[.int .i64 x, .int .i64 y, .int .i64 z], .bool false])) ∧ Off [] w7 w') := Lib.hid (by
                    have := HC.out.pend HL7.out.i c
                    rwa [HPB.out] at this)
                  go_upto_region 33 with (go_at_call 23; refine HP.out.mono ?_; rintro e w8 ⟨⟨x, y, z, rfl⟩, o8⟩)
                  have HL8 := Lib.hid (HC.out.off0 HL7.out (o8.alloc (.cells #[.int .i64 x, .int .i64 y, .int .i64 z] 38)))
                  obtain ⟨h2m, Fm2, m2, hm2, -⟩ := HC.out.mod HL8.out.i
                  have HU2 : Hid (Calls Try.prog 11 #[.pointer (some ⟨h2m, 0, none⟩)] (w8.alloc (.cells #[.int .i64 x, .int .i64 y, .int .i64 z] 38)) fun e w' => e = .returned (.int .i64 (used s.l)) ∧ Off [] (w8.alloc (.cells #[.int .i64 x, .int .i64 y, .int .i64 z] 38)) w') := Lib.hid (by
                    have := used_any hm2
                    rwa [HKL.out] at this)
                  clear o8 hm2
                  have HHS : Hid (∀ W, Off [] (w8.alloc (.cells #[.int .i64 x, .int .i64 y, .int .i64 z] 38)) W → Calls Try.prog 10 #[.pointer (some ⟨g, 0, none⟩), evV (ev 0 c 0 0 0 0 0 0)] W fun e w' => e = .returned (.bool false) ∧ Off [] w w') := Lib.hid (fun W o => (con_hear HC.out (HC.out.off0 HL8.out o) _ HWS.out).mono (fun e w' k => by
                    rw [HST.out] at k
                    obtain ⟨k1, k2, F9, k3, k4, k5⟩ := k
                    exact ⟨k1, (k5 (by decide)).2⟩))
                  go_wp2_with (first | (go_at_call 11; refine HU2.out.mono ?_; rintro e w9 ⟨rfl, o9⟩) | (go_at_call 10; refine (HHS.out _ o9).mono ?_; rintro e w10 ⟨rfl, o10⟩))
                  go_ret
                  exact ⟨rfl, o10⟩
                · have hne : whyS s (ev 1 c 0 0 0 0 0 0) ≠ 0 := fun h => hok (hkw.1 h)
                  rw [decide_eq_false hne] at hh
                  have HH := Lib.hid hh
                  have HW := Lib.hid hne
                  have hb : (bl && !bt) = false := by
                    cases bl <;> cases bt <;> simp_all
                  clear hh hne hkw hok hwk hws
                  have HB0 := Lib.hid hb
                  clear hb
                  go_upto_region 28 with (go_at_call 10; refine HH.out.mono ?_; rintro e w7 ⟨rfl, o7, F7, f7, -, h7⟩)
                  obtain ⟨hb7, o7b⟩ := h7 HW.out
                  have HP := Lib.hid (HC.out.pendB hb7 c)
                  have HO7 := Lib.hid o7b
                  clear hb7 o7b o7 f7 h7
                  cases bl with
                  | false =>
                    go_wp2_with (go_at_call 23; refine HP.out.mono ?_; rintro e w8 ⟨⟨x, y, z, q, rfl⟩, o8⟩)
                    go_ret
                    exact ⟨rfl, (HO7.out.trans o8).alloc _⟩
                  | true =>
                    cases bt with
                    | false => exact absurd HB0.out (by decide)
                    | true =>
                      go_wp2_with (go_at_call 23; refine HP.out.mono ?_; rintro e w8 ⟨⟨x, y, z, q, rfl⟩, o8⟩)
                      go_ret
                      exact ⟨rfl, (HO7.out.trans o8).alloc _⟩

set_option maxRecDepth 100000 in
set_option maxHeartbeats 4000000 in
theorem kills_walk {J : HoldJ} {B : HoldB} (C0 : ConJ J B) (P C M : Int) (v : Value) (L : List Ev) (n0 n1 : Nat) (h1 : n0 < 256) (h2 : n1 < 256) (w : World) (hv : RdE w v L) (hwf : ∀ e ∈ L, e.wf) (hcap : ∀ a l c, v = .slice a l c → c ≤ 9223372036854775807) :
    Calls Try.prog 5 #[.agg #[.int .i64 P, .int .i64 C, .int .i64 M], v, .agg #[.int .u8 n0, .int .u8 n1]] w fun e w' => e = .returned (.bool true) ∧ Off [] w w' := by
  have HC := Lib.hid C0
  have HK : Hid (∀ W, Off [] w W → Calls Try.prog 14 #[.agg #[.int .i64 P, .int .i64 C, .int .i64 M], v, .int .i64 n0, .int .i64 n1] W fun e w' => e = .returned (.bool true) ∧ Off [] w w') :=
    Lib.hid (fun W o => (kills_any C0 P C M v L n0 n1 h1 h2 W (hv.off o (by simp)) hwf hcap).mono fun e w' k => ⟨k.1, o.trans k.2⟩)
  clear C0 hv hwf hcap
  have d1 : (n0 : Int) < 256 := by omega
  have d2 : (n1 : Int) < 256 := by omega
  have w1 : IntKind.i64.wrap (n0 : Int) = (n0 : Int) := IntWalk.i64_in _ (by omega)
  have w2 : IntKind.i64.wrap (n1 : Int) = (n1 : Int) := IntWalk.i64_in _ (by omega)
  go_enter Try.func5, Try.ntmps5
  go_upto_region 3 with (go_at_call 7; refine (awake_any HC.out _).mono ?_; rintro e w1 ⟨rfl, o1⟩)
  refine at_worldJ (R := fun W' => Off [] w W' ∧ Blk W' w.heap.size 23 #[.int .i64 P, .int .i64 C, .int .i64 M] ∧ Blk W' (w.heap.size + 1) 50 #[.int .u8 n0, .int .u8 n1]) ⟨(((Off.refl _ _).alloc _).alloc _).trans o1, o1.blk ((Blk.new _ _ _).alloc _) (by simp), o1.blk (size_one w _ _ ▸ Blk.new _ _ _) (by simp)⟩ ?_
  rintro W1 ⟨oW, hs, hn⟩
  obtain ⟨s0, s1, s2⟩ := three_cell hs
  obtain ⟨-, y0, y1⟩ := two_cells hn
  have HOW := Lib.hid oW
  clear oW hs hn o1
  go_wp2_with (go_at_call 14; refine (HK.out _ HOW.out).mono ?_; rintro e w2 ⟨rfl, o2⟩)
  go_ret
  exact ⟨rfl, o2⟩

end Go.Proofs.Ytfgkjfneeggbjaa.Jud
