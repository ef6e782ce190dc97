/- ModelApart: the walk, over the contracts of the program's model. -/
import Derived.Test.YtpkpkfcboimhnaaModF
namespace Go.Proofs.Ytpkpkfcboimhnaa.Mod
open Go.RowKit Mem Go.Proofs.Ytpkpkfcboimhnaa.Open

def ScanRel (wb : World) (l : List Bk) (row most used_ i : Value) (wr : World) : Prop :=
  Off [] wb wr ∧ ∃ a r m : Nat, a ≤ 60 ∧ i = .int .i64 a ∧ row = .int .i64 r ∧ most = .int .i64 m ∧ used_ = .int .i64 (usedTo a l) ∧ Scan l a r m
def ManyRel (wr : World) (l : List Bk) (a : Nat) (mn i : Value) (wi : World) : Prop :=
  Off [] wr wi ∧ ∃ k : Nat, k ≤ l.length ∧ i = .int .i64 k ∧ mn = .int .i64 (many a (l.take k))
theorem many_le {x : Int} {l : List Bk} : many x l ≤ l.length := by
  induction l with
  | nil => exact Nat.le_refl _
  | cons b l ih => rw [many, List.length_cons]; split <;> omega
theorem usedTo_bd {W : Int} {l : List Bk} (h : Ok W l) (a : Int) : 0 ≤ usedTo a l ∧ usedTo a l ≤ used l := by
  induction l with
  | nil => simp [usedTo, used]
  | cons b l ih =>
    have h1 := ih h.tail
    have h2 := h.head
    rw [usedTo, used]
    split
    · omega
    · split <;> omega

set_option maxRecDepth 100000 in
set_option maxHeartbeats 8000000 in
theorem apart_walk {I : Hold} (C : Con I) (a0 : Option Addr) (len cap : Nat) (z : Nat → Tri) (w : World) (hr : IsRowT w a0 len cap z) :
    Calls Try.prog 4 #[.slice a0 len cap] w fun e w' => e = .returned (.bool true) ∧ Off [] w w' := by
  have HC := Lib.hid C
  have HR := Lib.hid hr
  clear C hr
  by_cases hlen : 60 < len
  · have hl1 : decide (60 < len) = true := by simpa using hlen
    go_enter Try.func4, Try.ntmps4
    go_wp2_with (go_at_call 7; refine (awake_any HC.out _).mono ?_; rintro e w1 ⟨rfl, o1⟩)
    go_ret
    exact ⟨rfl, o1⟩
  · have hl0 : decide (60 < len) = false := by simpa using hlen
    go_enter Try.func4, Try.ntmps4
    go_wp2_with (first | (go_at_call 7; refine (awake_any HC.out _).mono ?_; rintro e w1 ⟨rfl, o1⟩; have O1 := Lib.hid o1; clear o1) | (go_at_call 8; refine (HC.out.new 60 _).mono ?_; rintro e w2 ⟨g, F, rfl, hi, ho, hf⟩; have L1 : Hid (Live I w g F 60 [] w2) := Lib.hid ⟨hi, O1.out.trans ho, fun k hk => Nat.le_trans O1.out.size (hf k hk)⟩; clear hi ho hf))
    go_loopw [4] (fun i wr => FillRel I w g 60 len i wr) (fun i _ => len - (intOf i).toNat)
    case atStart => exact ⟨0, [], F, Nat.zero_le _, rfl, L1.out⟩
    case round =>
      clear L1
      obtain ⟨j, l, F, hj, rfl, hl⟩ := hrel
      have HL := Lib.hid hl
      clear hl
      by_cases hlt : j < len
      · have dlt : (j : Int) < (len : Int) := by omega
        obtain ⟨b, off, rfl, hbl, hcap, hmax, hcell⟩ := HR.out.some_ (by omega)
        obtain ⟨-, hzc⟩ := hcell j hlt
        have hmem : ∀ i u, (z j).cells[i]? = some u → wr.cell? ⟨b, off + j * 3 + i, none⟩ = some u := fun i u hu => by rw [HL.out.off.cell hbl (by simp)]; exact hzc i u hu
        have c0 := hmem 0 _ rfl
        have c1 := hmem 1 _ rfl
        have c2 := hmem 2 _ rfl
        rw [Nat.add_zero] at c0
        clear hcell hzc hmem
        generalize z j = d at *
        by_cases hd : d.n0 ≤ 3
        · have dd : decide (d.n0 ≤ 3) = true := by simpa using hd
          go_upto_region 12 with fail
          go_still_tail 11, (by kernel_rfl)
          go_wp2_with (go_at_call 10; refine (con_take HC.out (HC.out.off0 HL.out (Off.refl _ _).drew) _ _).mono ?_; rintro e w3 ⟨rfl, F3, h3⟩)
          go_roundw
          case rel => exact ⟨j + 1, _, F3, by omega, by go_num, h3⟩
          case measure => simp [intOf]; omega
        · have dd : decide (d.n0 ≤ 3) = false := by simpa using hd
          go_wp2_with (go_at_call 12; refine (con_give HC.out HL.out _).mono ?_; rintro e w3 ⟨rfl, F3, h3⟩)
          go_roundw
          case rel => exact ⟨j + 1, _, F3, by omega, by go_num, h3⟩
          case measure => simp [intOf]; omega
      · obtain rfl : j = len := by omega
        clear hlt hj
        have HOK := Lib.hid (HL.out.ok HC.out)
        go_upto_region 16 with (go_at_call 24; refine (HC.out.blocks HL.out.i).mono ?_; rintro e wb ⟨⟨bv, rfl, hrd⟩, ob⟩)
        obtain ⟨ba, bc, rfl⟩ := hrd.len
        have HRD := Lib.hid hrd
        have HLB := Lib.hid (HC.out.off0 HL.out ob)
        clear hrd ob
        have hll := ok_len 0 HOK.out (fun b hb => (HOK.out.each b hb).1) (by decide)
        go_wp2_with fail
        go_loopw [5, 6, 7, 9] (fun row mo us i wr => ScanRel wb l row mo us i wr) (fun _ _ _ i _ => 60 - (intOf i).toNat)
        case atStart => exact ⟨Off.refl _ _, 0, 0, 0, Nat.zero_le _, rfl, rfl, rfl, by rw [show ((0 : Nat) : Int) = 0 from rfl, usedTo_zero HOK.out], Scan.zero l⟩
        case round =>
          clear HL
          obtain ⟨ho, a, r, m, ha, rfl, rfl, rfl, rfl, hs⟩ := hrel
          have HO := Lib.hid ho
          have HS := Lib.hid hs
          have hrle := hs.le
          clear ho hs
          have hub := usedTo_bd HOK.out a
          have hul := used_le 0 HOK.out (fun b hb => (HOK.out.each b hb).1) (by decide)
          by_cases ha60 : a < 60
          · have da : (a : Int) < 60 := by omega
            go_wp2_with fail
            go_loopw [10, 11] (fun mn i wi => ManyRel wr l a mn i wi) (fun _ i _ => l.length - (intOf i).toNat)
            case atStart => exact ⟨Off.refl _ _, 0, Nat.zero_le _, rfl, rfl⟩
            case round =>
              obtain ⟨hoi, k, hk, rfl, rfl⟩ := hrel
              have HOI := Lib.hid hoi
              clear hoi
              by_cases hkl : k < l.length
              · obtain ⟨g2, o2, d2, hv2, p2, q2⟩ := (HRD.out.off (HO.out.trans HOI.out) (by simp)).at k hkl
                injection hv2 with hv2 _ hv2'
                subst hv2 hv2'
                have hb := HOK.out.each l[k] (List.getElem_mem hkl)
                have HT := Lib.hid (List.take_succ_eq_append_getElem hkl)
                have hml : many (a : Int) (l.take k) ≤ k := Nat.le_trans many_le (by rw [List.length_take]; omega)
                have dk : (k : Int) < (l.length : Int) := by omega
                generalize l[k] = x at *
                obtain ⟨x1, x2, x3⟩ := hb
                generalize hM : many (a : Int) (l.take k) = M at *
                have HM := Lib.hid hM
                clear hM
                by_cases e1 : x.p ≤ a
                · have b1 : decide (x.p ≤ (a : Int)) = true := by simpa using e1
                  have w1 : IntKind.i64.wrap ((a : Int) - x.p) = (a : Int) - x.p := IntWalk.i64_in _ (by omega)
                  by_cases e2 : (a : Int) - x.p < x.n
                  · have b2 : decide ((a : Int) - x.p < x.n) = true := by simpa using e2
                    have b3 : (M : Int) < 5000 := by omega
                    have hin : inside a x = true := by simp [inside]; omega
                    go_upto_region 23 with fail
                    go_quiet (fail)
                    go_wp2_with fail
                    go_roundw
                    case rel => exact ⟨HOI.out.drewN _, k + 1, by omega, by go_num, by rw [HT.out, many_snoc, HM.out, hin]; go_num⟩
                    case measure => simp [intOf]; omega
                  · have b2 : decide ((a : Int) - x.p < x.n) = false := by simpa using e2
                    have hin : inside a x = false := by simp [inside]; omega
                    go_upto_region 23 with fail
                    go_quiet (fail)
                    go_wp2_with fail
                    go_roundw
                    case rel => exact ⟨HOI.out.drewN _, k + 1, by omega, by go_num, by rw [HT.out, many_snoc, HM.out, hin]; rfl⟩
                    case measure => simp [intOf]; omega
                · have b1 : decide (x.p ≤ (a : Int)) = false := by simpa using e1
                  have hin : inside a x = false := by simp [inside]; omega
                  go_upto_region 23 with fail
                  go_quiet (fail)
                  go_wp2_with fail
                  go_roundw
                  case rel => exact ⟨HOI.out.drewN _, k + 1, by omega, by go_num, by rw [HT.out, many_snoc, HM.out, hin]; rfl⟩
                  case measure => simp [intOf]; omega
              · obtain rfl : k = l.length := by omega
                clear hkl hk
                have hmb := many_busy HOK.out (a : Int)
                have hmle : m ≤ a := by
                  rcases HS.out.some_ with e | ⟨p, e, _⟩
                  · omega
                  · omega
                rw [List.take_length]
                obtain ⟨B, hB⟩ : ∃ B, busy l a = B := ⟨_, rfl⟩
                rw [hB] at hmb
                have HBm := Lib.hid hB
                have HLi := Lib.hid (HC.out.off0 (HC.out.off0 HLB.out HO.out) HOI.out)
                have hsome := insideF_busy (l := l) (x := a)
                rw [hB] at hsome
                clear hB
                cases B with
                | true =>
                  have hm1 : many (a : Int) l = 1 := by simpa using hmb
                  have HM1 := Lib.hid hm1
                  rw [show ((many (a : Int) l : Nat) : Int) = 1 from by omega]
                  obtain ⟨x, hx⟩ := Option.isSome_iff_exists.1 hsome
                  obtain ⟨hxl, x1, x2⟩ := insideF_some hx
                  obtain ⟨hx0, -, -⟩ := HOK.out.each x hxl
                  have I1 : Hid (∀ w1, Live I w g F 60 l w1 → Calls Try.prog 16 #[.pointer (some ⟨g, 0, none⟩), .int .i64 a] w1 fun e w' => e = .returned (.tuple #[.agg #[.int .i64 x.p, .int .i64 x.n], .bool true]) ∧ Off [] w1 w') := Lib.hid (fun w1 h => by
                    have := HC.out.inside h.i a
                    rwa [hx] at this)
                  clear hmb hm1 hx hsome hxl
                  have b1 : decide ((a : Int) < x.p) = false := by simp; omega
                  have w1 : wrap64 ((a : Int) - x.p) = (a : Int) - x.p := IntWalk.wrap64_in _ (by omega)
                  have b2 : decide (x.n ≤ (a : Int) - x.p) = false := by simp; omega
                  go_wp2_with (go_at_call 16; refine (I1.out _ HLi.out).mono ?_; rintro e w3 ⟨rfl, o3⟩)
                  go_roundw
                  case rel => exact ⟨((HO.out.trans HOI.out).trans o3).alloc _, a + 1, 0, m, by omega, by go_num, rfl, rfl, by rw [show ((a + 1 : Nat) : Int) = (a : Int) + 1 from by omega, usedTo_step HOK.out, HM1.out]; rfl, HS.out.busy HBm.out⟩
                  case measure => simp [intOf]; omega
                | false =>
                  have hm1 : many (a : Int) l = 0 := by simpa using hmb
                  have HM1 := Lib.hid hm1
                  rw [show ((many (a : Int) l : Nat) : Int) = 0 from by omega]
                  have hx : insideF l a = none := by simpa using hsome
                  have I1 : Hid (∀ w1, Live I w g F 60 l w1 → Calls Try.prog 16 #[.pointer (some ⟨g, 0, none⟩), .int .i64 a] w1 fun e w' => e = .returned (.tuple #[.agg #[.int .i64 0, .int .i64 0], .bool false]) ∧ Off [] w1 w') := Lib.hid (fun w1 h => by
                    have := HC.out.inside h.i a
                    rwa [hx] at this)
                  clear hmb hm1 hx hsome
                  have hst := HS.out.step HBm.out
                  have hus : usedTo ((a + 1 : Nat) : Int) l = usedTo a l := by rw [show ((a + 1 : Nat) : Int) = (a : Int) + 1 from by omega, usedTo_step HOK.out, HM1.out]; simp
                  by_cases hmr : m < r + 1
                  · rw [Nat.max_eq_right (by omega)] at hst
                    have HST := Lib.hid hst
                    have HUS := Lib.hid hus
                    have d1 : (m : Int) < (r : Int) + 1 := by omega
                    clear hst hus
                    go_wp2_with (go_at_call 16; refine (I1.out _ HLi.out).mono ?_; rintro e w3 ⟨rfl, o3⟩)
                    go_roundw
                    case rel => exact ⟨((HO.out.trans HOI.out).trans o3).alloc _, a + 1, r + 1, r + 1, by omega, by go_num, by go_num, by go_num, by rw [HUS.out], HST.out⟩
                    case measure => simp [intOf]; omega
                  · rw [Nat.max_eq_left (by omega)] at hst
                    have HST := Lib.hid hst
                    have HUS := Lib.hid hus
                    have d1 : ¬ (m : Int) < (r : Int) + 1 := by omega
                    clear hst hus
                    go_wp2_with (go_at_call 16; refine (I1.out _ HLi.out).mono ?_; rintro e w3 ⟨rfl, o3⟩)
                    go_roundw
                    case rel => exact ⟨((HO.out.trans HOI.out).trans o3).alloc _, a + 1, r + 1, m, by omega, by go_num, by go_num, by go_num, by rw [HUS.out], HST.out⟩
                    case measure => simp [intOf]; omega
          · obtain rfl : a = 60 := by omega
            have hend := HS.out.end_ (show Ok ((60 : Nat) : Int) l from HOK.out)
            have hmle : m ≤ 60 := by
              rcases HS.out.some_ with e | ⟨p, e, _⟩
              · omega
              · omega
            have hua : usedTo ((60 : Nat) : Int) l = used l := usedTo_all (show Ok ((60 : Nat) : Int) l from HOK.out)
            rw [hua]
            have HLi := Lib.hid (HC.out.off0 HLB.out HO.out)
            have R1 : Hid (∀ w1, Live I w g F 60 l w1 → Calls Try.prog 18 #[.pointer (some ⟨g, 0, none⟩), .int .i64 ((m : Int) + 1)] w1 fun e w' => e = .returned (.bool false) ∧ Off [] w1 w') := Lib.hid (fun w1 h => by
              have := HC.out.room h.i ((m : Int) + 1)
              rwa [show roomB 60 l ((m : Int) + 1) = false from hend.1] at this)
            by_cases hm0 : m = 0
            · subst hm0
              clear hend hua
              go_wp2_with (first | (go_at_call 20; refine (HC.out.used HLi.out.i).mono ?_; rintro e w5 ⟨rfl, o5⟩; have L5 := Lib.hid (HC.out.off0 HLi.out o5); clear o5) | (go_at_call 18; refine (R1.out _ L5.out).mono ?_; rintro e w6 ⟨rfl, o6⟩; have L6 := Lib.hid (HC.out.off0 L5.out o6); clear o6))
              go_ret
              exact ⟨rfl, L6.out.off⟩
            · have R2 : Hid (∀ w1, Live I w g F 60 l w1 → Calls Try.prog 18 #[.pointer (some ⟨g, 0, none⟩), .int .i64 (m : Int)] w1 fun e w' => e = .returned (.bool true) ∧ Off [] w1 w') := Lib.hid (fun w1 h => by
                have := HC.out.room h.i (m : Int)
                rwa [show roomB 60 l (m : Int) = true from hend.2.resolve_left hm0] at this)
              have dm : ((m : Int) == 0) = false := by simp; omega
              clear hend hua
              go_wp2_with (first | (go_at_call 20; refine (HC.out.used HLi.out.i).mono ?_; rintro e w5 ⟨rfl, o5⟩; have L5 := Lib.hid (HC.out.off0 HLi.out o5); clear o5) | (go_at_call 18; ((with_reducible refine (R1.out _ L5.out).mono ?_); rintro e w6 ⟨rfl, o6⟩; have L6 := Lib.hid (HC.out.off0 L5.out o6); clear o6)) | (go_at_call 18; ((with_reducible refine (R2.out _ L6.out).mono ?_); rintro e w7 ⟨rfl, o7⟩; have L7 := Lib.hid (HC.out.off0 L6.out o7); clear o7)))
              go_ret
              exact ⟨rfl, L7.out.off⟩

end Go.Proofs.Ytpkpkfcboimhnaa.Mod
