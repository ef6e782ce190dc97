/- Stage 7: JudgeBlocks, over the contracts of the program's judge. -/
import Derived.Test.YtfgkjfneeggbjaaJudB2
import Derived.Great.BuildSlice
import Derived.Deep.RegionHeld3
namespace Go.Proofs.Ytfgkjfneeggbjaa.Jud
open Go.RowKit Mem Go.Proofs.Ytfgkjfneeggbjaa.Mod Go.Proofs.Ytfgkjfneeggbjaa.Plan Go.Proofs.Ytfgkjfneeggbjaa.RowK

/-- A row of one event, written whole. -/
theorem fill_event (a b c d e f g h : Int) : Instr.fill (fun i => some (i * 8, 8)) ((Array.range (1 * 8)).map ((Value.agg #[.int .i64 0, .int .i64 0, .int .i64 0, .int .i64 0, .int .i64 0, .int .i64 0, .int .i64 0, .int .i64 0]).cells[· % (Value.agg #[.int .i64 0, .int .i64 0, .int .i64 0, .int .i64 0, .int .i64 0, .int .i64 0, .int .i64 0, .int .i64 0]).cells.size]!))
    [(0, .agg #[.int .i64 a, .int .i64 b, .int .i64 c, .int .i64 d, .int .i64 e, .int .i64 f, .int .i64 g, .int .i64 h])] = some #[.int .i64 a, .int .i64 b, .int .i64 c, .int .i64 d, .int .i64 e, .int .i64 f, .int .i64 g, .int .i64 h] := by kernel_rfl

/-- A row of one event, made. -/
theorem wpList_build_ev {ops : Array Oper} {rest : List Oper} {o : Oper} {a : Act} {w : World} {Q : Exit → Act → World → Prop} (hg : o.guard = none) (x : Operand) (ho : o.op = .buildSlice 24 1 #[(0, x)]) (c0 c1 c2 c3 c4 c5 c6 c7 : Int)
    (hx : a.eval x = .agg #[.int .i64 c0, .int .i64 c1, .int .i64 c2, .int .i64 c3, .int .i64 c4, .int .i64 c5, .int .i64 c6, .int .i64 c7])
    (h : wpList Try.prog ops Q rest (a.put o.dst (.slice (some ⟨w.heap.size, 0, none⟩) 1 1)) (w.alloc (.cells #[.int .i64 c0, .int .i64 c1, .int .i64 c2, .int .i64 c3, .int .i64 c4, .int .i64 c5, .int .i64 c6, .int .i64 c7] 41))) :
    wpList Try.prog ops Q (o :: rest) a w := by
  obtain ⟨i, hi, hz0, hz1, hz2⟩ := info_parts event_info
  refine wpList_buildSlice hg _ _ 1 _ ho _ i _ Try.underlying24 hi hz0 (by rw [hz1]; decide) (by rw [hz1]; decide) ?_ h
  rw [hz1]
  simp only [List.map_toArray, List.map_cons, List.map_nil, hx]
  exact fill_event c0 c1 c2 c3 c4 c5 c6 c7
theorem wpList_world {P : Program} {ops : Array Oper} {rest : List Oper} {a : Act} {w : World} {Q : Exit → Act → World → Prop} {R : World → Prop} (h : R w) (k : ∀ W, R W → wpList P ops Q rest a W) : wpList P ops Q rest a w := k w h

set_option maxRecDepth 100000 in
set_option maxHeartbeats 8000000 in
theorem blocks_walk {J : HoldJ} {B : HoldB} (C0 : ConJ J B) (P C M : Int) (v0 : Value) (L : List Ev) (w : World) (hv : RdE w v0 L) (hwf : ∀ e ∈ L, e.wf) (hcap : ∀ a l c, v0 = .slice a l c → c ≤ 9223372036854775807) :
    Calls Try.prog 4 #[.agg #[.int .i64 P, .int .i64 C, .int .i64 M], v0] w fun e w' => e = .returned (.bool true) ∧ Off [] w w' := by
  have HC := Lib.hid C0
  have HV := Lib.hid hv
  have HWF := Lib.hid hwf
  obtain ⟨va, vc, rfl, hvc⟩ := hv.parts
  have hvm := hcap _ _ _ rfl
  clear C0 hv hwf hcap
  by_cases hlen : 200 < L.length
  · have hl1 : decide (200 < (L.length : Int)) = true := by simp; omega
    go_enter Try.func4, Try.ntmps4
    go_wp2_with (go_at_call 7; refine (awake_any HC.out _).mono ?_; rintro e w1 ⟨rfl, o1⟩; have O1 := Lib.hid (((Off.refl [] w).alloc _).trans o1); clear o1)
    go_ret
    exact ⟨rfl, O1.out⟩
  · have hl0 : decide (200 < (L.length : Int)) = false := by simp; omega
    go_enter Try.func4, Try.ntmps4
    go_upto_region 5 with (go_at_call 7; refine (awake_any HC.out _).mono ?_; rintro e w1 ⟨rfl, o1⟩)
    refine at_worldJ (R := fun W' => Off [] w W' ∧ Blk W' w.heap.size 23 #[.int .i64 P, .int .i64 C, .int .i64 M]) ⟨((Off.refl _ _).alloc _).trans o1, o1.blk (Blk.new _ _ _) (by simp)⟩ ?_
    rintro W1 ⟨oW, hs⟩
    have HOW := Lib.hid oW
    obtain ⟨s0, s1, s2⟩ := three_cell hs
    clear oW hs o1
    go_wp2_with (go_at_call 9; refine (HC.out.new P C M _).mono ?_; rintro e w3 ⟨g, F, rfl, hj, o3, hf⟩; obtain ⟨h0, Fm, m0, -, -⟩ := HC.out.mod hj)
    have HL0 : Hid (LiveJ J w g F (st0 P C M) w3) := Lib.hid ⟨hj, HOW.out.trans o3, fun k hk => Nat.le_trans HOW.out.size (hf k hk)⟩
    clear hj o3 hf m0 s0 s1 s2
    go_loopw [6, 7, 8, 9] (fun u m v i wr => BlRel J w g (st0 P C M) L u m v i wr) (fun _ _ _ i _ => L.length - (intOf i).toNat)
    case atStart => exact ⟨0, _, F, [], Nat.zero_le _, rfl, rfl, ⟨HL0.out, RowIn.nil _ _ _ _, (fun k hk => by simp [Value.ownBlock] at hk), by unfold Held; rw [st0_l]; exact List.Perm.refl _⟩, by rw [st0_l]; rfl, rfl⟩
    case round =>
      clear HL0
      obtain ⟨n, s, F2, A, hn, rfl, hg, hbl, rfl, rfl⟩ := hrel
      have HG := Lib.hid hg
      have HBL := Lib.hid hbl
      clear hg hbl
      by_cases hlt : n < L.length
      · have d1 : (n : Int) < (L.length : Int) := by omega
        obtain ⟨eg, eo, rfl, -⟩ := HV.out.at n hlt
        have HX : Hid (∀ W, Off [] w W → W.cell? ⟨eg, eo + n * 8, none⟩ = some (.int .i64 L[n].kind) ∧ W.cell? ⟨eg, eo + n * 8 + 1, none⟩ = some (.int .i64 L[n].client) ∧ W.cell? ⟨eg, eo + n * 8 + 2, none⟩ = some (.int .i64 L[n].ok) ∧
            W.cell? ⟨eg, eo + n * 8 + 3, none⟩ = some (.int .i64 L[n].oa) ∧ W.cell? ⟨eg, eo + n * 8 + 4, none⟩ = some (.int .i64 L[n].on) ∧ W.cell? ⟨eg, eo + n * 8 + 5, none⟩ = some (.int .i64 L[n].at_) ∧ W.cell? ⟨eg, eo + n * 8 + 6, none⟩ = some (.int .i64 L[n].n) ∧
            W.cell? ⟨eg, eo + n * 8 + 7, none⟩ = some (.int .i64 L[n].err)) := Lib.hid (fun W o => by
          obtain ⟨eg2, eo2, he, h⟩ := (HV.out.off o (by simp)).at n hlt
          injection he with he
          injection he with he1 he2 _
          subst he1 he2
          exact h)
        have HT := Lib.hid (List.take_succ_eq_append_getElem hlt)
        have hh := con_hear HC.out HBL.out.l L[n] (HWF.out _ (List.getElem_mem hlt))
        generalize L[n] = x at *
        obtain ⟨c0, c1, c2, c3, c4, c5, c6, c7⟩ := HX.out wr HBL.out.l.off
        by_cases hw : whyS s x = 0
        · by_cases x3 : x.kind = 3
          · skip
            rw [decide_eq_true hw] at hh
            have he : evV x = .agg #[.int .i64 3, .int .i64 x.client, .int .i64 x.ok, .int .i64 x.oa, .int .i64 x.on, .int .i64 x.at_, .int .i64 x.n, .int .i64 x.err] := by show Value.agg _ = _; rw [x3]
            rw [he] at hh
            have hx3 := HX.out
            simp only [x3] at hx3
            have HX := Lib.hid hx3
            rw [x3] at c0
            have HH := Lib.hid hh
            have HW := Lib.hid hw
            have HX3 := Lib.hid x3
            clear hh hw he hx3
            go_upto_block 2 with (go_at_call 10; refine HH.out.mono ?_; rintro e w5 ⟨rfl, o5, F5, h5, h6, -⟩; have HB5 := Lib.hid (HBL.out.heard o5 h5 (h6 HW.out)); have k0 := (HX.out w5 HB5.out.1.off).1; clear o5 h5 h6)
            clear c0 c1 c2 c3 c4 c5 c6 c7 k0
            obtain ⟨hm0, Fm0, -, hmd, -⟩ := HC.out.mod HBL.out.l.i
            obtain ⟨q1, q2, q3⟩ := held_bounds HBL.out.h hmd.ok hmd.w0 hmd.w1
            have HMD := Lib.hid (show Ok s.W s.l ∧ 0 ≤ s.W ∧ s.W ≤ 4096 from ⟨hmd.ok, hmd.w0, hmd.w1⟩)
            clear hmd
            go_cut [6, 7, 8, 10] from 48 to 102 (fun u m v _ wx => BlCut J w g (nextS s x) u m v wx)
            case first =>
              have hl3 : nextL s.l x = ins s.l x.at_ x.n := by unfold nextL; rw [if_pos x3]
              obtain ⟨-, -, hwp⟩ := why_in HW.out
              obtain ⟨⟨t1, -, t3⟩, -⟩ := canB_iff.1 (why_took x3 hwp).2.2.2
              have HU : Hid (used (nextS s x).l = used s.l + x.n) := Lib.hid (by show used (nextL s.l x) = _; rw [hl3, used_ins])
              have HX3 := Lib.hid x3
              have HT1 := Lib.hid t1
              have hxn : x.n ≤ 4096 := by have := HMD.out.2.2; have := (canB_iff.1 (why_took x3 hwp).2.2.2).1; omega
              have w1 : IntKind.i64.wrap (used s.l + x.n) = used s.l + x.n := IntWalk.i64_in _ (by omega)
              have w2 : IntKind.i64.wrap ((A.length : Int) + 1) = (A.length : Int) + 1 := IntWalk.i64_in _ (by omega)
              clear hl3 hwp t1 t3 x3 hxn
              obtain ⟨c0, c1, c2, c3, c4, c5, c6, c7⟩ := HX.out w5 HB5.out.1.off
              obtain ⟨i0, hi, hz0, hz1, hz2⟩ := info_parts event_info
              have HI := Lib.hid hi
              have HZ0 := Lib.hid hz0
              have HZ1 := Lib.hid hz1
              have HZ2 := Lib.hid hz2
              clear hi hz0 hz1 hz2
              have h63 : maxLen = 9223372036854775807 := rfl
              have hsz := HB5.out.1.off.size
              go_upto_region 18 with fail
              go_wp2_with (at_builtin; refine wpList_world (R := fun W => Off [] w5 W ∧ Blk W w5.heap.size 41 (evL x).toArray) ⟨(Off.refl _ _).alloc _, (Blk.new _ _ _).to (by rw [← HX3.out])⟩ ?_; rintro W6 ⟨o6, hb6⟩; have HR := Lib.hid (HB5.out.2.1.keep o6 (by simp)); have HN : Hid (∀ j u, (evL x)[j]? = some u → W6.cell? ((⟨w5.heap.size, 0, none⟩ : Addr).add j) = some u) := Lib.hid (fun j u hu => by rw [addr_add, hb6.cell, Nat.zero_add]; simpa using hu); have hs6 := o6.size; have HO6 := Lib.hid o6; clear o6 hb6; refine wpList_append_row rfl _ _ 24 rfl i0 _ 64 Try.underlying24 HI.out HZ0.out HZ1.out HZ2.out rfl (by decide) (by simp [Act.eval]) HR.out ⟨w5.heap.size, 0, none⟩ 1 1 (evL x) (by simp [Act.eval]) rfl HN.out (evL_one x) (by omega) (by omega) (by omega) ?_; rintro a6 k6 w7 hr7 ho7 hb7)
              go_meet
              case rel =>
                have hr8 := hr7.out
                exact ⟨F5, A ++ [x], bls_app HC.out (HC.out.off0 HB5.out.1 HO6.out) (fun k hk => ⟨(HB5.out.2.1.lt k hk).1, HB5.out.2.2 k hk⟩) (HBL.out.h.took HX3.out) ho7.out (by rw [List.length_append, List.flatMap_append]; simpa using hr8) hb7.out, by rw [HU.out], by rw [List.length_append]; rfl⟩
            case rest =>
              obtain ⟨F7, A7, hb7, rfl, rfl⟩ := hcut
              have hmd7 := HC.out.mod hb7.l.i
              obtain ⟨h7, Fm7, m7, hi7, -⟩ := hmd7
              have HL7 := Lib.hid hb7.h.len
              have HB7 := Lib.hid hb7
              have HU7 := Lib.hid (used_any hi7)
              have HBK : Hid (∀ W, Off [] wc W → Calls Try.prog 12 #[.pointer (some ⟨h7, 0, none⟩)] W (TellPost W (nextS s x).l)) := Lib.hid (fun W o => dblocks_any (hi7.off0 o))
              have HM7 : Hid (∀ W, Off [] wc W → W.cell? ⟨g, 0, none⟩ = some (.pointer (some ⟨h7, 0, none⟩))) := Lib.hid (fun W o => (o.cell (p := ⟨g, 0, none⟩) (World.block_lt_of_cell? wc ⟨g, 0, none⟩ m7) (by simp)).trans m7)
              clear hb7 hi7
              go_wp2_with (first | (go_at_call 11; refine HU7.out.mono ?_; rintro e w8 ⟨rfl, o8⟩; have m8 := HM7.out _ o8) | (go_at_call 12; refine (HBK.out _ o8).mono ?_; rintro e w9 ⟨⟨ub, rfl, hrd⟩, o9⟩; obtain ⟨ba, bc, rfl⟩ := hrd.len; rw [← HL7.out]))
              have HB9 := Lib.hid (HB7.out.off0 HC.out (o8.trans o9))
              go_roundw
              case rel => exact ⟨n + 1, nextS s x, F7, A7, by omega, by go_num, by rw [HT.out]; exact goes_snoc HG.out HW.out, HB9.out, rfl, rfl⟩
              case measure => simp [intOf]; omega
          · by_cases x4 : x.kind = 4
            · rw [decide_eq_true hw] at hh
              have he : evV x = .agg #[.int .i64 4, .int .i64 x.client, .int .i64 x.ok, .int .i64 x.oa, .int .i64 x.on, .int .i64 x.at_, .int .i64 x.n, .int .i64 x.err] := by show Value.agg _ = _; rw [x4]
              rw [he] at hh
              have hx4 := HX.out
              simp only [x4] at hx4
              have HX := Lib.hid hx4
              rw [x4] at c0
              have HH := Lib.hid hh
              have HW := Lib.hid hw
              have HX4 := Lib.hid x4
              clear hh hw he hx4 x3
              go_upto_block 2 with (go_at_call 10; refine HH.out.mono ?_; rintro e w5 ⟨rfl, o5, F5, h5, h6, -⟩; have HB5 := Lib.hid (HBL.out.heard o5 h5 (h6 HW.out)); have k0 := (HX.out w5 HB5.out.1.off).1; clear o5 h5 h6)
              clear c0 c1 c2 c3 c4 c5 c6 c7 k0
              obtain ⟨hm0, Fm0, -, hmd, -⟩ := HC.out.mod HBL.out.l.i
              obtain ⟨q1, q2, q3⟩ := held_bounds HBL.out.h hmd.ok hmd.w0 hmd.w1
              have HMD := Lib.hid (show Ok s.W s.l ∧ 0 ≤ s.W ∧ s.W ≤ 4096 from ⟨hmd.ok, hmd.w0, hmd.w1⟩)
              clear hmd
              go_cut [6, 7, 8, 10] from 48 to 102 (fun u m v _ wx => BlCut J w g (nextS s x) u m v wx)
              case first =>
                obtain ⟨-, -, hwp⟩ := why_in HW.out
                have hth := HBL.out.h.there (why_gave x4 hwp).2.2.2
                have hg := fun k hk he => HBL.out.h.gave HMD.out.1 x4 (k := k) hk he
                have hnf := HB5.out.2.2
                obtain ⟨e0, e1, e2, e3, e4, e5, e6, e7⟩ := HX.out w5 HB5.out.1.off
                have HTH := Lib.hid hth
                have HGV := Lib.hid hg
                have HLJ := Lib.hid HB5.out.1
                have hrow := HB5.out.2.1.here
                clear hwp hth hg x4 HX4
                rcases hrow with ⟨rfl, h0⟩ | ⟨gA, cap, Lc, rfl, hbase, hblk, hnc, hcm, hcs, htake⟩
                · exfalso
                  obtain ⟨k, hk, -⟩ := HTH.out
                  omega
                · have HBLK := Lib.hid hblk
                  have HTK := Lib.hid htake
                  have HNF := Lib.hid (hnf gA rfl)
                  clear hblk htake hnf HB5 HBL
                  go_wp2_with fail
                  go_loopw [6, 7, 8, 10] (fun u m v i wr => FindO w5 A x (used s.l) (.slice (some ⟨gA, 0, none⟩) A.length cap) u m v i wr) (fun _ _ _ i _ => A.length - (intOf i).toNat)
                  case atStart => exact ⟨rfl, rfl, rfl, Off.refl _ _, 0, Nat.zero_le _, rfl, fun j _ hj => absurd hj (Nat.not_lt_zero _)⟩
                  case round =>
                    obtain ⟨rfl, rfl, rfl, ho, k, hk, rfl, hno⟩ := hrel
                    have HO := Lib.hid ho
                    have HNO := Lib.hid hno
                    clear ho hno e0 e1 e2 e3 e4 e5 e6 e7
                    by_cases hlt : k < A.length
                    · have d1 : (k : Int) < (A.length : Int) := by omega
                      obtain ⟨-, -, -, -, -, e5, -, -⟩ := HX.out wr (HLJ.out.off.trans HO.out)
                      have hcell : ∀ j u, (evL A[k])[j]? = some u → wr.cell? ⟨gA, k * 8 + j, none⟩ = some u := fun j u hu => by
                        have h1 := flatE_get A k _ (List.getElem?_eq_getElem hlt) j u hu
                        rw [← HTK.out, List.getElem?_take] at h1
                        split at h1
                        · rw [(HO.out.blk HBLK.out (by simp)).cell]
                          simpa using h1
                        · cases h1
                      have b5 := hcell 5 _ rfl
                      have b6 := hcell 6 _ rfl
                      clear hcell
                      by_cases hat : A[k].at_ = x.at_
                      · obtain ⟨g1, g2, g3⟩ := HGV.out k hlt hat
                        have hok := next_ok HMD.out.1 HW.out
                        have hu1 := used_nonneg hok
                        have hu2 := used_le 0 hok (fun b hb => (hok.each b hb).1) HMD.out.2.1
                        have g4 : used (nextL s.l x) = used s.l - A[k].n := g2
                        have hW := HMD.out.2.2
                        have HG1 := Lib.hid g1
                        have HG2 := Lib.hid g2
                        have HLK := Lib.hid hlt
                        have w1 : IntKind.i64.wrap (used s.l - A[k].n) = used s.l - A[k].n := IntWalk.i64_in _ (by omega)
                        have w2 : IntKind.i64.wrap ((A.length : Int) - 1) = (A.length : Int) - 1 := IntWalk.i64_in _ (by omega)
                        have w3 : IntKind.i64.wrap ((k : Int) + 1) = (k : Int) + 1 := IntWalk.i64_in _ (by omega)
                        have w4 : ((k : Int) + 1).toNat = k + 1 := by omega
                        have w5a : (0 : Int) ≤ (k : Int) + 1 := by omega
                        have b1 : (k : Int) ≤ (cap : Int) := by omega
                        have b2 : (k : Int) + 1 ≤ (A.length : Int) := by omega
                        have h63 : maxLen = 9223372036854775807 := rfl
                        have hbz : w.heap.size ≤ w5.heap.size := HLJ.out.off.size
                        have hA64 : A.length ≤ 4096 := by omega
                        rw [hat] at b5
                        generalize A[k].n = yn at *
                        clear g1 g2 g3 g4 hok hu1 hu2 hW hlt hat
                        obtain ⟨i0, hi, hz0, hz1, hz2⟩ := info_parts event_info
                        have HI := Lib.hid hi
                        have HZ0 := Lib.hid hz0
                        have HZ1 := Lib.hid hz1
                        have HZ2 := Lib.hid hz2
                        clear hi hz0 hz1 hz2
                        go_upto_region 23 with fail
                        go_quiet (fail)
                        go_upto_region 25 with fail
                        refine at_worldJ (R := fun W => Off [] w5 W) (HO.out.drewN _) ?_
                        rintro W oW
                        have hWz := oW.size
                        have oD := oW.drew
                        have HBW := Lib.hid (oD.blk HBLK.out (by simp))
                        have HLW := Lib.hid (HC.out.off0 HLJ.out oD)
                        have HRW := Lib.hid (rowIn_first hbase HBW.out hcs hnc hcm HTK.out hk)
                        have HNW := Lib.hid (rowIn_rest HBW.out HTK.out (k + 1))
                        clear oW oD e5 b5 b6 HO HBLK HLJ
                        by_cases hvc : cap = k + 1
                        · subst hvc
                          have b3 : (k : Int) ≤ (k : Int) + 1 := by omega
                          have hm0 : A.length - (k + 1) = 0 := by omega
                          have HNZ : Hid (∀ j u, ((A.drop (k + 1)).flatMap evL)[j]? = some u → W.drew.cell? ((⟨gA, 0, none⟩ : Addr).add j) = some u) := Lib.hid (fun j u hu => by
                            rw [List.drop_of_length_le (by omega)] at hu
                            simp at hu)
                          go_region_law (refine step_append_row rfl _ _ 24 rfl i0 _ 64 Try.underlying24 HI.out HZ0.out HZ1.out HZ2.out rfl (by decide) (by simp [Act.eval, Act.put]) HRW.out ⟨gA, 0, none⟩ 0 0 ((A.drop (k + 1)).flatMap evL) (by simp [Act.eval, Act.put] <;> omega) (by rw [List.drop_of_length_le (by omega)]; rfl) HNZ.out (flatE_one _) (by omega) (by omega) (Nat.le_trans hbz hWz) ?_; rintro a6 k6 w7 hr7 ho7 hb7)
                          all_goals
                            have HR7 := Lib.hid (show RowIn w7 w.heap.size 41 8 (.slice a6 k k6) (A.take k ++ A.drop (k + 1)).length ((A.take k ++ A.drop (k + 1)).flatMap evL) from by
                              rw [List.length_append, List.length_take, List.length_drop, List.flatMap_append, Nat.min_eq_left hk, hm0]
                              exact hr7.out)
                            have HO7 := Lib.hid ho7.out
                            have HB7 := Lib.hid hb7.out
                            clear hr7 ho7 hb7
                            go_wp2_with fail
                            go_meet
                            case rel => exact ⟨F5, A.take k ++ A.drop (k + 1), bls_app HC.out HLW.out (fun j hj => by injection hj with hj; subst hj; exact ⟨hbase, HNF.out⟩) HG1.out HO7.out HR7.out HB7.out, by rw [HG2.out], by rw [List.length_append, List.length_take, List.length_drop, Nat.min_eq_left hk]; congr 1; omega⟩
                        · go_region_law (refine step_append_row rfl _ _ 24 rfl i0 _ 64 Try.underlying24 HI.out HZ0.out HZ1.out HZ2.out rfl (by decide) (by simp [Act.eval, Act.put]) HRW.out ⟨gA, (k + 1) * 8, none⟩ (A.length - (k + 1)) (cap - (k + 1)) ((A.drop (k + 1)).flatMap evL) (by simp [Act.eval, Act.put]) (by rw [flatE_len, List.length_drop]) HNW.out (flatE_one _) (by omega) (by omega) (Nat.le_trans hbz hWz) ?_; rintro a6 k6 w7 hr7 ho7 hb7)
                          all_goals
                            have HR7 := Lib.hid (show RowIn w7 w.heap.size 41 8 (.slice a6 (k + (A.length - (k + 1))) k6) (A.take k ++ A.drop (k + 1)).length ((A.take k ++ A.drop (k + 1)).flatMap evL) from by
                              rw [List.length_append, List.length_take, List.length_drop, List.flatMap_append, Nat.min_eq_left hk]
                              exact hr7.out)
                            have HO7 := Lib.hid ho7.out
                            have HB7 := Lib.hid hb7.out
                            clear hr7 ho7 hb7
                            go_wp2_with fail
                            go_meet
                            case rel => exact ⟨F5, A.take k ++ A.drop (k + 1), bls_app HC.out HLW.out (fun j hj => by injection hj with hj; subst hj; exact ⟨hbase, HNF.out⟩) HG1.out HO7.out HR7.out HB7.out, by rw [HG2.out], by rw [List.length_append, List.length_take, List.length_drop, Nat.min_eq_left hk]; congr 1; omega⟩
                      · have dx : (A[k].at_ == x.at_) = false := by simpa using hat
                        have HAT := Lib.hid (show ∀ j, ∀ hj : j < A.length, j < k + 1 → A[j].at_ ≠ x.at_ from fun j hj hjk => by
                          by_cases e : j = k
                          · subst e; exact hat
                          · exact HNO.out j hj (by omega))
                        have w3 : IntKind.i64.wrap ((k : Int) + 1) = (k : Int) + 1 := IntWalk.i64_in _ (by omega)
                        generalize A[k].at_ = y at *
                        clear b6 hat
                        go_upto_region 23 with fail
                        go_quiet (fail)
                        go_wp2_with fail
                        go_roundw
                        case rel => exact ⟨rfl, rfl, rfl, HO.out.drewN _, k + 1, by omega, by go_num, HAT.out⟩
                        case measure => simp [intOf]; omega
                    · exfalso
                      obtain ⟨k0, hk0, he0⟩ := HTH.out
                      exact HNO.out k0 hk0 (by omega) he0
              case rest =>
                obtain ⟨F7, A7, hb7, rfl, rfl⟩ := hcut
                have hmd7 := HC.out.mod hb7.l.i
                obtain ⟨h7, Fm7, m7, hi7, -⟩ := hmd7
                have HL7 := Lib.hid hb7.h.len
                have HB7 := Lib.hid hb7
                have HU7 := Lib.hid (used_any hi7)
                have HBK : Hid (∀ W, Off [] wc W → Calls Try.prog 12 #[.pointer (some ⟨h7, 0, none⟩)] W (TellPost W (nextS s x).l)) := Lib.hid (fun W o => dblocks_any (hi7.off0 o))
                have HM7 : Hid (∀ W, Off [] wc W → W.cell? ⟨g, 0, none⟩ = some (.pointer (some ⟨h7, 0, none⟩))) := Lib.hid (fun W o => (o.cell (p := ⟨g, 0, none⟩) (World.block_lt_of_cell? wc ⟨g, 0, none⟩ m7) (by simp)).trans m7)
                clear hb7 hi7
                go_wp2_with (first | (go_at_call 11; refine HU7.out.mono ?_; rintro e w8 ⟨rfl, o8⟩; have m8 := HM7.out _ o8) | (go_at_call 12; refine (HBK.out _ o8).mono ?_; rintro e w9 ⟨⟨ub, rfl, hrd⟩, o9⟩; obtain ⟨ba, bc, rfl⟩ := hrd.len; rw [← HL7.out]))
                have HB9 := Lib.hid (HB7.out.off0 HC.out (o8.trans o9))
                go_roundw
                case rel => exact ⟨n + 1, nextS s x, F7, A7, by omega, by go_num, by rw [HT.out]; exact goes_snoc HG.out HW.out, HB9.out, rfl, rfl⟩
                case measure => simp [intOf]; omega
            · rw [decide_eq_true hw] at hh
              have HH := Lib.hid hh
              have HW := Lib.hid hw
              clear hh hw
              go_upto_block 2 with (go_at_call 10; refine HH.out.mono ?_; rintro e w5 ⟨rfl, o5, F5, h5, h6, -⟩; have HB5 := Lib.hid (HBL.out.heard o5 h5 (h6 HW.out)); have k0 := (HX.out w5 HB5.out.1.off).1; clear o5 h5 h6)
              clear c0 c1 c2 c3 c4 c5 c6 c7 k0
              obtain ⟨hm0, Fm0, -, hmd, -⟩ := HC.out.mod HBL.out.l.i
              obtain ⟨q1, q2, q3⟩ := held_bounds HBL.out.h hmd.ok hmd.w0 hmd.w1
              have HMD := Lib.hid (show Ok s.W s.l ∧ 0 ≤ s.W ∧ s.W ≤ 4096 from ⟨hmd.ok, hmd.w0, hmd.w1⟩)
              clear hmd
              go_cut [6, 7, 8, 10] from 48 to 102 (fun u m v _ wx => BlCut J w g (nextS s x) u m v wx)
              case first =>
                have f3 : (x.kind == 3) = false := by simpa using x3
                have f4 : (x.kind == 4) = false := by simpa using x4
                have HBN : Hid (BlS J w g F5 (nextS s x) A u8 w5) := Lib.hid ⟨HB5.out.1, HB5.out.2.1, HB5.out.2.2, HBL.out.h.other x3 x4⟩
                have HLN : Hid ((nextS s x).l = s.l) := Lib.hid (by show nextL s.l x = s.l; unfold nextL; rw [if_neg x3, if_neg x4])
                clear x3 x4
                go_wp2_with fail
                go_meet
                case rel => exact ⟨F5, A, HBN.out, by rw [HLN.out], rfl⟩
              case rest =>
                obtain ⟨F7, A7, hb7, rfl, rfl⟩ := hcut
                have hmd7 := HC.out.mod hb7.l.i
                obtain ⟨h7, Fm7, m7, hi7, -⟩ := hmd7
                have HL7 := Lib.hid hb7.h.len
                have HB7 := Lib.hid hb7
                have HU7 := Lib.hid (used_any hi7)
                have HBK : Hid (∀ W, Off [] wc W → Calls Try.prog 12 #[.pointer (some ⟨h7, 0, none⟩)] W (TellPost W (nextS s x).l)) := Lib.hid (fun W o => dblocks_any (hi7.off0 o))
                have HM7 : Hid (∀ W, Off [] wc W → W.cell? ⟨g, 0, none⟩ = some (.pointer (some ⟨h7, 0, none⟩))) := Lib.hid (fun W o => (o.cell (p := ⟨g, 0, none⟩) (World.block_lt_of_cell? wc ⟨g, 0, none⟩ m7) (by simp)).trans m7)
                clear hb7 hi7
                go_wp2_with (first | (go_at_call 11; refine HU7.out.mono ?_; rintro e w8 ⟨rfl, o8⟩; have m8 := HM7.out _ o8) | (go_at_call 12; refine (HBK.out _ o8).mono ?_; rintro e w9 ⟨⟨ub, rfl, hrd⟩, o9⟩; obtain ⟨ba, bc, rfl⟩ := hrd.len; rw [← HL7.out]))
                have HB9 := Lib.hid (HB7.out.off0 HC.out (o8.trans o9))
                go_roundw
                case rel => exact ⟨n + 1, nextS s x, F7, A7, by omega, by go_num, by rw [HT.out]; exact goes_snoc HG.out HW.out, HB9.out, rfl, rfl⟩
                case measure => simp [intOf]; omega
        · rw [decide_eq_false hw] at hh
          have HH := Lib.hid hh
          have HW := Lib.hid hw
          clear hh hw
          go_wp2_with (go_at_call 10; refine HH.out.mono ?_; rintro e w5 ⟨rfl, o5, F5, h5, h6, h7⟩)
          go_ret
          exact ⟨rfl, (h7 HW.out).2⟩
      · obtain rfl : n = L.length := by omega
        obtain ⟨h7, Fm7, m7, hi7, -⟩ := HC.out.mod HBL.out.l.i
        obtain ⟨aa, ac, rfl, hac⟩ := (rdE_row HBL.out.r).parts
        have hlen2 := (held_bounds HBL.out.h hi7.ok hi7.w0 hi7.w1).2.2
        have HI7 := Lib.hid hi7
        have HM : Hid (∀ W, Off [] wr W → W.cell? ⟨g, 0, none⟩ = some (.pointer (some ⟨h7, 0, none⟩))) := Lib.hid (fun W o => (o.cell (p := ⟨g, 0, none⟩) (World.block_lt_of_cell? wr ⟨g, 0, none⟩ m7) (by simp)).trans m7)
        clear hi7 m7
        obtain ⟨wz, hwz⟩ : ∃ wz, wz = wr := ⟨_, rfl⟩
        subst hwz
        go_wp2_with fail
        go_loopw [11, 12, 13] (fun i _ _ wx => Off [] wz wx ∧ ∃ k : Nat, k ≤ A.length ∧ i = .int .i64 k) (fun i _ _ _ => A.length - (intOf i).toNat)
        case atStart => exact ⟨Off.refl _ _, 0, Nat.zero_le _, rfl⟩
        case round =>
          obtain ⟨ho, k, hk, rfl⟩ := hrel
          have HO := Lib.hid ho
          clear ho
          by_cases hlt : k < A.length
          · have d1 : (k : Int) < (A.length : Int) := by omega
            have w3 : IntKind.i64.wrap ((k : Int) + 1) = (k : Int) + 1 := IntWalk.i64_in _ (by omega)
            have hat := HBL.out.h.at HI7.out.ok hlt
            obtain ⟨gA, oA, rfl, -, -, -, -, -, c5, c6, -⟩ := (rdE_row HBL.out.r).at k hlt
            have HA : Hid (∀ W, Off [] wr W → Calls Try.prog 13 #[.pointer (some ⟨h7, 0, none⟩), .int .i64 A[k].at_] W fun e w' => e = .returned (.tuple #[.agg #[.int .i64 A[k].at_, .int .i64 A[k].n], .bool true]) ∧ Off [] W w') := Lib.hid (fun W o => by
              have := at_any (HI7.out.off0 (HO.out.trans o)) A[k].at_
              rw [hat] at this
              exact this)
            have hc5 := World.block_lt_of_cell? wz _ c5
            have HF : Hid (∀ W, Off [] wr W → W.cell? ⟨g, 0, none⟩ = some (.pointer (some ⟨h7, 0, none⟩)) ∧ W.cell? ⟨gA, oA + k * 8 + 5, none⟩ = some (.int .i64 A[k].at_)) := Lib.hid (fun W o => ⟨HM.out W (HO.out.trans o), (((HO.out.trans o).cell (p := ⟨gA, oA + k * 8 + 5, none⟩) hc5 (by simp)).trans c5)⟩)
            have HN6 : Hid (∀ W, Off [] wr W → W.cell? ⟨gA, oA + k * 8 + 6, none⟩ = some (.int .i64 A[k].n)) := Lib.hid (fun W o => ((HO.out.trans o).cell (p := ⟨gA, oA + k * 8 + 6, none⟩) (World.block_lt_of_cell? wz _ c6) (by simp)).trans c6)
            generalize A[k].at_ = y at *
            generalize A[k].n = yn at *
            clear hat c5 c6 hc5
            go_upto_region 31 with fail
            go_cut [12, 13] from 126 to 139 (fun bp ok wx => ∃ gb, bp = .pointer (some ⟨gb, 0, none⟩) ∧ ok = .bool true ∧ Blk wx gb 46 #[.int .i64 y, .int .i64 yn] ∧ Off [] wr wx)
            case first =>
              refine wp_region_noPanic ?_
              refine wp_region_held_drew (S := fun w' => w'.cell? ⟨g, 0, none⟩ = some (.pointer (some ⟨h7, 0, none⟩)) ∧ w'.cell? ⟨gA, oA + k * 8 + 5, none⟩ = some (.int .i64 y)) (by kernel_rfl) (HF.out _ (Off.refl [] wr).drew) (fun hHeld => ?_)
              have o := (Off.refl [] wr).drew
              refine wpAnyH_take (i := 0) (v := ?_) rfl (by kernel_rfl) (by kernel_rfl) (by kernel_rfl) (fun _ _ _ h => h) (Or.inl ⟨by rfl, ?_⟩) (by assumption) ?_
              rotate_left
              · intro w hSw
                try dsimp only at hSw
                go_simp
                first | done | with_reducible rfl
              try simp only [List.getElem_toArray, List.getElem_cons_zero, Act.put, List.setIfInBounds_toArray, List.set_cons_zero, List.set_cons_succ]
              refine wpAnyH_take (i := 1) (v := ?_) rfl (by kernel_rfl) (by kernel_rfl) (by kernel_rfl) (fun _ _ _ h => h) (Or.inl ⟨by rfl, ?_⟩) (by assumption) ?_
              rotate_left
              · intro w hSw
                try dsimp only at hSw
                go_simp
                first | done | with_reducible rfl
              try simp only [List.getElem_toArray, List.getElem_cons_succ, List.getElem_cons_zero, Act.put, List.setIfInBounds_toArray, List.set_cons_zero, List.set_cons_succ]
              refine wpAnyH_take (i := 2) (v := ?_) rfl (by kernel_rfl) (by kernel_rfl) (by kernel_rfl) (fun _ _ _ h => h) (Or.inl ⟨by rfl, ?_⟩) (by assumption) ?_
              rotate_left
              · intro w hSw
                try dsimp only at hSw
                go_simp
                first | done | with_reducible rfl
              try simp only [List.getElem_toArray, List.getElem_cons_succ, List.getElem_cons_zero, Act.put, List.setIfInBounds_toArray, List.set_cons_zero, List.set_cons_succ]
              refine wpAnyH_take (i := 3) (v := ?_) rfl (by kernel_rfl) (by kernel_rfl) (by kernel_rfl) (fun _ _ _ h => h) (Or.inl ⟨by rfl, ?_⟩) (by assumption) ?_
              rotate_left
              · intro w hSw
                try dsimp only at hSw
                go_simp
                first | done | with_reducible rfl
              try simp only [List.getElem_toArray, List.getElem_cons_succ, List.getElem_cons_zero, Act.put, List.setIfInBounds_toArray, List.set_cons_zero, List.set_cons_succ]
              refine wpAnyH_take (i := 4) (v := ?_) rfl (by kernel_rfl) (by kernel_rfl) (by kernel_rfl) (fun _ _ _ h => h) (Or.inl ⟨by rfl, ?_⟩) (by assumption) ?_
              rotate_left
              · intro w hSw
                try dsimp only at hSw
                go_simp
                first | done | with_reducible rfl
              try simp only [List.getElem_toArray, List.getElem_cons_succ, List.getElem_cons_zero, Act.put, List.setIfInBounds_toArray, List.set_cons_zero, List.set_cons_succ]
              refine wpAnyH_take (i := 5) (v := ?_) rfl (by kernel_rfl) (by kernel_rfl) (by kernel_rfl) (fun _ _ _ h => h) (Or.inl ⟨by rfl, ?_⟩) (by assumption) ?_
              rotate_left
              · intro w hSw
                try dsimp only at hSw
                go_simp
                first | done | with_reducible rfl
              try simp only [List.getElem_toArray, List.getElem_cons_succ, List.getElem_cons_zero, Act.put, List.setIfInBounds_toArray, List.set_cons_zero, List.set_cons_succ]
              refine wpAnyH_take (i := 6) (v := ?_) rfl (by kernel_rfl) (by kernel_rfl) (by kernel_rfl) (fun _ _ _ h => h) (Or.inl ⟨by rfl, ?_⟩) (by assumption) ?_
              rotate_left
              · intro w hSw
                try dsimp only at hSw
                go_simp
                first | done | with_reducible rfl
              try simp only [List.getElem_toArray, List.getElem_cons_succ, List.getElem_cons_zero, Act.put, List.setIfInBounds_toArray, List.set_cons_zero, List.set_cons_succ]
              refine wpAnyH_take (i := 7) (v := ?_) rfl (by kernel_rfl) (by kernel_rfl) (by kernel_rfl) (fun _ _ _ h => h) (Or.inl ⟨by rfl, ?_⟩) (by assumption) ?_
              rotate_left
              · intro w hSw
                try dsimp only at hSw
                go_simp
                first | done | with_reducible rfl
              try simp only [List.getElem_toArray, List.getElem_cons_succ, List.getElem_cons_zero, Act.put, List.setIfInBounds_toArray, List.set_cons_zero, List.set_cons_succ]
              refine wpAnyH_take (i := 8) (v := ?_) rfl (by kernel_rfl) (by kernel_rfl) (by kernel_rfl) (fun _ _ _ h => h) (Or.inl ⟨by rfl, ?_⟩) (by assumption) ?_
              rotate_left
              · intro w hSw
                try dsimp only at hSw
                go_simp
                first | done | with_reducible rfl
              try simp only [List.getElem_toArray, List.getElem_cons_succ, List.getElem_cons_zero, Act.put, List.setIfInBounds_toArray, List.set_cons_zero, List.set_cons_succ]
              refine wpAnyH_ready (rs := [9, 13]) (by kernel_rfl) (by simp) (AllReadyH.cons rfl (fun K hK => ?_) (AllReadyH.cons rfl (fun K hK => ?_) AllReadyH.nil))
              · as_aux_lemma =>
                  go_simp
                  go_wp2_with ((go_at_call 13; refine (HA.out _ o).mono ?_; rintro e W_1 ⟨rfl, oc⟩))
                  refine hK.out _ _ (HF.out _ (o.trans oc)) (fun hHeld => ?_)
                  clear hK K
                  try simp only [List.getElem_toArray, List.getElem_cons_succ, List.getElem_cons_zero, Act.put, List.setIfInBounds_toArray, List.set_cons_zero, List.set_cons_succ]
                  replace o := o.trans oc
                  clear oc
                  refine wpAnyH_take (i := 10) (v := ?_) rfl (by kernel_rfl) (by kernel_rfl) (by kernel_rfl) (fun _ _ _ h => h) (Or.inl ⟨by rfl, ?_⟩) (by assumption) ?_
                  rotate_left
                  · intro w hSw
                    try dsimp only at hSw
                    go_simp
                    first | done | with_reducible rfl
                  try simp only [List.getElem_toArray, List.getElem_cons_succ, List.getElem_cons_zero, Act.put, List.setIfInBounds_toArray, List.set_cons_zero, List.set_cons_succ]
                  refine wpAnyH_take (i := 11) (v := ?_) rfl (by kernel_rfl) (by kernel_rfl) (by kernel_rfl) (fun _ _ _ h => h) (Or.inl ⟨by rfl, ?_⟩) (by assumption) ?_
                  rotate_left
                  · intro w hSw
                    try dsimp only at hSw
                    go_simp
                    first | done | with_reducible rfl
                  try simp only [List.getElem_toArray, List.getElem_cons_succ, List.getElem_cons_zero, Act.put, List.setIfInBounds_toArray, List.set_cons_zero, List.set_cons_succ]
                  refine wpAnyH_take (i := 12) (v := ?_) rfl (by kernel_rfl) (by kernel_rfl) (by kernel_rfl) (fun _ _ _ h => h) (Or.inl ⟨by rfl, ?_⟩) (by assumption) ?_
                  rotate_left
                  · intro w hSw
                    try dsimp only at hSw
                    go_simp
                    first | done | with_reducible rfl
                  try simp only [List.getElem_toArray, List.getElem_cons_succ, List.getElem_cons_zero, Act.put, List.setIfInBounds_toArray, List.set_cons_zero, List.set_cons_succ]
                  refine wpAnyH_ready (rs := [13]) (by kernel_rfl) (by simp) (AllReadyH.cons rfl (fun K hK => ?_) AllReadyH.nil)
                  go_simp
                  refine hK.out _ _ (HF.out _ (o.alloc _)) (fun hHeld => ?_)
                  clear hK K
                  try simp only [List.getElem_toArray, List.getElem_cons_succ, List.getElem_cons_zero, Act.put, List.setIfInBounds_toArray, List.set_cons_zero, List.set_cons_succ]
                  have hgx : wr.heap.size ≤ W_1.heap.size := o.size
                  refine anyH_world (R := fun W' => (fun w' => w'.cell? ⟨g, 0, none⟩ = some (.pointer (some ⟨h7, 0, none⟩)) ∧ w'.cell? ⟨gA, oA + k * 8 + 5, none⟩ = some (.int .i64 y)) W' ∧ Off [] wr W' ∧ Blk W' (W_1.heap.size) 46 #[.int .i64 0, .int .i64 0]) ⟨hHeld, o.alloc _, (by first | exact Blk.new _ _ _ | exact blk_drewJ (Blk.new _ _ _))⟩ ?_
                  clear hHeld o
                  rintro W_2 ⟨hHeld, o, hx⟩
                  obtain ⟨f0, x0, x1⟩ := two_cells hx
                  refine wpAnyH_ready (rs := [14]) (by kernel_rfl) (by simp) (AllReadyH.cons rfl (fun K hK => ?_) AllReadyH.nil)
                  go_simp
                  refine hK.out _ _ (HF.out _ ((o.set (.inr hgx) _).set (.inr hgx) _)) (fun hHeld => ?_)
                  clear hK K
                  try simp only [List.getElem_toArray, List.getElem_cons_succ, List.getElem_cons_zero, Act.put, List.setIfInBounds_toArray, List.set_cons_zero, List.set_cons_succ]
                  refine anyH_world (R := fun W' => (fun w' => w'.cell? ⟨g, 0, none⟩ = some (.pointer (some ⟨h7, 0, none⟩)) ∧ w'.cell? ⟨gA, oA + k * 8 + 5, none⟩ = some (.int .i64 y)) W' ∧ Off [] wr W' ∧ Blk W' W_1.heap.size 46 #[.int .i64 y, .int .i64 yn]) ⟨hHeld, ((o.set (.inr hgx) _).set (.inr hgx) _), ((hx.set 0 _).set 1 _).to (by simp)⟩ ?_
                  clear o hx f0 x0 x1 hHeld
                  rintro W_a ⟨hHeld, o, hx⟩
                  refine wpAnyH_take (i := 15) (v := ?_) rfl (by kernel_rfl) (by kernel_rfl) (by kernel_rfl) (fun _ _ _ h => h) (Or.inl ⟨by rfl, ?_⟩) (by assumption) ?_
                  rotate_left
                  · intro w hSw
                    try dsimp only at hSw
                    go_simp
                    first | done | with_reducible rfl
                  try simp only [List.getElem_toArray, List.getElem_cons_succ, List.getElem_cons_zero, Act.put, List.setIfInBounds_toArray, List.set_cons_zero, List.set_cons_succ]
                  refine wpAnyH_done (by kernel_rfl) ?_ _
                  refine NoPanic.normal ?_
                  go_wp2_with fail
                  go_meet
                  case rel => exact ⟨_, rfl, rfl, hx, o⟩
              · as_aux_lemma =>
                  go_simp
                  refine hK.out _ _ (HF.out _ (o.alloc _)) (fun hHeld => ?_)
                  clear hK K
                  try simp only [List.getElem_toArray, List.getElem_cons_succ, List.getElem_cons_zero, Act.put, List.setIfInBounds_toArray, List.set_cons_zero, List.set_cons_succ]
                  have hgx : wr.heap.size ≤ wr.heap.size := o.size
                  refine anyH_world (R := fun W' => (fun w' => w'.cell? ⟨g, 0, none⟩ = some (.pointer (some ⟨h7, 0, none⟩)) ∧ w'.cell? ⟨gA, oA + k * 8 + 5, none⟩ = some (.int .i64 y)) W' ∧ Off [] wr W' ∧ Blk W' (wr.heap.size) 46 #[.int .i64 0, .int .i64 0]) ⟨hHeld, o.alloc _, (by first | exact Blk.new _ _ _ | exact blk_drewJ (Blk.new _ _ _))⟩ ?_
                  clear hHeld o
                  rintro W_1 ⟨hHeld, o, hx⟩
                  refine wpAnyH_ready (rs := [9]) (by kernel_rfl) (by simp) (AllReadyH.cons rfl (fun K hK => ?_) AllReadyH.nil)
                  go_simp
                  go_wp2_with ((go_at_call 13; refine (HA.out _ o).mono ?_; rintro e W_2 ⟨rfl, oc⟩))
                  refine hK.out _ _ (HF.out _ (o.trans oc)) (fun hHeld => ?_)
                  clear hK K
                  try simp only [List.getElem_toArray, List.getElem_cons_succ, List.getElem_cons_zero, Act.put, List.setIfInBounds_toArray, List.set_cons_zero, List.set_cons_succ]
                  replace o := o.trans oc
                  replace hx := oc.blk hx (by simp)
                  clear oc
                  refine wpAnyH_take (i := 10) (v := ?_) rfl (by kernel_rfl) (by kernel_rfl) (by kernel_rfl) (fun _ _ _ h => h) (Or.inl ⟨by rfl, ?_⟩) (by assumption) ?_
                  rotate_left
                  · intro w hSw
                    try dsimp only at hSw
                    go_simp
                    first | done | with_reducible rfl
                  try simp only [List.getElem_toArray, List.getElem_cons_succ, List.getElem_cons_zero, Act.put, List.setIfInBounds_toArray, List.set_cons_zero, List.set_cons_succ]
                  refine wpAnyH_take (i := 11) (v := ?_) rfl (by kernel_rfl) (by kernel_rfl) (by kernel_rfl) (fun _ _ _ h => h) (Or.inl ⟨by rfl, ?_⟩) (by assumption) ?_
                  rotate_left
                  · intro w hSw
                    try dsimp only at hSw
                    go_simp
                    first | done | with_reducible rfl
                  try simp only [List.getElem_toArray, List.getElem_cons_succ, List.getElem_cons_zero, Act.put, List.setIfInBounds_toArray, List.set_cons_zero, List.set_cons_succ]
                  refine wpAnyH_take (i := 12) (v := ?_) rfl (by kernel_rfl) (by kernel_rfl) (by kernel_rfl) (fun _ _ _ h => h) (Or.inl ⟨by rfl, ?_⟩) (by assumption) ?_
                  rotate_left
                  · intro w hSw
                    try dsimp only at hSw
                    go_simp
                    first | done | with_reducible rfl
                  try simp only [List.getElem_toArray, List.getElem_cons_succ, List.getElem_cons_zero, Act.put, List.setIfInBounds_toArray, List.set_cons_zero, List.set_cons_succ]
                  obtain ⟨f0, x0, x1⟩ := two_cells hx
                  refine wpAnyH_ready (rs := [14]) (by kernel_rfl) (by simp) (AllReadyH.cons rfl (fun K hK => ?_) AllReadyH.nil)
                  go_simp
                  refine hK.out _ _ (HF.out _ ((o.set (.inr hgx) _).set (.inr hgx) _)) (fun hHeld => ?_)
                  clear hK K
                  try simp only [List.getElem_toArray, List.getElem_cons_succ, List.getElem_cons_zero, Act.put, List.setIfInBounds_toArray, List.set_cons_zero, List.set_cons_succ]
                  refine anyH_world (R := fun W' => (fun w' => w'.cell? ⟨g, 0, none⟩ = some (.pointer (some ⟨h7, 0, none⟩)) ∧ w'.cell? ⟨gA, oA + k * 8 + 5, none⟩ = some (.int .i64 y)) W' ∧ Off [] wr W' ∧ Blk W' wr.heap.size 46 #[.int .i64 y, .int .i64 yn]) ⟨hHeld, ((o.set (.inr hgx) _).set (.inr hgx) _), ((hx.set 0 _).set 1 _).to (by simp)⟩ ?_
                  clear o hx f0 x0 x1 hHeld
                  rintro W_a ⟨hHeld, o, hx⟩
                  refine wpAnyH_take (i := 15) (v := ?_) rfl (by kernel_rfl) (by kernel_rfl) (by kernel_rfl) (fun _ _ _ h => h) (Or.inl ⟨by rfl, ?_⟩) (by assumption) ?_
                  rotate_left
                  · intro w hSw
                    try dsimp only at hSw
                    go_simp
                    first | done | with_reducible rfl
                  try simp only [List.getElem_toArray, List.getElem_cons_succ, List.getElem_cons_zero, Act.put, List.setIfInBounds_toArray, List.set_cons_zero, List.set_cons_succ]
                  refine wpAnyH_done (by kernel_rfl) ?_ _
                  refine NoPanic.normal ?_
                  go_wp2_with fail
                  go_meet
                  case rel => exact ⟨_, rfl, rfl, hx, o⟩
            case rest =>
              obtain ⟨gb, rfl, rfl, hb, oc⟩ := hcut
              obtain ⟨-, x0, x1⟩ := two_cells hb
              have x6 := HN6.out _ oc
              have HO2 := Lib.hid (HO.out.trans oc)
              clear hb oc HF HN6 HA
              go_upto_region 32 with fail
              go_quiet (fail)
              go_wp2_with fail
              go_roundw
              case rel => exact ⟨HO2.out.drewN _, k + 1, by omega, by go_num⟩
              case measure => simp [intOf]; omega
          · obtain rfl : k = A.length := by omega
            go_wp2_with fail
            go_ret
            exact ⟨rfl, HBL.out.l.off.trans HO.out⟩

end Go.Proofs.Ytfgkjfneeggbjaa.Jud
