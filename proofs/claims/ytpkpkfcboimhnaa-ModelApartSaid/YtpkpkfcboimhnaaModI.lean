/- ModelBack: the walk, over the contracts of the program's model. -/
import Derived.Test.YtpkpkfcboimhnaaModH
namespace Go.Proofs.Ytpkpkfcboimhnaa.Mod
open Go.RowKit Mem Go.Proofs.Ytpkpkfcboimhnaa.Open

/-- The pieces are taken once more, from another one on. -/
def AgainRel (I : Hold) (w : World) (ga gb : Nat) (la : List Bk) (hv : Value) (ds : List Tri) (R : List Bk) (i : Value) (wr : World) : Prop :=
  ∃ (j : Nat) (lb : List Bk) (Fa Fb : List Nat), j ≤ ds.length ∧ i = .int .i64 j ∧ Two I w ga Fa la gb Fb lb hv ds wr ∧ RowOf 100 (R.take j) lb
/-- They are given back. -/
def GoneRel (I : Hold) (w : World) (ga gb : Nat) (lb : List Bk) (hv : Value) (ds : List Tri) (R : List Bk) (i : Value) (wr : World) : Prop :=
  ∃ (j : Nat) (la : List Bk) (Fa Fb : List Nat), j ≤ ds.length ∧ i = .int .i64 j ∧ Two I w ga Fa la gb Fb lb hv ds wr ∧ RowOf 100 (R.drop j) la

set_option maxRecDepth 100000 in
set_option maxHeartbeats 8000000 in
theorem back_walk {I : Hold} (C : Con I) (a0 : Option Addr) (len cap : Nat) (z : Nat → Tri) (t : Nat) (ht : t < 256) (w : World) (hr : IsRowT w a0 len cap z) :
    Calls Try.prog 5 #[.slice a0 len cap, .int .u8 t] w fun e w' => e = .returned (.bool true) ∧ Off [] w w' := by
  have HC := Lib.hid C
  have HR := Lib.hid hr
  clear C hr
  by_cases hlen : 40 < len
  · have hl1 : decide (40 < len) = true := by simpa using hlen
    go_enter Try.func5, Try.ntmps5
    go_wp2_with (go_at_call 7; refine (awake_any HC.out _).mono ?_; rintro e w1 ⟨rfl, o1⟩)
    go_ret
    exact ⟨rfl, o1⟩
  · have hl0 : decide (40 < len) = false := by simpa using hlen
    obtain ⟨i0, hi, hz0, hz1, hz2⟩ := info_parts deed_info
    have HI := Lib.hid hi
    have HZ0 := Lib.hid hz0
    have HZ1 := Lib.hid hz1
    have HZ2 := Lib.hid hz2
    clear hi hz0 hz1 hz2
    go_enter Try.func5, Try.ntmps5
    go_wp2_with (first | (go_at_call 7; refine (awake_any HC.out _).mono ?_; rintro e w1 ⟨rfl, o1⟩; have O1 := Lib.hid o1; clear o1) | (go_at_call 8; refine (two_new HC.out L1.out).mono ?_; rintro e w3 ⟨gb, Fb, rfl, h3⟩; have T1 := Lib.hid h3; clear h3) | (go_at_call 8; refine (HC.out.new 100 _).mono ?_; rintro e w2 ⟨ga, Fa, rfl, hi, ho, hf⟩; have L1 : Hid (Live I w ga Fa 100 [] w2) := Lib.hid ⟨hi, O1.out.trans ho, fun k hk => Nat.le_trans O1.out.size (hf k hk)⟩; clear hi ho hf))
    go_loopw [7, 8] (fun hv i wr => GotRel I w ga gb len hv i wr) (fun _ i _ => len - (intOf i).toNat)
    case atStart => exact ⟨0, [], Fa, Fb, [], Nat.zero_le _, rfl, Nat.le_refl _, T1.out, RowOf.nil _, Had.nil _⟩
    case round =>
      clear L1 T1
      obtain ⟨j, la, Fa, Fb, ds, hj, rfl, hdl, htwo, hrow, hhad⟩ := hrel
      have HT := Lib.hid htwo
      have HRO := Lib.hid hrow
      have HH := Lib.hid hhad
      clear htwo hrow hhad
      obtain ⟨ha, hc, rfl⟩ := own_slice HT.out.own
      by_cases hlt : j < len
      · have dlt : (j : Int) < (len : Int) := by omega
        obtain ⟨b, off, rfl, hbl, hcap, hmax, hcell⟩ := HR.out.some_ (by omega)
        obtain ⟨-, hzc⟩ := hcell j hlt
        have hmem : Hid (∀ w1, Off [] w w1 → ∀ i u, (z j).cells[i]? = some u → w1.cell? ⟨b, off + j * 3 + i, none⟩ = some u) := Lib.hid (fun w1 ho i u hu => by rw [ho.cell hbl (by simp)]; exact hzc i u hu)
        clear hcell hzc
        generalize z j = d at *
        have c1 := hmem.out _ HT.out.a.off 1 _ rfl
        have c2 := hmem.out _ HT.out.a.off 2 _ rfl
        obtain ⟨B, hB⟩ : ∃ B, canB 100 la d.n1 d.n2 = B := ⟨_, rfl⟩
        have HB := Lib.hid hB
        clear hB
        cases B with
        | false =>
          have K1 : Hid (∀ w1, Two I w ga Fa la gb Fb [] (.slice ha ds.length hc) ds w1 → Calls Try.prog 10 #[.pointer (some ⟨ga, 0, none⟩), .int .i64 d.n1, .int .i64 d.n2] w1 fun e w' => e = .returned (.bool false) ∧ ∃ F, Two I w ga F la gb Fb [] (.slice ha ds.length hc) ds w') := Lib.hid (fun w1 h => by
            have := two_take_a HC.out h d.n1 d.n2
            rwa [takeL_no HB.out, HB.out] at this)
          go_upto_region 12 with fail
          go_still_tail 11, (by kernel_rfl)
          go_wp2_with (go_at_call 10; refine (K1.out _ (HT.out.off0 HC.out (Off.refl _ _).drew)).mono ?_; rintro e w3 ⟨rfl, F3, h3⟩)
          go_roundw
          case rel => exact ⟨j + 1, la, F3, Fb, ds, by omega, by go_num, by omega, h3, HRO.out, HH.out⟩
          case measure => simp [intOf]; omega
        | true =>
          have K1 : Hid (∀ w1, Two I w ga Fa la gb Fb [] (.slice ha ds.length hc) ds w1 → Calls Try.prog 10 #[.pointer (some ⟨ga, 0, none⟩), .int .i64 d.n1, .int .i64 d.n2] w1 fun e w' => e = .returned (.bool true) ∧ ∃ F, Two I w ga F (ins la d.n1 d.n2) gb Fb [] (.slice ha ds.length hc) ds w') := Lib.hid (fun w1 h => by
            have := two_take_a HC.out h d.n1 d.n2
            rwa [takeL_yes HB.out, HB.out] at this)
          go_upto_region 12 with fail
          go_still_tail 11, (by kernel_rfl)
          go_wp2_with (first | (go_at_call 10; refine (K1.out _ (HT.out.off0 HC.out (Off.refl _ _).drew)).mono ?_; rintro e w3 ⟨rfl, F3, h3⟩; have H3 := Lib.hid h3; have e0 := hmem.out _ h3.a.off 0 _ rfl; have e1 := hmem.out _ h3.a.off 1 _ rfl; have e2 := hmem.out _ h3.a.off 2 _ rfl; rw [Nat.add_zero] at e0; clear h3) | (at_builtin; refine wpList_append_own_at _ rfl _ _ 22 rfl w.heap.size 29 i0 _ 3 24 Try.underlying22 HI.out HZ0.out HZ1.out HZ2.out rfl (by decide) _ ds.length (ds.flatMap Tri.cells) rfl (own_row H3.out.own rfl ((Off.refl _ _).alloc _)) ⟨w3.heap.size, 0, none⟩ 1 1 d.cells rfl rfl (World.news_of_block (Blk.new w3 29 d.cells.toArray).eq) (by simp [Value.oneCell', Tri.cells]) (by unfold maxLen; omega) (by omega) (by have h9 := H3.out.a.off.size; simp; omega) ?_; intro v5 w5 hown5 hgrow5 _ hblk5; have H5 := Lib.hid (H3.out.grown HC.out ((Off.refl _ _).alloc _) hgrow5 hown5 hblk5); clear hown5 hgrow5 hblk5))
          go_roundw
          case rel => exact ⟨j + 1, _, F3, Fb, ds ++ [d], by omega, by go_num, by simp; omega, H5.out, by rw [List.map_append]; exact HRO.out.ins HB.out, by rw [List.map_append]; exact HH.out.snoc HRO.out HB.out⟩
          case measure => simp [intOf]; omega
      · obtain rfl : j = len := by omega
        clear hlt hj HR
        obtain ⟨R, hR⟩ : ∃ R, R = turned (ds.map bkOf) (t % ds.length) := ⟨_, rfl⟩
        have hRl : R.length = ds.length := by rw [hR, turned_len, List.length_map]
        have hget : ∀ i, i < ds.length → ∃ k, (i + t) % ds.length = k ∧ k < ds.length ∧ ∃ x : Tri, ds[k]? = some x ∧ R[i]? = some (bkOf x) := fun i hi => by
          have hk := Nat.mod_lt (i + t) (Nat.lt_of_le_of_lt (Nat.zero_le _) hi)
          refine ⟨_, rfl, hk, ds[(i + t) % ds.length], List.getElem?_eq_getElem hk, ?_⟩
          have h1 := turned_get (h := ds.map bkOf) (t := t) (i := i) (by rw [List.length_map]; exact hi)
          rw [List.length_map] at h1
          rw [hR, h1, List.getElem?_map, List.getElem?_eq_getElem hk]
          rfl
        have hHR : Had 100 R := by rw [hR]; exact HH.out.turned _
        have hmemR : ∀ b, b ∈ R ↔ b ∈ ds.map bkOf := fun b => by rw [hR]; exact turned_mem b
        have HG := Lib.hid hget
        have HHR := Lib.hid hHR
        have HMR := Lib.hid hmemR
        clear hR hget hHR hmemR
        go_wp2_with fail
        go_loopw [9] (fun i wr => AgainRel I w ga gb la (.slice ha ds.length hc) ds R i wr) (fun i _ => ds.length - (intOf i).toNat)
        case atStart => exact ⟨0, [], Fa, Fb, Nat.zero_le _, rfl, HT.out, RowOf.nil _⟩
        case round =>
          clear HT
          obtain ⟨j, lb, Fa, Fb, hj, rfl, htwo, hrb⟩ := hrel
          have HT := Lib.hid htwo
          have HRB := Lib.hid hrb
          clear htwo hrb
          by_cases hlt : j < ds.length
          · have dlt : (j : Int) < (ds.length : Int) := by omega
            obtain ⟨k, hk, hkl, x, hx, hRx⟩ := HG.out j hlt
            have hk2 : Int.tmod ((j : Int) + (t : Int)) (ds.length : Int) = (k : Int) := by rw [Int.tmod_eq_emod_of_nonneg (by omega), ← hk, Int.natCast_emod, Int.natCast_add]
            have hk3 : ((j : Int) + (t : Int)) % (ds.length : Int) = (k : Int) := by rw [← hk, Int.natCast_emod, Int.natCast_add]
            obtain ⟨hg, hcp, hvE, hcell⟩ := HT.out.cell k hkl
            injection hvE with hv1 _ hv2
            subst hv1 hv2
            rw [Option.some.inj ((List.getElem?_eq_getElem hkl).symm.trans hx)] at hcell
            have c0 := hcell 0 _ rfl
            have c1 := hcell 1 _ rfl
            have c2 := hcell 2 _ rfl
            rw [Nat.add_zero] at c0
            have hjR : j < R.length := by omega
            have hRj : R[j] = bkOf x := Option.some.inj ((List.getElem?_eq_getElem hjR).symm.trans hRx)
            have hcan := HRB.out.can HHR.out hjR
            have hstep := HRB.out.step HHR.out hjR
            rw [hRj] at hcan hstep
            have HST := Lib.hid hstep
            have K1 : Hid (∀ w1, Two I w ga Fa la gb Fb lb (.slice (some ⟨hg, 0, none⟩) ds.length hc) ds w1 → Calls Try.prog 10 #[.pointer (some ⟨gb, 0, none⟩), .int .i64 x.n1, .int .i64 x.n2] w1 fun e w' => e = .returned (.bool true) ∧ ∃ F, Two I w ga Fa la gb F (ins lb x.n1 x.n2) (.slice (some ⟨hg, 0, none⟩) ds.length hc) ds w') := Lib.hid (fun w1 h => by
              have := two_take_b HC.out h x.n1 x.n2
              rwa [show takeL 100 lb x.n1 x.n2 = ins lb x.n1 x.n2 from takeL_yes hcan, show canB 100 lb x.n1 x.n2 = true from hcan] at this)
            clear hcell hRx hx hRj hcan hstep
            have hl1 : ds.length ≤ 40 := by omega
            go_wp2_with (go_at_call 10; refine (K1.out _ (HT.out.off0 HC.out ((Off.refl _ _).alloc _))).mono ?_; rintro e w3 ⟨rfl, F3, h3⟩)
            go_roundw
            case rel => exact ⟨j + 1, _, Fa, F3, by omega, by go_num, h3, HST.out⟩
            case measure => simp [intOf]; omega
          · obtain rfl : j = ds.length := by omega
            have hlb : lb = la := HRB.out.same HRO.out (fun b => by rw [List.take_of_length_le (by omega)]; exact HMR.out b)
            subst hlb
            have hll := ok_len 0 HRO.out.ok (fun b hb => (HRO.out.ok.each b hb).1) (by decide)
            clear hlt
            go_wp2_with (first | (go_at_call 23; refine (blocks_any RB2.out (by omega)).mono ?_; rintro e w6 ⟨⟨u2, rfl, hr6⟩, o6⟩; have RU2 := Lib.hid hr6; have RU1c := Lib.hid (RU1b.out.off o6 (by simp)); have T4 := Lib.hid (T3.out.off0 HC.out o6); clear hr6 o6) | (go_at_call 23; refine (blocks_any RB1.out (by omega)).mono ?_; rintro e w4 ⟨⟨u1, rfl, hr4⟩, o4⟩; have RU1 := Lib.hid hr4; have T2 := Lib.hid (T1.out.off0 HC.out o4); clear hr4 o4) | (go_at_call 24; refine (HC.out.blocks T2.out.b.i).mono ?_; rintro e w5 ⟨⟨v2, rfl, hr5⟩, o5⟩; have RB2 := Lib.hid hr5; have RU1b := Lib.hid (RU1.out.off o5 (by simp)); have T3 := Lib.hid (T2.out.off0 HC.out o5); clear hr5 o5) | (go_at_call 24; refine (HC.out.blocks HT.out.a.i).mono ?_; rintro e w3 ⟨⟨v1, rfl, hr3⟩, o3⟩; have RB1 := Lib.hid hr3; have T1 := Lib.hid (HT.out.off0 HC.out o3); clear hr3 o3) | (go_at_call 22; refine (same_same RU1c.out RU2.out (by omega)).mono ?_; rintro e w7 ⟨rfl, o7⟩; have T5 := Lib.hid (T4.out.off0 HC.out o7); clear o7) | (go_at_call 20; refine (HC.out.used T6.out.b.i).mono ?_; rintro e w9 ⟨rfl, o9⟩; have T7 := Lib.hid (T6.out.off0 HC.out o9); clear o9) | (go_at_call 20; refine (HC.out.used T5.out.a.i).mono ?_; rintro e w8 ⟨rfl, o8⟩; have T6 := Lib.hid (T5.out.off0 HC.out o8); clear o8))
            go_loopw [11] (fun i wr => GoneRel I w ga gb lb (.slice ha ds.length hc) ds R i wr) (fun i _ => ds.length - (intOf i).toNat)
            case atStart => exact ⟨0, lb, Fa, Fb, Nat.zero_le _, rfl, T7.out, HRO.out.ok, fun b => (HRO.out.mem b).trans (HMR.out b).symm⟩
            case round =>
              clear HT T1 T2 T3 T4 T5 T6 T7 RB1 RB2 RU1 RU1b RU1c RU2
              obtain ⟨j, la, Fa, Fb, hj, rfl, htwo, hra⟩ := hrel
              have HT := Lib.hid htwo
              have HRA := Lib.hid hra
              clear htwo hra
              by_cases hlt : j < ds.length
              · have dlt : (j : Int) < (ds.length : Int) := by omega
                obtain ⟨k, hk, hkl, x, hx, hRx⟩ := HG.out j hlt
                have hk2 : Int.tmod ((j : Int) + (t : Int)) (ds.length : Int) = (k : Int) := by rw [Int.tmod_eq_emod_of_nonneg (by omega), ← hk, Int.natCast_emod, Int.natCast_add]
                have hk3 : ((j : Int) + (t : Int)) % (ds.length : Int) = (k : Int) := by rw [← hk, Int.natCast_emod, Int.natCast_add]
                obtain ⟨hg, hcp, hvE, hcell⟩ := HT.out.cell k hkl
                injection hvE with hv1 _ hv2
                subst hv1 hv2
                rw [Option.some.inj ((List.getElem?_eq_getElem hkl).symm.trans hx)] at hcell
                have c0 := hcell 0 _ rfl
                have c1 := hcell 1 _ rfl
                have c2 := hcell 2 _ rfl
                rw [Nat.add_zero] at c0
                have hjR : j < R.length := by omega
                have hRj : R[j] = bkOf x := Option.some.inj ((List.getElem?_eq_getElem hjR).symm.trans hRx)
                have hgv := HRA.out.giveB hjR
                have hstep := HRA.out.give HHR.out hjR
                rw [hRj] at hgv hstep
                have HST := Lib.hid hstep
                have hnot : wr.heap.size ∉ Fa := fun h => absurd (HC.out.lt HT.out.a.i _ h) (Nat.lt_irrefl _)
                have K1 : Hid (∀ w1, Two I w ga Fa la gb Fb lb (.slice (some ⟨hg, 0, none⟩) ds.length hc) ds w1 → Calls Try.prog 12 #[.pointer (some ⟨ga, 0, none⟩), .int .i64 x.n1] w1 fun e w' => e = .returned (.bool true) ∧ (∃ F, Two I w ga F (give la x.n1) gb Fb lb (.slice (some ⟨hg, 0, none⟩) ds.length hc) ds w') ∧ Off Fa w1 w') := Lib.hid (fun w1 h => by
                  have := two_give_a HC.out h x.n1
                  rwa [show giveB la x.n1 = true from hgv] at this)
                have K2 : Hid (∀ w1 F, Two I w ga F (give la x.n1) gb Fb lb (.slice (some ⟨hg, 0, none⟩) ds.length hc) ds w1 → Calls Try.prog 12 #[.pointer (some ⟨ga, 0, none⟩), .int .i64 x.n1] w1 fun e w' => e = .returned (.bool false) ∧ (∃ F, Two I w ga F (give la x.n1) gb Fb lb (.slice (some ⟨hg, 0, none⟩) ds.length hc) ds w') ∧ Off F w1 w') := Lib.hid (fun w1 F h => by
                  have := two_give_a HC.out h x.n1
                  rwa [give_none, give_give] at this)
                clear hcell hRx hx hRj hgv hstep
                have hl1 : ds.length ≤ 40 := by omega
                go_wp2_with (first | (go_at_call 12; refine (K2.out _ _ H3.out).mono ?_; rintro e w4 ⟨rfl, ⟨F4, h4⟩, -⟩) | (go_at_call 12; refine (K1.out _ (HT.out.off0 HC.out ((Off.refl _ _).alloc _))).mono ?_; rintro e w3 ⟨rfl, ⟨F3, h3⟩, o3⟩; have H3 := Lib.hid h3; have e1 := (o3.blk (Blk.new wr 29 #[.int .i64 x.n0, .int .i64 x.n1, .int .i64 x.n2]) hnot).cell 1; clear h3 o3))
                go_roundw
                case rel => exact ⟨j + 1, _, F4, Fb, by omega, by go_num, h4, HST.out⟩
                case measure => simp [intOf]; omega
              · obtain rfl : j = ds.length := by omega
                obtain rfl : la = [] := by
                  have h1 := HRA.out
                  rw [List.drop_eq_nil_of_le (by omega)] at h1
                  exact h1.none
                have U1 : Hid (∀ w1, Two I w ga Fa [] gb Fb lb (.slice ha ds.length hc) ds w1 → Calls Try.prog 20 #[.pointer (some ⟨ga, 0, none⟩)] w1 fun e w' => e = .returned (.int .i64 0) ∧ Off [] w1 w') := Lib.hid (fun w1 h => HC.out.used h.a.i)
                have R1 : Hid (∀ w1, Two I w ga Fa [] gb Fb lb (.slice ha ds.length hc) ds w1 → Calls Try.prog 18 #[.pointer (some ⟨ga, 0, none⟩), .int .i64 100] w1 fun e w' => e = .returned (.bool true) ∧ Off [] w1 w') := Lib.hid (fun w1 h => HC.out.room h.a.i 100)
                have B1 : Hid (∀ w1, Two I w ga Fa [] gb Fb lb (.slice ha ds.length hc) ds w1 → Calls Try.prog 24 #[.pointer (some ⟨ga, 0, none⟩)] w1 fun e w' => ∃ a c, e = .returned (.slice a 0 c) ∧ Off [] w1 w') := Lib.hid (fun w1 h => (HC.out.blocks h.a.i).mono fun e w' k => by
                  obtain ⟨⟨u, rfl, hr⟩, ho⟩ := k
                  obtain ⟨a, c, rfl⟩ := hr.len
                  exact ⟨a, c, rfl, ho⟩)
                go_wp2_with (first | (go_at_call 20; refine (U1.out _ HT.out).mono ?_; rintro e w3 ⟨rfl, o3⟩; have T1 := Lib.hid (HT.out.off0 HC.out o3); clear o3) | (go_at_call 24; refine (B1.out _ T1.out).mono ?_; rintro e w4 ⟨b4, c4, rfl, o4⟩; have T2 := Lib.hid (T1.out.off0 HC.out o4); clear o4) | (go_at_call 18; refine (R1.out _ T2.out).mono ?_; rintro e w5 ⟨rfl, o5⟩))
                go_ret
                exact ⟨rfl, T2.out.a.off.trans o5⟩

end Go.Proofs.Ytpkpkfcboimhnaa.Mod
