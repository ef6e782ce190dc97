/- The program's model: slices.Insert whatever the row, slices.Delete; Take, Give: contracts. -/
import Derived.Test.YtfgkjfneeggbjaaDevD
import Derived.Test.YtfgkjfneeggbjaaModQ
namespace Go.Proofs.Ytfgkjfneeggbjaa.Mod
open Go.RowKit Mem Go.Proofs.Ytfgkjfneeggbjaa.RowK

theorem insert_any {w : World} {lv : Value} {l : List Bk} {b : Bk} {i vb : Nat} (hown : w.ownsRow 0 46 2 lv l.length (l.flatMap bkL)) (hi : i ≤ l.length) (hl : l.length ≤ 4096)
    (hv : Blk w vb 46 #[.int .i64 b.p, .int .i64 b.n]) (hne : ∀ k, lv.ownBlock = some k → vb ≠ k) :
    Calls Try.prog 44 #[lv, .int .i64 i, .slice (some ⟨vb, 0, none⟩) 1 1] w (InsPost w lv (l.take i ++ b :: l.drop i)) := by
  rcases own_rows hown with ⟨rfl, rfl⟩ | ⟨r, cap, rfl, hr⟩
  · obtain rfl : i = 0 := by simpa using hi
    exact insert_nil hv
  · obtain ⟨L, hL, hlen, ht⟩ := hr.cells
    have hle := hr.le
    by_cases he : i = l.length
    · rw [he]
      exact insert_end hown rfl hle hl hv
    · by_cases hroom : l.length + 1 ≤ cap
      · refine (insert_shift (b := b) hL hlen ht rfl (by omega) hroom hr.max hl hv (hne r rfl)).mono ?_
        rintro e w' ⟨rfl, hrow, ho⟩
        have h1 := hrow.own
        rw [len_ins rfl hi] at h1
        refine ⟨_, rfl, ?_, ho, fun k hk => .inl hk⟩
        rw [len_ins rfl hi]
        exact h1
      · refine (insert_grow (b := b) hL ht rfl (by omega) hle (by omega) hl hv).mono ?_
        rintro e w' ⟨G, rfl, hrow, ho⟩
        have h1 := hrow.own
        rw [len_ins rfl hi] at h1
        refine ⟨_, rfl, ?_, ho.more (by simp), fun k hk => .inr (by simp [Value.ownBlock] at hk; omega)⟩
        rw [len_ins rfl hi]
        exact h1

/-- One place out of a row. -/
theorem cut_row {L zs : List Value} {l : List Bk} {i m : Nat} (ht : L.take ((i + 1 + m) * 2) = l.flatMap bkL) (hn : l.length = i + 1 + m) (hl : (i + 1 + m) * 2 ≤ L.length) (hz : zs.length = 2) :
    (over L (i * 2) ((l.drop (i + 1)).flatMap bkL)).length = L.length ∧
    (over (over L (i * 2) ((l.drop (i + 1)).flatMap bkL)) ((i + m) * 2) zs).length = L.length ∧
    (over (over L (i * 2) ((l.drop (i + 1)).flatMap bkL)) ((i + m) * 2) zs).take ((i + m) * 2) = (l.take i ++ l.drop (i + 1)).flatMap bkL := by
  have hcl : ((l.drop (i + 1)).flatMap bkL).length = m * 2 := by rw [flat2_len, List.length_drop, hn]; omega
  have h1 : (over L (i * 2) ((l.drop (i + 1)).flatMap bkL)).length = L.length := over_len (by rw [hcl]; omega)
  refine ⟨h1, by rw [over_len (by rw [h1, hz]; omega), h1], ?_⟩
  have e1 : (over L (i * 2) ((l.drop (i + 1)).flatMap bkL)).take ((i + m) * 2) = (l.take i).flatMap bkL ++ (l.drop (i + 1)).flatMap bkL := by
    unfold over
    rw [row_take ht (by omega), show (i + m) * 2 = ((l.take i).flatMap bkL ++ (l.drop (i + 1)).flatMap bkL).length from by rw [List.length_append, hcl, flat2_len, List.length_take]; omega]
    exact List.take_left
  rw [show over (over L (i * 2) ((l.drop (i + 1)).flatMap bkL)) ((i + m) * 2) zs = (over L (i * 2) ((l.drop (i + 1)).flatMap bkL)).take ((i + m) * 2) ++ zs ++ (over L (i * 2) ((l.drop (i + 1)).flatMap bkL)).drop ((i + m) * 2 + zs.length) from rfl, e1, List.flatMap_append]
  rw [List.append_assoc (_ ++ _), List.take_append_of_le_length (by rw [List.length_append, hcl, flat2_len, List.length_take]; omega), List.take_of_length_le (by rw [List.length_append, hcl, flat2_len, List.length_take]; omega)]

theorem zero_two : (Builtin.zeroCells (Value.agg #[.int .i64 0, .int .i64 0]).cells 1).toList = [.int .i64 0, .int .i64 0] := by kernel_rfl
theorem zero_block (w : World) : (zeroValue 46).run Try.prog w = .ok (.agg #[.int .i64 0, .int .i64 0]) w := by
  obtain ⟨i0, hi, hz0, -, -⟩ := info_parts dblock_info
  simp [zeroValue, typeInfo, hi, hz0]

set_option maxRecDepth 100000 in
set_option maxHeartbeats 4000000 in
theorem delete_any {w : World} {r cap i m : Nat} {l : List Bk} {L : List Value} (hL : Blk w r 46 L.toArray) (hlen : L.length = cap * 2) (ht : L.take ((i + 1 + m) * 2) = l.flatMap bkL) (hn : l.length = i + 1 + m)
    (hnc : i + 1 + m ≤ cap) (hcm : cap ≤ maxLen) (hn2 : i + 1 + m ≤ 4096) :
    Calls Try.prog 45 #[.slice (some ⟨r, 0, none⟩) (i + 1 + m) cap, .int .i64 i, .int .i64 ((i : Int) + 1)] w fun e w' =>
      e = .returned (.slice (some ⟨r, 0, none⟩) (i + m) cap) ∧ Row w' r cap (l.take i ++ l.drop (i + 1)) ∧ Off [r] w w' := by
  have h63 : maxLen = 9223372036854775807 := rfl
  obtain ⟨i0, hi0, hz0, hz1, hz2⟩ := info_parts dblock_info
  have HI := Lib.hid hi0
  have HZ1 := Lib.hid hz1
  have HLN := Lib.hid hlen
  have HN := Lib.hid hn
  have HCL := Lib.hid (show ((l.drop (i + 1)).flatMap bkL).length = m * 2 from by rw [flat2_len, List.length_drop, hn]; omega)
  have HLD : Hid (Blk w.drew r 46 L.toArray) := Lib.hid ⟨hL.eq⟩
  have HCD := Lib.hid (row_cells HLD.out ht (i + 1))
  have HCR := Lib.hid (cut_row (zs := [.int .i64 0, .int .i64 0]) ht hn (by omega) rfl)
  have HNL : Hid ((l.take i ++ l.drop (i + 1)).length = i + m) := Lib.hid (by rw [List.length_append, List.length_take, List.length_drop, hn]; omega)
  have HF1 := Lib.hid (show i * 2 + ((l.drop (i + 1)).flatMap bkL).length ≤ L.length from by rw [HCL.out, hlen]; omega)
  have b1 : (i : Int) ≤ (i : Int) + 1 := by omega
  have b2 : (i : Int) + 1 ≤ (i : Int) + 1 + (m : Int) := by omega
  have b3 : (i : Int) + 1 + (m : Int) ≤ (cap : Int) := by omega
  have b4 : ¬ ((i : Int) = (i : Int) + 1) := by omega
  have b5 : ¬ (cap = i) := by omega
  have b6 : (0 : Int) ≤ (i : Int) + 1 := by omega
  have b7 : ((i : Int) + 1).toNat = i + 1 := by omega
  have b8 : (i : Int) ≤ (cap : Int) := by omega
  have b9 : ¬ (cap = i + m) := by omega
  have c1 : ((i : Int) + 1 + (m : Int)).toNat = i + 1 + m := by omega
  have c2 : (0 : Int) ≤ (i : Int) + 1 + (m : Int) := by omega
  have c3 : (i : Int) + (m : Int) ≤ (i : Int) + 1 + (m : Int) := by omega
  have c4 : (0 : Int) ≤ (i : Int) + (m : Int) := by omega
  have c5 : ((i : Int) + (m : Int)).toNat = i + m := by omega
  have c6 : i + 1 + m - (i + m) = 1 := by omega
  clear hL hlen ht hn hi0 hz0 hz1 hz2
  by_cases hc : cap = i + 1
  · go_enter Try.func45, Try.ntmps45
    go_upto_region 5 with fail
    have hm0 : m = 0 := by omega
    have hcr := HCR.out
    rw [hm0, Nat.add_zero] at hcr
    have HCR2 := Lib.hid hcr
    clear hcr
    have HCN : Hid (∀ j u, ((l.drop (i + 1)).flatMap bkL)[j]? = some u → w.drew.cell? ((⟨r, 0, none⟩ : Addr).add j) = some u) := Lib.hid (fun j u hu => by
      rw [List.getElem?_eq_none (by rw [HCL.out, hm0]; omega)] at hu
      cases hu)
    go_region_law (refine step_append_k rfl _ _ 43 rfl 46 i0 2 Try.underlying43 HI.out HZ1.out r i cap (by simp [Act.eval, Act.put]; omega) ⟨r, 0, none⟩ m 0 ((l.drop (i + 1)).flatMap bkL) (by simp [Act.eval, Act.put]; omega) HCL.out HCN.out (bk_one _) (by omega) L HLD.out HF1.out ?_; intro w5 hb5 ho5)
    all_goals
      have HB5 := hb5
      have o5 : Off [r] w w5 := ((Off.refl [r] w).drew).trans ho5.out
      have HO5 := Lib.hid o5
      clear hb5 ho5 o5
      go_wp2_with (refine wpList_clear_k rfl _ 43 rfl 46 (.agg #[.int .i64 0, .int .i64 0]) Try.underlying43 zero_block r (i * 2) 1 _ rfl (by decide) (over L (i * 2) ((l.drop (i + 1)).flatMap bkL)) 46 HB5.out [.int .i64 0, .int .i64 0] zero_two (by rw [HCR2.out.1, HLN.out]; show i * 2 + 2 ≤ _; omega) (two_one _ _) ?_; intro w6 hb6 ho6)
      go_ret
      refine ⟨by rw [hc, hm0]; rfl, ⟨⟨_, hb6.out, HCR2.out.2.1.trans HLN.out, by rw [HNL.out, hm0]; exact HCR2.out.2.2⟩, by rw [HNL.out]; omega, hcm⟩, HO5.out.trans ho6.out⟩
  · go_enter Try.func45, Try.ntmps45
    go_upto_region 5 with fail
    go_region_law (refine step_append_k rfl _ _ 43 rfl 46 i0 2 Try.underlying43 HI.out HZ1.out r i cap (by simp [Act.eval, Act.put]) ⟨r, (i + 1) * 2, none⟩ m (cap - (i + 1)) ((l.drop (i + 1)).flatMap bkL) (by simp [Act.eval, Act.put]) HCL.out HCD.out (bk_one _) (by omega) L HLD.out HF1.out ?_; intro w5 hb5 ho5)
    all_goals
      have HB5 := hb5
      have o5 : Off [r] w w5 := ((Off.refl [r] w).drew).trans ho5.out
      have HO5 := Lib.hid o5
      clear hb5 ho5 o5
      go_wp2_with (refine wpList_clear_k rfl _ 43 rfl 46 (.agg #[.int .i64 0, .int .i64 0]) Try.underlying43 zero_block r ((i + m) * 2) 1 _ rfl (by decide) (over L (i * 2) ((l.drop (i + 1)).flatMap bkL)) 46 HB5.out [.int .i64 0, .int .i64 0] zero_two (by rw [HCR.out.1, HLN.out]; show (i + m) * 2 + 2 ≤ _; omega) (two_one _ _) ?_; intro w6 hb6 ho6)
      go_ret
      refine ⟨by first | rfl | (rw [hc]; rfl), ⟨⟨_, hb6.out, HCR.out.2.1.trans HLN.out, by rw [HNL.out]; exact HCR.out.2.2⟩, by rw [HNL.out]; omega, hcm⟩, HO5.out.trans ho6.out⟩

end Go.Proofs.Ytfgkjfneeggbjaa.Mod
