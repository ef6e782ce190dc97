/- The program's model: slices.Insert over its row: the four ways. -/
import Derived.Test.YtfgkjfneeggbjaaDevC
namespace Go.Proofs.Ytfgkjfneeggbjaa.Mod
open Go.RowKit Mem Go.Proofs.Ytfgkjfneeggbjaa.RowK

set_option maxRecDepth 100000 in
set_option maxHeartbeats 4000000 in
theorem insert_shift {w : World} {r cap i n vb : Nat} {l : List Bk} {b : Bk} {L : List Value} (hL : Blk w r 46 L.toArray) (hlen : L.length = cap * 2) (ht : L.take (n * 2) = l.flatMap bkL) (hn : l.length = n) (hi : i < n)
    (hroom : n + 1 ≤ cap) (hcm : cap ≤ maxLen) (hn2 : n ≤ 4096) (hv : Blk w vb 46 #[.int .i64 b.p, .int .i64 b.n]) (hne : vb ≠ r) :
    Calls Try.prog 44 #[.slice (some ⟨r, 0, none⟩) n cap, .int .i64 i, .slice (some ⟨vb, 0, none⟩) 1 1] w fun e w' =>
      e = .returned (.slice (some ⟨r, 0, none⟩) (n + 1) cap) ∧ Row w' r cap (l.take i ++ b :: l.drop i) ∧ Off [r] w w' := by
  have h63 : maxLen = 9223372036854775807 := rfl
  have hov : ∀ o lb cb, (callFunc 51 #[.slice (some ⟨vb, 0, none⟩) 1 1, .slice (some ⟨r, o, none⟩) lb cb]).run Try.prog w = .ok (.value (.bool false)) w := fun o lb cb => overlaps_run hL (by omega) hv hne
  have HL := Lib.hid hL
  have HT := Lib.hid ht
  have HN := Lib.hid hn
  have HV := Lib.hid hv
  have HLN := Lib.hid hlen
  have HNE := Lib.hid hne
  have b1 : (i : Int) < (n : Int) := by omega
  have b2 : (n : Int) + 1 ≤ (cap : Int) := by omega
  have b3 : ¬ ((i : Int) = (n : Int)) := by omega
  have b4 : (i : Int) ≤ (n : Int) := by omega
  have b5 : ¬ (cap = i) := by omega
  have b6 : ¬ (cap = i + 1) := by omega
  have b7 : (0 : Int) ≤ (i : Int) + 1 := by omega
  have b8 : (0 : Int) ≤ (n : Int) + 1 := by omega
  have b9 : (i : Int) ≤ (n : Int) + 1 := by omega
  have w1 : IntKind.i64.wrap ((n : Int) + 1) = (n : Int) + 1 := IntWalk.i64_in _ (by omega)
  have w2 : IntKind.i64.wrap ((i : Int) + 1) = (i : Int) + 1 := IntWalk.i64_in _ (by omega)
  have w3 : ((i : Int) + 1).toNat = i + 1 := by omega
  have w4 : ((n : Int) + 1).toNat = n + 1 := by omega
  have HCL := Lib.hid (show ((l.drop i).flatMap bkL).length = (n - i) * 2 from by rw [flat2_len, List.length_drop, hn])
  have HLD : Hid (Blk w.drew r 46 L.toArray) := Lib.hid ⟨hL.eq⟩
  have HCD := Lib.hid (row_cells HLD.out ht i)
  have HM1 := Lib.hid (show ((l.drop i).flatMap bkL).length = Nat.min (n + 1 - i) (n - i) * 2 from by rw [HCL.out]; simp only [Nat.min_def]; split <;> omega)
  have HF1 := Lib.hid (show (i + 1) * 2 + ((l.drop i).flatMap bkL).length ≤ L.length from by rw [HCL.out, hlen]; omega)
  clear hL ht hn hv hlen hne
  go_enter Try.func44, Try.ntmps44
  go_upto_region 15 with (simp only [hov])
  go_region_law (refine step_copy_k rfl _ _ 43 43 rfl 46 2 Try.underlying43 dblock_size r ((i + 1) * 2) (n - i) (cap - (i + 1)) ⟨r, i * 2, none⟩ (n + 1 - i) (cap - i) (by simp [Act.eval, Act.put]) (by simp [Act.eval, Act.put]) L 46 HLD.out ((l.drop i).flatMap bkL) HM1.out HCD.out HF1.out (bk_one _) ?_; intro w5 hb5 ho5)
  all_goals
    have o5 : Off [r] w w5 := by first | exact ((Off.refl _ _).drewN _).trans ho5.out | exact ((Off.refl _ _).drew).trans ho5.out | exact ho5.out
    have HV5 := Lib.hid (o5.blk HV.out (by simpa using HNE.out))
    have HO5 := Lib.hid o5
    have HS := Lib.hid (shift_row (b := b) HT.out HN.out hi (by rw [HLN.out]; omega))
    have HL5 : Hid ((over L ((i + 1) * 2) ((l.drop i).flatMap bkL)).length = cap * 2) := Lib.hid (by rw [over_len (by rw [HCL.out, HLN.out]; omega), HLN.out])
    clear o5 ho5
    generalize over L ((i + 1) * 2) ((l.drop i).flatMap bkL) = L1 at *
    go_wp2_with (refine wpList_copy_k rfl _ _ 43 43 rfl 46 2 Try.underlying43 dblock_size r (i * 2) _ _ ⟨vb, 0, none⟩ _ _ rfl rfl L1 46 hb5.out (bkL b) (by simp only [Nat.min_def]; split <;> first | rfl | omega) (two_src HV5.out) (by rw [HL5.out]; show i * 2 + 2 ≤ _; omega) (two_one _ _) ?_; intro w6 hb6 ho6)
    go_ret
    refine ⟨rfl, ⟨⟨_, hb6.out, HS.out.1.trans HLN.out, by rw [len_ins HN.out (by omega)]; exact HS.out.2⟩, by rw [len_ins HN.out (by omega)]; omega, hcm⟩, HO5.out.trans ho6.out⟩

/-- What Insert leaves. -/
def InsPost (w : World) (lv : Value) (l' : List Bk) (e : Ending) (w' : World) : Prop :=
  ∃ lv', e = .returned lv' ∧ w'.ownsRow 0 46 2 lv' l'.length (l'.flatMap bkL) ∧ Off lv.ownBlock.toList w w' ∧ (∀ k, lv'.ownBlock = some k → lv.ownBlock = some k ∨ w.heap.size ≤ k)

theorem ins_end {l : List Bk} {n : Nat} {b : Bk} (hn : l.length = n) : l.take n ++ b :: l.drop n = l ++ [b] := by
  rw [List.take_of_length_le (by omega), List.drop_of_length_le (by omega)]
theorem off_own {w w5 : World} {lv : Value} (hg : w.grownBy w5 lv.ownBlock) : Off lv.ownBlock.toList w w5 :=
  (Off.refl _ _).grown hg (fun k hk => .inl (by rw [hk]; simp))
theorem own_app {w5 : World} {lv : Value} {l : List Bk} {n : Nat} {b : Bk} (hn : l.length = n) (h : w5.ownsRow 0 46 2 lv (n + 1) (l.flatMap bkL ++ bkL b)) :
    w5.ownsRow 0 46 2 lv (l.take n ++ b :: l.drop n).length ((l.take n ++ b :: l.drop n).flatMap bkL) := by
  rw [ins_end hn, List.length_append, List.flatMap_append, hn]
  simpa using h

set_option maxRecDepth 100000 in
set_option maxHeartbeats 4000000 in
theorem insert_nil {w : World} {vb : Nat} {b : Bk} (hv : Blk w vb 46 #[.int .i64 b.p, .int .i64 b.n]) :
    Calls Try.prog 44 #[.slice none 0 0, .int .i64 0, .slice (some ⟨vb, 0, none⟩) 1 1] w (InsPost w (.slice none 0 0) [b]) := by
  have h63 : maxLen = 9223372036854775807 := rfl
  have HV := Lib.hid hv
  obtain ⟨i0, hi, hz0, hz1, hz2⟩ := info_parts dblock_info
  have HI := Lib.hid hi
  have HZ0 := Lib.hid hz0
  have HZ1 := Lib.hid hz1
  have HZ2 := Lib.hid hz2
  clear hi hz0 hz1 hz2 hv
  go_enter Try.func44, Try.ntmps44
  go_wp2_with (at_builtin; refine wpList_append_own_at w rfl _ _ 43 rfl 0 46 i0 _ 2 16 Try.underlying43 HI.out HZ0.out HZ1.out HZ2.out rfl (by decide) (.slice none 0 0) 0 [] rfl (World.ownsRow_nil _ _ _ _) ⟨vb, 0, none⟩ 1 1 (bkL b) rfl rfl (two_src HV.out) (two_one _ _) (by unfold maxLen; omega) (by omega) (Nat.zero_le _) ?_; rintro v' w5 hown5 hgrow5 - hat5; have OW := Lib.hid hown5; have OG := Lib.hid hgrow5; have OT := Lib.hid hat5; clear hown5 hgrow5 hat5)
  go_ret
  refine ⟨v', rfl, ?_, off_own OG.out, fun k hk => ?_⟩
  · have h5 := OW.out
    rw [Nat.zero_add, List.nil_append] at h5
    simpa using h5
  · rcases OT.out with h | h
    · exact .inl (h ▸ hk)
    · rw [h] at hk
      injection hk with hk
      exact .inr (Nat.le_of_eq hk)

set_option maxRecDepth 100000 in
set_option maxHeartbeats 4000000 in
theorem insert_end {w : World} {r cap n vb : Nat} {l : List Bk} {b : Bk} (hown : w.ownsRow 0 46 2 (.slice (some ⟨r, 0, none⟩) n cap) n (l.flatMap bkL)) (hn : l.length = n) (hnc : n ≤ cap) (hn2 : n ≤ 4096)
    (hv : Blk w vb 46 #[.int .i64 b.p, .int .i64 b.n]) :
    Calls Try.prog 44 #[.slice (some ⟨r, 0, none⟩) n cap, .int .i64 n, .slice (some ⟨vb, 0, none⟩) 1 1] w (InsPost w (.slice (some ⟨r, 0, none⟩) n cap) (l.take n ++ b :: l.drop n)) := by
  have h63 : maxLen = 9223372036854775807 := rfl
  have HV := Lib.hid hv
  have HO := Lib.hid hown
  have HN := Lib.hid hn
  obtain ⟨i0, hi, hz0, hz1, hz2⟩ := info_parts dblock_info
  have HI := Lib.hid hi
  have HZ0 := Lib.hid hz0
  have HZ1 := Lib.hid hz1
  have HZ2 := Lib.hid hz2
  have b1 : (n : Int) ≤ (cap : Int) := by omega
  clear hi hz0 hz1 hz2 hv hown hn
  go_enter Try.func44, Try.ntmps44
  go_wp2_with (at_builtin; refine wpList_append_own_at w rfl _ _ 43 rfl 0 46 i0 _ 2 16 Try.underlying43 HI.out HZ0.out HZ1.out HZ2.out rfl (by decide) (.slice (some ⟨r, 0, none⟩) n cap) n (l.flatMap bkL) rfl HO.out ⟨vb, 0, none⟩ 1 1 (bkL b) rfl rfl (two_src HV.out) (two_one _ _) (by unfold maxLen; omega) (by omega) (Nat.zero_le _) ?_; rintro v' w5 hown5 hgrow5 - hat5; have OW := Lib.hid hown5; have OG := Lib.hid hgrow5; have OT := Lib.hid hat5; clear hown5 hgrow5 hat5)
  all_goals
    go_ret
    refine ⟨v', rfl, own_app HN.out OW.out, off_own OG.out, fun k hk => ?_⟩
    rcases OT.out with h | h
    · exact .inl (h ▸ hk)
    · rw [h] at hk
      injection hk with hk
      exact .inr (Nat.le_of_eq hk)

set_option maxRecDepth 100000 in
set_option maxHeartbeats 4000000 in
theorem insert_grow {w : World} {r cap i n vb : Nat} {l : List Bk} {b : Bk} {L : List Value} (hL : Blk w r 46 L.toArray) (ht : L.take (n * 2) = l.flatMap bkL) (hn : l.length = n) (hi : i < n)
    (hnc : n ≤ cap) (hroom : cap < n + 1) (hn2 : n ≤ 4096) (hv : Blk w vb 46 #[.int .i64 b.p, .int .i64 b.n]) :
    Calls Try.prog 44 #[.slice (some ⟨r, 0, none⟩) n cap, .int .i64 i, .slice (some ⟨vb, 0, none⟩) 1 1] w fun e w' =>
      ∃ G, e = .returned (.slice (some ⟨w.heap.size, 0, none⟩) (n + 1) G) ∧ Row w' w.heap.size G (l.take i ++ b :: l.drop i) ∧ Off [] w w' := by
  have h63 : maxLen = 9223372036854775807 := rfl
  obtain ⟨i0, hi0, hz0, hz1, hz2⟩ := info_parts dblock_info
  have HI := Lib.hid hi0
  have HZ0 := Lib.hid hz0
  have HZ1 := Lib.hid hz1
  have HZ2 := Lib.hid hz2
  have HL := Lib.hid hL
  have HT := Lib.hid ht
  have HN := Lib.hid hn
  have HV := Lib.hid hv
  obtain ⟨k, hk⟩ : ∃ k, n + 1 = i + k := ⟨n + 1 - i, by omega⟩
  have b1 : (i : Int) < (n : Int) := by omega
  have b2 : (cap : Int) < (n : Int) + 1 := by omega
  have b3 : ¬ ((i : Int) = (n : Int)) := by omega
  have b4 : (i : Int) ≤ (n : Int) := by omega
  have b5 : ¬ (cap = i) := by omega
  have b6 : (i : Int) ≤ (cap : Int) := by omega
  have w1 : IntKind.i64.wrap ((n : Int) + 1) = (n : Int) + 1 := IntWalk.i64_in _ (by omega)
  have w2 : IntKind.i64.wrap ((i : Int) + 1) = (i : Int) + 1 := IntWalk.i64_in _ (by omega)
  have w3 : ((i : Int) + 1).toNat = i + 1 := by omega
  have w5 : IntKind.i64.wrap ((n : Int) + 1 - (i : Int)) = (k : Int) := by rw [IntWalk.i64_in _ (by omega)]; omega
  have hkk : (n : Int) + 1 - (i : Int) = (k : Int) := by omega
  have b7 : (0 : Int) ≤ (i : Int) + 1 := by omega
  have HCL := Lib.hid (show ((l.drop i).flatMap bkL).length = (n - i) * 2 from by rw [flat2_len, List.length_drop, hn])
  have HTK := Lib.hid (row_take ht (Nat.le_of_lt hi))
  have HPC : Hid (∀ j u, ((l.take i).flatMap bkL)[j]? = some u → w.cell? ((⟨r, 0, none⟩ : Addr).add j) = some u) := Lib.hid (fun j u hu => by
    rw [addr_add, hL.cell, Nat.zero_add]
    rw [← row_take ht (Nat.le_of_lt hi), List.getElem?_take] at hu
    split at hu
    · simpa using hu
    · cases hu)
  have HPL := Lib.hid (show ((l.take i).flatMap bkL).length = i * 2 from by rw [flat2_len, List.length_take]; omega)
  have HVN : Hid (vb < w.heap.size ∧ r < w.heap.size) := Lib.hid ⟨hv.lt, hL.lt⟩
  clear hL ht hn hv hi0 hz0 hz1 hz2
  go_enter Try.func44, Try.ntmps44
  go_upto_region 10 with (at_builtin; refine wpList_append_zeros_k rfl _ _ 43 3 rfl 46 i0 _ 2 16 .i64 .i64 Try.underlying43 Try.underlying3 HI.out HZ0.out HZ1.out HZ2.out rfl (by decide) ⟨r, 0, none⟩ i cap rfl k rfl ((l.take i).flatMap bkL) HPL.out HPC.out (by omega) (by omega) (by unfold maxLen; omega) (by omega) ?_; rintro G R w6 hG1 hG2 hR1 hR2 hb6 ho6)
  have c1 : (1 : Int) ≤ (k : Int) := by omega
  have c6 : (0 : Int) ≤ (k : Int) := by omega
  have c2 : ¬ (G = i) := by omega
  have c3 : ¬ (G = i + 1) := by omega
  have HV6 := Lib.hid (ho6.out.blk HV.out (by simp))
  have HRL := Lib.hid (show R.length = G * 2 from hR1)
  have HG := Lib.hid (grow_row (b := b) hR2 HN.out hi (by rw [hR1]; omega))
  have HR1 : Hid ((over R (i * 2) (bkL b)).length = G * 2) := Lib.hid (by rw [over_len (by rw [hR1]; show i * 2 + 2 ≤ _; omega), hR1])
  have HF6 := Lib.hid (show i * 2 + (bkL b).length ≤ R.length from by rw [hR1]; show i * 2 + 2 ≤ _; omega)
  clear hR1 hR2
  go_upto_region 11 with (refine wpList_copy_k rfl _ _ 43 43 rfl 46 2 Try.underlying43 dblock_size w.heap.size (i * 2) _ _ ⟨vb, 0, none⟩ _ _ rfl rfl R 46 hb6.out (bkL b) (by simp only [Nat.min_def]; split <;> first | rfl | omega) (two_src HV6.out) HF6.out (two_one _ _) ?_; intro w7 hb7 ho7)
  have o7 : Off [] w w7 := ho6.out.trans' ho7.out (fun k hk => .inr (by simp at hk; omega))
  have HL7 : Hid (Blk w7.drew r 46 L.toArray) := Lib.hid ⟨(o7.blk HL.out (by simp)).eq⟩
  have HC7 := Lib.hid (row_cells HL7.out HT.out i)
  have HB7 : Hid (Blk w7.drew w.heap.size 46 (over R (i * 2) (bkL b)).toArray) := Lib.hid ⟨hb7.out.eq⟩
  have HM7 := Lib.hid (show ((l.drop i).flatMap bkL).length = Nat.min (n - i) (i + k - (i + 1)) * 2 from by rw [HCL.out]; simp only [Nat.min_def]; split <;> omega)
  have HF7 := Lib.hid (show (i + 1) * 2 + ((l.drop i).flatMap bkL).length ≤ (over R (i * 2) (bkL b)).length from by rw [HCL.out, HR1.out]; omega)
  have O7 := Lib.hid o7
  clear o7 ho7 hb7 ho6 hb6
  generalize over R (i * 2) (bkL b) = R1 at *
  go_region_law (refine step_copy_k rfl _ _ 43 43 rfl 46 2 Try.underlying43 dblock_size w.heap.size ((i + 1) * 2) (i + k - (i + 1)) (G - (i + 1)) ⟨r, i * 2, none⟩ (n - i) (cap - i) (by simp [Act.eval, Act.put]) (by simp [Act.eval, Act.put]) R1 46 HB7.out ((l.drop i).flatMap bkL) HM7.out HC7.out HF7.out (bk_one _) ?_; intro w8 hb8 ho8)
  all_goals
    have o8 : Off [] w w8 := O7.out.trans' (((Off.refl [w.heap.size] w7).drew).trans ho8.out) (fun k hk => .inr (by simp at hk; omega))
    have HB8 := Lib.hid hb8
    have HO8 := Lib.hid o8
    clear hb8 ho8 o8
    go_wp2
    go_ret
    refine ⟨G, by rw [hk]; rfl, ⟨⟨_, HB8.out.out, HG.out.1.trans HRL.out, by rw [len_ins HN.out (by omega)]; exact HG.out.2⟩, by rw [len_ins HN.out (by omega)]; omega, hG2⟩, HO8.out⟩

end Go.Proofs.Ytfgkjfneeggbjaa.Mod
