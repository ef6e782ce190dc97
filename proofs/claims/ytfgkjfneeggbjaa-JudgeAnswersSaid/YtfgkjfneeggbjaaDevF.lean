/- The program's model: Take, Give; and all contracts that the walks ask. -/
import Derived.Test.YtfgkjfneeggbjaaDevE
namespace Go.Proofs.Ytfgkjfneeggbjaa.Mod
open Go.RowKit Mem Go.Proofs.Ytfgkjfneeggbjaa.RowK

/-- The row that a call has left, stored. -/
theorem turn_fin {w w5 : World} {g : Nat} {F : List Nat} {W : Int} {l l' : List Bk} {lv lv' : Value} (hb : Blk w g 61 #[.int .i64 W, lv]) (hown : w.ownsRow 0 46 2 lv l.length (l.flatMap bkL)) (hF : F = g :: lv.ownBlock.toList)
    (hW : 0 ≤ W ∧ W ≤ 4096) (ok : Ok W l') (own5 : w5.ownsRow 0 46 2 lv' l'.length (l'.flatMap bkL)) (o5 : Off lv.ownBlock.toList w w5) (hk : ∀ k, lv'.ownBlock = some k → lv.ownBlock = some k ∨ w.heap.size ≤ k) :
    (∃ F', IsD (w5.setCell ⟨g, 1, none⟩ lv') g F' W l' ∧ ∀ k ∈ F', k ∈ F ∨ w.heap.size ≤ k) ∧ Off F w (w5.setCell ⟨g, 1, none⟩ lv') := by
  have hng : g ∉ lv.ownBlock.toList := by
    intro hm
    rcases hown.2 with ⟨rfl, _⟩ | ⟨r, cap, cur, rfl, _, hc, _⟩
    · simp [Value.ownBlock] at hm
    · simp [Value.ownBlock] at hm
      subst hm
      have := blk_typ hb ⟨hc⟩
      revert this
      decide
  have hb5 := o5.blk hb hng
  refine ⟨⟨g :: lv'.ownBlock.toList, ⟨⟨lv', (hb5.set 1 lv').to (by simp), own_keep own5 (fun c cur hc _ => Below.heap_setCell _ _ _ _ (hb5.ne ⟨hc⟩ (by decide)).symm), rfl⟩, ok, hW.1, hW.2⟩, fun k hk2 => ?_⟩, ?_⟩
  · rcases List.mem_cons.1 hk2 with rfl | hk3
    · exact .inl (by rw [hF]; simp)
    · rcases hk k (by simpa using hk3) with h1 | h1
      · exact .inl (by rw [hF, h1]; simp)
      · exact .inr h1
  · exact (o5.more (fun k hk => by rw [hF]; exact List.mem_cons_of_mem _ hk)).set (.inl (by rw [hF]; simp)) _

theorem row_far {w : World} {g : Nat} {W : Int} {l : List Bk} {lv : Value} (hb : Blk w g 61 #[.int .i64 W, lv]) (hown : w.ownsRow 0 46 2 lv l.length (l.flatMap bkL)) : g ∉ lv.ownBlock.toList := by
  intro hm
  rcases hown.2 with ⟨rfl, _⟩ | ⟨r, cap, cur, rfl, _, hc, _⟩
  · simp [Value.ownBlock] at hm
  · simp [Value.ownBlock] at hm
    subst hm
    have := blk_typ hb ⟨hc⟩
    revert this
    decide
theorem own_off {w w3 : World} {l : List Bk} {lv : Value} (hown : w.ownsRow 0 46 2 lv l.length (l.flatMap bkL)) (ho : Off [] w w3) : w3.ownsRow 0 46 2 lv l.length (l.flatMap bkL) :=
  own_keep hown (fun c cur hc _ => ho.block c (⟨hc⟩ : Blk w c _ _).lt (by simp))

/-- What is stored behind Insert, Delete. -/
def FinPost (w : World) (g : Nat) (F : List Nat) (W : Int) (l' : List Bk) (lv : Value) (e : Ending) (w5 : World) : Prop :=
  ∃ a n c, e = .returned (.slice a n c) ∧ (w5.cell? ⟨g, 1, none⟩ = some lv ∧ w5.frozen? ⟨g, 1, none⟩ = false) ∧
    ((∃ F', IsD (w5.setCell ⟨g, 1, none⟩ (.slice a n c)) g F' W l' ∧ ∀ k ∈ F', k ∈ F ∨ w.heap.size ≤ k) ∧ Off F w (w5.setCell ⟨g, 1, none⟩ (.slice a n c)))

theorem ins_call {w w3 : World} {g : Nat} {F : List Nat} {W : Int} {l l' : List Bk} {lv : Value} {i : Nat} {p n : Int} (hb : Blk w g 61 #[.int .i64 W, lv]) (hown : w.ownsRow 0 46 2 lv l.length (l.flatMap bkL)) (hF : F = g :: lv.ownBlock.toList)
    (hW : 0 ≤ W ∧ W ≤ 4096) (ok : Ok W l') (hi : i ≤ l.length) (hl : l.length ≤ 4096) (hl' : l' = l.take i ++ ⟨p, n⟩ :: l.drop i) (ho : Off [] w w3) :
    Calls Try.prog 44 #[lv, .int .i64 i, .slice (some ⟨w3.heap.size, 0, none⟩) 1 1] (w3.alloc (.cells #[.int .i64 p, .int .i64 n] 46)) (FinPost w g F W l' lv) := by
  have ho4 := ho.alloc (.cells #[.int .i64 p, .int .i64 n] 46)
  refine (insert_any (b := ⟨p, n⟩) (own_off hown ho4) hi hl (Blk.new w3 _ _) (fun k hk => ?_)).mono ?_
  · have h1 := (hown.lt k hk).2
    have h2 := ho.size
    omega
  · rintro e w5 ⟨lv', rfl, own5, o5, hk⟩
    have o6 : Off lv.ownBlock.toList w w5 := (ho4.more (by simp)).trans o5
    have hb5 := o6.blk hb (row_far hb hown)
    obtain ⟨a, c, rfl⟩ := (rd_own own5).len
    refine ⟨a, _, c, rfl, ⟨hb5.cell 1, hb5.free 1⟩, turn_fin hb hown hF hW ok (by rw [hl']; exact own5) o6 (fun k h2 => ?_)⟩
    rcases hk k h2 with h3 | h3
    · exact .inl h3
    · have := ho4.size
      exact .inr (by omega)

theorem del_call {w w3 : World} {g : Nat} {F : List Nat} {W : Int} {l l' : List Bk} {lv : Value} {i : Nat} (hb : Blk w g 61 #[.int .i64 W, lv]) (hown : w.ownsRow 0 46 2 lv l.length (l.flatMap bkL)) (hF : F = g :: lv.ownBlock.toList)
    (hW : 0 ≤ W ∧ W ≤ 4096) (ok : Ok W l') (hi : i < l.length) (hl : l.length ≤ 4096) (hl' : l' = l.take i ++ l.drop (i + 1)) (ho : Off [] w w3) :
    Calls Try.prog 45 #[lv, .int .i64 i, .int .i64 ((i : Int) + 1)] w3 (FinPost w g F W l' lv) := by
  rcases own_rows (own_off hown ho) with ⟨rfl, rfl⟩ | ⟨r, cap, rfl, hr⟩
  · exact absurd hi (Nat.not_lt_zero _)
  · obtain ⟨L, hL, hlen, ht⟩ := hr.cells
    obtain ⟨m, hm⟩ : ∃ m, l.length = i + 1 + m := ⟨l.length - (i + 1), by omega⟩
    have hle := hr.le
    rw [hm] at ht hle hl ⊢
    refine (delete_any hL hlen ht hm hle hr.max hl).mono ?_
    rintro e w5 ⟨rfl, hrow, o5⟩
    have o6 : Off (Value.slice (some ⟨r, 0, none⟩) l.length cap).ownBlock.toList w w5 := (ho.more (by simp)).trans (by simpa [Value.ownBlock] using o5)
    have hb5 := o6.blk hb (row_far hb hown)
    have h1 := hrow.own
    have hnl : (l.take i ++ l.drop (i + 1)).length = i + m := by rw [List.length_append, List.length_take, List.length_drop, hm]; omega
    rw [hnl] at h1
    rw [hm] at hb5
    refine ⟨_, _, _, rfl, ⟨hb5.cell 1, hb5.free 1⟩, turn_fin hb hown hF hW ok (by rw [hl', hnl]; exact h1) o6 (fun k h2 => .inl h2)⟩

set_option maxRecDepth 100000 in
set_option maxHeartbeats 4000000 in
theorem dtake_any {w : World} {g : Nat} {F : List Nat} {W : Int} {l : List Bk} (h : IsD w g F W l) (p n : Int) :
    Calls Try.prog 36 #[.pointer (some ⟨g, 0, none⟩), .int .i64 p, .int .i64 n] w (TurnPost IsD w g F W (canB W l p n) (takeL W l p n)) := by
  have hw0 := h.w0
  have hw1 := h.w1
  have hlen := h.len
  have HOK := Lib.hid h.ok
  have H := Lib.hid h
  by_cases hin : 1 ≤ n ∧ 0 ≤ p ∧ p + n ≤ W
  · have hd : decide (1 ≤ n ∧ 0 ≤ p ∧ p + n ≤ W) = true := by simpa using hin
    have hwi := within_any h p n
    rw [hd] at hwi
    have HW := Lib.hid hwi
    have HA := Lib.hid (after_any h p)
    obtain ⟨lv, hh, hown, hF⟩ := h.head
    obtain ⟨va, vc, rfl⟩ := (rd_own hown).len
    obtain ⟨i, hi⟩ : ∃ i, below l p = i := ⟨_, rfl⟩
    have hil : i ≤ l.length := by rw [← hi]; exact below_le l p
    have HI := Lib.hid hi
    have HH := Lib.hid hh
    have HO := Lib.hid hown
    have HF := Lib.hid hF
    have w1 : IntKind.i64.wrap (p + n) = p + n := IntWalk.i64_in _ (by omega)
    have HIN := Lib.hid hin
    clear h hi hh hown hF hd hwi
    by_cases hlt : i < l.length
    · have d1 : (i : Int) < (l.length : Int) := by omega
      by_cases hp : l[i].p < p + n
      · have d2 : decide (l[i].p < p + n) = true := by simpa using hp
        have hcan : canB W l p n = false := can_no HOK.out (p := p) (n := n) (by rw [HI.out]; exact hlt) (by simp only [HI.out]; exact hp)
        rw [hcan, takeL_no hcan]
        clear hcan hp hin
        go_enter Try.func36, Try.ntmps36
        go_upto_region 4 with (first | (go_at_call 43; refine HW.out.mono ?_; rintro e w2 ⟨rfl, rfl⟩) | (go_at_call 34; refine HA.out.mono ?_; rintro e w3 ⟨rfl, o3⟩; rw [HI.out]))
        have hh3 := o3.blk HH.out (by simp)
        have c1 : w3.cell? ⟨g, 1, none⟩ = some (.slice va l.length vc) := hh3.cell 1
        obtain ⟨r, o, rfl, a1, a2⟩ := rd_at ((rd_own HO.out).off o3 (by simp)) i hlt
        have HO3 := Lib.hid o3
        clear o3 hh3
        generalize l[i] = x at *
        go_wp2
        go_ret
        exact ⟨rfl, ⟨F, H.out.off0 HO3.out, fun k hk => .inl hk⟩, HO3.out.more (by simp)⟩
      · have d2 : decide (l[i].p < p + n) = false := by simpa using hp
        have hcan : canB W l p n = true := can_yes HOK.out HIN.out (by rw [HI.out]; exact hlt) (by simp only [HI.out]; omega)
        have HL : Hid (ins l p n = l.take i ++ ⟨p, n⟩ :: l.drop i) := Lib.hid (by rw [ins_below HOK.out hcan, HI.out])
        have HOI := Lib.hid (ins_ok HOK.out hcan)
        rw [hcan, takeL_yes hcan]
        clear hcan hin hp
        go_enter Try.func36, Try.ntmps36
        go_upto_region 4 with (first | (go_at_call 43; refine HW.out.mono ?_; rintro e w2 ⟨rfl, rfl⟩) | (go_at_call 34; refine HA.out.mono ?_; rintro e w3 ⟨rfl, o3⟩; rw [HI.out]))
        have hh3 := o3.blk HH.out (by simp)
        have c1 : w3.cell? ⟨g, 1, none⟩ = some (.slice va l.length vc) := hh3.cell 1
        have RD := Lib.hid ((rd_own HO.out).off o3 (by simp))
        have HS := Lib.hid (ins_call HH.out HO.out HF.out ⟨hw0, hw1⟩ HOI.out hil (by omega) HL.out o3)
        clear o3 hh3
        obtain ⟨r, o, rfl, a1, a2⟩ := rd_at RD.out i hlt
        generalize l[i] = x at *
        go_wp2_with (go_at_call 44; refine HS.out.mono ?_; rintro e w5 ⟨ra, rn, rc, rfl, ⟨e1, e2⟩, hfin⟩; have HFI := Lib.hid hfin; clear hfin)
        go_ret
        exact ⟨rfl, HFI.out.1, HFI.out.2⟩
    · obtain rfl : i = l.length := by omega
      have hcan : canB W l p n = true := can_end HOK.out HIN.out HI.out
      have HL : Hid (ins l p n = l.take l.length ++ ⟨p, n⟩ :: l.drop l.length) := Lib.hid (by rw [ins_below HOK.out hcan, HI.out])
      have HOI := Lib.hid (ins_ok HOK.out hcan)
      rw [hcan, takeL_yes hcan]
      clear hcan hin
      go_enter Try.func36, Try.ntmps36
      go_upto_region 4 with (first | (go_at_call 43; refine HW.out.mono ?_; rintro e w2 ⟨rfl, rfl⟩) | (go_at_call 34; refine HA.out.mono ?_; rintro e w3 ⟨rfl, o3⟩; rw [HI.out]))
      have hh3 := o3.blk HH.out (by simp)
      have c1 : w3.cell? ⟨g, 1, none⟩ = some (.slice va l.length vc) := hh3.cell 1
      have RD := Lib.hid ((rd_own HO.out).off o3 (by simp))
      have HS := Lib.hid (ins_call HH.out HO.out HF.out ⟨hw0, hw1⟩ HOI.out hil (by omega) HL.out o3)
      clear o3 hh3
      go_wp2_with (go_at_call 44; refine HS.out.mono ?_; rintro e w5 ⟨ra, rn, rc, rfl, ⟨e1, e2⟩, hfin⟩; have HFI := Lib.hid hfin; clear hfin)
      go_ret
      exact ⟨rfl, HFI.out.1, HFI.out.2⟩
  · have hcan : canB W l p n = false := canB_false (fun k => hin k.1)
    have hwi := within_any h p n
    have hd : decide (1 ≤ n ∧ 0 ≤ p ∧ p + n ≤ W) = false := by simpa using hin
    rw [hd] at hwi
    have HW := Lib.hid hwi
    rw [hcan, takeL_no hcan]
    clear hcan hin h hd hwi
    go_enter Try.func36, Try.ntmps36
    go_wp2_with (go_at_call 43; refine HW.out.mono ?_; rintro e w2 ⟨rfl, rfl⟩)
    go_ret
    exact ⟨rfl, ⟨F, H.out, fun k hk => .inl hk⟩, Off.refl _ _⟩

set_option maxRecDepth 100000 in
set_option maxHeartbeats 4000000 in
theorem dgive_any {w : World} {g : Nat} {F : List Nat} {W : Int} {l : List Bk} (h : IsD w g F W l) (p : Int) :
    Calls Try.prog 38 #[.pointer (some ⟨g, 0, none⟩), .int .i64 p] w (TurnPost IsD w g F W (giveB l p) (give l p)) := by
  have hw0 := h.w0
  have hw1 := h.w1
  have hlen := h.len
  have H := Lib.hid h
  have hat := at_any h p
  have hgs := give_some (l := l) (p := p)
  cases ha : (atF l p).isSome with
  | false =>
    rw [ha] at hgs
    rw [ha] at hat
    have hAT : Hid (∀ P : Prop, P → P) := Lib.hid (fun _ k => k)
    have HAT := Lib.hid hat
    rw [hgs, give_not hgs]
    clear h hat ha hgs hAT
    go_enter Try.func38, Try.ntmps38
    go_wp2_with (go_at_call 13; refine HAT.out.mono ?_; rintro e w2 ⟨rfl, o2⟩; have O2 := Lib.hid o2; clear o2)
    go_ret
    exact ⟨rfl, ⟨F, H.out.off0 (O2.out.alloc _), fun k hk => .inl hk⟩, (O2.out.alloc _).more (by simp)⟩
  | true =>
    rw [ha] at hgs
    obtain ⟨hi, hp⟩ := at_below h.ok ha
    rw [ha] at hat
    have HAT := Lib.hid hat
    obtain ⟨i, hib⟩ : ∃ i, below l p = i := ⟨_, rfl⟩
    have hil : i < l.length := hib ▸ hi
    have HG : Hid (give l p = l.take i ++ l.drop (i + 1)) := Lib.hid (by
      have h1 := give_at h.ok (below l p) hi
      rw [hp] at h1
      rw [h1, hib])
    have HOG := Lib.hid (give_ok h.ok p)
    have HA : Hid (∀ w2, Off [] w w2 → Calls Try.prog 34 #[.pointer (some ⟨g, 0, none⟩), .int .i64 p] w2 fun e w' => e = .returned (.int .i64 i) ∧ Off [] w2 w') := Lib.hid (fun w2 ho => hib ▸ after_any (h.off0 ho) p)
    obtain ⟨lv, hh, hown, hF⟩ := h.head
    obtain ⟨va, vc, rfl⟩ := (rd_own hown).len
    have HH := Lib.hid hh
    have HO := Lib.hid hown
    have HF := Lib.hid hF
    have d1 : (i : Int) < (l.length : Int) := by omega
    have w1 : IntKind.i64.wrap ((i : Int) + 1) = (i : Int) + 1 := IntWalk.i64_in _ (by omega)
    rw [hgs]
    clear h hat ha hgs hh hown hF hib hp hi
    go_enter Try.func38, Try.ntmps38
    go_upto_region 5 with (first | (go_at_call 13; refine HAT.out.mono ?_; rintro e w2 ⟨rfl, o2⟩; have O2 := Lib.hid (o2.alloc (.cells #[.int .i64 (fp (atF l p)), .int .i64 (fn (atF l p))] 46)); clear o2) | (go_at_call 34; refine (HA.out _ O2.out).mono ?_; rintro e w3 ⟨rfl, o3⟩))
    have o4 := O2.out.trans o3
    have hh3 := o4.blk HH.out (by simp)
    have c1 : w3.cell? ⟨g, 1, none⟩ = some (.slice va l.length vc) := hh3.cell 1
    have HS := Lib.hid (del_call HH.out HO.out HF.out ⟨hw0, hw1⟩ HOG.out hil (by omega) HG.out o4)
    clear o3 o4 hh3
    go_wp2_with (go_at_call 45; refine HS.out.mono ?_; rintro e w5 ⟨ra, rn, rc, rfl, ⟨e1, e2⟩, hfin⟩; have HFI := Lib.hid hfin; clear hfin)
    go_ret
    exact ⟨rfl, HFI.out.1, HFI.out.2⟩

end Go.Proofs.Ytfgkjfneeggbjaa.Mod
