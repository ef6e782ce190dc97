/- The document's own model (allotmentref1.Model): Take: a contract. -/
import Derived.Test.YtpkpkfcboimhnaaModB
namespace Go.Proofs.Ytpkpkfcboimhnaa.Mod
open Go.RowKit Mem

def TakeRel (w : World) (l : List Bk) (p n : Int) (k i : Value) (wr : World) : Prop :=
  Off [] w wr ∧ ∃ j : Nat, j ≤ l.length ∧ i = .int .i64 j ∧ k = .int .i64 (ahead (l.take j) p) ∧ ∀ x ∈ l.take j, x.p + x.n ≤ p ∨ p + n ≤ x.p

theorem take_no {w w' : World} {base b : Nat} {W : Int} {l : List Bk} {p n : Int} (h : IsV w base b W l) (hc : canB W l p n = false) (ho : Off [] w w') :
    Ending.returned (.bool false) = Ending.returned (.bool (canB W l p n)) ∧ IsV w' base b W (takeL W l p n) ∧ Off [b] w w' := by
  refine ⟨by rw [hc], ?_, ho.more (by simp)⟩
  rw [takeL_no hc]
  exact h.off0 ho

/-- An append of a nil slice, in a region that draws. -/
theorem step_append_none {P : Program} {w : World} {ops : Array Oper} {o : Oper} {a : Act} {K : Act → World → Prop} {Q : Exit → Act → World → Prop} {E : Prop} (hgd : o.guard = none) (s x : Operand) (t : TypeId)
    (ho : o.op = .call { callee := .builtin .append, args := #[s, x], argTypes := #[t, t] })
    (base : Nat) (e : TypeId) (i : TypeInfo) (size : Nat) (ht : P.underlying t = some (.slice e)) (hi : P.info? e = some i)
    (v : Value) (n : Nat) (xs : List Value) (hs : a.eval s = v) (hown : w.ownsRow base e size v n xs) (hx : a.eval x = .slice none 0 0) (h : K (a.put o.dst v) w) :
    if Region.wanted o (yielded ops a.tmps) = true then Oper.wp P o a w K Q else E := by
  have hw : Region.wanted o (yielded ops a.tmps) = true := by simp [Region.wanted, hgd]
  rw [if_pos hw]
  have hr := run_append_owned_none (P := P) w base t o.type e i size ht hi v n xs hown
  unfold Oper.wp execOp
  simp only [ho, resolve, invoke, builtin, Sem.run_bind, Sem.run_pure, Result.andThen_ok, List.map_toArray, List.map_cons, List.map_nil, hs, hx, hr]
  exact h
theorem IsV.row2 {w : World} {base b : Nat} {W : Int} {l : List Bk} (h : IsV w base b W l) : (Blk w b 46 #[.slice none 0 0, .int .i64 W] ∧ l = []) ∨
    ∃ g cap, Blk w b 46 #[.slice (some ⟨g, 0, none⟩) l.length cap, .int .i64 W] ∧ l.length ≤ cap ∧ g < w.heap.size ∧ ∀ j u, (l.flatMap bkL)[j]? = some u → w.cell? ⟨g, j, none⟩ = some u := by
  obtain ⟨lv, hh, hown⟩ := h.head
  rcases hown.2 with ⟨rfl, e0⟩ | ⟨g, cap, cur, rfl, _, hc, hn, _, _, _⟩
  · exact .inl ⟨hh, List.eq_nil_of_length_eq_zero e0⟩
  · refine .inr ⟨g, cap, hh, hn, (⟨hc⟩ : Blk w g _ _).lt, fun j u hu => ?_⟩
    have := hown.cells (g := g) rfl j u hu
    rw [addr_add, Nat.zero_add] at this
    exact this
theorem at_world {P : Program} {c : Code} {Q : Exit → Act → World → Prop} {a : Act} {R : World → Prop} {w : World} (h : R w) (k : ∀ W, R W → Code.wp P c Q a W) : Code.wp P c Q a w := k w h
theorem pre_cell {xs : List Value} {m i : Nat} {u : Value} (h : (xs.take m)[i]? = some u) : xs[i]? = some u := by
  rw [List.getElem?_take] at h
  split at h
  · exact h
  · cases h
theorem cell_keep {w w' : World} {g i : Nat} {u : Value} (hg : g < w.heap.size) (h : w.cell? ⟨g, i, none⟩ = some u) (ho : Off [] w w') : w'.cell? ⟨g, i, none⟩ = some u := by
  rw [ho.cell (p := ⟨g, i, none⟩) hg (by simp)]
  exact h
theorem own_any {w w' : World} {base size n : Nat} {e : TypeId} {v : Value} {xs : List Value} (h : w.ownsRow base e size v n xs) (ho : Off [] w w') : w'.ownsRow base e size v n xs :=
  own_keep h (fun c cur hc _ => ho.block c (⟨hc⟩ : Blk w c _ _).lt (by simp))
theorem _root_.Go.Proofs.Ytpkpkfcboimhnaa.Mem.Off.more_off {a w w' : World} {S : List Nat} (h : Off [] a w) (k : Off S w w') : Off S a w' := (h.more (by simp)).trans k
/-- The end of a Take. -/
theorem take_fin {w w6 : World} {base b H0 : Nat} {W : Int} {l : List Bk} {lv : Value} {x : Option Addr} {c m : Nat} {p n : Int} {xs : List Value} (hlo : base ≤ w.heap.size) (hbb : base ≤ b) (h0 : 0 ≤ W) (h1 : W ≤ 4096) (hok : Ok W l) (hc : canB W l p n = true)
    (hh : Blk w b 46 #[lv, .int .i64 W]) (ho6 : Off [] w w6) (hb : base ≤ H0) (hn : m = (l.take (ahead l p) ++ ⟨p, n⟩ :: l.drop (ahead l p)).length) (hxs : xs = (l.take (ahead l p) ++ ⟨p, n⟩ :: l.drop (ahead l p)).flatMap bkL)
    (hown : w6.ownsRow H0 36 2 (.slice x m c) m xs) :
    IsV (w6.setCell ⟨b, 0, none⟩ (.slice x m c)) base b W (takeL W l p n) ∧ Off [b] w (w6.setCell ⟨b, 0, none⟩ (.slice x m c)) := by
  subst hxs
  rw [← ins_at] at hown hn
  rw [takeL_yes hc]
  exact give_end hlo hbb h0 h1 (ins_ok hok hc) hh hn (hown.mono hb) ho6

set_option maxRecDepth 100000 in
set_option maxHeartbeats 8000000 in
theorem rtake_any {w : World} {base b : Nat} {W : Int} {l : List Bk} (h : IsV w base b W l) (p n : Int) :
    Calls Try.prog 11 #[.pointer (some ⟨b, 0, none⟩), .int .i64 p, .int .i64 n] w fun e w' => e = .returned (.bool (canB W l p n)) ∧ IsV w' base b W (takeL W l p n) ∧ Off [b] w w' := by
  have hlen := ok_len 0 h.ok (fun b hb => (h.ok.each b hb).1) h.w0
  have hw0 := h.w0
  have hw1 := h.w1
  have H := Lib.hid h
  obtain ⟨va, vc, c0, c1, hr⟩ := h.read
  clear h
  by_cases n1 : n < 1
  · have d1 : decide (n < 1) = true := by simpa using n1
    clear hr
    go_enter Try.func11, Try.ntmps11
    go_wp2
    go_ret
    exact take_no H.out (canB_false (by omega)) (Off.refl _ _)
  have d1 : decide (n < 1) = false := by simpa using n1
  by_cases p0 : p < 0
  · have d2 : decide (p < 0) = true := by simpa using p0
    clear hr
    go_enter Try.func11, Try.ntmps11
    go_wp2
    go_ret
    exact take_no H.out (canB_false (by omega)) (Off.refl _ _)
  have d2 : decide (p < 0) = false := by simpa using p0
  by_cases p1 : W < p
  · have d3 : decide (W < p) = true := by simpa using p1
    clear hr
    go_enter Try.func11, Try.ntmps11
    go_wp2
    go_ret
    exact take_no H.out (canB_false (by omega)) (Off.refl _ _)
  have d3 : decide (W < p) = false := by simpa using p1
  by_cases n2 : W - p < n
  · have d4 : decide (W - p < n) = true := by simpa using n2
    clear hr
    go_enter Try.func11, Try.ntmps11
    go_wp2
    go_ret
    exact take_no H.out (canB_false (by omega)) (Off.refl _ _)
  have d4 : decide (W - p < n) = false := by simpa using n2
  have HRd := Lib.hid hr
  clear hr
  go_enter Try.func11, Try.ntmps11
  go_wp2
  go_loopw [7, 8] (fun k i wr => TakeRel w l p n k i wr) (fun _ i _ => l.length - (intOf i).toNat)
  case atStart => exact ⟨Off.refl _ _, 0, Nat.zero_le _, rfl, rfl, fun x hx => by simp at hx⟩
  case round =>
    clear c0 c1 HRd
    obtain ⟨ho, j, hj, rfl, rfl, hq⟩ := hrel
    have HO := Lib.hid ho
    have HQ := Lib.hid hq
    clear hq
    by_cases hlt : j < l.length
    · obtain ⟨va, vc, c0, c1, hr⟩ := (H.out.off0 ho).read
      clear ho
      obtain ⟨g0, o, c, hv, a1, a2⟩ := hr.at j hlt
      injection hv with hv1 _ hv2
      subst hv1 hv2
      clear hr
      have hji : (j : Int) < (l.length : Int) := by omega
      have hb := H.out.ok.each l[j] (List.getElem_mem hlt)
      have HA := Lib.hid (ahead_step H.out.ok p j hlt)
      have HT := Lib.hid (List.take_succ_eq_append_getElem hlt)
      have HM := Lib.hid (show l[j] ∈ l from List.getElem_mem hlt)
      generalize l[j] = x at *
      obtain ⟨x1, x2, x3⟩ := hb
      by_cases m1 : x.p < p + n
      · have e1 : decide (x.p < p + n) = true := by simpa using m1
        by_cases m2 : p < x.p + x.n
        · have e2 : decide (p < x.p + x.n) = true := by simpa using m2
          go_wp2
          go_ret
          exact take_no H.out (canB_false (fun k => by have := k.2 x HM.out; omega)) (HO.out.alloc _)
        · have e2 : decide (p < x.p + x.n) = false := by simpa using m2
          have e3 : decide (x.p < p) = true := by simp; omega
          go_wp2
          go_roundw
          case rel => exact ⟨HO.out.alloc _, j + 1, by omega, by go_num, by rw [HA.out, if_pos (by omega)]; go_num, fun y hy => by rw [HT.out] at hy; rcases List.mem_append.1 hy with hy | hy; exact HQ.out y hy; rw [List.mem_singleton.1 hy]; omega⟩
          case measure => simp [intOf]; omega
      · have e1 : decide (x.p < p + n) = false := by simpa using m1
        have e3 : decide (x.p < p) = false := by simp; omega
        go_wp2
        go_roundw
        case rel => exact ⟨HO.out.alloc _, j + 1, by omega, by go_num, by rw [HA.out, if_neg (by omega)], fun y hy => by rw [HT.out] at hy; rcases List.mem_append.1 hy with hy | hy; exact HQ.out y hy; rw [List.mem_singleton.1 hy]; omega⟩
        case measure => simp [intOf]; omega
    · obtain rfl : j = l.length := by omega
      have hall := HQ.out
      rw [List.take_length] at hall
      have HCB := Lib.hid (canB_iff.2 ⟨⟨by omega, by omega, by omega⟩, hall⟩ : canB W l p n = true)
      clear hall hj hlt HQ
      rw [List.take_length]
      obtain ⟨k, hk⟩ : ∃ k, ahead l p = k := ⟨_, rfl⟩
      rw [hk]
      have hkl : k ≤ l.length := by rw [← hk]; exact ahead_le l p
      have HK := Lib.hid hk
      clear hk
      obtain ⟨i0, hi, hz0, hz1, hz2⟩ := info_parts block_info
      have HI := Lib.hid hi
      have HZ0 := Lib.hid hz0
      have HZ1 := Lib.hid hz1
      have HZ2 := Lib.hid hz2
      clear hi hz0 hz1 hz2
      have HV := Lib.hid (H.out.off0 ho)
      clear ho
      obtain ⟨H0, hH0⟩ : ∃ H0, wr.heap.size = H0 := ⟨_, rfl⟩
      have HS0 := Lib.hid hH0
      clear hH0
      rcases HV.out.row2 with ⟨hh, rfl⟩ | ⟨g, cap, hh, hcap, hg, hcells⟩
      · obtain rfl : k = 0 := by simpa using hkl
        have c0 := hh.cell 0
        have hz := hh.free 0
        have HH := Lib.hid hh
        have hbl := hh.lt
        clear hh
        go_upto_region 12 with fail
        go_region_law (first | (refine step_append_none rfl _ _ 41 rfl H0 36 i0 2 Try.underlying41 HI.out (.slice none 0 0) 0 [] rfl (World.ownsRow_nil _ _ _ _) rfl ?_) | (refine step_append_any rfl _ _ 41 rfl H0 36 i0 _ 2 16 Try.underlying41 HI.out HZ0.out HZ1.out HZ2.out rfl (by decide) (.slice none 0 0) 0 [] rfl (World.ownsRow_nil _ _ _ _) _ 1 _ (bkL ⟨p, n⟩) rfl rfl (World.news_of_block (Blk.new _ 36 (bkL ⟨p, n⟩).toArray).eq) (by simp [Value.oneCell']) (by unfold maxLen; omega) (by omega) (by have h9 := HS0.out; simp; omega) ?_; intro a1' c1' w5 hown5 hgrow5; have own5 : Hid (w5.ownsRow H0 36 2 (.slice a1' 1 c1') 1 (bkL ⟨p, n⟩)) := Lib.hid (by have h5 := hown5.out; rwa [Nat.zero_add, List.nil_append] at h5); have o5 : Off [] wr w5 := Off.grown (by first | exact ((Off.refl _ _).drew).alloc _ | exact ((Off.refl _ _).alloc _).drew | exact ((Off.refl _ _).drewN _).alloc _ | exact ((Off.refl _ _).alloc _).drewN _) hgrow5.out (fun k hk => by simp [Value.ownBlock] at hk); have L5 : w5.cell? ⟨b, 0, none⟩ = some (.slice none 0 0) := (o5.blk HH.out (by simp)).cell 0; have z5 := (o5.blk HH.out (by simp)).free 0) | (refine step_append_none rfl _ _ 41 rfl H0 36 i0 2 Try.underlying41 HI.out (.slice a1' 1 c1') 1 _ rfl own5.out rfl ?_))
        all_goals
          go_wp2_with fail
          go_ret
          refine ⟨by rw [HCB.out]; rfl, ?_⟩
          obtain ⟨f1, f2⟩ := take_fin HV.out.lo HV.out.hb HV.out.w0 HV.out.w1 HV.out.ok HCB.out HH.out o5 (Nat.le_trans HV.out.lo (Nat.le_of_eq HS0.out)) (by rw [HK.out]; rfl) (by rw [HK.out]; rfl) own5.out
          exact ⟨f1, HO.out.more_off f2⟩
      · have c0 := hh.cell 0
        have hz := hh.free 0
        have HH := Lib.hid hh
        have hbl := hh.lt
        have HC := Lib.hid hcells
        have HG := Lib.hid hg
        have b1 : (k : Int) ≤ (l.length : Int) := by omega
        have b2 : (k : Int) ≤ (cap : Int) := by omega
        have b0 : (0 : Int) ≤ (k : Int) := by omega
        clear hh hcells hg
        by_cases hvc : cap = k
        · subst hvc
          have hlk : l.length = cap := by omega
          have HLK := Lib.hid hlk
          clear hlk
          go_upto_region 12 with fail
          go_region_law (first | (refine step_append_any rfl _ _ 41 rfl H0 36 i0 _ 2 16 Try.underlying41 HI.out HZ0.out HZ1.out HZ2.out rfl (by decide) (.slice none 0 0) 0 [] rfl (World.ownsRow_nil _ _ _ _) ⟨g, 0, none⟩ cap _ ((l.take cap).flatMap bkL) rfl (by rw [flat2_len, List.length_take]; omega) (fun i u hu => by rw [addr_add, Nat.zero_add]; rw [flat2_take] at hu; exact (cell_keep HG.out (HC.out i u (pre_cell hu)) (by first | exact (Off.refl _ _).drew | exact ((Off.refl _ _).drew).alloc _ | exact ((Off.refl _ _).alloc _).drew))) (bk_one _) (by unfold maxLen; omega) (by omega) (by have h9 := HS0.out; simp; omega) ?_; intro a5 c5 w5 hown5 hgrow5; have own5 : Hid (w5.ownsRow H0 36 2 (.slice a5 cap c5) cap ((l.take cap).flatMap bkL)) := Lib.hid (by have h5 := hown5.out; rwa [Nat.zero_add, List.nil_append] at h5); have o5 : Off [] wr w5 := Off.grown (by first | exact (Off.refl _ _).drew | exact ((Off.refl _ _).drew).alloc _ | exact ((Off.refl _ _).alloc _).drew) hgrow5.out (by intro k9 hk9; simp [Value.ownBlock] at hk9); have L5 := (o5.blk HH.out (by simp)).cell 0; have L5a := (fun o9 : Obj => ((o5.alloc o9).blk HH.out (by simp)).cell 0); have z5 := (o5.blk HH.out (by simp)).free 0) | (refine step_append_any rfl _ _ 41 rfl H0 36 i0 _ 2 16 Try.underlying41 HI.out HZ0.out HZ1.out HZ2.out rfl (by decide) (.slice a5 cap c5) cap ((l.take cap).flatMap bkL) rfl (own_any own5.out (by first | exact Off.refl _ _ | exact (Off.refl _ _).alloc _)) _ 1 _ (bkL ⟨p, n⟩) rfl rfl (by first | exact World.news_of_block (Blk.new w5 36 (bkL ⟨p, n⟩).toArray).eq | exact World.news_of_block (Off.blk (Off.grown (Off.refl [] _) hgrow5.out (by intro k9 hk9; simp [Value.ownBlock] at hk9)) ⟨(Blk.new wr 36 (bkL ⟨p, n⟩).toArray).eq⟩ (by simp)).eq) (by simp [Value.oneCell']) (by unfold maxLen; omega) (by omega) (by have h9 := HS0.out; have h8 := o5.size; simp; omega) ?_; intro a6 c6 w6 own6 hgrow6; have o6 : Off [] wr w6 := off_grown (by first | exact o5 | exact o5.alloc _) hgrow6.out (own_any own5.out (by first | exact Off.refl _ _ | exact (Off.refl _ _).alloc _)) (Nat.le_of_eq HS0.out); have L6 := (o6.blk HH.out (by simp)).cell 0; have z6 := (o6.blk HH.out (by simp)).free 0) | (refine step_append_any rfl _ _ 41 rfl H0 36 i0 _ 2 16 Try.underlying41 HI.out HZ0.out HZ1.out HZ2.out rfl (by decide) (.slice a6 (cap + 1) c6) (cap + 1) ((l.take cap).flatMap bkL ++ bkL ⟨p, n⟩) rfl own6.out ⟨g, 0, none⟩ 0 _ [] rfl rfl (fun i u hu => by cases hu) (fun u hu => by cases hu) (by unfold maxLen; omega) (by omega) (by have h9 := HS0.out; have h8 := o6.size; omega) ?_; intro a7 c7 w7 own7 hgrow7; have o7 : Off [] wr w7 := off_grown o6 hgrow7.out own6.out (Nat.le_of_eq HS0.out); have L7 := (o7.blk HH.out (by simp)).cell 0; have z7 := (o7.blk HH.out (by simp)).free 0))
          all_goals
            go_wp2_with fail
            go_ret
            refine ⟨by rw [HCB.out]; rfl, ?_⟩
            obtain ⟨f1, f2⟩ := take_fin HV.out.lo HV.out.hb HV.out.w0 HV.out.w1 HV.out.ok HCB.out HH.out o7 (Nat.le_trans HV.out.lo (Nat.le_of_eq HS0.out)) (by rw [HK.out, List.length_append, List.length_take, List.length_cons, List.length_drop, HLK.out]; omega) (by rw [HK.out, List.flatMap_append, List.flatMap_cons, List.append_assoc, List.drop_of_length_le (Nat.le_of_eq HLK.out)]; rfl) own7.out
            exact ⟨f1, HO.out.more_off f2⟩
        · go_upto_region 12 with fail
          go_region_law (first | (refine step_append_any rfl _ _ 41 rfl H0 36 i0 _ 2 16 Try.underlying41 HI.out HZ0.out HZ1.out HZ2.out rfl (by decide) (.slice none 0 0) 0 [] rfl (World.ownsRow_nil _ _ _ _) ⟨g, 0, none⟩ k _ ((l.take k).flatMap bkL) rfl (by rw [flat2_len, List.length_take]; omega) (fun i u hu => by rw [addr_add, Nat.zero_add]; rw [flat2_take] at hu; exact (cell_keep HG.out (HC.out i u (pre_cell hu)) (by first | exact (Off.refl _ _).drew | exact ((Off.refl _ _).drew).alloc _ | exact ((Off.refl _ _).alloc _).drew))) (bk_one _) (by unfold maxLen; omega) (by omega) (by have h9 := HS0.out; simp; omega) ?_; intro a5 c5 w5 hown5 hgrow5; have own5 : Hid (w5.ownsRow H0 36 2 (.slice a5 k c5) k ((l.take k).flatMap bkL)) := Lib.hid (by have h5 := hown5.out; rwa [Nat.zero_add, List.nil_append] at h5); have o5 : Off [] wr w5 := Off.grown (by first | exact (Off.refl _ _).drew | exact ((Off.refl _ _).drew).alloc _ | exact ((Off.refl _ _).alloc _).drew) hgrow5.out (by intro k9 hk9; simp [Value.ownBlock] at hk9); have L5 := (o5.blk HH.out (by simp)).cell 0; have L5a := (fun o9 : Obj => ((o5.alloc o9).blk HH.out (by simp)).cell 0); have z5 := (o5.blk HH.out (by simp)).free 0) | (refine step_append_any rfl _ _ 41 rfl H0 36 i0 _ 2 16 Try.underlying41 HI.out HZ0.out HZ1.out HZ2.out rfl (by decide) (.slice a5 k c5) k ((l.take k).flatMap bkL) rfl (own_any own5.out (by first | exact Off.refl _ _ | exact (Off.refl _ _).alloc _)) _ 1 _ (bkL ⟨p, n⟩) rfl rfl (by first | exact World.news_of_block (Blk.new w5 36 (bkL ⟨p, n⟩).toArray).eq | exact World.news_of_block (Off.blk (Off.grown (Off.refl [] _) hgrow5.out (by intro k9 hk9; simp [Value.ownBlock] at hk9)) ⟨(Blk.new wr 36 (bkL ⟨p, n⟩).toArray).eq⟩ (by simp)).eq) (by simp [Value.oneCell']) (by unfold maxLen; omega) (by omega) (by have h9 := HS0.out; have h8 := o5.size; simp; omega) ?_; intro a6 c6 w6 own6 hgrow6; have o6 : Off [] wr w6 := off_grown (by first | exact o5 | exact o5.alloc _) hgrow6.out (own_any own5.out (by first | exact Off.refl _ _ | exact (Off.refl _ _).alloc _)) (Nat.le_of_eq HS0.out); have L6 := (o6.blk HH.out (by simp)).cell 0; have z6 := (o6.blk HH.out (by simp)).free 0) | (refine step_append_any rfl _ _ 41 rfl H0 36 i0 _ 2 16 Try.underlying41 HI.out HZ0.out HZ1.out HZ2.out rfl (by decide) (.slice a6 (k + 1) c6) (k + 1) ((l.take k).flatMap bkL ++ bkL ⟨p, n⟩) rfl own6.out ⟨g, k * 2, none⟩ (l.length - k) _ ((l.drop k).flatMap bkL) rfl (by rw [flat2_len, List.length_drop]) (fun i u hu => by rw [addr_add]; rw [flat2_drop] at hu; rw [List.getElem?_drop] at hu; exact cell_keep HG.out (HC.out _ u hu) o6) (bk_one _) (by unfold maxLen; omega) (by omega) (by have h9 := HS0.out; have h8 := o6.size; omega) ?_; intro a7 c7 w7 own7 hgrow7; have o7 : Off [] wr w7 := off_grown o6 hgrow7.out own6.out (Nat.le_of_eq HS0.out); have L7 := (o7.blk HH.out (by simp)).cell 0; have z7 := (o7.blk HH.out (by simp)).free 0))
          all_goals
            go_wp2_with fail
            go_ret
            refine ⟨by rw [HCB.out]; rfl, ?_⟩
            obtain ⟨f1, f2⟩ := take_fin HV.out.lo HV.out.hb HV.out.w0 HV.out.w1 HV.out.ok HCB.out HH.out o7 (Nat.le_trans HV.out.lo (Nat.le_of_eq HS0.out)) (by rw [HK.out, List.length_append, List.length_take, List.length_cons, List.length_drop]; omega) (by rw [HK.out, List.flatMap_append, List.flatMap_cons, List.append_assoc]) own7.out
            exact ⟨f1, HO.out.more_off f2⟩

end Go.Proofs.Ytpkpkfcboimhnaa.Mod
