/- The document's own model (allotmentref1.Model): NewModel, Give, Take: a contract each. -/
import Derived.Test.YtpkpkfcboimhnaaModA
import Derived.Deep.AppendLies
import Derived.Deep.RegionLaw
import Derived.Deep.Onto
namespace Go.Proofs.Ytpkpkfcboimhnaa.Mod
open Go.RowKit Mem

/-- An append onto a row of the call's own, in a region that draws: whatever the row, whatever is appended. -/
theorem step_append_any {P : Program} {w : World} {ops : Array Oper} {o : Oper} {a : Act} {K : Act → World → Prop} {Q : Exit → Act → World → Prop} {E : Prop} (hgd : o.guard = none) (s x : Operand) (t : TypeId)
    (ho : o.op = .call { callee := .builtin .append, args := #[s, x], argTypes := #[t, t] })
    (base : Nat) (e : TypeId) (i : TypeInfo) (z : Value) (size bytes : Nat) (ht : P.underlying t = some (.slice e)) (hi : P.info? e = some i) (hz : i.zero = some z)
    (hsize : i.size = size) (hby : i.bytes = bytes) (hzs : z.cells.size = size) (hsz : 0 < size)
    (v : Value) (n : Nat) (xs : List Value) (hs : a.eval s = v) (hown : w.ownsRow base e size v n xs)
    (ad : Addr) (m c : Nat) (news : List Value) (hx : a.eval x = .slice (some ad) m c) (hl : news.length = m * size) (hnews : ∀ j u, news[j]? = some u → w.cell? (ad.add j) = some u) (h1 : ∀ u ∈ news, u.oneCell' = true)
    (h63 : n + m ≤ maxLen) (hbytes : (n + m) * bytes ≤ 140737488355328) (hbase : base ≤ w.heap.size)
    (h : ∀ a' c' w', Hid (w'.ownsRow base e size (.slice a' (n + m) c') (n + m) (xs ++ news)) → Hid (w.grownBy w' v.ownBlock) → K (a.put o.dst (.slice a' (n + m) c')) w') :
    if Region.wanted o (yielded ops a.tmps) = true then Oper.wp P o a w K Q else E := by
  have hw : Region.wanted o (yielded ops a.tmps) = true := by simp [Region.wanted, hgd]
  rw [if_pos hw]
  obtain ⟨v', w', hr, h2, h3, _⟩ := run_append_own (P := P) w base t o.type e i z size bytes ht hi hz hsize hby hzs hsz v n xs hown ad m c news hl hnews h1 h63 hbytes hbase
  have hv : ∃ a' c', v' = .slice a' (n + m) c' := by
    rcases h2.2 with ⟨rfl, h0⟩ | ⟨g, cap, cur, rfl, _⟩
    · exact ⟨none, 0, by rw [h0]⟩
    · exact ⟨_, _, rfl⟩
  obtain ⟨a', c', rfl⟩ := hv
  unfold Oper.wp execOp
  simp only [ho, resolve, invoke, builtin, Sem.run_bind, Sem.run_pure, Result.andThen_ok, List.map_toArray, List.map_cons, List.map_nil, hs, hx, hr]
  exact h a' c' w' (Lib.hid h2) (Lib.hid h3)

/-- As many as may be. -/
def clampW (m : Int) : Int := if 0 ≤ m ∧ m ≤ 4096 then m else 0
theorem clampW_bd (m : Int) : 0 ≤ clampW m ∧ clampW m ≤ 4096 := by unfold clampW; split <;> omega
theorem isV_new {w : World} {base b : Nat} {W : Int} (h : Blk w b 46 #[.slice none 0 0, .int .i64 W]) (h0 : 0 ≤ W) (h1 : W ≤ 4096) (hlo : base ≤ b) : IsV w base b W [] :=
  ⟨⟨_, h, World.ownsRow_nil _ _ _ _⟩, Nat.le_trans hlo (Nat.le_of_lt h.lt), hlo, Ok.nil W, h0, h1⟩

set_option maxRecDepth 100000 in
theorem rnew_any (m : Int) (w : World) (base : Nat) (hb : base ≤ w.heap.size) :
    Calls Try.prog 9 #[.int .i64 m] w fun e w' => e = .returned (.pointer (some ⟨w.heap.size, 0, none⟩)) ∧ IsV w' base w.heap.size (clampW m) [] ∧ Off [] w w' := by
  have HB := Lib.hid hb
  clear hb
  by_cases h0 : m < 0
  · have d0 : decide (m < 0) = true := by simpa using h0
    have e : clampW m = 0 := by unfold clampW; rw [if_neg (by omega)]
    rw [e]
    clear e
    go_enter Try.func9, Try.ntmps9
    go_wp2
    go_ret
    exact ⟨rfl, isV_new (Blk.new _ _ _) (by decide) (by decide) HB.out, (Off.refl _ _).alloc _⟩
  · have d0 : decide (m < 0) = false := by simpa using h0
    by_cases h1 : 4096 < m
    · have d1 : decide (4096 < m) = true := by simpa using h1
      have e : clampW m = 0 := by unfold clampW; rw [if_neg (by omega)]
      rw [e]
      clear e
      go_enter Try.func9, Try.ntmps9
      go_wp2
      go_ret
      exact ⟨rfl, isV_new (Blk.new _ _ _) (by decide) (by decide) HB.out, (Off.refl _ _).alloc _⟩
    · have d1 : decide (4096 < m) = false := by simpa using h1
      have e : clampW m = m := by unfold clampW; rw [if_pos (by omega)]
      rw [e]
      clear e
      go_enter Try.func9, Try.ntmps9
      go_wp2
      go_ret
      exact ⟨rfl, isV_new (Blk.new _ _ _) (by omega) (by omega) HB.out, (Off.refl _ _).alloc _⟩

theorem give_at {W : Int} {l : List Bk} (h : Ok W l) (i : Nat) (hi : i < l.length) : give l l[i].p = l.take i ++ l.drop (i + 1) := by
  induction l generalizing i with
  | nil => simp at hi
  | cons b l ih =>
    cases i with
    | zero =>
      have e : give l b.p = l := by
        unfold give
        rw [List.filter_eq_self]
        intro c hc
        have := h.lt c hc
        have := h.head
        simp
        omega
      simp only [List.getElem_cons_zero, List.take_zero, List.nil_append, List.drop_succ_cons, List.drop_zero]
      rw [show give (b :: l) b.p = give l b.p from by simp [give], e]
    | succ i =>
      have hi' : i < l.length := by simpa using hi
      have hb := h.lt l[i] (List.getElem_mem hi')
      have hh := h.head
      have hne : (b.p != l[i].p) = true := by simp; omega
      simp only [List.getElem_cons_succ, List.take_succ_cons, List.drop_succ_cons, List.cons_append]
      rw [← ih h.tail i hi']
      simp [give, hne]

theorem block_info : (Try.prog.info? 36).map (fun i => (i.zero, i.size, i.bytes)) = some (some (.agg #[.int .i64 0, .int .i64 0]), 2, 16) := by kernel_rfl
theorem bk_one (l : List Bk) : ∀ u ∈ l.flatMap bkL, u.oneCell' = true := by
  intro u hu
  simp only [List.mem_flatMap] at hu
  obtain ⟨b, _, hb⟩ := hu
  simp at hb
  rcases hb with rfl | rfl <;> rfl

/-- The row of a model that has blocks. -/
theorem IsV.row {w : World} {base b : Nat} {W : Int} {l : List Bk} (h : IsV w base b W l) (h0 : 0 < l.length) :
    ∃ g cap, Blk w b 46 #[.slice (some ⟨g, 0, none⟩) l.length cap, .int .i64 W] ∧ l.length ≤ cap ∧ g ≠ b ∧ ∀ j u, (l.flatMap bkL)[j]? = some u → w.cell? ⟨g, j, none⟩ = some u := by
  obtain ⟨lv, hh, hown⟩ := h.head
  rcases hown.2 with ⟨_, e0⟩ | ⟨g, cap, cur, rfl, _, hc, hn, _, _, _⟩
  · omega
  · refine ⟨g, cap, hh, hn, (hh.ne ⟨hc⟩ (by decide)).symm, fun j u hu => ?_⟩
    have := hown.cells (g := g) rfl j u hu
    rw [addr_add, Nat.zero_add] at this
    exact this
theorem flat2_take (l : List Bk) (i : Nat) : (l.take i).flatMap bkL = (l.flatMap bkL).take (i * 2) := by
  induction l generalizing i with
  | nil => simp
  | cons b l ih =>
    cases i with
    | zero => simp
    | succ i =>
      rw [List.take_succ_cons, List.flatMap_cons, List.flatMap_cons, ih, show (i + 1) * 2 = i * 2 + 1 + 1 from by omega]
      rfl
theorem flat2_drop (l : List Bk) (i : Nat) : (l.drop i).flatMap bkL = (l.flatMap bkL).drop (i * 2) := by
  induction l generalizing i with
  | nil => simp
  | cons b l ih =>
    cases i with
    | zero => simp
    | succ i =>
      rw [List.drop_succ_cons, List.flatMap_cons, ih, show (i + 1) * 2 = i * 2 + 1 + 1 from by omega]
      rfl

/-- A row that was made anew, and what it was made of. -/
theorem give_end {w w6 : World} {base b : Nat} {W : Int} {l' : List Bk} {lv : Value} {x : Option Addr} {c n : Nat} (hlo : base ≤ w.heap.size) (hbb : base ≤ b) (h0 : 0 ≤ W) (h1 : W ≤ 4096) (hok : Ok W l')
    (hh : Blk w b 46 #[lv, .int .i64 W]) (hn : n = l'.length)
    (hown : w6.ownsRow base 36 2 (.slice x n c) n (l'.flatMap bkL)) (ho6 : Off [] w w6) :
    IsV (w6.setCell ⟨b, 0, none⟩ (.slice x n c)) base b W l' ∧ Off [b] w (w6.setCell ⟨b, 0, none⟩ (.slice x n c)) := by
  subst hn
  have hb6 := ho6.blk hh (by simp)
  refine ⟨⟨⟨_, (hb6.set 0 _).to (by simp), own_keep hown (fun d cur hc _ => Below.heap_setCell _ _ _ _ (hb6.ne ⟨hc⟩ (by decide)).symm)⟩, ?_, hbb, hok, h0, h1⟩, (ho6.more (by simp)).set (.inl (by simp)) _⟩
  have := ho6.size
  simp only [World.setCell, Array.size_modify]
  omega
/-- What an append onto a row made since made leaves what there was. -/
theorem off_grown {w w3 w5 : World} {base : Nat} {e : TypeId} {size n : Nat} {v : Value} {xs : List Value} (ho : Off [] w w3) (hg : w3.grownBy w5 v.ownBlock) (hown : w3.ownsRow base e size v n xs) (hb : w.heap.size ≤ base) : Off [] w w5 :=
  ho.grown hg (fun k hk => .inr (by
    rcases hown.2 with ⟨rfl, _⟩ | ⟨g, cap, cur, rfl, hlo, _⟩
    · simp [Value.ownBlock] at hk
    · simp [Value.ownBlock] at hk
      omega))

theorem give_fin {w w6 : World} {base b H0 : Nat} {W : Int} {l : List Bk} {lv : Value} {x : Option Addr} {c j n : Nat} {p : Int} {F : Bool} {xs : List Value} (h : IsV w base b W l) (hj : j < l.length) (he : l[j].p = p) (hF : giveB l p = F)
    (hh : Blk w b 46 #[lv, .int .i64 W]) (ho6 : Off [] w w6) (hb : base ≤ H0) (hn : n = (l.take j ++ l.drop (j + 1)).length) (hxs : xs = (l.take j ++ l.drop (j + 1)).flatMap bkL)
    (hown : w6.ownsRow H0 36 2 (.slice x n c) n xs) :
    Ending.returned (.bool true) = Ending.returned (.bool F) ∧ IsV (w6.setCell ⟨b, 0, none⟩ (.slice x n c)) base b W (give l p) ∧ Off [b] w (w6.setCell ⟨b, 0, none⟩ (.slice x n c)) := by
  have e : give l p = l.take j ++ l.drop (j + 1) := by rw [← he]; exact give_at h.ok j hj
  have hg : giveB l p = true := giveB_iff.2 ⟨l[j], List.getElem_mem hj, he⟩
  refine ⟨by rw [← hF, hg], ?_⟩
  subst hxs
  rw [← e] at hown hn
  exact give_end h.lo h.hb h.w0 h.w1 (give_ok h.ok p) hh hn (hown.mono hb) ho6

def GiveRel (w : World) (l : List Bk) (p : Int) (i : Value) (wr : World) : Prop := wr = w ∧ ∃ j : Nat, j ≤ l.length ∧ i = .int .i64 j ∧ giveB (l.take j) p = false

set_option maxRecDepth 100000 in
set_option maxHeartbeats 4000000 in
theorem rgive_any {w : World} {base b : Nat} {W : Int} {l : List Bk} (h : IsV w base b W l) (p : Int) :
    Calls Try.prog 13 #[.pointer (some ⟨b, 0, none⟩), .int .i64 p] w fun e w' => e = .returned (.bool (giveB l p)) ∧ IsV w' base b W (give l p) ∧ Off [b] w w' := by
  have hlen := ok_len 0 h.ok (fun b hb => (h.ok.each b hb).1) h.w0
  have hw1 := h.w1
  have H := Lib.hid h
  obtain ⟨F, hF⟩ : ∃ F, giveB l p = F := ⟨_, rfl⟩
  rw [hF]
  have HF := Lib.hid hF
  obtain ⟨va, vc, c0, c1, hr⟩ := h.read
  have HRd := Lib.hid hr
  clear h hF hr
  go_enter Try.func13, Try.ntmps13
  go_wp2
  go_loopw [5] (fun i wr => GiveRel w l p i wr) (fun i _ => l.length - (intOf i).toNat)
  case atStart => exact ⟨rfl, 0, Nat.zero_le _, rfl, rfl⟩
  case round =>
    obtain ⟨rfl, j, hj, rfl, hq⟩ := hrel
    have HQ := Lib.hid hq
    clear hq
    by_cases hlt : j < l.length
    · obtain ⟨g0, o, c, hv, a1, a2⟩ := HRd.out.at j hlt
      have hji : (j : Int) < (l.length : Int) := by omega
      have HX := Lib.hid (show l[j]? = some l[j] from List.getElem?_eq_getElem hlt)
      by_cases hx : l[j].p = p
      · have HE := Lib.hid hx
        have dx : (l[j].p == p) = true := by simpa using hx
        clear hx
        obtain ⟨g, cap, hh, hcap, hgb, hcells⟩ := H.out.row (by omega)
        have e0 := c0.symm.trans (hh.cell 0)
        simp only [List.getElem?_toArray, List.getElem?_cons_zero, Option.some.injEq, Value.slice.injEq] at e0
        obtain ⟨e1, -, e2⟩ := e0
        subst e1 e2
        have hv1 : g0 = g ∧ o = 0 := by injection hv with hv1 _ _; simpa using hv1.symm
        obtain ⟨rfl, rfl⟩ := hv1
        clear hv
        rw [Nat.zero_add] at a1 a2
        obtain ⟨i0, hi, hz0, hz1, hz2⟩ := info_parts block_info
        have HI := Lib.hid hi
        have HZ0 := Lib.hid hz0
        have HZ1 := Lib.hid hz1
        have HZ2 := Lib.hid hz2
        have HC := Lib.hid hcells
        have HH := Lib.hid hh
        have HN := Lib.hid hgb
        obtain ⟨H0, hH0⟩ : ∃ H0, wr.heap.size = H0 := ⟨_, rfl⟩
        have HS0 := Lib.hid hH0
        have hgl : g0 < wr.heap.size := World.block_lt_of_cell? wr _ a1
        have b1 : (j : Int) ≤ (vc : Int) := by omega
        have b2 : (j : Int) + 1 ≤ (l.length : Int) := by omega
        have w1 : IntKind.i64.wrap ((j : Int) + 1) = (j : Int) + 1 := IntWalk.i64_in _ (by omega)
        have w2 : ((j : Int) + 1).toNat = j + 1 := by omega
        have w3 : (0 : Int) ≤ (j : Int) + 1 := by omega
        clear hi hz0 hz1 hz2 hcells hh hgb hH0
        by_cases hvc : vc = j + 1
        · subst hvc
          have b3 : (j : Int) ≤ (j : Int) + 1 := by omega
          go_upto_region 5 with fail
          go_region_law (first | (refine step_append_any rfl _ _ 41 rfl H0 36 i0 _ 2 16 Try.underlying41 HI.out HZ0.out HZ1.out HZ2.out rfl (by decide) (.slice none 0 0) 0 [] rfl (World.ownsRow_nil _ _ _ _) ⟨g0, 0, none⟩ j _ ((l.take j).flatMap bkL) rfl (by rw [flat2_len, List.length_take]; omega) (fun i u hu => by rw [addr_add, Nat.zero_add]; refine HC.out i u ?_; rw [flat2_take] at hu; rw [List.getElem?_take] at hu; split at hu; exact hu; cases hu) (bk_one _) (by unfold maxLen; omega) (by omega) (by first | exact Nat.le_of_eq HS0.out.symm | (simp; exact Nat.le_of_eq HS0.out.symm)) ?_; intro a1' c1' w5 hown5 hgrow5; have own5 : Hid (w5.ownsRow H0 36 2 (.slice a1' j c1') j ((l.take j).flatMap bkL)) := Lib.hid (by have h5 := hown5.out; rwa [Nat.zero_add, List.nil_append] at h5); have o5 : Off [] wr w5 := ((Off.refl [] wr).drew).grown hgrow5.out (fun k hk => by simp [Value.ownBlock] at hk); have L5 : w5.cell? ⟨b, 0, none⟩ = some (.slice (some ⟨g0, 0, none⟩) l.length (j + 1)) := (o5.blk HH.out (by simp)).cell 0) | (refine step_append_any rfl _ _ 41 rfl H0 36 i0 _ 2 16 Try.underlying41 HI.out HZ0.out HZ1.out HZ2.out rfl (by decide) (.slice a1' j c1') j ((l.take j).flatMap bkL) rfl own5.out ⟨g0, 0, none⟩ 0 _ [] rfl rfl (fun i u hu => by cases hu) (fun u hu => by cases hu) (by unfold maxLen; omega) (by omega) (Nat.le_trans (Nat.le_of_eq HS0.out.symm) o5.size) ?_; intro a2' c2' w6 hown6 hgrow6; have o6 : Off [] wr w6 := off_grown o5 hgrow6.out own5.out (Nat.le_of_eq HS0.out); have L6 : w6.cell? ⟨b, 0, none⟩ = some (.slice (some ⟨g0, 0, none⟩) l.length (j + 1)) := (o6.blk HH.out (by simp)).cell 0; have z6 := (o6.blk HH.out (by simp)).free 0))
          all_goals
            go_wp2_with fail
            go_ret
            exact give_fin H.out hlt HE.out HF.out HH.out o6 (Nat.le_trans H.out.lo (Nat.le_of_eq HS0.out)) (by rw [List.length_append, List.length_take, List.length_drop]; omega) (by rw [List.drop_of_length_le (by omega), List.append_nil, List.append_nil]) hown6.out
        · go_upto_region 5 with fail
          go_region_law (first | (refine step_append_any rfl _ _ 41 rfl H0 36 i0 _ 2 16 Try.underlying41 HI.out HZ0.out HZ1.out HZ2.out rfl (by decide) (.slice none 0 0) 0 [] rfl (World.ownsRow_nil _ _ _ _) ⟨g0, 0, none⟩ j _ ((l.take j).flatMap bkL) rfl (by rw [flat2_len, List.length_take]; omega) (fun i u hu => by rw [addr_add, Nat.zero_add]; refine HC.out i u ?_; rw [flat2_take] at hu; rw [List.getElem?_take] at hu; split at hu; exact hu; cases hu) (bk_one _) (by unfold maxLen; omega) (by omega) (by first | exact Nat.le_of_eq HS0.out.symm | (simp; exact Nat.le_of_eq HS0.out.symm)) ?_; intro a1' c1' w5 hown5 hgrow5; have own5 : Hid (w5.ownsRow H0 36 2 (.slice a1' j c1') j ((l.take j).flatMap bkL)) := Lib.hid (by have h5 := hown5.out; rwa [Nat.zero_add, List.nil_append] at h5); have o5 : Off [] wr w5 := ((Off.refl [] wr).drew).grown hgrow5.out (fun k hk => by simp [Value.ownBlock] at hk); have L5 : w5.cell? ⟨b, 0, none⟩ = some (.slice (some ⟨g0, 0, none⟩) l.length vc) := (o5.blk HH.out (by simp)).cell 0) | (refine step_append_any rfl _ _ 41 rfl H0 36 i0 _ 2 16 Try.underlying41 HI.out HZ0.out HZ1.out HZ2.out rfl (by decide) (.slice a1' j c1') j ((l.take j).flatMap bkL) rfl own5.out ⟨g0, (j + 1) * 2, none⟩ (l.length - (j + 1)) _ ((l.drop (j + 1)).flatMap bkL) rfl (by rw [flat2_len, List.length_drop]) (fun i u hu => by rw [addr_add]; rw [o5.cell (p := ⟨g0, (j + 1) * 2 + i, none⟩) hgl (by simp)]; refine HC.out _ u ?_; rw [flat2_drop] at hu; rw [List.getElem?_drop] at hu; exact hu) (bk_one _) (by unfold maxLen; omega) (by omega) (Nat.le_trans (Nat.le_of_eq HS0.out.symm) o5.size) ?_; intro a2' c2' w6 hown6 hgrow6; have o6 : Off [] wr w6 := off_grown o5 hgrow6.out own5.out (Nat.le_of_eq HS0.out); have L6 : w6.cell? ⟨b, 0, none⟩ = some (.slice (some ⟨g0, 0, none⟩) l.length vc) := (o6.blk HH.out (by simp)).cell 0; have z6 := (o6.blk HH.out (by simp)).free 0))
          all_goals
            go_wp2_with fail
            go_ret
            exact give_fin H.out hlt HE.out HF.out HH.out o6 (Nat.le_trans H.out.lo (Nat.le_of_eq HS0.out)) (by rw [List.length_append, List.length_take, List.length_drop]; omega) (by rw [List.flatMap_append]) hown6.out
      · have dx : (l[j].p == p) = false := by simpa using hx
        have HT := Lib.hid (show giveB (l.take (j + 1)) p = false from by
          rw [List.take_succ_eq_append_getElem hlt]
          have := HQ.out
          simp only [giveB, List.any_append, List.any_cons, List.any_nil, Bool.or_false] at this ⊢
          rw [this, dx]
          rfl)
        generalize l[j] = x at *
        injection hv with hv1 _ hv2
        subst hv1 hv2
        clear hx
        go_wp2
        go_roundw
        case rel => exact ⟨rfl, j + 1, by omega, by go_num, HT.out⟩
        case measure => simp [intOf]; omega
    · obtain rfl : j = l.length := by omega
      have HG := HQ.out
      rw [List.take_length] at HG
      go_wp2
      go_ret
      refine ⟨by rw [← HF.out, HG]; rfl, ?_, Off.refl _ _⟩
      rw [show give l p = l from by
        unfold give
        rw [List.filter_eq_self]
        intro c hc
        have := List.any_eq_false.1 HG c hc
        simpa using this]
      exact H.out

end Go.Proofs.Ytpkpkfcboimhnaa.Mod
