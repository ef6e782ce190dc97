/- The program's model: sort.Search over its row; after, Inside, At, Blocks: contracts. -/
import Derived.Test.YtfgkjfneeggbjaaDevA
namespace Go.Proofs.Ytfgkjfneeggbjaa.Mod
open Go.RowKit Mem

def SearchRel (w : World) (n k : Nat) (lo hi : Value) (wr : World) : Prop :=
  ∃ a b q : Nat, lo = .int .i64 a ∧ hi = .int .i64 b ∧ a ≤ k ∧ k ≤ b ∧ b ≤ n ∧ wr = w.drewN q

set_option maxRecDepth 100000 in
set_option maxHeartbeats 4000000 in
theorem search_any (x y : Value) (n k : Nat) (hk : k ≤ n) (hn : n ≤ 4096) (w : World)
    (hf : ∀ m i, i < n → Calls Try.prog 41 #[.int .i64 i, x, y] (w.drewN m) fun e w' => e = .returned (.bool (decide (k ≤ i))) ∧ ∃ q, w' = (w.drewN m).drewN q) :
    Calls Try.prog 40 #[.int .i64 n, .func (.func 41) #[] #[x, y]] w fun e w' => e = .returned (.int .i64 k) ∧ ∃ q, w' = w.drewN q := by
  have HF := Lib.hid hf
  clear hf
  go_enter Try.func40, Try.ntmps40
  go_wp2
  go_loopw [5, 6] (fun lo hi wr => SearchRel w n k lo hi wr) (fun lo hi _ => (intOf hi).toNat - (intOf lo).toNat)
  case atStart => exact ⟨0, n, 0, rfl, rfl, Nat.zero_le _, hk, Nat.le_refl _, rfl⟩
  case round =>
    obtain ⟨a, b, q, rfl, rfl, ha, hb, hbn, rfl⟩ := hrel
    by_cases hlt : a < b
    · have hc := HF.out q ((a + b) / 2) (by omega)
      rw [show (((a + b) / 2 : Nat) : Int) = ((a : Int) + (b : Int)) / 2 by omega] at hc
      have hab : (a : Int) < (b : Int) := by omega
      by_cases hp : k ≤ (a + b) / 2
      · rw [decide_eq_true hp] at hc
        have HC := Lib.hid hc
        clear hc
        go_wp2_with (go_at_call 41; refine HC.out.mono ?_; rintro e w' ⟨rfl, nq, rfl⟩)
        go_roundw
        case rel => exact ⟨a, (a + b) / 2, q + nq, rfl, by rw [show ((a : Int) + (b : Int)) / 2 = (((a + b) / 2 : Nat) : Int) by omega], ha, hp, by omega, rfl⟩
        case measure => simp [intOf]; omega
      · rw [decide_eq_false hp] at hc
        have HC := Lib.hid hc
        clear hc
        go_wp2_with (go_at_call 41; refine HC.out.mono ?_; rintro e w' ⟨rfl, nq, rfl⟩)
        go_roundw
        case rel => exact ⟨(a + b) / 2 + 1, b, q + nq, by rw [show ((a : Int) + (b : Int)) / 2 + 1 = (((a + b) / 2 + 1 : Nat) : Int) by omega], rfl, by omega, hb, hbn, rfl⟩
        case measure => simp [intOf]; omega
    · obtain rfl : a = b := by omega
      obtain rfl : a = k := by omega
      go_wp2
      go_ret
      exact ⟨rfl, q, rfl⟩

set_option maxRecDepth 100000 in
/-- The closure that is handed to it. -/
theorem ends_any {w : World} {g b2 b3 r o vc : Nat} {W p : Int} {l : List Bk} (hok : Ok W l) (hw : W ≤ 4096) (h2 : w.cell? ⟨b2, 0, none⟩ = some (.pointer (some ⟨g, 0, none⟩))) (h3 : w.cell? ⟨b3, 0, none⟩ = some (.int .i64 p))
    (c1 : w.cell? ⟨g, 1, none⟩ = some (.slice (some ⟨r, o, none⟩) l.length vc)) (i : Nat) (hi : i < l.length) (a1 : w.cell? ⟨r, o + i * 2, none⟩ = some (.int .i64 l[i].p)) (a2 : w.cell? ⟨r, o + i * 2 + 1, none⟩ = some (.int .i64 l[i].n)) :
    Calls Try.prog 41 #[.int .i64 i, .pointer (some ⟨b2, 0, none⟩), .pointer (some ⟨b3, 0, none⟩)] w fun e w' => e = .returned (.bool (decide (below l p ≤ i))) ∧ ∃ q, w' = w.drewN q := by
  have hb := hok.each l[i] (List.getElem_mem hi)
  rw [← below_dec hok p i hi]
  have hji : (i : Int) < (l.length : Int) := by omega
  generalize l[i] = x at *
  obtain ⟨p1, p2, p3⟩ := hb
  have w1 : IntKind.i64.wrap (x.p + x.n) = x.p + x.n := IntWalk.i64_in _ (by omega)
  go_enter Try.func41, Try.ntmps41
  go_wp2
  go_quiet (fail)
  go_wp2
  go_ret
  exact ⟨rfl, _, rfl⟩

/-- Two boxes, one after the other. -/
theorem box_two (w : World) (t1 t2 : TypeId) (x y : Value) :
    ((w.alloc (.cells #[x] t1)).alloc (.cells #[y] t2)).cell? ⟨w.heap.size, 0, none⟩ = some x ∧ ((w.alloc (.cells #[x] t1)).alloc (.cells #[y] t2)).cell? ⟨w.heap.size + 1, 0, none⟩ = some y := by
  have e : (w.alloc (.cells #[x] t1)).heap.size = w.heap.size + 1 := by simp
  constructor
  · rw [((Blk.new w t1 #[x]).alloc (.cells #[y] t2)).cell 0]
    rfl
  · rw [← e, (Blk.new (w.alloc (.cells #[x] t1)) t2 #[y]).cell 0]
    rfl

set_option maxRecDepth 100000 in
theorem after_any {w : World} {g : Nat} {F : List Nat} {W : Int} {l : List Bk} (h : IsD w g F W l) (p : Int) :
    Calls Try.prog 34 #[.pointer (some ⟨g, 0, none⟩), .int .i64 p] w fun e w' => e = .returned (.int .i64 (below l p)) ∧ Off [] w w' := by
  have hok := h.ok
  have hlen := h.len
  have hw1 := h.w1
  obtain ⟨va, vc, c0, c1, hr⟩ := h.read
  have hgl : g < w.heap.size := World.block_lt_of_cell? w ⟨g, 1, none⟩ c1
  have HW : Hid (∀ w2, Off [] w w2 → w2.cell? ⟨g, 1, none⟩ = some (.slice va l.length vc) ∧ Rd w2 (.slice va l.length vc) l) := Lib.hid (fun w2 ho => ⟨(ho.cell (p := ⟨g, 1, none⟩) hgl (by simp)).trans c1, hr.off ho (by simp)⟩)
  have HS : Hid (∀ w2, Off [] w w2 → ∀ b2 b3, w2.cell? ⟨b2, 0, none⟩ = some (.pointer (some ⟨g, 0, none⟩)) → w2.cell? ⟨b3, 0, none⟩ = some (.int .i64 p) →
      Calls Try.prog 40 #[.int .i64 l.length, .func (.func 41) #[] #[.pointer (some ⟨b2, 0, none⟩), .pointer (some ⟨b3, 0, none⟩)]] w2 fun e w' => e = .returned (.int .i64 (below l p)) ∧ ∃ q, w' = w2.drewN q) := Lib.hid (fun w2 ho b2 b3 h2 h3 => by
    refine search_any _ _ l.length (below l p) (below_le l p) (by omega) w2 (fun m i hi => ?_)
    obtain ⟨k1, k2⟩ := HW.out (w2.drewN m) (ho.drewN m)
    obtain ⟨r, o, c, hv, a1, a2⟩ := k2.at i hi
    injection hv with hv1 _ hv2
    subst hv1 hv2
    exact ends_any (w := w2.drewN m) hok hw1 h2 h3 k1 i hi a1 a2)
  clear h hr c0 hok
  obtain ⟨b2, b3⟩ := box_two w 32 3 (.pointer (some ⟨g, 0, none⟩)) (.int .i64 p)
  have o2 : Off [] w ((w.alloc (.cells #[.pointer (some ⟨g, 0, none⟩)] 32)).alloc (.cells #[.int .i64 p] 3)) := ((Off.refl _ _).alloc _).alloc _
  have k1 := (HW.out _ o2).1
  have HSS := Lib.hid (HS.out _ o2 _ _ b2 b3)
  have O2 := Lib.hid o2
  clear HS HW o2 c1
  go_enter Try.func34, Try.ntmps34
  go_wp2_with (go_at_call 40; refine HSS.out.mono ?_; rintro e w3 ⟨rfl, q, rfl⟩)
  go_ret
  exact ⟨rfl, O2.out.drewN _⟩

/-- What is read of the block at a place. -/
theorem rd_at {w : World} {va : Option Addr} {vc : Nat} {l : List Bk} (h : Rd w (.slice va l.length vc) l) (j : Nat) (hj : j < l.length) :
    ∃ r o, va = some ⟨r, o, none⟩ ∧ w.cell? ⟨r, o + j * 2, none⟩ = some (.int .i64 l[j].p) ∧ w.cell? ⟨r, o + j * 2 + 1, none⟩ = some (.int .i64 l[j].n) := by
  obtain ⟨r, o, c, hv, a1, a2⟩ := h.at j hj
  injection hv with hv1 _ _
  exact ⟨r, o, hv1, a1, a2⟩
/-- The world named anew, with what is known of it. -/
theorem at_worldD {P : Program} {c : Code} {Q : Exit → Act → World → Prop} {a : Act} {w : World} {R : World → Prop} (h : R w) (k : ∀ W, R W → Code.wp P c Q a W) : Code.wp P c Q a w := k w h

set_option maxRecDepth 100000 in
set_option maxHeartbeats 4000000 in
theorem inside_any {w : World} {g : Nat} {F : List Nat} {W : Int} {l : List Bk} (h : IsD w g F W l) (p : Int) :
    Calls Try.prog 21 #[.pointer (some ⟨g, 0, none⟩), .int .i64 p] w fun e w' => e = .returned (.tuple #[.agg #[.int .i64 (fp (insideF l p)), .int .i64 (fn (insideF l p))], .bool (insideF l p).isSome]) ∧ Off [] w w' := by
  have hok := h.ok
  have hlen := h.len
  have HT : Hid (∀ w2, Off [] w w2 → IsD w2 g F W l) := Lib.hid (fun w2 ho => h.off0 ho)
  clear h
  obtain ⟨i, hi⟩ : ∃ i, below l p = i := ⟨_, rfl⟩
  obtain ⟨R, hR⟩ : ∃ R, insideF l p = R := ⟨_, rfl⟩
  rw [hR]
  have HR0 := Lib.hid hR
  have hil : i ≤ l.length := by rw [← hi]; exact below_le l p
  have HI := Lib.hid hi
  have HO := Lib.hid hok
  clear hi hok hR
  have OA : Hid (∀ o, Off [] w (w.alloc o)) := Lib.hid (fun o => (Off.refl _ _).alloc _)
  go_enter Try.func21, Try.ntmps21
  go_upto_region 4 with (go_at_call 34; refine (after_any (HT.out _ (OA.out _)) p).mono ?_; rintro e w3 ⟨rfl, o3⟩; rw [HI.out])
  have o4 := (OA.out _).trans o3
  have ob := o3.blk (Blk.new w 46 #[.int .i64 0, .int .i64 0]) (by simp)
  obtain ⟨va, vc, -, c1, hr⟩ := (HT.out w3 o4).read
  have O4 := Lib.hid o4
  have OB := Lib.hid ob
  obtain ⟨fz, z0, z1⟩ := two_cells ob
  have HR := Lib.hid hr
  clear o3 o4 ob hr
  by_cases hlt : i < l.length
  · obtain ⟨r, o, rfl, a1, a2⟩ := rd_at HR.out i hlt
    have d0 : ¬ ((i : Int) = (l.length : Int)) := by omega
    have d1 : (i : Int) < (l.length : Int) := by omega
    by_cases hp : p < l[i].p
    · have d2 : decide (p < l[i].p) = true := by simpa using hp
      have e1 : R = none := HR0.out ▸ in_none HO.out (by rw [HI.out]; exact fun _ => hp)
      subst e1
      clear hp
      generalize l[i] = x at *
      go_wp2
      obtain ⟨-, y0, y1⟩ := two_cells (two_set OB.out (.int .i64 0) (.int .i64 0))
      exact bodyPost_ret (v := .tuple #[.agg #[.int .i64 0, .int .i64 0], .bool false]) (by simp [results, Try.results21, go_sem, y0, y1]) rfl ⟨rfl, (O4.out.set (.inr (Nat.le_refl _)) _).set (.inr (Nat.le_refl _)) _⟩
    · have d2 : decide (p < l[i].p) = false := by simpa using hp
      have e1 : R = some l[i] := by
        have := in_some HO.out (p := p) (by rw [HI.out]; exact hlt) (by simp only [HI.out]; omega)
        rw [← HR0.out]
        simpa only [HI.out] using this
      have HE := Lib.hid e1
      clear hp HR0 e1
      generalize l[i] = x at *
      go_wp2
      obtain ⟨-, y0, y1⟩ := two_cells (two_set OB.out (.int .i64 x.p) (.int .i64 x.n))
      exact bodyPost_ret (v := .tuple #[.agg #[.int .i64 x.p, .int .i64 x.n], .bool true]) (by simp [results, Try.results21, go_sem, y0, y1]) rfl ⟨by rw [HE.out]; rfl, (O4.out.set (.inr (Nat.le_refl _)) _).set (.inr (Nat.le_refl _)) _⟩
  · obtain rfl : i = l.length := by omega
    have e1 : R = none := HR0.out ▸ in_none HO.out (by rw [HI.out]; intro k; exact absurd k (Nat.lt_irrefl _))
    subst e1
    go_wp2
    obtain ⟨-, y0, y1⟩ := two_cells (two_set OB.out (.int .i64 0) (.int .i64 0))
    exact bodyPost_ret (v := .tuple #[.agg #[.int .i64 0, .int .i64 0], .bool false]) (by simp [results, Try.results21, go_sem, y0, y1]) rfl ⟨rfl, (O4.out.set (.inr (Nat.le_refl _)) _).set (.inr (Nat.le_refl _)) _⟩

set_option maxRecDepth 100000 in
set_option maxHeartbeats 4000000 in
theorem at_any {w : World} {g : Nat} {F : List Nat} {W : Int} {l : List Bk} (h : IsD w g F W l) (p : Int) :
    Calls Try.prog 13 #[.pointer (some ⟨g, 0, none⟩), .int .i64 p] w fun e w' => e = .returned (.tuple #[.agg #[.int .i64 (fp (atF l p)), .int .i64 (fn (atF l p))], .bool (atF l p).isSome]) ∧ Off [] w w' := by
  have ha := at_in h.ok p
  have HC : Hid (∀ w2, Off [] w w2 → Calls Try.prog 21 #[.pointer (some ⟨g, 0, none⟩), .int .i64 p] w2 fun e w' => e = .returned (.tuple #[.agg #[.int .i64 (fp (insideF l p)), .int .i64 (fn (insideF l p))], .bool (insideF l p).isSome]) ∧ Off [] w2 w') := Lib.hid (fun w2 ho => inside_any (h.off0 ho) p)
  have OA : Hid (∀ o, Off [] w (w.alloc o)) := Lib.hid (fun o => (Off.refl _ _).alloc _)
  have OB : Hid (∀ w3, Off [] (w.alloc (.cells #[.int .i64 0, .int .i64 0] 46)) w3 → Off [] w w3 ∧ Blk w3 w.heap.size 46 #[.int .i64 0, .int .i64 0]) := Lib.hid (fun w3 ho => ⟨((Off.refl _ _).alloc _).trans ho, ho.blk (Blk.new w _ _) (by simp)⟩)
  clear h
  cases hR : insideF l p with
  | none =>
    rw [hR] at ha HC
    rw [ha]
    clear ha hR
    go_enter Try.func13, Try.ntmps13
    go_upto_region 2 with (go_at_call 21; refine (HC.out _ (OA.out _)).mono ?_; rintro e w3 ⟨rfl, o3⟩)
    refine at_worldD (R := fun W' => Off [] w W' ∧ Blk W' w.heap.size 46 #[.int .i64 0, .int .i64 0]) (OB.out _ (o3.alloc _)) ?_
    rintro W1 ⟨O4, ob⟩
    obtain ⟨fz, z0, z1⟩ := two_cells ob
    have HB := Lib.hid ob
    clear ob
    go_wp2
    obtain ⟨-, y0, y1⟩ := two_cells (two_set HB.out (.int .i64 0) (.int .i64 0))
    exact bodyPost_ret (v := .tuple #[.agg #[.int .i64 0, .int .i64 0], .bool false]) (by simp [results, Try.results13, go_sem, y0, y1]) rfl ⟨rfl, (O4.set (.inr (Nat.le_refl _)) _).set (.inr (Nat.le_refl _)) _⟩
  | some b =>
    rw [hR] at ha HC
    by_cases hp : b.p = p
    · subst hp
      have ha2 : atF l b.p = some b := by rw [ha]; simp only [if_true]
      rw [ha2]
      clear ha ha2 hR
      go_enter Try.func13, Try.ntmps13
      go_upto_region 2 with (go_at_call 21; refine (HC.out _ (OA.out _)).mono ?_; rintro e w3 ⟨rfl, o3⟩)
      refine at_worldD (R := fun W' => Off [] w W' ∧ Blk W' w.heap.size 46 #[.int .i64 0, .int .i64 0] ∧ Blk W' w3.heap.size 46 #[.int .i64 b.p, .int .i64 b.n]) ⟨(OB.out _ (o3.alloc _)).1, (OB.out _ (o3.alloc _)).2, Blk.new _ _ _⟩ ?_
      rintro W1 ⟨O4, ob, oc⟩
      obtain ⟨fz, z0, z1⟩ := two_cells ob
      obtain ⟨-, x0, x1⟩ := two_cells oc
      have HB := Lib.hid ob
      clear ob oc
      go_wp2
      obtain ⟨-, y0, y1⟩ := two_cells (two_set HB.out (.int .i64 b.p) (.int .i64 b.n))
      exact bodyPost_ret (v := .tuple #[.agg #[.int .i64 b.p, .int .i64 b.n], .bool true]) (by simp [results, Try.results13, go_sem, y0, y1]) rfl ⟨rfl, (O4.set (.inr (Nat.le_refl _)) _).set (.inr (Nat.le_refl _)) _⟩
    · have ha2 : atF l p = none := by rw [ha]; simp only [hp, if_false]
      rw [ha2]
      have dx : (b.p == p) = false := by simpa using hp
      clear ha ha2 hR
      go_enter Try.func13, Try.ntmps13
      go_upto_region 2 with (go_at_call 21; refine (HC.out _ (OA.out _)).mono ?_; rintro e w3 ⟨rfl, o3⟩)
      refine at_worldD (R := fun W' => Off [] w W' ∧ Blk W' w.heap.size 46 #[.int .i64 0, .int .i64 0] ∧ Blk W' w3.heap.size 46 #[.int .i64 b.p, .int .i64 b.n]) ⟨(OB.out _ (o3.alloc _)).1, (OB.out _ (o3.alloc _)).2, Blk.new _ _ _⟩ ?_
      rintro W1 ⟨O4, ob, oc⟩
      obtain ⟨fz, z0, z1⟩ := two_cells ob
      obtain ⟨-, x0, x1⟩ := two_cells oc
      have HB := Lib.hid ob
      clear ob oc
      go_wp2
      obtain ⟨-, y0, y1⟩ := two_cells (two_set HB.out (.int .i64 0) (.int .i64 0))
      exact bodyPost_ret (v := .tuple #[.agg #[.int .i64 0, .int .i64 0], .bool false]) (by simp [results, Try.results13, go_sem, y0, y1]) rfl ⟨rfl, (O4.set (.inr (Nat.le_refl _)) _).set (.inr (Nat.le_refl _)) _⟩

theorem dblock_info : (Try.prog.info? 46).map (fun i => (i.zero, i.size, i.bytes)) = some (some (.agg #[.int .i64 0, .int .i64 0]), 2, 16) := by kernel_rfl

set_option maxRecDepth 100000 in
set_option maxHeartbeats 4000000 in
theorem dblocks_any {w : World} {g : Nat} {F : List Nat} {W : Int} {l : List Bk} (h : IsD w g F W l) :
    Calls Try.prog 12 #[.pointer (some ⟨g, 0, none⟩)] w fun e w' => (∃ u, e = .returned u ∧ Rd w' u l) ∧ Off [] w w' := by
  have hlen := h.len
  obtain ⟨lv, hh, hown, -⟩ := h.head
  have c1 := hh.cell 1
  obtain ⟨i0, hi, hz0, hz1, hz2⟩ := info_parts dblock_info
  have HI := Lib.hid hi
  have HZ0 := Lib.hid hz0
  have HZ1 := Lib.hid hz1
  have HZ2 := Lib.hid hz2
  clear hi hz0 hz1 hz2 h hh
  rcases hown.2 with ⟨rfl, h0⟩ | ⟨r, cap, cur, rfl, -, -, -⟩
  · obtain rfl : l = [] := List.eq_nil_of_length_eq_zero h0
    clear hown
    go_enter Try.func12, Try.ntmps12
    go_wp2
    go_ret
    exact ⟨⟨_, rfl, .inl ⟨rfl, rfl⟩⟩, Off.refl _ _⟩
  · have hcells := hown.cells (g := r) rfl
    have HC := Lib.hid hcells
    clear hown hcells
    go_enter Try.func12, Try.ntmps12
    go_wp2_with (at_builtin; refine wpList_append_own w rfl _ _ 43 rfl w.heap.size 46 i0 _ 2 16 Try.underlying43 HI.out HZ0.out HZ1.out HZ2.out rfl (by decide) (.slice none 0 0) 0 [] rfl (World.ownsRow_nil _ _ _ _) ⟨r, 0, none⟩ l.length cap (l.flatMap bkL) rfl (flat2_len l) HC.out (bk_one _) (by unfold maxLen; omega) (by omega) (Nat.le_refl _) ?_; rintro v' w5 hown5 hgrow5 -; have OW := Lib.hid hown5; have OG := Lib.hid hgrow5; clear hown5 hgrow5)
    go_ret
    have h5 := OW.out
    rw [Nat.zero_add, List.nil_append] at h5
    exact ⟨⟨_, rfl, rd_own h5⟩, (Off.refl [] w).grown OG.out (fun k hk => by simp [Value.ownBlock] at hk)⟩

end Go.Proofs.Ytfgkjfneeggbjaa.Mod
