/- Package frame: New, Clear, Pop, Push: a contract each. -/
import Derived.Test.YtkccnijnipkjnaaFrmB
namespace Go.Proofs.Ytkccnijnipkjnaa.Frm
open Go.RowKit Mem

/-- An empty stack's cells. -/
def newM (m : Int) : Nat → Int := fun i => if i = 161 then m else 0
theorem new_is {w : World} {g m : Nat} (h : Ints w g 56 162 (newM m)) (hm : m ≤ 16) : IsS w g [] m :=
  ⟨⟨newM m, h, rfl, rfl, fun k f hk => by simp at hk⟩, Nat.zero_le _, hm⟩

def zC : Array Value := (memL (fun _ => 0) 162).toArray
theorem zC_size : zC.size = 162 := by simp [zC, memL_len]
theorem zC_set (m : Int) : zC.setIfInBounds 161 (.int .i64 m) = (memL (newM m) 162).toArray := by
  unfold zC
  apply Array.ext'
  simp only [List.setIfInBounds_toArray]
  apply List.ext_getElem?
  intro k
  rw [List.getElem?_set]
  by_cases hk : k < 162
  · rw [memL_get _ hk, memL_get _ hk, memL_len]
    by_cases e : 161 = k
    · subst e; simp [newM]
    · simp [e, newM, Ne.symm e]
  · rw [memL_none _ (by omega), memL_none _ (by omega), memL_len]
    by_cases e : 161 = k
    · omega
    · simp [e]
theorem zero_stack (w : World) : (zeroValue 56).run Try.prog w = .ok (.agg zC) w := by kernel_rfl

set_option maxRecDepth 100000 in
theorem new_in (m : Nat) (hm : m ≤ 16) (w : World) :
    Calls Try.prog 8 #[.int .i64 m] w fun e w' => e = .returned (.pointer (some ⟨w.heap.size, 0, none⟩)) ∧ IsS w' w.heap.size [] m ∧ Off [] w w' := by
  have d0 : decide ((m : Int) < 0) = false := by simp
  have d1 : decide ((16 : Int) < m) = false := by simp; omega
  have hz := zero_stack
  have hs := zC_size
  go_enter Try.func8, Try.ntmps8
  go_wp2
  go_ret
  refine ⟨rfl, new_is ⟨(Blk.new _ _ _).to (zC_set m)⟩ hm, (Off.refl _ _).alloc _⟩

set_option maxRecDepth 100000 in
theorem new_out (m : Int) (hm : m < 0 ∨ 16 < m) (w : World) :
    Calls Try.prog 8 #[.int .i64 m] w fun e w' => e = .returned (.pointer (some ⟨w.heap.size, 0, none⟩)) ∧ IsS w' w.heap.size [] 0 ∧ Off [] w w' := by
  have hz := zero_stack
  have hs := zC_size
  by_cases d : m < 0
  · have d0 : decide (m < 0) = true := by simpa using d
    clear hm
    go_enter Try.func8, Try.ntmps8
    go_wp2
    go_ret
    refine ⟨rfl, new_is ⟨(Blk.new _ _ _).to (zC_set 0)⟩ (by omega), (Off.refl _ _).alloc _⟩
  · have d0 : decide (m < 0) = false := by simpa using d
    have d1 : decide (16 < m) = true := by have : 16 < m := by omega
                                           simpa using this
    clear hm
    go_enter Try.func8, Try.ntmps8
    go_wp2
    go_ret
    refine ⟨rfl, new_is ⟨(Blk.new _ _ _).to (zC_set 0)⟩ (by omega), (Off.refl _ _).alloc _⟩

theorem at_world {P : Program} {c : Code} {Q : Exit → Act → World → Prop} {a : Act} {R : World → Prop} {w : World} (h : R w) (k : ∀ W, R W → Code.wp P c Q a W) : Code.wp P c Q a w := k w h

theorem store_stack {w : World} {g : Nat} {M : Nat → Int} (h : Mem w g M) (m : Int) :
    (storeCells ⟨g, 0, none⟩ (zC.setIfInBounds 161 (.int .i64 m)).toList 0).run Try.prog w = .ok () (w.setCells g 0 (memL (newM m) 162)) := by
  rw [zC_set]
  have ht := h.there 0 162 (by omega)
  have := run_storeCells_cells (P := Try.prog) g 0 (memL (newM m) 162) 0 w (fun j hj => (ht j (by simpa [memL_len] using hj)).1) (fun j hj => (ht j (by simpa [memL_len] using hj)).2) (memL_one _ _)
  simpa using this

set_option maxRecDepth 100000 in
theorem clear_any {w : World} {g m : Nat} {l : List (Nat → Int)} (h : IsS w g l m) :
    Calls Try.prog 16 #[.pointer (some ⟨g, 0, none⟩)] w fun e w' => e = .returned (.tuple #[]) ∧ IsS w' g [] m ∧ Off [g] w w' := by
  have hm := h.most
  have hcap := h.cap
  obtain ⟨M, hM, -⟩ := h.mem
  have hst := store_stack hM m
  rw [Array.toList_setIfInBounds] at hst
  have hz := zero_stack
  have hs := zC_size
  have HM := Lib.hid hM
  clear h hM
  go_enter Try.func16, Try.ntmps16
  go_wp2
  go_end0
  exact ⟨rfl, new_is ((Ints.setCells 162 0 (newM m) M w HM.out).eq (fun i hi => by unfold put; rw [if_pos (by omega)]; rfl)) hcap, off_setCells _ _ _ (Off.refl _ _) (.inl (by simp))⟩

/-- Ten cells in a row, each put anew, from the first to the last. -/
abbrev tenAt (w : World) (b o : Nat) (f : Nat → Int) : World := ((((((((((w.setCell ⟨b, o, none⟩ (.int .i64 (f 0))).setCell ⟨b, o + 1, none⟩ (.int .i64 (f 1))).setCell ⟨b, o + 2, none⟩ (.int .i64 (f 2))).setCell ⟨b, o + 3, none⟩ (.int .i64 (f 3))).setCell ⟨b, o + 4, none⟩ (.int .i64 (f 4))).setCell ⟨b, o + 5, none⟩ (.int .i64 (f 5))).setCell ⟨b, o + 6, none⟩ (.int .i64 (f 6))).setCell ⟨b, o + 7, none⟩ (.int .i64 (f 7))).setCell ⟨b, o + 8, none⟩ (.int .i64 (f 8))).setCell ⟨b, o + 9, none⟩ (.int .i64 (f 9)))

theorem zero10 (n : Nat) : (⟨n, 0 + 1, none⟩ : Addr) = ⟨n, 1, none⟩ := rfl
theorem IsS.ten {w : World} {g m : Nat} {l : List (Nat → Int)} {f : Nat → Int} (h : IsS w g (l ++ [f]) m) (f' : Nat → Int) : IsS (tenAt w g (l.length * 10) f') g (l ++ [f']) m := by
  have h1 := (((((((((h.put 0 (by decide) (f' 0)).put 1 (by decide) (f' 1)).put 2 (by decide) (f' 2)).put 3 (by decide) (f' 3)).put 4 (by decide) (f' 4)).put 5 (by decide) (f' 5)).put 6 (by decide) (f' 6)).put 7 (by decide) (f' 7)).put 8 (by decide) (f' 8)).put 9 (by decide) (f' 9)
  obtain ⟨M, hM, a1, a2, a3⟩ := h1.mem
  refine ⟨⟨M, hM, by simpa using a1, a2, ?_⟩, by simpa using h1.le, h1.cap⟩
  intro k fk hk j hj
  by_cases e : k = l.length
  · subst e
    rw [getElem?_snoc] at hk
    injection hk with hk
    subst hk
    rw [a3 _ _ (getElem?_snoc l _) j hj]
    match j, hj with
    | 0, _ => rfl
    | 1, _ => rfl
    | 2, _ => rfl
    | 3, _ => rfl
    | 4, _ => rfl
    | 5, _ => rfl
    | 6, _ => rfl
    | 7, _ => rfl
    | 8, _ => rfl
    | 9, _ => rfl
  · have hlt : k < l.length := by
      have := (List.getElem?_eq_some_iff.1 hk).1
      simp at this
      omega
    refine a3 k fk ?_ j hj
    rw [List.getElem?_append_left hlt] at hk ⊢
    exact hk
theorem off_tenAt {S : List Nat} {a w : World} {b o : Nat} (h : Off S a w) (hb : b ∈ S ∨ a.heap.size ≤ b) (f : Nat → Int) : Off S a (tenAt w b o f) :=
  (((((((((h.set hb _).set hb _).set hb _).set hb _).set hb _).set hb _).set hb _).set hb _).set hb _).set hb _
/-- One frame less. -/
theorem IsS.less {w : World} {g m : Nat} {l : List (Nat → Int)} {f : Nat → Int} (h : IsS w g (l ++ [f]) m) : IsS (w.setCell ⟨g, 160, none⟩ (.int .i64 l.length)) g l m := by
  obtain ⟨M, hM, h1, h2, h3⟩ := h.mem
  have h16 := h.lt16
  have hle := h.le
  simp at hle
  refine ⟨⟨_, hM.set 160 l.length, by unfold upd; rw [if_pos rfl], by unfold upd; rw [if_neg (by omega), h2], ?_⟩, by omega, h.cap⟩
  intro k f' hk j hj
  have hlt : k < l.length := (List.getElem?_eq_some_iff.1 hk).1
  unfold upd
  rw [if_neg (by omega)]
  refine h3 k f' ?_ j hj
  rw [List.getElem?_append_left hlt]
  exact hk

set_option maxRecDepth 100000 in
theorem pop_some {w : World} {g m : Nat} {l : List (Nat → Int)} {f : Nat → Int} (h : IsS w g (l ++ [f]) m) :
    Calls Try.prog 11 #[.pointer (some ⟨g, 0, none⟩)] w fun e w' => e = .returned (.tuple #[frV f, .bool true]) ∧ IsS w' g l m ∧ Off [g] w w' := by
  have H := Lib.hid h
  have hlt := h.lt
  clear h
  have HB := Lib.hid (Blk.new w 37 (frL zeroF).toArray)
  go_enter Try.func11, Try.ntmps11
  go_upto_region 3 with (first | (go_at_call 17; refine (top_some (H.out.off0 ((Off.refl _ _).alloc _))).mono ?_; rintro e w1 ⟨rfl, ho⟩))
  have hs1 : w.heap.size < w1.heap.size := by have := ho.size; simp at this; omega
  have hoW := Lib.hid (((Off.refl [] w).alloc _).trans ho)
  refine at_world (R := fun W => IsS W g (l ++ [f]) m ∧ Off [] w W ∧ Blk W w1.heap.size 37 (frL f).toArray ∧ Blk W w.heap.size 37 (frL zeroF).toArray) ⟨(H.out.off0 hoW.out).off0 ((Off.refl _ _).alloc _), hoW.out.alloc _, Blk.new _ _ _, (ho.blk HB.out (by simp)).alloc _⟩ ?_
  clear hoW
  generalize w1.heap.size = b at *
  rintro W ⟨h1, o1, b1, b2⟩
  clear HB ho
  have HA := Lib.hid (show IsS W g (l ++ [f]) m ∧ Off [] w W ∧ Blk W b 37 (frL f).toArray ∧ Blk W w.heap.size 37 (frL zeroF).toArray from ⟨h1, o1, b1, b2⟩)
  clear h1 o1 b1 b2
  generalize hwz : w.heap.size = a at *
  have HZ := Lib.hid hwz
  clear hwz
  go_upto_region 4 with (first | (go_at_call 19; refine (last_some HA.out.1.lt16 HA.out.1.dep1).mono ?_; rintro e w2 ⟨rfl, ho2⟩; obtain ⟨c0, c1, c2, c3, c4, c5, c6, c7, c8, c9⟩ := (HA.out.1.off0 ho2).cells; have fz := fun i hi => ((HA.out.1.off0 ho2).there i hi).2; have f0 := fz 0 (by decide); have f1 := fz 1 (by decide); have f2 := fz 2 (by decide); have f3 := fz 3 (by decide); have f4 := fz 4 (by decide); have f5 := fz 5 (by decide); have f6 := fz 6 (by decide); have f7 := fz 7 (by decide); have f8 := fz 8 (by decide); have f9 := fz 9 (by decide); clear fz; rw [Nat.add_zero] at f0))
  refine at_world (R := fun W => IsS W g (l ++ [zeroF]) m ∧ Off [g] w W ∧ Blk W b 37 (frL f).toArray ∧ Blk W a 37 (frL zeroF).toArray) ⟨(HA.out.1.off0 ho2).ten zeroF, off_tenAt ((HA.out.2.1.trans ho2).more (by simp)) (.inl (by simp)) zeroF, (off_tenAt (Off.refl [g] w2) (.inl (by simp)) zeroF).blk (ho2.blk HA.out.2.2.1 (by simp)) (by simp; omega), (off_tenAt (Off.refl [g] w2) (.inl (by simp)) zeroF).blk (ho2.blk HA.out.2.2.2 (by simp)) (by simp; omega)⟩ ?_
  clear c0 c1 c2 c3 c4 c5 c6 c7 c8 c9 f0 f1 f2 f3 f4 f5 f6 f7 f8 f9 ho2
  rintro W2 HA2'
  have HA2 := Lib.hid HA2'
  clear HA2'
  have c160 := HA2.out.1.dep1
  have fz : W2.frozen? ⟨g, 160, none⟩ = false := by obtain ⟨M, hM, -⟩ := HA2.out.1.mem; exact hM.free 160
  have wr : wrap64 (l.length : Int) = (l.length : Int) := by
    have := HA2.out.1.lt16
    exact IntWalk.wrap64_in (l.length : Int) (by omega)
  go_upto_region 5 with (fail)
  refine at_world (R := fun W => IsS W g l m ∧ Off [g] w W ∧ Blk W b 37 (frL f).toArray ∧ Blk W a 37 (frL zeroF).toArray) ⟨HA2.out.1.less, HA2.out.2.1.set (.inl (by simp)) _, HA2.out.2.2.1.far (by omega) _ _, HA2.out.2.2.2.far (by omega) _ _⟩ ?_
  clear c160 fz wr
  rintro W3 HA3'
  have HA3 := Lib.hid HA3'
  clear HA3'
  obtain ⟨fz, z0, z1, z2, z3, z4, z5, z6, z7, z8, z9⟩ := ten_cells HA3.out.2.2.2
  obtain ⟨-, y0, y1, y2, y3, y4, y5, y6, y7, y8, y9⟩ := ten_cells HA3.out.2.2.1
  go_wp2
  obtain ⟨-, e0, e1, e2, e3, e4, e5, e6, e7, e8, e9⟩ := ten_cells (ten_set HA3.out.2.2.2 f)
  refine bodyPost_ret (v := .tuple #[frV f, .bool true]) (by simp [results, Try.results11, go_sem, e0, e1, e2, e3, e4, e5, e6, e7, e8, e9]) rfl ⟨rfl, HA3.out.1.off (ten_off (Off.refl [a] _) (.inl (by simp)) f) (by simp; omega), ten_off HA3.out.2.1 (.inr ?_) f⟩
  exact Nat.le_of_eq HZ.out

set_option maxRecDepth 100000 in
theorem pop_none {w : World} {g m : Nat} (h : IsS w g [] m) :
    Calls Try.prog 11 #[.pointer (some ⟨g, 0, none⟩)] w fun e w' => e = .returned (.tuple #[frV zeroF, .bool false]) ∧ Off [] w w' := by
  have H := Lib.hid h
  have hlt := h.lt
  clear h
  have HB := Lib.hid (Blk.new w 37 (frL zeroF).toArray)
  go_enter Try.func11, Try.ntmps11
  go_upto_region 5 with (first | (go_at_call 17; refine (top_none (H.out.off0 ((Off.refl _ _).alloc _))).mono ?_; rintro e w1 ⟨rfl, ho⟩))
  have hs1 : w.heap.size < w1.heap.size := by have := ho.size; simp at this; omega
  have hoW := Lib.hid (((Off.refl [] w).alloc _).trans ho)
  refine at_world (R := fun W => Off [] w W ∧ Blk W w1.heap.size 37 (frL zeroF).toArray ∧ Blk W w.heap.size 37 (frL zeroF).toArray) ⟨hoW.out.alloc _, Blk.new _ _ _, (ho.blk HB.out (by simp)).alloc _⟩ ?_
  clear hoW
  generalize w1.heap.size = b at *
  clear HB ho
  rintro W3 HA3'
  have HA3 := Lib.hid HA3'
  clear HA3'
  generalize hwz : w.heap.size = a at *
  have HZ := Lib.hid hwz
  clear hwz
  obtain ⟨fz, z0, z1, z2, z3, z4, z5, z6, z7, z8, z9⟩ := ten_cells HA3.out.2.2
  obtain ⟨-, y0, y1, y2, y3, y4, y5, y6, y7, y8, y9⟩ := ten_cells HA3.out.2.1
  go_wp2
  obtain ⟨-, e0, e1, e2, e3, e4, e5, e6, e7, e8, e9⟩ := ten_cells (ten_set HA3.out.2.2 zeroF)
  refine bodyPost_ret (v := .tuple #[frV zeroF, .bool false]) (by simp [results, Try.results11, go_sem, e0, e1, e2, e3, e4, e5, e6, e7, e8, e9]) rfl ⟨rfl, ten_off HA3.out.1 (.inr ?_) zeroF⟩
  exact Nat.le_of_eq HZ.out

end Go.Proofs.Ytkccnijnipkjnaa.Frm
