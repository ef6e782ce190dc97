/- Package frame: Push: contracts. -/
import Derived.Test.YtkccnijnipkjnaaFrmC
import Derived.StillTailTactics
namespace Go.Proofs.Ytkccnijnipkjnaa.Frm
open Go.RowKit Mem

/-- A slice that reads as these ints; nil reads as none. -/
def Reads (w : World) (v : Value) (L : List Int) : Prop :=
  (v = .slice none 0 0 ∧ L = []) ∨ ∃ a c, v = .slice (some a) L.length c ∧ ∀ i x, L[i]? = some x → w.cell? (a.add i) = some (.int .i64 x)
theorem Reads.len {w : World} {v : Value} {L : List Int} (h : Reads w v L) : ∃ a c, v = .slice a L.length c := by
  rcases h with ⟨rfl, rfl⟩ | ⟨a, c, rfl, _⟩
  · exact ⟨none, 0, rfl⟩
  · exact ⟨some a, c, rfl⟩

theorem Reads.alloc {w : World} {v : Value} {L : List Int} (h : Reads w v L) (o : Obj) : Reads (w.alloc o) v L := by
  rcases h with h | ⟨a, c, hv, hs⟩
  · exact .inl h
  · refine .inr ⟨a, c, hv, fun i x hx => ?_⟩
    have e := hs i x hx
    rw [World.cell?_alloc_lt _ _ _ (World.block_lt_of_cell? w _ e)]
    exact e
/-- A frame as it is pushed. -/
def newF (code : Int) (L : List Int) : Nat → Int := fun j => if j = 0 then code else if j = 1 then 0 else L.getD (j - 2) 0
theorem copied (code : Int) (L : List Int) (hL : L.length ≤ 8) (z : Array Value) (hz : z = (frL (newF code [])).toArray) :
    (z.toList.take 2 ++ (L.map (Value.int .i64) ++ z.toList.drop (2 + (L.map (Value.int .i64)).length))).toArray = (frL (newF code L)).toArray := by
  subst hz
  match L, hL with
  | [], _ => rfl
  | [_], _ => rfl
  | [_, _], _ => rfl
  | [_, _, _], _ => rfl
  | [_, _, _, _], _ => rfl
  | [_, _, _, _, _], _ => rfl
  | [_, _, _, _, _, _], _ => rfl
  | [_, _, _, _, _, _, _], _ => rfl
  | [_, _, _, _, _, _, _, _], _ => rfl
  | _ :: _ :: _ :: _ :: _ :: _ :: _ :: _ :: _ :: _, h => simp at h

theorem Ints.ten {w : World} {g : Nat} {t : TypeId} {n : Nat} {M : Nat → Int} (h : Ints w g t n M) (o : Nat) (f : Nat → Int) : Ints (tenAt w g o f) g t n (put M o 10 f) := by
  refine ((((((((((h.set o (f 0)).set (o + 1) (f 1)).set (o + 2) (f 2)).set (o + 3) (f 3)).set (o + 4) (f 4)).set (o + 5) (f 5)).set (o + 6) (f 6)).set (o + 7) (f 7)).set (o + 8) (f 8)).set (o + 9) (f 9)).eq (fun i _ => ?_)
  unfold put upd
  by_cases hi : o ≤ i ∧ i < o + 10
  · obtain ⟨j, rfl⟩ : ∃ j, i = o + j := ⟨i - o, by omega⟩
    have hj : j < 10 := by omega
    rw [if_pos hi]
    match j, hj with
    | 0, _ => simp
    | 1, _ => simp
    | 2, _ => simp
    | 3, _ => simp
    | 4, _ => simp
    | 5, _ => simp
    | 6, _ => simp
    | 7, _ => simp
    | 8, _ => simp
    | 9, _ => simp
  · rw [if_neg hi, if_neg (by omega), if_neg (by omega), if_neg (by omega), if_neg (by omega), if_neg (by omega), if_neg (by omega), if_neg (by omega), if_neg (by omega), if_neg (by omega), if_neg (by omega)]

/-- The frames of l lie there, and one more above them; how many there are isn't said. -/
structure Above (w : World) (g : Nat) (l : List (Nat → Int)) (m : Nat) (f : Nat → Int) : Prop where
  mem : ∃ M, Mem w g M ∧ M 160 = l.length ∧ M 161 = m ∧ (∀ k f, l[k]? = some f → ∀ j, j < 10 → M (k * 10 + j) = f j) ∧ ∀ j, j < 10 → M (l.length * 10 + j) = f j
  le : l.length < m
  cap : m ≤ 16
theorem IsS.above {w : World} {g m : Nat} {l : List (Nat → Int)} (h : IsS w g l m) (hl : l.length < m) (f : Nat → Int) : Above (tenAt w g (l.length * 10) f) g l m f := by
  obtain ⟨M, hM, h1, h2, h3⟩ := h.mem
  have hc := h.cap
  refine ⟨⟨_, hM.ten (l.length * 10) f, by unfold Frm.put; rw [if_neg (by omega), h1], by unfold Frm.put; rw [if_neg (by omega), h2], ?_, ?_⟩, hl, hc⟩
  · intro k f' hk j hj
    have hlt : k < l.length := (List.getElem?_eq_some_iff.1 hk).1
    unfold Frm.put
    rw [if_neg (by omega)]
    exact h3 k f' hk j hj
  · intro j hj
    unfold Frm.put
    rw [if_pos (by omega)]
    congr 1
    omega
theorem Above.drew {w : World} {g m : Nat} {l : List (Nat → Int)} {f : Nat → Int} (h : Above w g l m f) : Above w.drew g l m f := by
  obtain ⟨M, hM, r⟩ := h.mem
  exact ⟨⟨M, ⟨⟨hM.blk.eq⟩⟩, r⟩, h.le, h.cap⟩
theorem Above.more {w : World} {g m : Nat} {l : List (Nat → Int)} {f : Nat → Int} (h : Above w g l m f) : IsS (w.setCell ⟨g, 160, none⟩ (.int .i64 ((l.length : Int) + 1))) g (l ++ [f]) m := by
  obtain ⟨M, hM, h1, h2, h3, h4⟩ := h.mem
  have hc := h.cap
  have hl := h.le
  refine ⟨⟨_, hM.set 160 ((l.length : Int) + 1), by unfold upd; rw [if_pos rfl]; simp, by unfold upd; rw [if_neg (by omega), h2], ?_⟩, by simp; omega, hc⟩
  intro k f' hk j hj
  by_cases e : k = l.length
  · subst e
    rw [getElem?_snoc] at hk
    injection hk with hk
    subst hk
    unfold upd
    rw [if_neg (by omega)]
    exact h4 j hj
  · have hlt : k < l.length := by
      have := (List.getElem?_eq_some_iff.1 hk).1
      simp at this
      omega
    unfold upd
    rw [if_neg (by omega)]
    refine h3 k f' ?_ j hj
    rw [List.getElem?_append_left hlt] at hk
    exact hk

set_option maxRecDepth 100000 in
theorem push_full {w : World} {g m : Nat} {l : List (Nat → Int)} (h : IsS w g l m) (hl : l.length = m) (code : Int) (a : Option Addr) (n c : Nat) :
    Calls Try.prog 9 #[.pointer (some ⟨g, 0, none⟩), .int .i64 code, .slice a n c] w fun e w' => e = .returned (.bool false) ∧ Off [] w w' := by
  have c0 := h.dep
  have c1 := h.most
  rw [hl] at c0
  clear hl h
  go_enter Try.func9, Try.ntmps9
  go_wp2
  go_quiet (fail)
  go_wp2
  go_ret
  exact ⟨rfl, (Off.refl _ _).drewN _⟩

set_option maxRecDepth 100000 in
theorem push_long {w : World} {g m : Nat} {l : List (Nat → Int)} (h : IsS w g l m) (hl : l.length < m) (code : Int) (a : Option Addr) (n c : Nat) (hn : 8 < n) :
    Calls Try.prog 9 #[.pointer (some ⟨g, 0, none⟩), .int .i64 code, .slice a n c] w fun e w' => e = .returned (.bool false) ∧ Off [] w w' := by
  have c0 := h.dep
  have c1 := h.most
  have d0 : ((l.length : Int) == (m : Int)) = false := by simp; omega
  have d1 : decide ((8 : Int) < (n : Int)) = true := by simp; omega
  clear hl h
  go_enter Try.func9, Try.ntmps9
  go_wp2
  go_quiet (fail)
  go_wp2
  go_ret
  exact ⟨rfl, (Off.refl _ _).drewN _⟩

theorem copied_blk {w : World} {b : Nat} {t : TypeId} {z : Array Value} (h : Blk w b t z) (cs : Array Value) : Blk (w.setRow b cs) b t cs := ⟨setRow_heap w b _ _ t _ h.eq⟩
theorem off_setRow {S : List Nat} {a w : World} {b : Nat} (h : Off S a w) (hb : b ∈ S ∨ a.heap.size ≤ b) (cs : Array Value) : Off S a (w.setRow b cs) :=
  ⟨h.os, h.tape, h.output, by simpa [World.setRow] using h.size, fun k hk hn => (setRow_other w b k cs (by
    rintro rfl
    rcases hb with c | c
    · exact hn c
    · omega)).trans (h.block k hk hn)⟩

theorem copy_run {w W : World} {g b m vc : Nat} {l : List (Nat → Int)} {va : Option Addr} {L : List Int} {code : Int} (hgb : g < b) (hwb : w.heap.size ≤ b)
    (h : IsS W g l m ∧ Off [] w W ∧ Reads W (.slice va L.length vc) L ∧ Blk W b 37 (frL (newF code [])).toArray) (hL : L.length ≤ 8) :
    ∃ (x : Int) (W' : World), (Builtin.copy_ #[30, 30] 3 #[.slice (some ⟨b, 2, none⟩) 8 8, .slice va L.length vc]).run Try.prog W = .ok (.int .i64 x) W' ∧
      IsS W' g l m ∧ Off [] w W' ∧ Blk W' b 37 (frL (newF code L)).toArray := by
  obtain ⟨h1, h2, h3, h4⟩ := h
  rcases h3 with ⟨hv, hL0⟩ | ⟨a, c, hv, hsrc⟩
  · subst hL0
    exact ⟨0, W, run_copy_none (P := Try.prog) W 30 30 3 2 (some ⟨b, 2, none⟩) va 8 8 0 vc Try.underlying30 (by kernel_rfl) (by simp), h1, h2, h4⟩
  · injection hv with hv1 _ hv2
    subst hv1
    have hr := run_copy_row (P := Try.prog) W 30 30 3 2 b 2 8 8 a L.length vc (frL (newF code [])).toArray 37 (L.map (.int .i64)) Try.underlying30 (by kernel_rfl) h4.eq
      (by rw [List.length_map]; exact (Nat.min_eq_left hL).symm) (fun j v hj => by simp only [List.getElem?_map, Option.map_eq_some_iff] at hj; obtain ⟨x, hx, rfl⟩ := hj; exact hsrc j x hx) (by simp; omega) (fun v hv => by simp only [List.mem_map] at hv; obtain ⟨x, _, rfl⟩ := hv; rfl)
    refine ⟨_, _, hr, ?_, ?_, ?_⟩
    · exact h1.off (off_setRow (S := [b]) (Off.refl _ _) (.inl (by simp)) _) (by simp; omega)
    · exact off_setRow h2 (.inr hwb) _
    · refine (copied_blk h4 _).to ?_
      rw [List.append_assoc]
      exact copied code L hL _ rfl

set_option maxRecDepth 100000 in
set_option maxHeartbeats 2000000 in
theorem push_ok {w : World} {g m : Nat} {l : List (Nat → Int)} (h : IsS w g l m) (hl : l.length < m) (code : Int) {v : Value} {L : List Int} (hv : Reads w v L) (hL : L.length ≤ 8) :
    Calls Try.prog 9 #[.pointer (some ⟨g, 0, none⟩), .int .i64 code, v] w fun e w' => e = .returned (.bool true) ∧ IsS w' g (l ++ [newF code L]) m ∧ Off [g] w w' := by
  have c0 := h.dep
  have c1 := h.most
  have hcap := h.cap
  have hlt := h.lt
  have d0 : ((l.length : Int) == (m : Int)) = false := by simp; omega
  have d1 : decide ((8 : Int) < (L.length : Int)) = false := by simp; omega
  have H := Lib.hid h
  have HL := Lib.hid hl
  clear hl h
  have hvl := hv.len
  have HV := Lib.hid hv
  have HL8 := Lib.hid hL
  obtain ⟨va, vc, rfl⟩ := hvl
  clear hv hL
  go_enter Try.func9, Try.ntmps9
  go_wp2
  go_quiet (fail)
  go_upto_region 3 with (fail)
  clear c0 c1 d0 d1
  refine at_world (R := fun W => IsS W g l m ∧ Off [] w W ∧ Reads W (.slice va L.length vc) L) ⟨H.out.off0 ((Off.refl _ _).drewN _), (Off.refl _ _).drewN _, HV.out⟩ ?_
  clear H HV
  rintro W HA'
  have HA := Lib.hid HA'
  clear HA'
  have hlW := HA.out.1.lt
  go_upto_region 4 with (fail)
  have hWs := HA.out.2.1.size
  refine at_world (R := fun W' => IsS W' g l m ∧ Off [] w W' ∧ Reads W' (.slice va L.length vc) L ∧ Blk W' W.heap.size 37 (frL (newF code [])).toArray) ⟨HA.out.1.off0 ((Off.refl _ _).alloc _), HA.out.2.1.alloc _, HA.out.2.2.alloc _, Blk.new _ _ _⟩ ?_
  clear HA
  generalize W.heap.size = b at *
  clear W
  rintro W HA'
  have HA := Lib.hid HA'
  clear HA'
  have hgb : g < b := by omega
  obtain ⟨x, W', hcp, hR⟩ := copy_run hgb hWs HA.out HL8.out
  have HR := Lib.hid hR
  clear hR HA
  go_upto_region 5 with (fail)
  clear hcp
  have hmm := HR.out.1.mem
  have c160 := HR.out.1.dep
  have hb10 := ten_cells HR.out.2.2
  have h16 : l.length < 16 := by have := HL.out; omega
  obtain ⟨M, hM, -⟩ := hmm
  have f0 := hM.free
  have z0 := hM.cell (l.length * 10) (by omega)
  have z1 := hM.cell (l.length * 10 + 1) (by omega)
  have z2 := hM.cell (l.length * 10 + 2) (by omega)
  have z3 := hM.cell (l.length * 10 + 3) (by omega)
  have z4 := hM.cell (l.length * 10 + 4) (by omega)
  have z5 := hM.cell (l.length * 10 + 5) (by omega)
  have z6 := hM.cell (l.length * 10 + 6) (by omega)
  have z7 := hM.cell (l.length * 10 + 7) (by omega)
  have z8 := hM.cell (l.length * 10 + 8) (by omega)
  have z9 := hM.cell (l.length * 10 + 9) (by omega)
  obtain ⟨-, y0, y1, y2, y3, y4, y5, y6, y7, y8, y9⟩ := hb10
  have b1 : (l.length : Int) < 16 := by omega
  clear hM
  go_still_tail 9, (by kernel_rfl)
  go_upto_region 6 with (fail)
  refine at_world (R := fun W => Above W g l m (newF code L) ∧ Off [g] w W) ⟨(HR.out.1.above HL.out (newF code L)).drew, (off_tenAt (HR.out.2.1.more (by simp)) (.inl (by simp)) (newF code L)).drew⟩ ?_
  clear y0 y1 y2 y3 y4 y5 y6 y7 y8 y9 z0 z1 z2 z3 z4 z5 z6 z7 z8 z9 f0 c160 HR
  clear W'
  rintro W3 hA3
  have HA3 := Lib.hid hA3
  clear hA3
  have hmm := HA3.out.1.mem
  obtain ⟨M', hM', hM1, -⟩ := hmm
  have c160 := hM'.cell 160 (by decide)
  have fz := hM'.free 160
  rw [hM1] at c160
  clear hM' hM1
  go_wp2
  go_ret
  exact ⟨rfl, HA3.out.1.more, HA3.out.2.set (.inl (by simp)) _⟩

end Go.Proofs.Ytkccnijnipkjnaa.Frm
