/- Stage 8, MagTwo: nine objects in memory (a box, a shape, three rows of words, four machines): what turns two of them leaves the others; the law's row of words, filled from place 70 on. -/
import Derived.Test.YtdnahojpeplajaaMagN
import Derived.Test.YtdnahojpeplajaaMagW
import Derived.Test.YtdnahojpeplajaaMagV
import Derived.Test.YtdnahojpeplajaaFarm
import Derived.Test.YtdnahojpeplajaaOpenF
namespace Go.Proofs.Ytdnahojpeplajaa.Mag
open Go.RowKit Mem Go.Proofs.Ytdnahojpeplajaa.Words Go.Proofs.Ytdnahojpeplajaa.Plan Go.Proofs.Ytdnahojpeplajaa.Pack Go.Proofs.Ytdnahojpeplajaa.Open Go.Proofs.Ytdnahojpeplajaa.Farm

def bT (g : Nat) (ty : TypeId) (cs : Array Value) : Thg := ([g], fun W => Blk W g ty cs)
def wT (gw hw : Nat) (s : St) : Thg := ([gw, hw], fun W => IsW W gw hw s)
def tT (I : HoldT) (g : Nat) (F : List Nat) (t : Tk) : Thg := (F, fun W => I W g F t)
def pT (J : HoldP) (g : Nat) (F : List Nat) (t : Pk) : Thg := (F, fun W => J W g F t)
section
variable {I : HoldT} {J : HoldP} {w W W' : World} {g gw hw : Nat} {F : List Nat} {t : Tk} {p : Pk} {s : St} {L : List Thg}
theorem bT_is {ty : TypeId} {cs : Array Value} (h : Blk W g ty cs) : IsThg (bT g ty cs) W :=
  ⟨h, fun _ _ hv e => ⟨(e g (by simp [bT])).trans hv.eq⟩, fun k hk => by
    simp only [bT, List.mem_cons, List.not_mem_nil, or_false] at hk
    subst hk
    exact h.lt⟩
theorem wT_is (h : IsW W gw hw s) : IsThg (wT gw hw s) W :=
  ⟨h, fun _ _ hv e => ⟨⟨(e gw (by simp [wT])).trans hv.head.eq⟩, ⟨(e hw (by simp [wT])).trans hv.row.eq⟩, hv.small⟩, fun k hk => by
    simp only [wT, List.mem_cons, List.not_mem_nil, or_false] at hk
    rcases hk with rfl | rfl
    · exact h.head.lt
    · exact h.row.lt⟩
theorem tT_is (C : ConT I) (h : I W g F t) : IsThg (tT I g F t) W := ⟨h, fun _ _ hv e => C.keep hv e, C.lt h⟩
theorem pT_is (D : ConP J) (h : J W g F p) : IsThg (pT J g F p) W := ⟨h, fun _ _ hv e => D.keep hv e, D.lt h⟩

theorem farm_t (C : ConT I) (h : Farm w L W) {i j : Nat} (hij : i ≠ j) (hi : L[i]? = some (tT I g F t)) (hj : L[j]? = some (wT gw hw s)) (hok : t.Ok) (hlen : t.over = false → (s.row.length : Int) = wordsI t.P t.C t.M) (hrow : RowOk s) (h0 : 0 ≤ s.steps) (h1 : s.steps < 9223372036854775807) :
    Calls Try.prog 13 #[.pointer (some ⟨g, 0, none⟩), .pointer (some ⟨gw, 0, none⟩)] W fun e W' => e = .returned (.tuple #[]) ∧ ∃ F', Farm w ((L.set i (tT I g F' (t.next s))).set j (wT gw hw (t.words s))) W' := by
  have ap := h.apart j i _ _ (Ne.symm hij) hj hi
  refine (C.step (h.now hi) hok (h.now hj) (ap gw (by simp [wT])) (ap hw (by simp [wT])) hlen hrow h0 h1).mono ?_
  rintro e W' ⟨rfl, ⟨F', hi', hf⟩, hp, o⟩
  exact ⟨rfl, F', h.turn2 hij hi hj (o.more (fun k hk => by simp only [tT, wT, List.mem_cons, List.mem_append, List.not_mem_nil, or_false] at hk ⊢; rcases hk with h | h | h <;> simp [h])) (tT_is C hi') (wT_is hp) hf (fun k hk => hk)⟩
theorem farm_p (D : ConP J) (h : Farm w L W) {i j : Nat} (hij : i ≠ j) (hi : L[i]? = some (pT J g F p)) (hj : L[j]? = some (wT gw hw s)) (hok : p.Ok) (hlen : p.over = false → (s.row.length : Int) = wordsI p.P p.C p.M) (h0 : 0 ≤ s.steps) (h1 : s.steps < 9223372036854775807) :
    Calls Try.prog 14 #[.pointer (some ⟨g, 0, none⟩), .pointer (some ⟨gw, 0, none⟩)] W fun e W' => e = .returned (.tuple #[]) ∧ ∃ F', Farm w ((L.set i (pT J g F' (p.next s))).set j (wT gw hw (p.words s))) W' := by
  have ap := h.apart j i _ _ (Ne.symm hij) hj hi
  refine (D.step (h.now hi) hok (h.now hj) (ap gw (by simp [wT])) (ap hw (by simp [wT])) hlen h0 h1).mono ?_
  rintro e W' ⟨rfl, ⟨F', hi', hf⟩, hp, o⟩
  exact ⟨rfl, F', h.turn2 hij hi hj (o.more (fun k hk => by simp only [pT, wT, List.mem_cons, List.mem_append, List.not_mem_nil, or_false] at hk ⊢; rcases hk with h | h | h <;> simp [h])) (pT_is D hi') (wT_is hp) hf (fun k hk => hk)⟩
/-- Object i turns. -/
theorem Farm.turn1 {i : Nat} {x x' : Thg} (h : Farm w L W) (hx : L[i]? = some x) (o : Off x.1 W W') (hx' : IsThg x' W') (sx : ∀ k ∈ x'.1, k ∈ x.1) : Farm w (L.set i x') W' := by
  have li := (List.getElem?_eq_some_iff.1 hx).1
  have key : ∀ (a : Nat) (z : Thg), (L.set i x')[a]? = some z → (a = i ∧ z = x') ∨ (a ≠ i ∧ L[a]? = some z) := fun a z hz => by
    rw [List.getElem?_set] at hz
    by_cases e : i = a
    · rw [if_pos e] at hz
      subst e
      simp [li] at hz
      exact .inl ⟨rfl, hz.symm⟩
    · rw [if_neg e] at hz
      exact .inr ⟨fun h => e h.symm, hz⟩
  refine ⟨fun a z hz => ?_, fun a b z u hab hz hu k hk hm => ?_, fun a z hz k hk => ?_, h.off.trans' o (fun k hk => .inr (h.fresh i x hx k hk))⟩
  · rcases key a z hz with ⟨_, rfl⟩ | ⟨h1, h3⟩
    · exact hx'
    · exact (h.all a z h3).same (fun k hk => o.block k ((h.all a z h3).lt k hk) (h.apart a i z x h1 h3 hx k hk)) o.size
  · rcases key a z hz with ⟨ha, rfl⟩ | ⟨h1, h3⟩
    · rcases key b u hu with ⟨hb, _⟩ | ⟨h4, h6⟩
      · omega
      · exact h.apart b i u x h4 h6 hx k hm (sx k hk)
    · rcases key b u hu with ⟨_, rfl⟩ | ⟨h4, h6⟩
      · exact h.apart a i z x h1 h3 hx k hk (sx k hm)
      · exact h.apart a b z u hab h3 h6 k hk hm
  · rcases key a z hz with ⟨_, rfl⟩ | ⟨h1, h3⟩
    · exact h.fresh i x hx k (sx k hk)
    · exact h.fresh a z h3 k hk
/-- Two new ones, in either order. -/
theorem Farm.two {x y : Thg} {W1 W2 : World} (h : Farm w L W) (o1 : Off [] W W1) (hx : IsThg x W1) (fx : ∀ k ∈ x.1, W.heap.size ≤ k) (o2 : Off [] W1 W2) (hy : IsThg y W2) (fy : ∀ k ∈ y.1, W1.heap.size ≤ k) : Farm w (L ++ [x, y]) W2 := by
  have h2 := (h.add o1 hx fx).add o2 hy fy
  rwa [List.append_assoc] at h2
theorem Farm.swap {x y : Thg} (h : Farm w (L ++ [x, y]) W) : Farm w (L ++ [y, x]) W := by
  have key : ∀ (i : Nat) (z : Thg), (L ++ [y, x])[i]? = some z → (L ++ [x, y])[if i = L.length then L.length + 1 else if i = L.length + 1 then L.length else i]? = some z := fun i z hz => by
    by_cases h1 : i < L.length
    · rw [List.getElem?_append_left h1] at hz
      rw [if_neg (by omega), if_neg (by omega), List.getElem?_append_left h1]
      exact hz
    · rw [List.getElem?_append_right (by omega)] at hz
      by_cases h2 : i = L.length
      · subst h2
        rw [if_pos rfl, List.getElem?_append_right (by omega)]
        simp at hz ⊢
        exact hz
      · have hlt := (List.getElem?_eq_some_iff.1 hz).1
        simp at hlt
        obtain rfl : i = L.length + 1 := by omega
        rw [if_neg (by omega), if_pos rfl, List.getElem?_append_right (by omega)]
        simp at hz ⊢
        exact hz
  refine ⟨fun i z hz => h.all _ z (key i z hz), fun i j z u hij hz hu => h.apart _ _ z u ?_ (key i z hz) (key j u hu), fun i z hz => h.fresh _ z (key i z hz), h.off⟩
  split <;> split <;> (try split) <;> (try split) <;> omega
end

/-- The law's row: what stands at the magazines' places is what came in. -/
def put70 (z : Nat → Int) : Nat → Int := fun k => if 70 ≤ k then z (k - 70) else 0
theorem put70_at (z : Nat → Int) (q : Nat) : put70 z (70 + q) = z q := by unfold put70; rw [if_pos (by omega), Nat.add_sub_cancel_left]
theorem put70_ok {z : Nat → Int} (h : ∀ i, 0 ≤ z i ∧ z i < 18446744073709551616) (i : Nat) : 0 ≤ put70 z i ∧ put70 z i < 18446744073709551616 := by
  unfold put70
  split
  · exact h _
  · decide
theorem put70_zero (z : Nat → Int) (L : Nat) : List.replicate L 0 = filled (put70 z) L 70 := by
  unfold filled
  apply List.ext_getElem
  · simp
  · intro i h1 h2
    simp only [List.getElem_replicate, List.getElem_map, List.getElem_range]
    unfold put70
    split
    · rw [if_neg (by omega)]
    · rfl
theorem row_put (l : List Int) (k : Nat) (x : Int) : (rowCells l).setIfInBounds k (.int .u64 x) = rowCells (l.set k x) := by
  unfold rowCells
  simp [List.map_set]
theorem row70_set (z : Nat → Int) (L q : Nat) : (rowCells (filled (put70 z) L (70 + q))).setIfInBounds (70 + q) (.int .u64 (z q)) = rowCells (filled (put70 z) L (70 + (q + 1))) := by
  rw [row_put, ← put70_at z q, filled_set]
  rfl
theorem row70_is {W : World} {b L : Nat} {z : Nat → Int} (h : Blk W b 27 (rowCells (filled (put70 z) L L))) (hz : ∀ i, 0 ≤ z i ∧ z i < 18446744073709551616) (hL : L ≤ 2000) : IsRowU W (some ⟨b, 0, none⟩) L L (put70 z) := by
  refine ⟨put70_ok hz, fun _ => ⟨b, 0, rfl, h.lt, Nat.le_refl _, by omega, fun i hi => ?_⟩⟩
  rw [h.cell, Nat.zero_add, row_cell _ _ (by rw [filled_length]; exact hi), filled_at _ _ _ hi]
theorem mag_70 {n c i cn : Nat} (hn : n ≤ 8) (hc : c < 2) (hi : i < n) (hcn : cn = c * n) : magI 4 2 n c i = ((70 + (cn + i) : Nat) : Int) := by
  have h := (mag_in (P := 4) (C := 2) (M := n) (c := c) (i := i) ⟨by decide, by decide, by decide, by decide, by omega, by omega⟩ ⟨by omega, by omega⟩ (by omega)).1
  have e : (n : Int) * (c : Int) = (c : Int) * (n : Int) := Int.mul_comm _ _
  rw [h, hcn]
  simp only [Int.natCast_add, Int.natCast_mul]
  omega

section
variable {t0 : Tk} {p0 : Pk} {s0 : St}
theorem seqT_row (h : RowOk s0) (n : Nat) : RowOk (seqT t0 s0 n).2 := by
  induction n with
  | zero => exact h
  | succ n ih => exact Tk.words_ok ih
theorem copy_turn {w W : World} {A B : Thg} {bm L : Nat} {z : Nat → Int} {m pp qq : Nat} (h : Farm w [A, B, bT bm 27 (rowCells (filled (put70 z) L (70 + m)))] W) (hq : qq = m) (hp : pp = 70 + qq) :
    Farm w [A, B, bT bm 27 (rowCells (filled (put70 z) L (70 + (m + 1))))] (W.setCell ⟨bm, pp, none⟩ (.int .u64 (z qq))) := by
  subst hq
  subst hp
  have hb : Blk W bm 27 (rowCells (filled (put70 z) L (70 + qq))) := h.now (i := 2) rfl
  have hs := hb.set (70 + qq) (.int .u64 (z qq))
  rw [row70_set] at hs
  exact Farm.turn1 (i := 2) (x := bT bm 27 (rowCells (filled (put70 z) L (70 + qq)))) (x' := bT bm 27 (rowCells (filled (put70 z) L (70 + (qq + 1))))) h rfl ((Off.refl [bm] W).set (.inl (by simp)) _) (bT_is hs) (fun k hk => hk)
/-- A taker and a putter were made. -/
def PairRel (I : HoldT) (J : HoldP) (w : World) (L : List Thg) (t : Tk) (p : Pk) (x y : Value) (W : World) : Prop :=
  ∃ ga Fa gb Fb, x = .pointer (some ⟨ga, 0, none⟩) ∧ y = .pointer (some ⟨gb, 0, none⟩) ∧ Farm w (L ++ [tT I ga Fa t, pT J gb Fb p]) W
def cls (x : Int) : Int := (IntKind.i64.wrap x).tmod 4
def slt (x : Int) : Int := (IntKind.i64.wrap (x / 4)).tmod 2
/-- All that there is, the machines last. -/
def base6 (qb : Nat) (cb : Array Value) (q : Nat) (cq : Array Value) (bm : Nat) (cm : Array Value) (gw hw gx hx gy hy : Nat) (sw sx sy : St) : List Thg :=
  [bT qb 56 cb, bT q 24 cq, bT bm 27 cm, wT gw hw sw, wT gx hx sx, wT gy hy sy]
def herd (I : HoldT) (J : HoldP) (qb : Nat) (cb : Array Value) (q : Nat) (cq : Array Value) (bm : Nat) (cm : Array Value) (gw hw gx hx gy hy : Nat) (sw sx sy : St) (ga : Nat) (Fa : List Nat) (ta : Tk) (gb : Nat) (Fb : List Nat) (pb : Pk) (gu : Nat) (Fu : List Nat) (tu : Tk) (gv : Nat) (Fv : List Nat) (pv : Pk) : List Thg :=
  [bT qb 56 cb, bT q 24 cq, bT bm 27 cm, wT gw hw sw, wT gx hx sx, wT gy hy sy, tT I ga Fa ta, pT J gb Fb pb, tT I gu Fu tu, pT J gv Fv pv]
theorem base6_is {w W W3 W4 W5 : World} {qb q bm gw hw gx hx gy hy : Nat} {cb cq cm : Array Value} {s : St} (h : Farm w [bT qb 56 cb, bT q 24 cq, bT bm 27 cm] W)
    (h3 : IsW W3 gw hw s) (o3 : Off [] W W3) (f3 : W.heap.size ≤ gw ∧ W.heap.size ≤ hw) (h4 : IsW W4 gx hx s) (o4 : Off [] W3 W4) (f4 : W3.heap.size ≤ gx ∧ W3.heap.size ≤ hx) (h5 : IsW W5 gy hy s) (o5 : Off [] W4 W5) (f5 : W4.heap.size ≤ gy ∧ W4.heap.size ≤ hy) :
    Farm w (base6 qb cb q cq bm cm gw hw gx hx gy hy s s s) W5 := by
  have a := ((h.add o3 (wT_is h3) (by simpa [wT] using f3)).add o4 (wT_is h4) (by simpa [wT] using f4)).add o5 (wT_is h5) (by simpa [wT] using f5)
  exact a
theorem cells2 {w : World} {b : Nat} {ty : TypeId} {x y : Value} (h : Blk w b ty #[x, y]) : w.cell? ⟨b, 0, none⟩ = some x ∧ w.cell? ⟨b, 1, none⟩ = some y := ⟨h.cell 0, h.cell 1⟩
/-- How great the magazines are. -/
theorem half_8 (len : Nat) (h : 0 < len → (len : Int) ≤ 9223372036854775807) : ∃ n : Nat, (if (8 : Int) < wrap64 ((len : Int) / 2) then 8 else wrap64 ((len : Int) / 2)) = (n : Int) ∧ n ≤ 8 ∧ 2 * n ≤ len := by
  have e : wrap64 ((len : Int) / 2) = (len : Int) / 2 := IntWalk.wrap64_in _ (by omega)
  rw [e]
  split
  · exact ⟨8, rfl, by omega, by omega⟩
  · exact ⟨len / 2, by omega, by omega, by omega⟩
/-- So far copied. -/
def CopyRel (w : World) (qb : Nat) (cb : Array Value) (q : Nat) (cq : Array Value) (bm L : Nat) (z : Nat → Int) (cn n : Nat) (i : Value) (W : World) : Prop :=
  ∃ k : Nat, k ≤ n ∧ i = .int .i64 k ∧ Farm w [bT qb 56 cb, bT q 24 cq, bT bm 27 (rowCells (filled (put70 z) L (70 + (cn + k))))] W
def CopyRel2 (w : World) (qb : Nat) (cb : Array Value) (q : Nat) (cq : Array Value) (bm L : Nat) (z : Nat → Int) (n : Nat) (c : Value) (W : World) : Prop :=
  ∃ k : Nat, k ≤ 2 ∧ c = .int .i64 k ∧ Farm w [bT qb 56 cb, bT q 24 cq, bT bm 27 (rowCells (filled (put70 z) L (70 + k * n)))] W
end
end Go.Proofs.Ytdnahojpeplajaa.Mag
