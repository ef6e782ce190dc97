/- Rows of blocks in memory; the document's own model (allotmentref1.Model): what is asked of it: a contract each. -/
import Derived.Test.YtpkpkfcboimhnaaChecked
import Derived.Test.YtpkpkfcboimhnaaMem
import Derived.Test.YtpkpkfcboimhnaaModN
import Derived.WalkLawsBesides
import Derived.WalkSpells
import Derived.Deep.RegionHeld3
import Derived.BigQuiet
import Derived.RegionTactic
import Derived.ChangeAlike
import Derived.Deep.DeepCutAuto
import Derived.Laws.AppendOwn
import Derived.OwnWalk
import Derived.IntWalk
namespace Go.Proofs.Ytpkpkfcboimhnaa.Mod
open Go.RowKit Mem

/-- A block's two cells. -/
abbrev bkL (b : Bk) : List Value := [.int .i64 b.p, .int .i64 b.n]

/-- A slice that reads as these blocks; nil reads as none. -/
def Rd (w : World) (v : Value) (l : List Bk) : Prop :=
  (v = .slice none 0 0 ∧ l = []) ∨ ∃ g o c, v = .slice (some ⟨g, o, none⟩) l.length c ∧ ∀ i b, l[i]? = some b → w.cell? ⟨g, o + i * 2, none⟩ = some (.int .i64 b.p) ∧ w.cell? ⟨g, o + i * 2 + 1, none⟩ = some (.int .i64 b.n)
theorem Rd.len {w : World} {v : Value} {l : List Bk} (h : Rd w v l) : ∃ a c, v = .slice a l.length c := by
  rcases h with ⟨rfl, rfl⟩ | ⟨g, o, c, rfl, _⟩
  · exact ⟨none, 0, rfl⟩
  · exact ⟨_, c, rfl⟩
theorem Rd.off {w w' : World} {v : Value} {l : List Bk} {S : List Nat} (h : Rd w v l) (ho : Off S w w') (hs : ∀ k, k ∈ S → w.heap.size ≤ k) : Rd w' v l := by
  rcases h with h | ⟨g, o, c, hv, hc⟩
  · exact .inl h
  · refine .inr ⟨g, o, c, hv, fun i b hb => ?_⟩
    obtain ⟨e1, e2⟩ := hc i b hb
    have hl1 := World.block_lt_of_cell? w _ e1
    have hn : g ∉ S := fun m => by have := hs _ m; simp at hl1; omega
    rw [ho.cell (p := ⟨g, o + i * 2, none⟩) hl1 hn, ho.cell (p := ⟨g, o + i * 2 + 1, none⟩) hl1 hn]
    exact ⟨e1, e2⟩
/-- The block at a place. -/
theorem Rd.at {w : World} {v : Value} {l : List Bk} (h : Rd w v l) (j : Nat) (hj : j < l.length) :
    ∃ g o c, v = .slice (some ⟨g, o, none⟩) l.length c ∧ w.cell? ⟨g, o + j * 2, none⟩ = some (.int .i64 l[j].p) ∧ w.cell? ⟨g, o + j * 2 + 1, none⟩ = some (.int .i64 l[j].n) := by
  rcases h with ⟨_, rfl⟩ | ⟨g, o, c, hv, hc⟩
  · exact absurd hj (Nat.not_lt_zero _)
  · obtain ⟨e1, e2⟩ := hc j _ (List.getElem?_eq_getElem hj)
    exact ⟨g, o, c, hv, e1, e2⟩

/-- The document's model in block b: its row, how many words. -/
structure IsV (w : World) (base b : Nat) (W : Int) (l : List Bk) : Prop where
  head : ∃ lv, Blk w b 46 #[lv, .int .i64 W] ∧ w.ownsRow base 36 2 lv l.length (l.flatMap bkL)
  lo : base ≤ w.heap.size
  hb : base ≤ b
  ok : Ok W l
  w0 : 0 ≤ W
  w1 : W ≤ 4096

theorem flat2_len (l : List Bk) : (l.flatMap bkL).length = l.length * 2 := by
  induction l with
  | nil => rfl
  | cons a l ih => rw [List.flatMap_cons, List.length_append, ih, List.length_cons]; simp; omega
theorem flat2_get (l : List Bk) (i : Nat) (b : Bk) (hb : l[i]? = some b) : (l.flatMap bkL)[i * 2]? = some (.int .i64 b.p) ∧ (l.flatMap bkL)[i * 2 + 1]? = some (.int .i64 b.n) := by
  induction l generalizing i with
  | nil => simp at hb
  | cons a l ih =>
    rw [List.flatMap_cons]
    cases i with
    | zero =>
      simp at hb
      subst hb
      exact ⟨rfl, rfl⟩
    | succ i =>
      have := ih i (by simpa using hb)
      rw [show (i + 1) * 2 = i * 2 + 2 from by omega, show i * 2 + 2 + 1 = (i * 2 + 1) + 2 from by omega]
      exact this
/-- A row of the call's own reads as its blocks. -/
theorem rd_own {w : World} {base : Nat} {t : TypeId} {v : Value} {l : List Bk} (h : w.ownsRow base t 2 v l.length (l.flatMap bkL)) : Rd w v l := by
  rcases h.2 with ⟨hv, h0⟩ | ⟨g, cap, cur, hv, _, hc, _, _, _, htake⟩
  · exact .inl ⟨hv, List.eq_nil_of_length_eq_zero h0⟩
  · refine .inr ⟨g, 0, cap, hv, fun i b hb => ?_⟩
    have hi := (List.getElem?_eq_some_iff.1 hb).1
    have hcl := h.cells (g := g) (by rw [hv]; rfl)
    obtain ⟨e1, e2⟩ := flat2_get l i b hb
    have c1 := hcl _ _ e1
    have c2 := hcl _ _ e2
    rw [addr_add] at c1 c2
    exact ⟨c1, c2⟩

theorem own_keep {w w' : World} {base : Nat} {e : TypeId} {size : Nat} {v : Value} {n : Nat} {xs : List Value} (h : w.ownsRow base e size v n xs)
    (hk : ∀ g cur, w.heap[g]? = some (.cells cur e (0, 0)) → v.ownBlock = some g → w'.heap[g]? = w.heap[g]?) : w'.ownsRow base e size v n xs := by
  refine ⟨h.1, ?_⟩
  rcases h.2 with h2 | ⟨g, cap, cur, hv, hb, hh, r⟩
  · exact .inl h2
  · exact .inr ⟨g, cap, cur, hv, hb, (hk g cur hh (by rw [hv]; rfl)).trans hh, r⟩

section
variable {w w' : World} {base b : Nat} {W : Int} {l : List Bk}
theorem IsV.off0 (h : IsV w base b W l) (ho : Off [] w w') : IsV w' base b W l := by
  obtain ⟨lv, hh, hown⟩ := h.head
  exact ⟨⟨lv, ho.blk hh (by simp), own_keep hown (fun c cur hc _ => ho.block c (⟨hc⟩ : Blk w c _ _).lt (by simp))⟩, Nat.le_trans h.lo ho.size, h.hb, h.ok, h.w0, h.w1⟩
theorem IsV.lt (h : IsV w base b W l) : b < w.heap.size := by
  obtain ⟨lv, hh, -⟩ := h.head
  exact hh.lt
/-- What a reader meets. -/
theorem IsV.read (h : IsV w base b W l) : ∃ va vc, w.cell? ⟨b, 0, none⟩ = some (.slice va l.length vc) ∧ w.cell? ⟨b, 1, none⟩ = some (.int .i64 W) ∧ Rd w (.slice va l.length vc) l := by
  obtain ⟨lv, hh, hown⟩ := h.head
  have hr := rd_own hown
  obtain ⟨va, vc, rfl⟩ := hr.len
  exact ⟨va, vc, hh.cell 0, hh.cell 1, hr⟩
/-- A row is not longer than there are words. -/
theorem ok_len {W : Int} : ∀ {l : List Bk} (e : Int), Ok W l → (∀ b ∈ l, e ≤ b.p) → e ≤ W → (l.length : Int) ≤ W - e
  | [], e, _, _, he => by simp; omega
  | b :: l, e, h, hb, _ => by
    have h1 := ok_len (b.p + b.n) h.tail h.lt h.head.2.2
    have h2 := hb b List.mem_cons_self
    have h3 := h.head
    rw [List.length_cons]
    omega
end
theorem used_take {W : Int} {l : List Bk} (h : Ok W l) (j : Nat) : 0 ≤ used (l.take j) ∧ used (l.take j) ≤ used l := by
  induction l generalizing j with
  | nil => simp [used]
  | cons b l ih =>
    have hu := used_nonneg h.tail
    have hb := h.head
    cases j with
    | zero => simp only [List.take_zero, used]; omega
    | succ j =>
      have := ih h.tail j
      simp only [List.take_succ_cons, used]
      omega
theorem used_snoc (l : List Bk) (b : Bk) : used (l ++ [b]) = used l + b.n := by
  induction l with
  | nil => simp [used]
  | cons a l ih => simp only [List.cons_append, used, ih]; omega

set_option maxRecDepth 100000 in
theorem rused_any {w : World} {base b : Nat} {W : Int} {l : List Bk} (h : IsV w base b W l) :
    Calls Try.prog 21 #[.pointer (some ⟨b, 0, none⟩)] w fun e w' => e = .returned (.int .i64 (used l)) ∧ w = w' := by
  obtain ⟨va, vc, c0, c1, hr⟩ := h.read
  have hok := h.ok
  have hlen := ok_len 0 h.ok (fun b hb => (h.ok.each b hb).1) h.w0
  have hul := used_le 0 h.ok (fun b hb => (h.ok.each b hb).1) h.w0
  have hw1 := h.w1
  have HR := Lib.hid hr
  clear hr h
  go_enter Try.func21, Try.ntmps21
  go_wp2
  go_loop [3, 4] (fun n i => ∃ j : Nat, j ≤ l.length ∧ i = .int .i64 j ∧ n = .int .i64 (used (l.take j))) (fun _ i => l.length - (intOf i).toNat)
  case atStart => exact ⟨0, Nat.zero_le _, rfl, rfl⟩
  case round =>
    obtain ⟨j, hj, rfl, rfl⟩ := hrel
    by_cases hlt : j < l.length
    · obtain ⟨g, o, c, hv, e1, e2⟩ := HR.out.at j hlt
      injection hv with hv1 _ hv2
      subst hv1 hv2
      have hu1 := used_take hok j
      have hu2 := used_take hok (j + 1)
      have hs : used (l.take (j + 1)) = used (l.take j) + l[j].n := by rw [List.take_succ_eq_append_getElem hlt, used_snoc]
      have HS := Lib.hid hs
      have hji : (j : Int) < (l.length : Int) := by omega
      have hb1 : 0 ≤ used (l.take j) + l[j].n := by omega
      have hb2 : used (l.take j) + l[j].n ≤ 4096 := by omega
      clear hs hu2
      go_wp2
      go_round
      case rel => exact ⟨j + 1, by omega, by go_num, by rw [HS.out]⟩
      case measure => simp [intOf]; omega
    · obtain rfl : j = l.length := by omega
      go_wp2
      go_ret
      exact ⟨rfl, rfl⟩

def RoomRel (w : World) (W n : Int) (l : List Bk) (R : Bool) (en i : Value) (wr : World) : Prop :=
  Off [] w wr ∧ ∃ j : Nat, i = .int .i64 j ∧ ∃ e : Int, en = .int .i64 e ∧ ((j ≤ l.length ∧ 0 ≤ e ∧ e ≤ W ∧ (decide (1 ≤ n) && roomAux W n e (l.drop j)) = R) ∨ (j = l.length + 1 ∧ R = false))

set_option maxRecDepth 100000 in
set_option maxHeartbeats 4000000 in
theorem rroom_any {w : World} {base b : Nat} {W : Int} {l : List Bk} (h : IsV w base b W l) (n : Int) :
    Calls Try.prog 19 #[.pointer (some ⟨b, 0, none⟩), .int .i64 n] w fun e w' => e = .returned (.bool (roomB W l n)) ∧ Off [] w w' := by
  have hok := h.ok
  have hlen := ok_len 0 h.ok (fun b hb => (h.ok.each b hb).1) h.w0
  have hw0 := h.w0
  have hw1 := h.w1
  have H := Lib.hid h
  obtain ⟨R, hR⟩ : ∃ R, roomB W l n = R := ⟨_, rfl⟩
  rw [hR]
  have HR := Lib.hid hR
  have HOK := Lib.hid hok
  clear h hR hok
  go_enter Try.func19, Try.ntmps19
  go_wp2
  go_loopw [5, 6] (fun en i wr => RoomRel w W n l R en i wr) (fun _ i _ => l.length + 1 - (intOf i).toNat)
  case atStart => exact ⟨Off.refl _ _, 0, rfl, 0, rfl, .inl ⟨Nat.zero_le _, Int.le_refl _, hw0, by rw [← HR.out]; rfl⟩⟩
  case round =>
    obtain ⟨ho, j, rfl, e, rfl, hc⟩ := hrel
    have HO := Lib.hid ho
    obtain ⟨va, vc, c0, c1, hr⟩ := (H.out.off0 ho).read
    have HRd := Lib.hid hr
    clear ho hr
    rcases hc with ⟨hj, e0, e1, hq⟩ | ⟨rfl, hq⟩
    · have HQ := Lib.hid hq
      clear hq
      have dle : (j : Int) ≤ (l.length : Int) := by omega
      by_cases hlt : j < l.length
      · obtain ⟨g, o, c, hv, a1, a2⟩ := HRd.out.at j hlt
        injection hv with hv1 _ hv2
        subst hv1 hv2
        have hb := HOK.out.each l[j] (List.getElem_mem hlt)
        have hji : (j : Int) < (l.length : Int) := by omega
        have HD := Lib.hid (List.drop_eq_getElem_cons hlt)
        generalize l[j] = x at *
        obtain ⟨p1, p2, p3⟩ := hb
        by_cases n1 : 1 ≤ n
        · have d1 : decide (1 ≤ n) = true := by simpa using n1
          by_cases gap : n ≤ x.p - e
          · have d2 : decide (n ≤ x.p - e) = true := by simpa using gap
            go_wp2
            go_ret
            refine ⟨?_, HO.out⟩
            rw [← HQ.out, HD.out, roomAux, d1, d2]
            rfl
          · have d2 : decide (n ≤ x.p - e) = false := by simpa using gap
            have w1 : IntKind.i64.wrap (x.p + x.n) = x.p + x.n := IntWalk.i64_in _ (by omega)
            go_wp2
            go_quiet (fail)
            go_wp2
            go_roundw
            case rel => exact ⟨HO.out.drewN _, j + 1, by go_num, x.p + x.n, rfl, .inl ⟨by omega, by omega, by omega, by have := HQ.out; rw [HD.out, roomAux, d2, Bool.false_or] at this; exact this⟩⟩
            case measure => simp [intOf]; omega
        · have d1 : decide (1 ≤ n) = false := by simpa using n1
          have w1 : IntKind.i64.wrap (x.p + x.n) = x.p + x.n := IntWalk.i64_in _ (by omega)
          go_wp2
          go_quiet (fail)
          go_wp2
          go_roundw
          case rel => exact ⟨HO.out.drewN _, j + 1, by go_num, x.p + x.n, rfl, .inl ⟨by omega, by omega, by omega, by have := HQ.out; rw [d1, Bool.false_and] at this; rw [d1, Bool.false_and]; exact this⟩⟩
          case measure => simp [intOf]; omega
      · obtain rfl : j = l.length := by omega
        by_cases n1 : 1 ≤ n
        · have d1 : decide (1 ≤ n) = true := by simpa using n1
          by_cases gap : n ≤ W - e
          · have d2 : decide (n ≤ W - e) = true := by simpa using gap
            go_wp2
            go_ret
            refine ⟨?_, HO.out⟩
            rw [← HQ.out, List.drop_length, roomAux, d1, d2]
            rfl
          · have d2 : decide (n ≤ W - e) = false := by simpa using gap
            go_wp2
            go_roundw
            case rel => exact ⟨HO.out, l.length + 1, by go_num, e, rfl, .inr ⟨rfl, by rw [← HQ.out, List.drop_length, roomAux, d2, Bool.and_false]⟩⟩
            case measure => simp [intOf]
        · have d1 : decide (1 ≤ n) = false := by simpa using n1
          go_wp2
          go_roundw
          case rel => exact ⟨HO.out, l.length + 1, by go_num, e, rfl, .inr ⟨rfl, by rw [← HQ.out, d1, Bool.false_and]⟩⟩
          case measure => simp [intOf]
    · have HQ := Lib.hid hq
      clear hq
      go_wp2
      go_ret
      exact ⟨by rw [HQ.out]; rfl, HO.out⟩

/-- What is answered of a block that is there, or of none. -/
def fp (o : Option Bk) : Int := (o.map Bk.p).getD 0
def fn (o : Option Bk) : Int := (o.map Bk.n).getD 0
def AtRel (w : World) (l : List Bk) (q : Bk → Bool) (F : Option Bk) (i : Value) (wr : World) : Prop :=
  Off [] w wr ∧ Blk wr w.heap.size 36 #[.int .i64 0, .int .i64 0] ∧ ∃ j : Nat, j ≤ l.length ∧ i = .int .i64 j ∧ (l.drop j).find? q = F
theorem two_cells {w : World} {b : Nat} {t : TypeId} {x y : Value} (h : Blk w b t #[x, y]) : (∀ i, w.frozen? ⟨b, i, none⟩ = false) ∧ w.cell? ⟨b, 0, none⟩ = some x ∧ w.cell? ⟨b, 1, none⟩ = some y := ⟨h.free, h.cell 0, h.cell 1⟩
theorem two_set {w : World} {b : Nat} {t : TypeId} {x y : Value} (h : Blk w b t #[x, y]) (x' y' : Value) : Blk ((w.setCell ⟨b, 0, none⟩ x').setCell ⟨b, 1, none⟩ y') b t #[x', y'] := ((h.set 0 x').set 1 y').to (by simp)

set_option maxRecDepth 100000 in
set_option maxHeartbeats 4000000 in
theorem rat_any {w : World} {base b : Nat} {W : Int} {l : List Bk} (h : IsV w base b W l) (p : Int) :
    Calls Try.prog 15 #[.pointer (some ⟨b, 0, none⟩), .int .i64 p] w fun e w' => e = .returned (.tuple #[.agg #[.int .i64 (fp (atF l p)), .int .i64 (fn (atF l p))], .bool (atF l p).isSome]) ∧ Off [] w w' := by
  have hlen := ok_len 0 h.ok (fun b hb => (h.ok.each b hb).1) h.w0
  have hw1 := h.w1
  have H := Lib.hid h
  obtain ⟨F, hF⟩ : ∃ F, atF l p = F := ⟨_, rfl⟩
  rw [hF]
  have HF := Lib.hid hF
  clear h hF
  go_enter Try.func15, Try.ntmps15
  go_wp2
  go_loopw [6] (fun i wr => AtRel w l (fun b => b.p == p) F i wr) (fun i _ => l.length - (intOf i).toNat)
  case atStart => exact ⟨(Off.refl _ _).alloc _, Blk.new _ _ _, 0, Nat.zero_le _, rfl, HF.out⟩
  case round =>
    obtain ⟨ho, hb4, j, hj, rfl, hq⟩ := hrel
    have HO := Lib.hid ho
    have HB := Lib.hid hb4
    have HQ := Lib.hid hq
    obtain ⟨va, vc, c0, c1, hr⟩ := (H.out.off0 ho).read
    have HRd := Lib.hid hr
    obtain ⟨fz, z0, z1⟩ := two_cells hb4
    clear ho hr hb4 hq
    by_cases hlt : j < l.length
    · obtain ⟨g, o, c, hv, a1, a2⟩ := HRd.out.at j hlt
      injection hv with hv1 _ hv2
      subst hv1 hv2
      have hji : (j : Int) < (l.length : Int) := by omega
      have HD := Lib.hid (List.drop_eq_getElem_cons hlt)
      generalize l[j] = x at *
      by_cases hx : x.p = p
      · have dx : (x.p == p) = true := by simpa using hx
        have HX := Lib.hid hx
        clear hx
        go_wp2
        obtain ⟨-, y0, y1⟩ := two_cells (two_set HB.out (.int .i64 x.p) (.int .i64 x.n))
        have hFx : F = some x := by rw [← HQ.out, HD.out, List.find?_cons, dx]
        refine bodyPost_ret (v := .tuple #[.agg #[.int .i64 x.p, .int .i64 x.n], .bool true]) (by simp [results, Try.results15, go_sem, y0, y1]) rfl ⟨by rw [hFx]; rfl, (HO.out.set (.inr (Nat.le_refl _)) _).set (.inr (Nat.le_refl _)) _⟩
      · have dx : (x.p == p) = false := by simpa using hx
        clear hx
        go_wp2
        go_roundw
        case rel => exact ⟨HO.out, HB.out, j + 1, by omega, by go_num, by rw [← HQ.out, HD.out, List.find?_cons, dx]⟩
        case measure => simp [intOf]; omega
    · obtain rfl : j = l.length := by omega
      go_wp2
      obtain ⟨-, y0, y1⟩ := two_cells (two_set HB.out (.int .i64 0) (.int .i64 0))
      have hFx : F = none := by rw [← HQ.out, List.drop_length]; rfl
      refine bodyPost_ret (v := .tuple #[.agg #[.int .i64 0, .int .i64 0], .bool false]) (by simp [results, Try.results15, go_sem, y0, y1]) rfl ⟨by rw [hFx]; rfl, (HO.out.set (.inr (Nat.le_refl _)) _).set (.inr (Nat.le_refl _)) _⟩
set_option maxRecDepth 100000 in
set_option maxHeartbeats 4000000 in
theorem rinside_any {w : World} {base b : Nat} {W : Int} {l : List Bk} (h : IsV w base b W l) (p : Int) :
    Calls Try.prog 17 #[.pointer (some ⟨b, 0, none⟩), .int .i64 p] w fun e w' => e = .returned (.tuple #[.agg #[.int .i64 (fp (insideF l p)), .int .i64 (fn (insideF l p))], .bool (insideF l p).isSome]) ∧ Off [] w w' := by
  have hlen := ok_len 0 h.ok (fun b hb => (h.ok.each b hb).1) h.w0
  have hw1 := h.w1
  have H := Lib.hid h
  have HOK := Lib.hid h.ok
  obtain ⟨F, hF⟩ : ∃ F, insideF l p = F := ⟨_, rfl⟩
  rw [hF]
  have HF := Lib.hid hF
  clear h hF
  go_enter Try.func17, Try.ntmps17
  go_wp2
  go_loopw [6] (fun i wr => AtRel w l (inside p) F i wr) (fun i _ => l.length - (intOf i).toNat)
  case atStart => exact ⟨(Off.refl _ _).alloc _, Blk.new _ _ _, 0, Nat.zero_le _, rfl, HF.out⟩
  case round =>
    obtain ⟨ho, hb4, j, hj, rfl, hq⟩ := hrel
    have HO := Lib.hid ho
    have HB := Lib.hid hb4
    have HQ := Lib.hid hq
    obtain ⟨va, vc, c0, c1, hr⟩ := (H.out.off0 ho).read
    have HRd := Lib.hid hr
    obtain ⟨fz, z0, z1⟩ := two_cells hb4
    clear ho hr hb4 hq
    by_cases hlt : j < l.length
    · obtain ⟨g, o, c, hv, a1, a2⟩ := HRd.out.at j hlt
      injection hv with hv1 _ hv2
      subst hv1 hv2
      have hji : (j : Int) < (l.length : Int) := by omega
      have HD := Lib.hid (List.drop_eq_getElem_cons hlt)
      have hb := HOK.out.each l[j] (List.getElem_mem hlt)
      generalize l[j] = x at *
      obtain ⟨p1, p2, p3⟩ := hb
      by_cases h1 : x.p ≤ p
      · have d1 : decide (x.p ≤ p) = true := by simpa using h1
        by_cases h2 : p < x.p + x.n
        · have d2 : decide (p < x.p + x.n) = true := by simpa using h2
          have dx : inside p x = true := by simp [inside, h1, h2]
          have w1 : IntKind.i64.wrap (x.p + x.n) = x.p + x.n := IntWalk.i64_in _ (by omega)
          go_wp2
          go_quiet (fail)
          go_wp2
          obtain ⟨-, y0, y1⟩ := two_cells (two_set (HB.out.drewN nq) (.int .i64 x.p) (.int .i64 x.n))
          have hFx : F = some x := by rw [← HQ.out, HD.out, List.find?_cons, dx]
          refine bodyPost_ret (v := .tuple #[.agg #[.int .i64 x.p, .int .i64 x.n], .bool true]) (by simp [results, Try.results17, go_sem, y0, y1]) rfl ⟨by rw [hFx]; rfl, ((HO.out.drewN nq).set (.inr (Nat.le_refl _)) _).set (.inr (Nat.le_refl _)) _⟩
        · have d2 : decide (p < x.p + x.n) = false := by simpa using h2
          have dx : inside p x = false := by simp [inside, h2]
          have w1 : IntKind.i64.wrap (x.p + x.n) = x.p + x.n := IntWalk.i64_in _ (by omega)
          go_wp2
          go_quiet (fail)
          go_wp2
          go_roundw
          case rel => exact ⟨HO.out.drewN _, HB.out.drewN _, j + 1, by omega, by go_num, by rw [← HQ.out, HD.out, List.find?_cons, dx]⟩
          case measure => simp [intOf]; omega
      · have d1 : decide (x.p ≤ p) = false := by simpa using h1
        have dx : inside p x = false := by simp [inside, h1]
        go_wp2
        go_quiet (fail)
        go_wp2
        go_roundw
        case rel => exact ⟨HO.out.drewN _, HB.out.drewN _, j + 1, by omega, by go_num, by rw [← HQ.out, HD.out, List.find?_cons, dx]⟩
        case measure => simp [intOf]; omega
    · obtain rfl : j = l.length := by omega
      go_wp2
      obtain ⟨-, y0, y1⟩ := two_cells (two_set HB.out (.int .i64 0) (.int .i64 0))
      have hFx : F = none := by rw [← HQ.out, List.drop_length]; rfl
      refine bodyPost_ret (v := .tuple #[.agg #[.int .i64 0, .int .i64 0], .bool false]) (by simp [results, Try.results17, go_sem, y0, y1]) rfl ⟨by rw [hFx]; rfl, (HO.out.set (.inr (Nat.le_refl _)) _).set (.inr (Nat.le_refl _)) _⟩

end Go.Proofs.Ytpkpkfcboimhnaa.Mod
