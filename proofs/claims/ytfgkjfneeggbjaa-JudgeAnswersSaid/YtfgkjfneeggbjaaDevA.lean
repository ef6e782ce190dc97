/- The program's model (package model): what it holds in memory; what is asked of it that changes nothing: a contract each. -/
import Derived.Test.YtfgkjfneeggbjaaModB
import Derived.Test.YtfgkjfneeggbjaaDevM
import Derived.StillTailTactics
namespace Go.Proofs.Ytfgkjfneeggbjaa.Mod
open Go.RowKit Mem

/-- The program's model in block g: how many words, its row; the blocks of memory F that are its own. -/
structure IsD (w : World) (g : Nat) (F : List Nat) (W : Int) (l : List Bk) : Prop where
  head : ∃ lv, Blk w g 61 #[.int .i64 W, lv] ∧ w.ownsRow 0 46 2 lv l.length (l.flatMap bkL) ∧ F = g :: lv.ownBlock.toList
  ok : Ok W l
  w0 : 0 ≤ W
  w1 : W ≤ 4096

section
variable {w w' : World} {g : Nat} {F : List Nat} {W : Int} {l : List Bk}
theorem IsD.keep {S : List Nat} (h : IsD w g F W l) (ho : Off S w w') (hs : ∀ k ∈ S, k ∉ F) : IsD w' g F W l := by
  obtain ⟨lv, hh, hown, hF⟩ := h.head
  refine ⟨⟨lv, ho.blk hh (fun m => hs g m (by rw [hF]; simp)), own_keep hown (fun c cur hc hb => ho.block c (⟨hc⟩ : Blk w c _ _).lt (fun m => hs c m (by rw [hF, hb]; simp))), hF⟩, h.ok, h.w0, h.w1⟩
theorem IsD.off0 (h : IsD w g F W l) (ho : Off [] w w') : IsD w' g F W l := h.keep ho (by simp)
theorem IsD.lt (h : IsD w g F W l) : ∀ k ∈ F, k < w.heap.size := by
  obtain ⟨lv, hh, hown, rfl⟩ := h.head
  intro k hk
  rcases List.mem_cons.1 hk with rfl | hk
  · exact hh.lt
  · exact (hown.lt k (by simpa using hk)).2
theorem blk_typ {t t' : TypeId} {cs cs' : Array Value} (h : Blk w g t cs) (h' : Blk w g t' cs') : t = t' := by
  have e := h.eq.symm.trans h'.eq
  injection e with e
  injection e
theorem IsD.typ (h : IsD w g F W l) : ∀ k ∈ F, ∀ t cs, Blk w k t cs → t = 61 ∨ t = 46 := by
  obtain ⟨lv, hh, hown, rfl⟩ := h.head
  intro k hk t cs hb
  rcases List.mem_cons.1 hk with rfl | hk
  · exact .inl (blk_typ hb hh)
  · rcases hown.2 with ⟨rfl, _⟩ | ⟨r, cap, cur, rfl, _, hc, _⟩
    · simp [Value.ownBlock] at hk
    · simp [Value.ownBlock] at hk
      subst hk
      exact .inr (blk_typ hb ⟨hc⟩)
/-- What a reader meets. -/
theorem IsD.read (h : IsD w g F W l) : ∃ va vc, w.cell? ⟨g, 0, none⟩ = some (.int .i64 W) ∧ w.cell? ⟨g, 1, none⟩ = some (.slice va l.length vc) ∧ Rd w (.slice va l.length vc) l := by
  obtain ⟨lv, hh, hown, -⟩ := h.head
  have hr := rd_own hown
  obtain ⟨va, vc, rfl⟩ := hr.len
  exact ⟨va, vc, hh.cell 0, hh.cell 1, hr⟩
theorem IsD.len (h : IsD w g F W l) : (l.length : Int) ≤ 4096 := by
  have := ok_len 0 h.ok (fun b hb => (h.ok.each b hb).1) h.w0
  have := h.w1
  omega
end

def UsedRelD (w : World) (l : List Bk) (n i : Value) (wr : World) : Prop :=
  Off [] w wr ∧ ∃ j : Nat, j ≤ l.length ∧ i = .int .i64 j ∧ n = .int .i64 (used (l.take j))

set_option maxRecDepth 100000 in
set_option maxHeartbeats 4000000 in
theorem used_any {w : World} {g : Nat} {F : List Nat} {W : Int} {l : List Bk} (h : IsD w g F W l) :
    Calls Try.prog 11 #[.pointer (some ⟨g, 0, none⟩)] w fun e w' => e = .returned (.int .i64 (used l)) ∧ Off [] w w' := by
  obtain ⟨va, vc, c0, c1, hr⟩ := h.read
  have hok := h.ok
  have hlen := h.len
  have hul := used_le 0 h.ok (fun b hb => (h.ok.each b hb).1) h.w0
  have hw1 := h.w1
  have HR := Lib.hid hr
  clear hr h
  go_enter Try.func11, Try.ntmps11
  go_wp2
  go_loopw [3, 5, 13] (fun n _ i wr => UsedRelD w l n i wr) (fun _ _ i _ => l.length - (intOf i).toNat)
  case atStart => exact ⟨Off.refl _ _, 0, Nat.zero_le _, rfl, rfl⟩
  case round =>
    obtain ⟨ho, j, hj, rfl, rfl⟩ := hrel
    have HO := Lib.hid ho
    have RD := Lib.hid (HR.out.off ho (by simp))
    clear ho
    by_cases hlt : j < l.length
    · obtain ⟨g, o, c, hv, e1, e2⟩ := RD.out.at j hlt
      injection hv with hv1 _ hv2
      subst hv1 hv2
      have hu1 := used_take hok j
      have hu2 := used_take hok (j + 1)
      have hs : used (l.take (j + 1)) = used (l.take j) + l[j].n := by rw [List.take_succ_eq_append_getElem hlt, used_snoc]
      have HS := Lib.hid hs
      have hji : (j : Int) < (l.length : Int) := by omega
      have hb1 : 0 ≤ used (l.take j) + l[j].n := by omega
      have hb2 : used (l.take j) + l[j].n ≤ 4096 := by omega
      clear hs hu2
      go_wp2
      go_roundw
      case rel => exact ⟨HO.out.alloc _, j + 1, by omega, by go_num, by rw [HS.out]⟩
      case measure => simp [intOf]; omega
    · obtain rfl : j = l.length := by omega
      go_wp2
      go_ret
      exact ⟨by rw [List.take_length]; rfl, HO.out⟩

def RoomRelD (w : World) (W n : Int) (l : List Bk) (R : Bool) (en i : Value) (wr : World) : Prop :=
  Off [] w wr ∧ ∃ j : Nat, j ≤ l.length ∧ i = .int .i64 j ∧ ∃ e : Int, en = .int .i64 e ∧ 0 ≤ e ∧ e ≤ W ∧ roomAux W n e (l.drop j) = R

set_option maxRecDepth 100000 in
theorem within_any {w : World} {g : Nat} {F : List Nat} {W : Int} {l : List Bk} (h : IsD w g F W l) (p n : Int) :
    Calls Try.prog 43 #[.pointer (some ⟨g, 0, none⟩), .int .i64 p, .int .i64 n] w fun e w' => e = .returned (.bool (decide (1 ≤ n ∧ 0 ≤ p ∧ p + n ≤ W))) ∧ w = w' := by
  have hw0 := h.w0
  have hw1 := h.w1
  obtain ⟨va, vc, c0, c1, -⟩ := h.read
  clear h
  by_cases k1 : 1 ≤ n
  · have d1 : decide (1 ≤ n) = true := by simpa using k1
    by_cases k2 : n ≤ W
    · have d2 : decide (n ≤ W) = true := by simpa using k2
      have w1 : IntKind.i64.wrap (W - n) = W - n := IntWalk.i64_in _ (by omega)
      by_cases k3 : 0 ≤ p
      · have d3 : decide (0 ≤ p) = true := by simpa using k3
        have e : decide (1 ≤ n ∧ 0 ≤ p ∧ p + n ≤ W) = decide (p ≤ W - n) := by
          by_cases k4 : p ≤ W - n
          · rw [decide_eq_true k4, decide_eq_true (by omega)]
          · rw [decide_eq_false k4, decide_eq_false (by omega)]
        rw [e]
        clear e
        go_enter Try.func43, Try.ntmps43
        go_wp2
        go_ret
        exact ⟨rfl, rfl⟩
      · have d3 : decide (0 ≤ p) = false := by simpa using k3
        rw [decide_eq_false (by omega : ¬ (1 ≤ n ∧ 0 ≤ p ∧ p + n ≤ W))]
        go_enter Try.func43, Try.ntmps43
        go_wp2
        go_ret
        exact ⟨rfl, rfl⟩
    · have d2 : decide (n ≤ W) = false := by simpa using k2
      rw [decide_eq_false (by omega : ¬ (1 ≤ n ∧ 0 ≤ p ∧ p + n ≤ W))]
      go_enter Try.func43, Try.ntmps43
      go_wp2
      go_ret
      exact ⟨rfl, rfl⟩
  · have d1 : decide (1 ≤ n) = false := by simpa using k1
    rw [decide_eq_false (by omega : ¬ (1 ≤ n ∧ 0 ≤ p ∧ p + n ≤ W))]
    go_enter Try.func43, Try.ntmps43
    go_wp2
    go_ret
    exact ⟨rfl, rfl⟩

theorem isD_new {w : World} {g : Nat} {W : Int} (h : Blk w g 61 #[.int .i64 W, .slice none 0 0]) (h0 : 0 ≤ W) (h1 : W ≤ 4096) : IsD w g [g] W [] :=
  ⟨⟨_, h, World.ownsRow_nil _ _ _ _, rfl⟩, Ok.nil W, h0, h1⟩

set_option maxRecDepth 100000 in
theorem new_any (m : Int) (w : World) :
    Calls Try.prog 18 #[.int .i64 m] w fun e w' => e = .returned (.pointer (some ⟨w.heap.size, 0, none⟩)) ∧ IsD w' w.heap.size [w.heap.size] (clampW m) [] ∧ Off [] w w' := by
  by_cases h0 : m < 0
  · have d0 : decide (m < 0) = true := by simpa using h0
    have e : clampW m = 0 := by unfold clampW; rw [if_neg (by omega)]
    rw [e]
    clear e
    go_enter Try.func18, Try.ntmps18
    go_wp2
    go_ret
    exact ⟨rfl, isD_new (Blk.new _ _ _) (by decide) (by decide), (Off.refl _ _).alloc _⟩
  · have d0 : decide (m < 0) = false := by simpa using h0
    by_cases h1 : 4096 < m
    · have d1 : decide (4096 < m) = true := by simpa using h1
      have e : clampW m = 0 := by unfold clampW; rw [if_neg (by omega)]
      rw [e]
      clear e
      go_enter Try.func18, Try.ntmps18
      go_wp2
      go_ret
      exact ⟨rfl, isD_new (Blk.new _ _ _) (by decide) (by decide), (Off.refl _ _).alloc _⟩
    · have d1 : decide (4096 < m) = false := by simpa using h1
      have e : clampW m = m := by unfold clampW; rw [if_pos (by omega)]
      rw [e]
      clear e
      go_enter Try.func18, Try.ntmps18
      go_wp2
      go_ret
      exact ⟨rfl, isD_new (Blk.new _ _ _) (by omega) (by omega), (Off.refl _ _).alloc _⟩

end Go.Proofs.Ytfgkjfneeggbjaa.Mod
