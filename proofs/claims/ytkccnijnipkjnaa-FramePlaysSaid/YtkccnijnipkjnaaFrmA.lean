/- Package frame: what a stack holds, in its cells; Depth, last, register: a contract each. -/
import Derived.Test.YtkccnijnipkjnaaChecked
import Derived.Test.YtkccnijnipkjnaaMem
import Derived.WalkLawsBesides
import Derived.WalkSpells
import Derived.Deep.MidRow
import Derived.Deep.RegionHeld3
import Derived.BigQuiet
import Derived.RegionTactic
import Derived.ChangeAlike
import Derived.Deep.DeepCutAuto
import Derived.Laws.CopyOwn
import Derived.IntWalk
namespace Go.Proofs.Ytkccnijnipkjnaa.Frm
open Go.RowKit Mem

/-- So many cells of ints, by a function. -/
def memL (M : Nat → Int) (n : Nat) : List Value := (List.range n).map fun i => .int .i64 (M i)
theorem memL_len (M : Nat → Int) (n : Nat) : (memL M n).length = n := by simp [memL]
theorem memL_get (M : Nat → Int) {n i : Nat} (h : i < n) : (memL M n)[i]? = some (.int .i64 (M i)) := by simp [memL, h]
theorem memL_none (M : Nat → Int) {n i : Nat} (h : n ≤ i) : (memL M n)[i]? = none := by simp [memL, h]
theorem memL_one (M : Nat → Int) (n : Nat) : ∀ v ∈ memL M n, v.oneCell' = true := by
  intro v hv
  simp only [memL, List.mem_map] at hv
  obtain ⟨i, _, rfl⟩ := hv
  rfl
theorem memL_all (M : Nat → Int) (n : Nat) : (memL M n).toArray.all (·.oneCell') = true := all_oneCell_toArray (memL_one M n)
theorem memL_succ (M : Nat → Int) (n : Nat) : memL M (n + 1) = .int .i64 (M 0) :: memL (fun i => M (i + 1)) n := by
  simp [memL, List.range_succ_eq_map]
theorem memL_eq {M N : Nat → Int} {n : Nat} (h : ∀ i, i < n → M i = N i) : memL M n = memL N n := by
  unfold memL
  refine List.map_congr_left (fun i hi => ?_)
  rw [h i (by simpa using hi)]
theorem memL_inj {M N : Nat → Int} {n : Nat} (h : memL M n = memL N n) (i : Nat) (hi : i < n) : M i = N i := by
  have e := congrArg (fun l => l[i]?) h
  simp only [memL_get _ hi] at e
  injection e with e
  injection e

/-- One cell put anew; many. -/
def upd (M : Nat → Int) (i : Nat) (x : Int) : Nat → Int := fun k => if k = i then x else M k
def put (M : Nat → Int) (o n : Nat) (f : Nat → Int) : Nat → Int := fun i => if o ≤ i ∧ i < o + n then f (i - o) else M i

/-- A block that is so many ints. -/
structure Ints (w : World) (g : Nat) (t : TypeId) (n : Nat) (M : Nat → Int) : Prop where
  blk : Blk w g t (memL M n).toArray

section
variable {w w' : World} {g : Nat} {t : TypeId} {n : Nat} {M : Nat → Int}
theorem Ints.cell (h : Ints w g t n M) (i : Nat) (hi : i < n) : w.cell? ⟨g, i, none⟩ = some (.int .i64 (M i)) := by
  rw [h.blk.cell]; simpa using memL_get M hi
theorem Ints.free (h : Ints w g t n M) (i : Nat) : w.frozen? ⟨g, i, none⟩ = false := h.blk.free i
theorem Ints.set (h : Ints w g t n M) (i : Nat) (x : Int) : Ints (w.setCell ⟨g, i, none⟩ (.int .i64 x)) g t n (upd M i x) := by
  refine ⟨(h.blk.set i _).to ?_⟩
  apply Array.ext'
  simp only [List.setIfInBounds_toArray]
  apply List.ext_getElem?
  intro k
  rw [List.getElem?_set]
  by_cases hk : k < n
  · rw [memL_get _ hk, memL_get _ hk, memL_len]
    by_cases e : i = k
    · subst e; simp [hk, upd]
    · simp [e, upd, Ne.symm e]
  · rw [memL_none _ (by omega), memL_none _ (by omega), memL_len]
    by_cases e : i = k
    · subst e; simp [hk]
    · simp [e]
theorem Ints.off {S : List Nat} (h : Ints w g t n M) (ho : Off S w w') (hg : g ∉ S) : Ints w' g t n M := ⟨ho.blk h.blk hg⟩
theorem Ints.eq {N : Nat → Int} (h : Ints w g t n M) (e : ∀ i, i < n → M i = N i) : Ints w g t n N := ⟨by rw [← memL_eq e]; exact h.blk⟩
theorem Ints.alloc (h : Ints w g t n M) (o : Obj) : Ints (w.alloc o) g t n M := ⟨h.blk.alloc o⟩
theorem Ints.drewN (h : Ints w g t n M) (k : Nat) : Ints (w.drewN k) g t n M := ⟨h.blk.drewN k⟩
theorem Ints.far (h : Ints w g t n M) {b : Nat} (hb : g ≠ b) (i : Nat) (u : Value) : Ints (w.setCell ⟨b, i, none⟩ u) g t n M := ⟨h.blk.far hb i u⟩
theorem Ints.range (h : Ints w g t n M) (o k : Nat) (hk : o + k ≤ n) : w.rangeAt g o (memL (fun j => M (o + j)) k) := fun j v hv => by
  have hj : j < k := by
    have := (List.getElem?_eq_some_iff.1 hv).1
    simpa [memL_len] using this
  rw [memL_get _ hj] at hv
  rw [h.cell _ (by omega), ← hv]
theorem Ints.there (h : Ints w g t n M) (o k : Nat) (hk : o + k ≤ n) : w.there g o k := fun j hj => ⟨by rw [h.cell _ (by omega)]; rfl, h.free _⟩
end
theorem Ints.setCells {g : Nat} {t : TypeId} {n : Nat} : ∀ (k o : Nat) (f M : Nat → Int) (w : World), Ints w g t n M → Ints (w.setCells g o (memL f k)) g t n (put M o k f)
  | 0, o, f, M, w, h => h.eq (fun i _ => by unfold put; rw [if_neg (by omega)])
  | k + 1, o, f, M, w, h => by
    rw [memL_succ, World.setCells]
    refine (Ints.setCells k (o + 1) _ _ _ (h.set o (f 0))).eq (fun i _ => ?_)
    unfold put upd
    by_cases h1 : i = o
    · subst h1
      rw [if_neg (by omega), if_pos rfl, if_pos (by omega), Nat.sub_self]
    · by_cases h2 : o + 1 ≤ i ∧ i < o + 1 + k
      · rw [if_pos h2, if_pos (by omega)]
        show f (i - (o + 1) + 1) = f (i - o)
        congr 1
        omega
      · rw [if_neg h2, if_neg h1, if_neg (by omega)]
theorem off_setCells {S : List Nat} {a : World} {g : Nat} : ∀ (vs : List Value) (o : Nat) (w : World), Off S a w → (g ∈ S ∨ a.heap.size ≤ g) → Off S a (w.setCells g o vs)
  | [], _, _, h, _ => h
  | v :: r, o, w, h, hg => by
    rw [World.setCells]
    exact off_setCells r (o + 1) _ (h.set (p := ⟨g, o, none⟩) hg v) hg

/-- A stack in block g: 16 frames of ten cells, how many there are, how many there may be. -/
abbrev Mem (w : World) (g : Nat) (M : Nat → Int) : Prop := Ints w g 56 162 M

theorem depth_any {g : Nat} {d : Int} {w : World} (hc : w.cell? ⟨g, 160, none⟩ = some (.int .i64 d)) :
    Calls Try.prog 18 #[.pointer (some ⟨g, 0, none⟩)] w fun e w' => e = .returned (.int .i64 d) ∧ w = w' := by
  go_enter Try.func18, Try.ntmps18
  go_wp2
  go_ret
  exact ⟨rfl, rfl⟩

theorem last_none {g : Nat} {w : World} (hc : w.cell? ⟨g, 160, none⟩ = some (.int .i64 0)) :
    Calls Try.prog 19 #[.pointer (some ⟨g, 0, none⟩)] w fun e w' => e = .returned (.pointer none) ∧ Off [] w w' := by
  go_enter Try.func19, Try.ntmps19
  go_wp2_with (go_at_call 18; refine (depth_any hc).mono ?_; rintro e w' ⟨rfl, rfl⟩)
  go_ret
  exact ⟨rfl, Off.refl _ _⟩

theorem last_some {g k : Nat} {w : World} (hk : k < 16) (hc : w.cell? ⟨g, 160, none⟩ = some (.int .i64 ((k : Int) + 1))) :
    Calls Try.prog 19 #[.pointer (some ⟨g, 0, none⟩)] w fun e w' => e = .returned (.pointer (some ⟨g, k * 10, none⟩)) ∧ Off [] w w' := by
  have h0 : (((k : Int) + 1) == 0) = false := by simp; omega
  have wr : IntKind.i64.wrap ((k : Int) + 1 - 1) = (k : Int) := by
    rw [show (k : Int) + 1 - 1 = k from by omega]
    exact IntWalk.i64_in _ (by omega)
  have b0 : (0 : Int) ≤ k := by omega
  have b1 : (k : Int) < 16 := by omega
  go_enter Try.func19, Try.ntmps19
  go_wp2_with (go_at_call 18; refine (depth_any hc).mono ?_; rintro e w' ⟨rfl, rfl⟩)
  go_quiet (fail)
  go_wp2
  go_ret
  exact ⟨rfl, (Off.refl _ _).drewN _⟩

theorem reg_nil {g : Nat} {r : Int} {w : World} (hc : w.cell? ⟨g, 160, none⟩ = some (.int .i64 0)) :
    Calls Try.prog 20 #[.pointer (some ⟨g, 0, none⟩), .int .i64 r] w fun e w' => e = .returned (.pointer none) ∧ Off [] w w' := by
  go_enter Try.func20, Try.ntmps20
  go_wp2_with (go_at_call 19; refine (last_none hc).mono ?_; rintro e w' ⟨rfl, ho⟩)
  go_ret
  exact ⟨rfl, ho⟩

theorem reg_out {g k : Nat} {r : Int} {w : World} (hk : k < 16) (hc : w.cell? ⟨g, 160, none⟩ = some (.int .i64 ((k : Int) + 1))) (hr : r < 0 ∨ 8 ≤ r) :
    Calls Try.prog 20 #[.pointer (some ⟨g, 0, none⟩), .int .i64 r] w fun e w' => e = .returned (.pointer none) ∧ Off [] w w' := by
  by_cases h0 : r < 0
  · have d0 : decide (r < 0) = true := by simpa using h0
    clear hr
    go_enter Try.func20, Try.ntmps20
    go_wp2_with (go_at_call 19; refine (last_some hk hc).mono ?_; rintro e w' ⟨rfl, ho⟩)
    go_ret
    exact ⟨rfl, ho⟩
  · have d0 : decide (r < 0) = false := by simpa using h0
    have d1 : decide (8 ≤ r) = true := by have : 8 ≤ r := by omega
                                          simpa using this
    clear hr
    go_enter Try.func20, Try.ntmps20
    go_wp2_with (go_at_call 19; refine (last_some hk hc).mono ?_; rintro e w' ⟨rfl, ho⟩)
    go_ret
    exact ⟨rfl, ho⟩

theorem reg_in {g k r : Nat} {w : World} (hk : k < 16) (hr : r < 8) (hc : w.cell? ⟨g, 160, none⟩ = some (.int .i64 ((k : Int) + 1))) :
    Calls Try.prog 20 #[.pointer (some ⟨g, 0, none⟩), .int .i64 r] w fun e w' => e = .returned (.pointer (some ⟨g, k * 10 + 2 + r, none⟩)) ∧ Off [] w w' := by
  have d0 : decide ((r : Int) < 0) = false := by simp
  have d1 : decide (8 ≤ (r : Int)) = false := by simp; omega
  have b1 : (r : Int) < 8 := by omega
  go_enter Try.func20, Try.ntmps20
  go_wp2_with (go_at_call 19; refine (last_some hk hc).mono ?_; rintro e w' ⟨rfl, ho⟩)
  go_ret
  exact ⟨rfl, ho⟩

end Go.Proofs.Ytkccnijnipkjnaa.Frm
