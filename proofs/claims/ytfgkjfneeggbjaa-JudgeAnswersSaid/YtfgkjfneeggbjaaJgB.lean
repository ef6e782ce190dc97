/- The program's judge: what it holds in memory; a client; what an operation takes and gives. -/
import Derived.Test.YtfgkjfneeggbjaaJgA
import Derived.Test.YtfgkjfneeggbjaaJudA
import Derived.StillTailTactics
namespace Go.Proofs.Ytfgkjfneeggbjaa.Jud
open Go.RowKit Mem Go.Proofs.Ytfgkjfneeggbjaa.Mod Go.Proofs.Ytfgkjfneeggbjaa.Plan

/-- Where the operation of a client lies. -/
def tkV (p : Pty) (t : Nat) : Value := if p.asks = true then .pointer (some ⟨t, 0, none⟩) else .pointer none
/-- A row of clients, each in three cells. -/
structure Row3 (w : World) (b n : Nat) (f0 f1 f2 : Nat → Value) : Prop where
  blk : ∃ cs : Array Value, Blk w b 70 cs ∧ cs.size = n * 3 ∧ ∀ i, i < n → cs[i * 3]? = some (f0 i) ∧ cs[i * 3 + 1]? = some (f1 i) ∧ cs[i * 3 + 2]? = some (f2 i)
abbrev Row (w : World) (b n : Nat) (p : Nat → Pty) (tb : Nat → Nat) : Prop := Row3 w b n (fun i => .bool (p i).was) (fun i => .bool (p i).lives) (fun i => tkV (p i) (tb i))
def updV (f : Nat → Value) (i : Nat) (v : Value) : Nat → Value := fun j => if j = i then v else f j
section
variable {w w' : World} {b n : Nat} {f0 f1 f2 : Nat → Value}
theorem Row3.set0 (h : Row3 w b n f0 f1 f2) (i : Nat) (v : Value) : Row3 (w.setCell ⟨b, i * 3, none⟩ v) b n (updV f0 i v) f1 f2 := by
  obtain ⟨cs, hb, hs, hc⟩ := h.blk
  refine ⟨_, hb.set _ _, by simpa using hs, fun j hj => ?_⟩
  obtain ⟨h0, h1, h2⟩ := hc j hj
  unfold updV
  simp only [Array.getElem?_setIfInBounds]
  by_cases e : j = i
  · subst e
    rw [if_pos rfl, if_pos (by omega), if_pos rfl, if_neg (by omega), if_neg (by omega)]
    exact ⟨rfl, h1, h2⟩
  · rw [if_neg (by omega), if_neg e, if_neg (by omega), if_neg (by omega)]
    exact ⟨h0, h1, h2⟩
theorem Row3.set1 (h : Row3 w b n f0 f1 f2) (i : Nat) (v : Value) : Row3 (w.setCell ⟨b, i * 3 + 1, none⟩ v) b n f0 (updV f1 i v) f2 := by
  obtain ⟨cs, hb, hs, hc⟩ := h.blk
  refine ⟨_, hb.set _ _, by simpa using hs, fun j hj => ?_⟩
  obtain ⟨h0, h1, h2⟩ := hc j hj
  unfold updV
  simp only [Array.getElem?_setIfInBounds]
  by_cases e : j = i
  · subst e
    rw [if_neg (by omega), if_pos rfl, if_pos (by omega), if_pos rfl, if_neg (by omega)]
    exact ⟨h0, rfl, h2⟩
  · rw [if_neg (by omega), if_neg (by omega), if_neg e, if_neg (by omega)]
    exact ⟨h0, h1, h2⟩
theorem Row3.set2 (h : Row3 w b n f0 f1 f2) (i : Nat) (v : Value) : Row3 (w.setCell ⟨b, i * 3 + 2, none⟩ v) b n f0 f1 (updV f2 i v) := by
  obtain ⟨cs, hb, hs, hc⟩ := h.blk
  refine ⟨_, hb.set _ _, by simpa using hs, fun j hj => ?_⟩
  obtain ⟨h0, h1, h2⟩ := hc j hj
  unfold updV
  simp only [Array.getElem?_setIfInBounds]
  by_cases e : j = i
  · subst e
    rw [if_neg (by omega), if_neg (by omega), if_pos rfl, if_pos (by omega), if_pos rfl]
    exact ⟨h0, h1, rfl⟩
  · rw [if_neg (by omega), if_neg (by omega), if_neg (by omega), if_neg e]
    exact ⟨h0, h1, h2⟩
theorem Row3.to (h : Row3 w b n f0 f1 f2) {g0 g1 g2 : Nat → Value} (e : ∀ i, i < n → f0 i = g0 i ∧ f1 i = g1 i ∧ f2 i = g2 i) : Row3 w b n g0 g1 g2 := by
  obtain ⟨cs, hb, hs, hc⟩ := h.blk
  refine ⟨cs, hb, hs, fun j hj => ?_⟩
  obtain ⟨e0, e1, e2⟩ := e j hj
  rw [← e0, ← e1, ← e2]
  exact hc j hj
end
/-- Three cells of a row that may be written. -/
structure Cli (w : World) (b o : Nat) (p : Pty) (t : Nat) : Prop where
  c0 : w.cell? ⟨b, o, none⟩ = some (.bool p.was)
  c1 : w.cell? ⟨b, o + 1, none⟩ = some (.bool p.lives)
  c2 : w.cell? ⟨b, o + 2, none⟩ = some (tkV p t)
  z0 : w.frozen? ⟨b, o, none⟩ = false
  z1 : w.frozen? ⟨b, o + 1, none⟩ = false
  z2 : w.frozen? ⟨b, o + 2, none⟩ = false
section
variable {w w' : World} {b n : Nat} {p : Nat → Pty} {tb : Nat → Nat}
theorem Row.cli (h : Row w b n p tb) {i : Nat} (hi : i < n) : Cli w b (i * 3) (p i) (tb i) := by
  obtain ⟨cs, hb, -, hc⟩ := h.blk
  obtain ⟨h0, h1, h2⟩ := hc i hi
  exact ⟨(hb.cell _).trans h0, (hb.cell _).trans h1, (hb.cell _).trans h2, hb.free _, hb.free _, hb.free _⟩
theorem Row.off {S : List Nat} (h : Row w b n p tb) (ho : Off S w w') (hb : b ∉ S) : Row w' b n p tb := by
  obtain ⟨cs, hb', hs, hc⟩ := h.blk
  exact ⟨cs, ho.blk hb' hb, hs, hc⟩
theorem Row.lt (h : Row w b n p tb) : b < w.heap.size := by
  obtain ⟨cs, hb', hs, hc⟩ := h.blk
  exact hb'.lt
theorem Cli.off {S : List Nat} {o t : Nat} {q : Pty} (h : Cli w b o q t) (ho : Off S w w') (hb : b < w.heap.size) (hn : b ∉ S) : Cli w' b o q t :=
  ⟨(ho.cell hb hn).trans h.c0, (ho.cell hb hn).trans h.c1, (ho.cell hb hn).trans h.c2, (ho.frozen hb hn).trans h.z0, (ho.frozen hb hn).trans h.z1, (ho.frozen hb hn).trans h.z2⟩
theorem Cli.lt {o t : Nat} {q : Pty} (h : Cli w b o q t) : b < w.heap.size := World.block_lt_of_cell? w ⟨b, o, none⟩ h.c0
end

set_option maxRecDepth 100000
set_option maxHeartbeats 4000000

theorem known_in {w : World} {g b n i : Nat} {cap : Nat} (hc : w.cell? ⟨g, 1, none⟩ = some (.slice (some ⟨b, 0, none⟩) n cap)) (hi : i < n) :
    Calls Try.prog 28 #[.pointer (some ⟨g, 0, none⟩), .int .i64 (i : Int)] w fun e w' => e = .returned (.pointer (some ⟨b, i * 3, none⟩)) ∧ w = w' := by
  have d1 : decide ((i : Int) < 0) = false := by simp
  have d2 : decide ((n : Int) ≤ (i : Int)) = false := by simp; omega
  have d3 : (i : Int) < (n : Int) := by omega
  go_enter Try.func28, Try.ntmps28
  go_wp2
  go_ret
  exact ⟨rfl, rfl⟩

theorem known_out {w : World} {g n : Nat} {c : Int} {a : Option Addr} {cap : Nat} (hc : w.cell? ⟨g, 1, none⟩ = some (.slice a n cap)) (hi : ¬ (0 ≤ c ∧ c < n)) :
    Calls Try.prog 28 #[.pointer (some ⟨g, 0, none⟩), .int .i64 c] w fun e w' => e = .returned (.pointer none) ∧ w = w' := by
  by_cases h : c < 0
  · have d1 : decide (c < 0) = true := by simpa using h
    clear hi h
    go_enter Try.func28, Try.ntmps28
    go_wp2
    go_ret
    exact ⟨rfl, rfl⟩
  · have d1 : decide (c < 0) = false := by simpa using h
    have d2 : decide ((n : Int) ≤ c) = true := by simp; omega
    clear hi h
    go_enter Try.func28, Try.ntmps28
    go_wp2
    go_ret
    exact ⟨rfl, rfl⟩

def mayP (p : Pty) (e : Ev) : Bool :=
  if e.kind = 0 then !p.was
  else if e.kind = 1 then p.lives
  else if e.kind = 2 then p.lives && !p.asks && decide (1 ≤ e.ok) && decide (e.ok ≤ 4)
  else if e.kind = 3 ∨ e.kind = 4 ∨ e.kind = 5 then p.asks
  else false

theorem may_cli {w : World} {b o t : Nat} {p : Pty} (h : Cli w b o p t) (e : Ev) :
    Calls Try.prog 29 #[.pointer (some ⟨b, o, none⟩), evV e] w fun r w' => r = .returned (.bool (mayP p e)) ∧ Off [] w w' := by
  have hlt := h.lt
  obtain ⟨c0, c1, c2, -, -, -⟩ := h
  obtain ⟨was, lives, asks, took, gave, absent, k, a, m, at_⟩ := p
  obtain ⟨kind, client, ok, oa, on, at', nn, err⟩ := e
  unfold mayP
  dsimp only [tkV] at *
  by_cases k0 : kind = 0
  · subst k0
    go_enter Try.func29, Try.ntmps29
    go_wp2
    go_ret
    exact ⟨rfl, (Off.refl _ _).alloc _⟩
  rw [if_neg k0]
  by_cases k1 : kind = 1
  · subst k1
    clear k0
    go_enter Try.func29, Try.ntmps29
    go_wp2
    go_ret
    exact ⟨rfl, (Off.refl _ _).alloc _⟩
  rw [if_neg k1]
  by_cases k2 : kind = 2
  · subst k2
    clear k0 k1
    rw [if_pos rfl]
    cases lives
    · go_enter Try.func29, Try.ntmps29
      go_wp2
      go_ret
      exact ⟨rfl, (Off.refl _ _).alloc _⟩
    · cases asks
      · simp only [Bool.false_eq_true, if_false] at c2
        by_cases o1 : 1 ≤ ok
        · have d1 : decide (1 ≤ ok) = true := by simpa using o1
          by_cases o4 : ok ≤ 4
          · have d4 : decide (ok ≤ 4) = true := by simpa using o4
            rw [d1, d4]
            clear o1 o4
            go_enter Try.func29, Try.ntmps29
            go_wp2
            go_ret
            exact ⟨rfl, (Off.refl _ _).alloc _⟩
          · have d4 : decide (ok ≤ 4) = false := by simpa using o4
            rw [d1, d4]
            clear o1 o4
            go_enter Try.func29, Try.ntmps29
            go_wp2
            go_ret
            exact ⟨rfl, (Off.refl _ _).alloc _⟩
        · have d1 : decide (1 ≤ ok) = false := by simpa using o1
          rw [d1]
          simp only [Bool.and_false, Bool.false_and]
          clear o1
          go_enter Try.func29, Try.ntmps29
          go_wp2
          go_ret
          exact ⟨rfl, (Off.refl _ _).alloc _⟩
      · simp only [if_true] at c2
        simp only [Bool.not_true, Bool.and_false, Bool.false_and]
        go_enter Try.func29, Try.ntmps29
        go_wp2
        go_ret
        exact ⟨rfl, (Off.refl _ _).alloc _⟩
  rw [if_neg k2]
  by_cases k3 : kind = 3 ∨ kind = 4 ∨ kind = 5
  · rw [if_pos k3]
    clear k0 k1 k2
    cases asks
    · simp only [Bool.false_eq_true, if_false] at c2
      rcases k3 with rfl | rfl | rfl
      all_goals
        go_enter Try.func29, Try.ntmps29
        go_wp2
        go_ret
        exact ⟨rfl, (Off.refl _ _).alloc _⟩
    · simp only [if_true] at c2
      rcases k3 with rfl | rfl | rfl
      all_goals
        go_enter Try.func29, Try.ntmps29
        go_wp2
        go_ret
        exact ⟨rfl, (Off.refl _ _).alloc _⟩
  · rw [if_neg k3]
    have d0 : (kind == 0) = false := by simpa using k0
    have d1 : (kind == 1) = false := by simpa using k1
    have d2 : (kind == 2) = false := by simpa using k2
    have d3 : (kind == 3) = false := by simp; omega
    have d4 : (kind == 4) = false := by simp; omega
    have d5 : (kind == 5) = false := by simp; omega
    clear k0 k1 k2 k3
    go_enter Try.func29, Try.ntmps29
    go_wp2
    go_ret
    exact ⟨rfl, (Off.refl _ _).alloc _⟩

/-- A client is killed; not one that took. -/
theorem kill_no {w : World} {b o t : Nat} {p : Pty} (h : Cli w b o p t) (ha : p.asks = true) (h3 : p.took = true) (ht : Blk w t 72 (tkL p).toArray) :
    Calls Try.prog 30 #[.pointer (some ⟨b, o, none⟩)] w fun r w' => r = .returned (.int .i64 5) ∧ w = w' := by
  have c2 := h.c2
  unfold tkV at c2
  rw [if_pos ha] at c2
  obtain ⟨-, -, -, c3, -, -, -⟩ := tk_cells ht
  rw [h3] at c3
  clear ha h3 h ht
  go_enter Try.func30, Try.ntmps30
  go_wp2
  go_ret
  exact ⟨rfl, rfl⟩
theorem kill_ok {w : World} {b o t : Nat} {p : Pty} (h : Cli w b o p t) (h0 : ¬ (p.asks = true ∧ p.took = true)) (ht : p.asks = true → Blk w t 72 (tkL p).toArray) :
    Calls Try.prog 30 #[.pointer (some ⟨b, o, none⟩)] w fun r w' => r = .returned (.int .i64 0) ∧ w' = (w.setCell ⟨b, o + 1, none⟩ (.bool false)).setCell ⟨b, o + 2, none⟩ (.pointer none) := by
  have hlt := h.lt
  obtain ⟨-, c1, c2, -, z1, z2⟩ := h
  unfold tkV at c2
  by_cases ha : p.asks = true
  · rw [if_pos ha] at c2
    obtain ⟨-, -, -, c3, -, -, -⟩ := tk_cells (ht ha)
    have h3 : p.took = false := by
      cases h : p.took
      · rfl
      · exact absurd ⟨ha, h⟩ h0
    rw [h3] at c3
    clear ha h3 h0 ht
    go_enter Try.func30, Try.ntmps30
    go_wp2
    go_ret
    exact ⟨rfl, rfl⟩
  · rw [if_neg ha] at c2
    clear ha h0 ht
    go_enter Try.func30, Try.ntmps30
    go_wp2
    go_ret
    exact ⟨rfl, rfl⟩

/-- A client's operation is answered, or not. -/
theorem answer_ok {w : World} {b o t : Nat} {p : Pty} (h : Cli w b o p t) (ha : p.asks = true) (ht : Blk w t 72 (tkL p).toArray) (hk : kindOk p) (e : Ev) (hr : answerN p e.err e.at_ = true) :
    Calls Try.prog 33 #[.pointer (some ⟨b, o, none⟩), evV e] w fun r w' => r = .returned (.int .i64 0) ∧ ∃ w1, Off [] w w1 ∧ w' = w1.setCell ⟨b, o + 2, none⟩ (.pointer none) := by
  have HM : Hid (∀ W, Off [] w W → Calls Try.prog 39 #[.pointer (some ⟨t, 0, none⟩), .int .i64 e.err, .int .i64 e.at_] W fun r w' => r = .returned (.bool true) ∧ W = w') := Lib.hid (fun W ho => by
    have := mayAnswer_any (ho.blk ht (by simp)) hk e.err e.at_
    rwa [hr] at this)
  have hlt := h.lt
  obtain ⟨-, -, c2, -, -, z2⟩ := h
  unfold tkV at c2
  rw [if_pos ha] at c2
  clear ht hk ha hr
  obtain ⟨kind, client, ok, oa, on, at', nn, err⟩ := e
  dsimp only at *
  go_enter Try.func33, Try.ntmps33
  go_upto_region 1 with fail
  go_quiet ((go_at_call 39; exact quiet_l (HM.out _ (((Off.refl _ _).alloc _).drewN _))))
  go_wp2
  go_ret
  exact ⟨rfl, _, ((Off.refl _ _).alloc _).drewN _, rfl⟩
theorem answer_no {w : World} {b o t : Nat} {p : Pty} (h : Cli w b o p t) (ha : p.asks = true) (ht : Blk w t 72 (tkL p).toArray) (hk : kindOk p) (e : Ev) (hr : answerN p e.err e.at_ = false) :
    Calls Try.prog 33 #[.pointer (some ⟨b, o, none⟩), evV e] w fun r w' => r = .returned (.int .i64 4) ∧ Off [] w w' := by
  have HM : Hid (∀ W, Off [] w W → Calls Try.prog 39 #[.pointer (some ⟨t, 0, none⟩), .int .i64 e.err, .int .i64 e.at_] W fun r w' => r = .returned (.bool false) ∧ W = w') := Lib.hid (fun W ho => by
    have := mayAnswer_any (ho.blk ht (by simp)) hk e.err e.at_
    rwa [hr] at this)
  have hlt := h.lt
  obtain ⟨-, -, c2, -, -, z2⟩ := h
  unfold tkV at c2
  rw [if_pos ha] at c2
  clear ht hk ha hr
  obtain ⟨kind, client, ok, oa, on, at', nn, err⟩ := e
  dsimp only at *
  go_enter Try.func33, Try.ntmps33
  go_upto_region 1 with fail
  go_quiet ((go_at_call 39; exact quiet_l (HM.out _ (((Off.refl _ _).alloc _).drewN _))))
  go_wp2
  go_ret
  exact ⟨rfl, ((Off.refl _ _).alloc _).drewN _⟩

/-- What an operation takes. -/
theorem take_silent {w : World} {g t : Nat} {p : Pty} (ht : Blk w t 72 (tkL p).toArray) (hk : kindOk p) (e : Ev) (h0 : tookN p e.n = false) :
    Calls Try.prog 31 #[.pointer (some ⟨g, 0, none⟩), .pointer (some ⟨t, 0, none⟩), evV e] w fun r w' => r = .returned (.int .i64 5) ∧ Off [] w w' := by
  have HM : Hid (∀ W, Off [] w W → Calls Try.prog 35 #[.pointer (some ⟨t, 0, none⟩), .int .i64 e.n] W fun r w' => r = .returned (.bool false) ∧ W = w') := Lib.hid (fun W ho => by
    have := mayTake_any (ho.blk ht (by simp)) hk e.n
    rwa [h0] at this)
  clear ht hk h0
  obtain ⟨kind, client, ok, oa, on, at', nn, err⟩ := e
  dsimp only at *
  go_enter Try.func31, Try.ntmps31
  go_wp2_with (go_at_call 35; refine (HM.out _ ((Off.refl _ _).alloc _)).mono ?_; rintro e w' ⟨rfl, rfl⟩)
  go_ret
  exact ⟨rfl, (Off.refl _ _).alloc _⟩


/-- The model does not take it. -/
theorem take_no {w : World} {g h t : Nat} {Fm : List Nat} {W : Int} {l : List Bk} {p : Pty} (hm : w.cell? ⟨g, 0, none⟩ = some (.pointer (some ⟨h, 0, none⟩))) (hd : IsD w h Fm W l) (ht : Blk w t 72 (tkL p).toArray) (hk : kindOk p) (e : Ev) (h1 : tookN p e.n = true) (h0 : canB W l e.at_ e.n = false) :
    Calls Try.prog 31 #[.pointer (some ⟨g, 0, none⟩), .pointer (some ⟨t, 0, none⟩), evV e] w fun r w' => r = .returned (.int .i64 2) ∧ (∃ F', IsD w' h F' W l ∧ ∀ k ∈ F', k ∈ Fm ∨ w.heap.size ≤ k) ∧ Off Fm w w' := by
  have HM : Hid (∀ W, Off [] w W → Calls Try.prog 35 #[.pointer (some ⟨t, 0, none⟩), .int .i64 e.n] W fun r w' => r = .returned (.bool true) ∧ W = w') := Lib.hid (fun W ho => by
    have := mayTake_any (ho.blk ht (by simp)) hk e.n
    rwa [h1] at this)
  have HT : Hid (∀ w2, Off [] w w2 → Calls Try.prog 36 #[.pointer (some ⟨h, 0, none⟩), .int .i64 e.at_, .int .i64 e.n] w2 fun r w' => r = .returned (.bool false) ∧ (∃ F', IsD w' h F' W l ∧ ∀ k ∈ F', k ∈ Fm ∨ w.heap.size ≤ k) ∧ Off Fm w w') := Lib.hid (fun w2 ho => by
    have := dtake_any (hd.off0 ho) e.at_ e.n
    rw [h0] at this
    refine this.mono ?_
    rintro r w' ⟨hr, ⟨F', h2, h3⟩, h4⟩
    have hs := ho.size
    have : takeL W l e.at_ e.n = l := by unfold takeL; rw [h0]; rfl
    rw [this] at h2
    exact ⟨hr, ⟨F', h2, fun k hk => (h3 k hk).imp id (fun h => by omega)⟩, (ho.more (by simp)).trans h4⟩)
  have hlt : g < w.heap.size := World.block_lt_of_cell? w ⟨g, 0, none⟩ hm
  clear ht hk h1 h0 hd
  obtain ⟨kind, client, ok, oa, on, at', nn, err⟩ := e
  dsimp only at *
  go_enter Try.func31, Try.ntmps31
  go_upto_region 3 with (go_at_call 35; refine (HM.out _ ((Off.refl _ _).alloc _)).mono ?_; rintro e w' ⟨rfl, rfl⟩)
  refine at_worldJ (R := fun W' => Off [] w W' ∧ Blk W' w.heap.size 41 #[.int .i64 kind, .int .i64 client, .int .i64 ok, .int .i64 oa, .int .i64 on, .int .i64 at', .int .i64 nn, .int .i64 err]) ⟨(Off.refl _ _).alloc _, Blk.new _ _ _⟩ ?_
  rintro W1 ⟨o1, hb⟩
  have e3 := hb.cell 5
  have e4 := hb.cell 6
  have m1 := (o1.cell (p := ⟨g, 0, none⟩) hlt (by simp)).trans hm
  clear hb HM hm
  go_still_tail 8, (by kernel_rfl)
  go_wp2_with (go_at_call 36; refine (HT.out _ o1.drew).mono ?_; rintro r w' ⟨rfl, hr⟩)
  go_ret
  exact ⟨rfl, hr⟩

end Go.Proofs.Ytfgkjfneeggbjaa.Jud
