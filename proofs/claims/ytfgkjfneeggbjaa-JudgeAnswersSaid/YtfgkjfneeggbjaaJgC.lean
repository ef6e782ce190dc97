/- The program's judge: what an operation takes and gives. -/
import Derived.Test.YtfgkjfneeggbjaaJgB
namespace Go.Proofs.Ytfgkjfneeggbjaa.Jud
open Go.RowKit Mem Go.Proofs.Ytfgkjfneeggbjaa.Mod Go.Proofs.Ytfgkjfneeggbjaa.Plan
set_option maxRecDepth 100000
set_option maxHeartbeats 4000000

theorem not_in {w : World} {h t : Nat} {Fm : List Nat} {W : Int} {l : List Bk} {ty : TypeId} {cs : Array Value} (hd : IsD w h Fm W l) (hb : Blk w t ty cs) (h1 : ty ≠ 61) (h2 : ty ≠ 46) : t ∉ Fm := fun hm => by
  rcases hd.typ t hm _ _ hb with e | e
  · exact h1 e
  · exact h2 e

/-- The model takes it. -/
theorem take_ok {w : World} {g h t : Nat} {Fm : List Nat} {W : Int} {l : List Bk} {p : Pty} (hm : w.cell? ⟨g, 0, none⟩ = some (.pointer (some ⟨h, 0, none⟩))) (hd : IsD w h Fm W l) (ht : Blk w t 72 (tkL p).toArray) (hk : kindOk p) (e : Ev) (h1 : tookN p e.n = true) (h0 : canB W l e.at_ e.n = true) :
    Calls Try.prog 31 #[.pointer (some ⟨g, 0, none⟩), .pointer (some ⟨t, 0, none⟩), evV e] w fun r w' => r = .returned (.int .i64 0) ∧ ∃ w5, ((∃ F', IsD w5 h F' W (ins l e.at_ e.n) ∧ ∀ k ∈ F', k ∈ Fm ∨ w.heap.size ≤ k) ∧ Off Fm w w5) ∧ w' = (w5.setCell ⟨t, 3, none⟩ (.bool true)).setCell ⟨t, 5, none⟩ (.int .i64 e.at_) := by
  have HM : Hid (∀ W, Off [] w W → Calls Try.prog 35 #[.pointer (some ⟨t, 0, none⟩), .int .i64 e.n] W fun r w' => r = .returned (.bool true) ∧ W = w') := Lib.hid (fun W ho => by
    have := mayTake_any (ho.blk ht (by simp)) hk e.n
    rwa [h1] at this)
  have HT : Hid (∀ w2, Off [] w w2 → Calls Try.prog 36 #[.pointer (some ⟨h, 0, none⟩), .int .i64 e.at_, .int .i64 e.n] w2 fun r w' => r = .returned (.bool true) ∧ ((∃ F', IsD w' h F' W (ins l e.at_ e.n) ∧ ∀ k ∈ F', k ∈ Fm ∨ w.heap.size ≤ k) ∧ Off Fm w w') ∧ Off Fm w2 w') := Lib.hid (fun w2 ho => by
    have := dtake_any (hd.off0 ho) e.at_ e.n
    rw [h0] at this
    refine this.mono ?_
    rintro r w' ⟨hr, ⟨F', h2, h3⟩, h4⟩
    have hs := ho.size
    have : takeL W l e.at_ e.n = ins l e.at_ e.n := by unfold takeL; rw [h0]; rfl
    rw [this] at h2
    exact ⟨hr, ⟨⟨F', h2, fun k hk => (h3 k hk).imp id (fun h => by omega)⟩, (ho.more (by simp)).trans h4⟩, h4⟩)
  have hlt : g < w.heap.size := World.block_lt_of_cell? w ⟨g, 0, none⟩ hm
  have HTL := Lib.hid ht
  have HNI := Lib.hid (not_in hd ht (by decide) (by decide))
  have HLT := Lib.hid hd.lt
  clear ht hk h1 h0 hd
  obtain ⟨kind, client, ok, oa, on, at', nn, err⟩ := e
  dsimp only at *
  go_enter Try.func31, Try.ntmps31
  go_upto_region 3 with (go_at_call 35; refine (HM.out _ ((Off.refl _ _).alloc _)).mono ?_; rintro e w' ⟨rfl, rfl⟩)
  refine at_worldJ (R := fun W' => Off [] w W' ∧ Blk W' w.heap.size 41 #[.int .i64 kind, .int .i64 client, .int .i64 ok, .int .i64 oa, .int .i64 on, .int .i64 at', .int .i64 nn, .int .i64 err]) ⟨(Off.refl _ _).alloc _, Blk.new _ _ _⟩ ?_
  rintro W1 ⟨o1, hb⟩
  have e3 := hb.cell 5
  have e4 := hb.cell 6
  have m1 := (o1.cell (p := ⟨g, 0, none⟩) hlt (by simp)).trans hm
  have HB := Lib.hid hb
  have hsz := hb.lt
  clear hb HM hm
  go_still_tail 8, (by kernel_rfl)
  go_upto_region 5 with (go_at_call 36; refine (HT.out _ o1.drew).mono ?_; rintro r w' ⟨rfl, hr, o2⟩)
  refine at_worldJ (R := fun W' => ((∃ F', IsD W' h F' W (ins l at' nn) ∧ ∀ k ∈ F', k ∈ Fm ∨ w.heap.size ≤ k) ∧ Off Fm w W') ∧ W'.cell? ⟨w.heap.size, 5, none⟩ = some (.int .i64 at') ∧ Blk W' t 72 (tkL p).toArray) ⟨hr, ?_, hr.2.blk HTL.out HNI.out⟩ ?_
  · exact (o2.blk ⟨HB.out.eq⟩ (fun hm => by have := HLT.out _ hm; omega)).cell 5
  clear e3 e4 m1 HB hr o2 o1 HT hsz
  rintro W2 ⟨hr, e3, ht⟩
  have c3 := ht.cell 3
  have z3 := ht.free 3
  have c5 := ht.cell 5
  have z5 := ht.free 5
  have HR := Lib.hid hr
  clear ht hr HTL
  go_region
  go_wp2
  go_ret
  exact ⟨rfl, W2.drew, ⟨HR.out.1.imp fun F' h => ⟨h.1.off0 (Off.refl _ _).drew, h.2⟩, HR.out.2.drew⟩, rfl⟩

theorem give_noop {l : List Bk} {p : Int} (h : giveB l p = false) : give l p = l := by
  unfold give
  rw [List.filter_eq_self]
  intro b hb
  simp only [giveB, List.any_eq_false] at h
  simpa using h b hb
/-- What an operation gives. -/
theorem jgive_silent {w : World} {g t : Nat} {p : Pty} (ht : Blk w t 72 (tkL p).toArray) (hk : kindOk p) (e : Ev) (h0 : gaveN p e.at_ = false) :
    Calls Try.prog 32 #[.pointer (some ⟨g, 0, none⟩), .pointer (some ⟨t, 0, none⟩), evV e] w fun r w' => r = .returned (.int .i64 5) ∧ Off [] w w' := by
  have HM : Hid (∀ W, Off [] w W → Calls Try.prog 37 #[.pointer (some ⟨t, 0, none⟩), .int .i64 e.at_] W fun r w' => r = .returned (.bool false) ∧ W = w') := Lib.hid (fun W ho => by
    have := mayGive_any (ho.blk ht (by simp)) hk e.at_
    rwa [h0] at this)
  clear ht hk h0
  obtain ⟨kind, client, ok, oa, on, at', nn, err⟩ := e
  dsimp only at *
  go_enter Try.func32, Try.ntmps32
  go_wp2_with (go_at_call 37; refine (HM.out _ ((Off.refl _ _).alloc _)).mono ?_; rintro e w' ⟨rfl, rfl⟩)
  go_ret
  exact ⟨rfl, (Off.refl _ _).alloc _⟩

/-- The model does not give it. -/
theorem jgive_no {w : World} {g h t : Nat} {Fm : List Nat} {W : Int} {l : List Bk} {p : Pty} (hm : w.cell? ⟨g, 0, none⟩ = some (.pointer (some ⟨h, 0, none⟩))) (hd : IsD w h Fm W l) (ht : Blk w t 72 (tkL p).toArray) (hk : kindOk p) (e : Ev) (h1 : gaveN p e.at_ = true) (h0 : giveB l e.at_ = false) :
    Calls Try.prog 32 #[.pointer (some ⟨g, 0, none⟩), .pointer (some ⟨t, 0, none⟩), evV e] w fun r w' => r = .returned (.int .i64 3) ∧ (∃ F', IsD w' h F' W l ∧ ∀ k ∈ F', k ∈ Fm ∨ w.heap.size ≤ k) ∧ Off Fm w w' := by
  have HM : Hid (∀ W, Off [] w W → Calls Try.prog 37 #[.pointer (some ⟨t, 0, none⟩), .int .i64 e.at_] W fun r w' => r = .returned (.bool true) ∧ W = w') := Lib.hid (fun W ho => by
    have := mayGive_any (ho.blk ht (by simp)) hk e.at_
    rwa [h1] at this)
  have HT : Hid (∀ w2, Off [] w w2 → Calls Try.prog 38 #[.pointer (some ⟨h, 0, none⟩), .int .i64 e.at_] w2 fun r w' => r = .returned (.bool false) ∧ (∃ F', IsD w' h F' W l ∧ ∀ k ∈ F', k ∈ Fm ∨ w.heap.size ≤ k) ∧ Off Fm w w') := Lib.hid (fun w2 ho => by
    have := dgive_any (hd.off0 ho) e.at_
    rw [h0] at this
    refine this.mono ?_
    rintro r w' ⟨hr, ⟨F', h2, h3⟩, h4⟩
    have hs := ho.size
    rw [give_noop h0] at h2
    exact ⟨hr, ⟨F', h2, fun k hk => (h3 k hk).imp id (fun h => by omega)⟩, (ho.more (by simp)).trans h4⟩)
  have hlt : g < w.heap.size := World.block_lt_of_cell? w ⟨g, 0, none⟩ hm
  clear ht hk h1 h0 hd
  obtain ⟨kind, client, ok, oa, on, at', nn, err⟩ := e
  dsimp only at *
  go_enter Try.func32, Try.ntmps32
  go_upto_region 3 with (go_at_call 37; refine (HM.out _ ((Off.refl _ _).alloc _)).mono ?_; rintro e w' ⟨rfl, rfl⟩)
  refine at_worldJ (R := fun W' => Off [] w W' ∧ Blk W' w.heap.size 41 #[.int .i64 kind, .int .i64 client, .int .i64 ok, .int .i64 oa, .int .i64 on, .int .i64 at', .int .i64 nn, .int .i64 err]) ⟨(Off.refl _ _).alloc _, Blk.new _ _ _⟩ ?_
  rintro W1 ⟨o1, hb⟩
  have e3 := hb.cell 5
  have m1 := (o1.cell (p := ⟨g, 0, none⟩) hlt (by simp)).trans hm
  clear hb HM hm
  go_still_tail 6, (by kernel_rfl)
  go_wp2_with (go_at_call 38; refine (HT.out _ o1.drew).mono ?_; rintro r w' ⟨rfl, hr⟩)
  go_ret
  exact ⟨rfl, hr⟩

/-- The model gives it. -/
theorem jgive_ok {w : World} {g h t : Nat} {Fm : List Nat} {W : Int} {l : List Bk} {p : Pty} (hm : w.cell? ⟨g, 0, none⟩ = some (.pointer (some ⟨h, 0, none⟩))) (hd : IsD w h Fm W l) (ht : Blk w t 72 (tkL p).toArray) (hk : kindOk p) (e : Ev) (h1 : gaveN p e.at_ = true) (h0 : giveB l e.at_ = true) :
    Calls Try.prog 32 #[.pointer (some ⟨g, 0, none⟩), .pointer (some ⟨t, 0, none⟩), evV e] w fun r w' => r = .returned (.int .i64 0) ∧ ∃ w5, ((∃ F', IsD w5 h F' W (give l e.at_) ∧ ∀ k ∈ F', k ∈ Fm ∨ w.heap.size ≤ k) ∧ Off Fm w w5) ∧ w' = w5.setCell ⟨t, 4, none⟩ (.bool true) := by
  have HM : Hid (∀ W, Off [] w W → Calls Try.prog 37 #[.pointer (some ⟨t, 0, none⟩), .int .i64 e.at_] W fun r w' => r = .returned (.bool true) ∧ W = w') := Lib.hid (fun W ho => by
    have := mayGive_any (ho.blk ht (by simp)) hk e.at_
    rwa [h1] at this)
  have HT : Hid (∀ w2, Off [] w w2 → Calls Try.prog 38 #[.pointer (some ⟨h, 0, none⟩), .int .i64 e.at_] w2 fun r w' => r = .returned (.bool true) ∧ (∃ F', IsD w' h F' W (give l e.at_) ∧ ∀ k ∈ F', k ∈ Fm ∨ w.heap.size ≤ k) ∧ Off Fm w w') := Lib.hid (fun w2 ho => by
    have := dgive_any (hd.off0 ho) e.at_
    rw [h0] at this
    refine this.mono ?_
    rintro r w' ⟨hr, ⟨F', h2, h3⟩, h4⟩
    have hs := ho.size
    exact ⟨hr, ⟨F', h2, fun k hk => (h3 k hk).imp id (fun h => by omega)⟩, (ho.more (by simp)).trans h4⟩)
  have hlt : g < w.heap.size := World.block_lt_of_cell? w ⟨g, 0, none⟩ hm
  have HTL := Lib.hid ht
  have HNI := Lib.hid (not_in hd ht (by decide) (by decide))
  clear ht hk h1 h0 hd
  obtain ⟨kind, client, ok, oa, on, at', nn, err⟩ := e
  dsimp only at *
  go_enter Try.func32, Try.ntmps32
  go_upto_region 3 with (go_at_call 37; refine (HM.out _ ((Off.refl _ _).alloc _)).mono ?_; rintro e w' ⟨rfl, rfl⟩)
  refine at_worldJ (R := fun W' => Off [] w W' ∧ Blk W' w.heap.size 41 #[.int .i64 kind, .int .i64 client, .int .i64 ok, .int .i64 oa, .int .i64 on, .int .i64 at', .int .i64 nn, .int .i64 err]) ⟨(Off.refl _ _).alloc _, Blk.new _ _ _⟩ ?_
  rintro W1 ⟨o1, hb⟩
  have e3 := hb.cell 5
  have m1 := (o1.cell (p := ⟨g, 0, none⟩) hlt (by simp)).trans hm
  clear hb HM hm
  go_still_tail 6, (by kernel_rfl)
  go_upto_region 5 with (go_at_call 38; refine (HT.out _ o1.drew).mono ?_; rintro r w' ⟨rfl, hr⟩)
  have ht := hr.2.blk HTL.out HNI.out
  have c4 := ht.cell 4
  have z4 := ht.free 4
  have HR := Lib.hid hr
  clear e3 m1 o1 HT ht hr HTL
  go_wp2
  go_ret
  exact ⟨rfl, _, HR.out, rfl⟩

end Go.Proofs.Ytfgkjfneeggbjaa.Jud
