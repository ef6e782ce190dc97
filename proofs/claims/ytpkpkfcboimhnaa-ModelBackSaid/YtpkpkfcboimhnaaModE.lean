/- Stage 6: what the laws ask of the program's model: one contract a call, over whatever it holds in memory. -/
import Derived.Test.YtpkpkfcboimhnaaModD
namespace Go.Proofs.Ytpkpkfcboimhnaa.Mod
open Go.RowKit Mem

/-- What holds of a model's memory: in block g, its blocks of memory F, so many words, these blocks. -/
abbrev Hold := World → Nat → List Nat → Int → List Bk → Prop

def NewPost (I : Hold) (m : Int) (w : World) (e : Ending) (w' : World) : Prop := ∃ g F, e = .returned (.pointer (some ⟨g, 0, none⟩)) ∧ I w' g F (clampW m) [] ∧ Off [] w w' ∧ ∀ k ∈ F, w.heap.size ≤ k
def TurnPost (I : Hold) (w : World) (g : Nat) (F : List Nat) (W : Int) (b : Bool) (l' : List Bk) (e : Ending) (w' : World) : Prop := e = .returned (.bool b) ∧ (∃ F', I w' g F' W l' ∧ ∀ k ∈ F', k ∈ F ∨ w.heap.size ≤ k) ∧ Off F w w'
def TellPost (w : World) (l : List Bk) (e : Ending) (w' : World) : Prop := (∃ u, e = .returned u ∧ Rd w' u l) ∧ Off [] w w'

structure Con (I : Hold) : Prop where
  lt : ∀ {w g F W l}, I w g F W l → ∀ k ∈ F, k < w.heap.size
  ok : ∀ {w g F W l}, I w g F W l → Ok W l ∧ 0 ≤ W ∧ W ≤ 4096
  keep : ∀ {w w' g F W l S}, I w g F W l → Off S w w' → (∀ k ∈ S, k ∉ F) → I w' g F W l
  typ : ∀ {w g F W l}, I w g F W l → ∀ k ∈ F, ∀ t cs, Blk w k t cs → t ≠ 36 ∧ t ≠ 46
  new : ∀ m w, Calls Try.prog 8 #[.int .i64 m] w (NewPost I m w)
  take : ∀ {w g F W l}, I w g F W l → ∀ p n, Calls Try.prog 10 #[.pointer (some ⟨g, 0, none⟩), .int .i64 p, .int .i64 n] w (TurnPost I w g F W (canB W l p n) (takeL W l p n))
  give : ∀ {w g F W l}, I w g F W l → ∀ p, Calls Try.prog 12 #[.pointer (some ⟨g, 0, none⟩), .int .i64 p] w (TurnPost I w g F W (giveB l p) (give l p))
  at_ : ∀ {w g F W l}, I w g F W l → ∀ p, Calls Try.prog 14 #[.pointer (some ⟨g, 0, none⟩), .int .i64 p] w fun e w' => e = .returned (.tuple #[.agg #[.int .i64 (fp (atF l p)), .int .i64 (fn (atF l p))], .bool (atF l p).isSome]) ∧ Off [] w w'
  inside : ∀ {w g F W l}, I w g F W l → ∀ p, Calls Try.prog 16 #[.pointer (some ⟨g, 0, none⟩), .int .i64 p] w fun e w' => e = .returned (.tuple #[.agg #[.int .i64 (fp (insideF l p)), .int .i64 (fn (insideF l p))], .bool (insideF l p).isSome]) ∧ Off [] w w'
  room : ∀ {w g F W l}, I w g F W l → ∀ n, Calls Try.prog 18 #[.pointer (some ⟨g, 0, none⟩), .int .i64 n] w fun e w' => e = .returned (.bool (roomB W l n)) ∧ Off [] w w'
  used : ∀ {w g F W l}, I w g F W l → Calls Try.prog 20 #[.pointer (some ⟨g, 0, none⟩)] w fun e w' => e = .returned (.int .i64 (used l)) ∧ Off [] w w'
  blocks : ∀ {w g F W l}, I w g F W l → Calls Try.prog 24 #[.pointer (some ⟨g, 0, none⟩)] w (TellPost w l)

/-- A model that was made since w, seen from w. -/
structure Live (I : Hold) (w : World) (g : Nat) (F : List Nat) (W : Int) (l : List Bk) (w' : World) : Prop where
  i : I w' g F W l
  off : Off [] w w'
  fresh : ∀ k ∈ F, w.heap.size ≤ k
theorem Con.off0 {I : Hold} (C : Con I) {w w1 w2 : World} {g : Nat} {F : List Nat} {W : Int} {l : List Bk} (h : Live I w g F W l w1) (ho : Off [] w1 w2) : Live I w g F W l w2 := ⟨C.keep h.i ho (by simp), h.off.trans ho, h.fresh⟩
theorem off_F {w w1 w2 : World} {F : List Nat} (h : Off [] w w1) (k : Off F w1 w2) (hf : ∀ k ∈ F, w.heap.size ≤ k) : Off [] w w2 := h.trans' k (fun i hi => .inr (hf i hi))
/-- Behind a call that turned it. -/
theorem Live.turn {I : Hold} {w w1 w2 : World} {g : Nat} {F : List Nat} {W : Int} {l l' : List Bk} (h : Live I w g F W l w1) (hx : ∃ F', I w2 g F' W l' ∧ ∀ k ∈ F', k ∈ F ∨ w1.heap.size ≤ k) (ho : Off F w1 w2) : ∃ F', Live I w g F' W l' w2 := by
  obtain ⟨F', h1, h2⟩ := hx
  refine ⟨F', h1, off_F h.off ho h.fresh, fun k hk => ?_⟩
  rcases h2 k hk with h3 | h3
  · exact h.fresh k h3
  · have := h.off.size; omega
/-- A Take, a Give, whose answers are known. -/
def LivePost (I : Hold) (w : World) (g : Nat) (W : Int) (b : Bool) (l' : List Bk) (e : Ending) (w' : World) : Prop := e = .returned (.bool b) ∧ ∃ F', Live I w g F' W l' w'
theorem con_take {I : Hold} (C : Con I) {w w1 : World} {g : Nat} {F : List Nat} {W : Int} {l : List Bk} (h : Live I w g F W l w1) (p n : Int) :
    Calls Try.prog 10 #[.pointer (some ⟨g, 0, none⟩), .int .i64 p, .int .i64 n] w1 (LivePost I w g W (canB W l p n) (takeL W l p n)) :=
  (C.take h.i p n).mono fun _ _ k => ⟨k.1, h.turn k.2.1 k.2.2⟩
theorem con_give {I : Hold} (C : Con I) {w w1 : World} {g : Nat} {F : List Nat} {W : Int} {l : List Bk} (h : Live I w g F W l w1) (p : Int) :
    Calls Try.prog 12 #[.pointer (some ⟨g, 0, none⟩), .int .i64 p] w1 (LivePost I w g W (giveB l p) (give l p)) :=
  (C.give h.i p).mono fun _ _ k => ⟨k.1, h.turn k.2.1 k.2.2⟩

/-- The greatest number of words, as New takes it. -/
theorem clamp50 : clampW 50 = 50 := by decide
theorem clamp10 : clampW 10 = 10 := by decide
theorem clamp60 : clampW 60 = 60 := by decide
theorem clamp100 : clampW 100 = 100 := by decide

set_option maxRecDepth 100000 in
set_option maxHeartbeats 4000000 in
theorem awake_any {I : Hold} (C : Con I) (w : World) :
    Calls Try.prog 7 #[] w fun e w' => e = .returned (.bool true) ∧ Off [] w w' := by
  have HC := Lib.hid C
  clear C
  have t1 : Hid (∀ w1 g F, Live I w g F 10 [] w1 → Calls Try.prog 10 #[.pointer (some ⟨g, 0, none⟩), .int .i64 2, .int .i64 4] w1 (LivePost I w g 10 true [⟨2, 4⟩])) := Lib.hid (fun w1 g F h => con_take HC.out h 2 4)
  have t2 : Hid (∀ w1 g F, Live I w g F 10 [⟨2, 4⟩] w1 → Calls Try.prog 10 #[.pointer (some ⟨g, 0, none⟩), .int .i64 5, .int .i64 1] w1 (LivePost I w g 10 false [⟨2, 4⟩])) := Lib.hid (fun w1 g F h => con_take HC.out h 5 1)
  have r1 : Hid (∀ w1 g F, Live I w g F 10 [⟨2, 4⟩] w1 → Calls Try.prog 18 #[.pointer (some ⟨g, 0, none⟩), .int .i64 4] w1 fun e w' => e = .returned (.bool true) ∧ Off [] w1 w') := Lib.hid (fun w1 g F h => HC.out.room h.i 4)
  have r2 : Hid (∀ w1 g F, Live I w g F 10 [⟨2, 4⟩] w1 → Calls Try.prog 18 #[.pointer (some ⟨g, 0, none⟩), .int .i64 5] w1 fun e w' => e = .returned (.bool false) ∧ Off [] w1 w') := Lib.hid (fun w1 g F h => HC.out.room h.i 5)
  have r3 : Hid (∀ w1 g F, Live I w g F 10 [] w1 → Calls Try.prog 18 #[.pointer (some ⟨g, 0, none⟩), .int .i64 10] w1 fun e w' => e = .returned (.bool true) ∧ Off [] w1 w') := Lib.hid (fun w1 g F h => HC.out.room h.i 10)
  have u1 : Hid (∀ w1 g F, Live I w g F 10 [⟨2, 4⟩] w1 → Calls Try.prog 20 #[.pointer (some ⟨g, 0, none⟩)] w1 fun e w' => e = .returned (.int .i64 4) ∧ Off [] w1 w') := Lib.hid (fun w1 g F h => HC.out.used h.i)
  have g1 : Hid (∀ w1 g F, Live I w g F 10 [⟨2, 4⟩] w1 → Calls Try.prog 12 #[.pointer (some ⟨g, 0, none⟩), .int .i64 2] w1 (LivePost I w g 10 true [])) := Lib.hid (fun w1 g F h => con_give HC.out h 2)
  go_enter Try.func7, Try.ntmps7
  go_wp2_with (first | (go_at_call 8; refine (HC.out.new 10 _).mono ?_; rintro e w1 ⟨g, F, rfl, hi, ho, hf⟩; have L1 : Hid (Live I w g F 10 [] w1) := Lib.hid ⟨hi, ho, hf⟩; clear hi ho hf) | (go_at_call 10; ((with_reducible refine (t1.out _ _ _ L1.out).mono ?_); rintro e w2 ⟨rfl, F2, h2⟩; have L2 := Lib.hid h2; clear h2)) | (go_at_call 10; ((with_reducible refine (t2.out _ _ _ L2.out).mono ?_); rintro e w3 ⟨rfl, F3, h3⟩; have L3 := Lib.hid h3; clear h3)) | (go_at_call 18; ((with_reducible refine (r1.out _ _ _ L3.out).mono ?_); rintro e w4 ⟨rfl, o4⟩; have L4 := Lib.hid (HC.out.off0 L3.out o4); clear o4)) | (go_at_call 18; ((with_reducible refine (r2.out _ _ _ L4.out).mono ?_); rintro e w5 ⟨rfl, o5⟩; have L5 := Lib.hid (HC.out.off0 L4.out o5); clear o5)) | (go_at_call 20; refine (u1.out _ _ _ L5.out).mono ?_; rintro e w6 ⟨rfl, o6⟩; have L6 := Lib.hid (HC.out.off0 L5.out o6); clear o6) | (go_at_call 12; refine (g1.out _ _ _ L6.out).mono ?_; rintro e w7 ⟨rfl, F7, h7⟩; have L7 := Lib.hid h7; clear h7) | (go_at_call 18; ((with_reducible refine (r3.out _ _ _ L7.out).mono ?_); rintro e w8 ⟨rfl, o8⟩; have L8 := Lib.hid (HC.out.off0 L7.out o8); clear o8)))
  go_ret
  exact ⟨rfl, L8.out.off⟩

end Go.Proofs.Ytpkpkfcboimhnaa.Mod
