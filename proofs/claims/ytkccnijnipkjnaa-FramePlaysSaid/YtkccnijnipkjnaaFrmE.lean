/- Package frame: the laws' awake. -/
import Derived.Test.YtkccnijnipkjnaaFrmD
namespace Go.Proofs.Ytkccnijnipkjnaa.Frm
open Go.RowKit Mem

theorem Reads.of_blk {w : World} {b c : Nat} {t : TypeId} (L : List Int) (h : Blk w b t (L.map (Value.int .i64)).toArray) : Reads w (.slice (some ⟨b, 0, none⟩) L.length c) L :=
  .inr ⟨⟨b, 0, none⟩, c, rfl, fun i x hx => by rw [addr_add, h.cell]; simp [hx]⟩

/-- What turned was new. -/
theorem off_fresh {g : Nat} {w w' : World} (h : Off [g] w w') (hg : w.heap.size ≤ g) : Off [] w w' :=
  ⟨h.os, h.tape, h.output, h.size, fun k hk _ => h.block k hk (by simp; omega)⟩

set_option maxRecDepth 100000 in
theorem awake_any (w : World) :
    Calls Try.prog 7 #[] w fun e w' => e = .returned (.bool true) ∧ Off [] w w' := by
  go_enter Try.func7, Try.ntmps7
  go_wp2_with (first | (go_at_call 8; refine (new_in 2 (by decide) _).mono ?_; rintro e w1 ⟨rfl, h1, o1⟩; have H1 := Lib.hid h1; have O1 := Lib.hid o1; clear h1 o1) | (go_at_call 9; refine (push_ok (L := [1, 2]) (H1.out.off0 ((Off.refl _ _).alloc _)) (by decide) 7 (Reads.of_blk (t := 2) (c := 2) [1, 2] (Blk.new _ _ _)) (by decide)).mono ?_; rintro e w2 ⟨rfl, h2, o2⟩; have H2 := Lib.hid h2; have O2 := Lib.hid o2; clear h2 o2) | (go_at_call 15; refine (get_in (l := []) H2.out 1 (by decide)).mono ?_; rintro e w3 ⟨rfl, o3⟩; have O3 := Lib.hid o3; clear o3) | (go_at_call 13; refine (go_some (l := []) (H2.out.off0 O3.out) 3).mono ?_; rintro e w4 ⟨rfl, h4, o4⟩; have H4 := Lib.hid h4; have O4 := Lib.hid o4; clear h4 o4) | (go_at_call 18; refine (depth_is H4.out).mono ?_; rintro e w5 ⟨rfl, rfl⟩))
  go_ret
  refine ⟨rfl, ?_⟩
  exact off_fresh (((((O1.out.more (T := [w.heap.size]) (by simp)).alloc _).trans O2.out).trans (O3.out.more (by simp))).trans O4.out) (Nat.le_refl _)

end Go.Proofs.Ytkccnijnipkjnaa.Frm
