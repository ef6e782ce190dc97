/- Stage 8: MagBoth, over the contracts of the program's machines. (Written by tools/magboth_gen.py over tools/XMagB.src.) -/
import Derived.Test.YtdnahojpeplajaaMagU
import Derived.BigQuiet
import Derived.BigRegion
namespace Go.Proofs.Ytdnahojpeplajaa.Mag
open Go.RowKit Mem Go.Proofs.Ytdnahojpeplajaa.Words Go.Proofs.Ytdnahojpeplajaa.Plan Go.Proofs.Ytdnahojpeplajaa.Pack Go.Proofs.Ytdnahojpeplajaa.Open

theorem zero_row {w : World} {b n : Nat} (h : Blk w b 27 (rowCells (List.replicate n 0))) (hn : n ≤ 2000) : IsRowU w (some ⟨b, 0, none⟩) n n (fun _ => 0) := by
  refine ⟨fun _ => by decide, fun _ => ⟨b, 0, rfl, h.lt, Nat.le_refl _, by omega, fun i hi => ?_⟩⟩
  rw [h.cell, Nat.zero_add, row_cell _ _ (by simpa using hi)]
  simp [hi]
/-- Puts so far. -/
def PutsRel (w : World) (q bm gw hw n len : Nat) (i : Value) (W : World) : Prop :=
  ∃ k : Nat, k ≤ len ∧ i = .int .i64 k ∧ ∃ s f, Bm w q bm gw hw n s f W ∧ Bo n (k * (n + 1)) s f
def TakesRel2 (w : World) (q bm gw hw n len len2 : Nat) (i : Value) (W : World) : Prop :=
  ∃ k : Nat, k ≤ len2 ∧ i = .int .i64 k ∧ ∃ s f, Bm w q bm gw hw n s f W ∧ Bo n ((len + k) * (n + 1)) s f

theorem dn_yes {p : Nat → Bool} {n r : Nat} (h : p (n - 1 - r) = true) : dn p n (r + 1) = ((n - 1 - r : Nat) : Int) := by
  show (bif p (n - 1 - r) then _ else _) = _
  rw [h]; rfl
theorem dn_no {p : Nat → Bool} {n r : Nat} (h : p (n - 1 - r) = false) : dn p n (r + 1) = dn p n r := by
  show (bif p (n - 1 - r) then _ else _) = _
  rw [h]; rfl
/-- Counting down, for the first that is free. -/
def LowRel (J : HoldP) (w : World) (q bm gw hw n : Nat) (f : Nat → Int) (g : Nat) (F : List Nat) (p : Pk) (s : St) (fr i : Value) (W : World) : Prop :=
  ∃ (r : Nat) (v : Int), r ≤ n ∧ fr = .int .i64 (dn (fun j => decide (f j = 0)) n r) ∧ i = .int .i64 v ∧ v = (n : Int) - 1 - r ∧ FlyP J w q bm gw hw n f g F p s W
def dnT (f : Nat → Int) (cl : Int) (n r : Nat) : Int := dn (fun j => decide (0 < f j ∧ (f j - 1) % 4 = cl)) n r
theorem dnT_yes {f : Nat → Int} {cl : Int} {n r : Nat} (h : 0 < f (n - 1 - r) ∧ (f (n - 1 - r) - 1) % 4 = cl) : dnT f cl n (r + 1) = ((n - 1 - r : Nat) : Int) := dn_yes (decide_eq_true h)
theorem dnT_no {f : Nat → Int} {cl : Int} {n r : Nat} (h : ¬ (0 < f (n - 1 - r) ∧ (f (n - 1 - r) - 1) % 4 = cl)) : dnT f cl n (r + 1) = dnT f cl n r := dn_no (decide_eq_false h)
theorem take_round2 {n m : Nat} {s : St} {f : Nat → Int} (hn : n ≤ 8) (h : Bo n m s f) {k : Int} (hk : 0 ≤ k ∧ k ≤ 3) :
    (seqT (tk0 4 2 n 1 k) s (n + 1)).1.over = true ∧ (seqT (tk0 4 2 n 1 k) s (n + 1)).1.found = decide (0 ≤ dnT f k n n) ∧ (0 ≤ dnT f k n n → 0 < f (dnT f k n n).toNat ∧ (f (dnT f k n n).toNat - 1) / 4 = (seqT (tk0 4 2 n 1 k) s (n + 1)).1.page * 2 + (seqT (tk0 4 2 n 1 k) s (n + 1)).1.slot ∧ (0 ≤ (seqT (tk0 4 2 n 1 k) s (n + 1)).1.page ∧ (seqT (tk0 4 2 n 1 k) s (n + 1)).1.page ≤ 255) ∧ 0 ≤ (seqT (tk0 4 2 n 1 k) s (n + 1)).1.slot ∧ (seqT (tk0 4 2 n 1 k) s (n + 1)).1.slot ≤ 255) ∧ Bo n (m + (n + 1)) (seqT (tk0 4 2 n 1 k) s (n + 1)).2 (updI f (dnT f k n n) 0) := take_round hn h hk
/-- Counting down, for the first of the class. -/
def LowRelT (I : HoldT) (w : World) (q bm gw hw n : Nat) (f : Nat → Int) (cl : Int) (g : Nat) (F : List Nat) (t : Tk) (s : St) (fr i : Value) (W : World) : Prop :=
  ∃ (r : Nat) (v : Int), r ≤ n ∧ fr = .int .i64 (dnT f cl n r) ∧ i = .int .i64 v ∧ v = (n : Int) - 1 - r ∧ FlyT I w q bm gw hw n f g F t s W
theorem w64 (x : Int) (h : -1000000 ≤ x ∧ x ≤ 1000000) : wrap64 x = x := IntWalk.wrap64_in x (by omega)
theorem mark_val (k : Nat) (x : Int) (h : 0 ≤ x ∧ x < 256) : wrap64 (wrap64 (1 + wrap64 (wrap64 ((k : Int) % 4 * 2 + (wrap64 (x / 4)).tmod 2) * 4)) + (wrap64 x).tmod 4) = markI ((k : Int).tmod 4) ((IntKind.i64.wrap (x / 4)).tmod 2) ((IntKind.i64.wrap x).tmod 4) := by
  rw [IntWalk.i64_in (x / 4) (by omega), IntWalk.i64_in x (by omega), w64 (x / 4) (by omega), w64 x (by omega), Int.tmod_eq_emod_of_nonneg (a := (k : Int)) (by omega), Int.tmod_eq_emod_of_nonneg (a := x / 4) (by omega), Int.tmod_eq_emod_of_nonneg (a := x) (by omega)]
  rw [w64 ((k : Int) % 4 * 2 + x / 4 % 2) (by omega), w64 (((k : Int) % 4 * 2 + x / 4 % 2) * 4) (by omega), w64 (1 + _) (by omega), w64 _ (by omega)]
  rfl
theorem args_in (k : Nat) (x : Int) (h : 0 ≤ x ∧ x < 256) : (0 ≤ (k : Int).tmod 4 ∧ (k : Int).tmod 4 ≤ 3) ∧ (0 ≤ (IntKind.i64.wrap (x / 4)).tmod 2 ∧ (IntKind.i64.wrap (x / 4)).tmod 2 ≤ 1) ∧ (0 ≤ (IntKind.i64.wrap x).tmod 4 ∧ (IntKind.i64.wrap x).tmod 4 ≤ 3) := by
  rw [IntWalk.i64_in (x / 4) (by omega), IntWalk.i64_in x (by omega), Int.tmod_eq_emod_of_nonneg (by omega), Int.tmod_eq_emod_of_nonneg (by omega), Int.tmod_eq_emod_of_nonneg (by omega)]
  omega

set_option maxRecDepth 100000 in
set_option maxHeartbeats 8000000 in
theorem both_walk {I : HoldT} {J : HoldP} (C0 : ConT I) (D0 : ConP J) (A0 : AwakeIs) (n : Nat) (hn : n ≤ 8) (a : Option Addr) (len cap : Nat) (z : Nat → Int) (b : Option Addr) (len2 cap2 : Nat) (z2 : Nat → Int) (w : World) (hr1 : IsRow8 w a len cap z) (hr2 : IsRow8 w b len2 cap2 z2) :
    Calls Try.prog 26 #[.int .i64 (n : Int), .slice a len cap, .slice b len2 cap2] w fun e w' => e = .returned (.bool true) ∧ Off [] w w' := by
  have HC := Lib.hid C0
  have HD := Lib.hid D0
  have HA := Lib.hid A0
  have HR1 := Lib.hid hr1
  have HR2 := Lib.hid hr2
  clear C0 D0 A0 hr1 hr2
  by_cases hl1 : len ≤ 40
  · by_cases hl2 : len2 ≤ 40
    · have d1 : decide ((40 : Int) < (len : Int)) = false := by simp; omega
      have d2 : decide ((40 : Int) < (len2 : Int)) = false := by simp; omega
      have HW8 := Lib.hid (words_8 hn)
      have ht : ∀ W, Calls Try.prog 8 #[.agg #[.int .i64 4, .int .i64 2, .int .i64 (n : Int)]] W fun e w' => e = .returned (.int .i64 ((70 + 2 * n : Nat) : Int)) ∧ Off [] W w' := fun W => by
        have h := total_any 4 2 n W
        rw [HW8.out] at h
        exact h
      have HT := Lib.hid ht
      have hmk : ∀ W, (Instr.makeSlice 25 (.int .i64 ((70 + 2 * n : Nat) : Int)) (.int .i64 ((70 + 2 * n : Nat) : Int))).run Try.prog W = .ok (.slice (some ⟨W.heap.size, 0, none⟩) (70 + 2 * n) (70 + 2 * n)) (W.alloc (.cells (rowCells (List.replicate (70 + 2 * n) 0)) 27)) := fun W => make_row (70 + 2 * n) (by omega) W
      have hmk2 : ∀ W, (Instr.makeSlice 94 (.int .i64 (n : Int)) (.int .i64 (n : Int))).run Try.prog W = .ok (.slice (some ⟨W.heap.size, 0, none⟩) n n) (W.alloc (.cells (rowOf n fun _ => 0) 3)) := fun W => make_ints n (by omega) W
      have HN : Hid (70 + 2 * n ≤ 2000) := Lib.hid (by omega)
      have HBZ := Lib.hid (bo_zero n)
      clear ht
      generalize hL : 70 + 2 * n = L at *
      have HL := Lib.hid hL
      clear hL
      go_enter Try.func26, Try.ntmps26
      go_upto_region 5 with (first | (go_at_call 8; refine (HT.out _).mono ?_; rintro e w1 ⟨rfl, o1⟩) | (go_at_call 10; refine (fill_any _ L L (fun _ => 0) _ (zero_row (Blk.new _ _ _) HN.out) HN.out).mono ?_; rintro e w2 ⟨gw, hw, rfl, hp2, o2, hg2, hh2⟩))
      go_upto_region 7 with (go_at_call 7; refine (HA.out _).mono ?_; rintro e w3 ⟨rfl, o3⟩)
      go_upto_region 8 with fail
      have hgh := hp2.row.lt
      refine at_worldM (R := fun W' => ∃ bm, bm = w3.heap.size ∧ Bm w w.heap.size bm gw hw n (St.fill (fun _ => 0) L L) (fun _ => 0) W') ⟨_, rfl, ?_⟩ ?_
      · have z1 := o1.size
        have z2 := o2.size
        have z3 := o3.size
        have l1 := hp2.head.lt
        simp at z1 z2 hg2 hh2
        have oA : Off [] w w1 := ((Off.refl [] w).alloc _).trans o1
        have oB : Off [] w w2 := (oA.alloc _).trans o2
        have hS : Blk w2 w.heap.size 24 #[.int .i64 4, .int .i64 2, .int .i64 (n : Int)] := o2.blk ((o1.blk (Blk.new _ _ _) (by simp)).alloc _) (by simp)
        exact ⟨(o3.blk hS (by simp)).alloc _, (hp2.off o3 (by simp) (by simp)).off ((Off.refl [] w3).alloc _) (by simp) (by simp), Blk.new _ _ _, (oB.trans o3).alloc _, ⟨Nat.le_refl _, by omega, by omega, by omega⟩, ⟨by omega, by omega, by omega⟩, by omega, by omega⟩
      rintro W3 ⟨bm, hbm, hB⟩
      rw [← hbm]
      have HB := Lib.hid hB
      generalize w.heap.size = q at *
      clear hB hbm hp2 o1 o2 o3 hg2 hh2 hgh hmk hmk2
      go_wp2_with fail
      go_loopw [10] (fun i wr => PutsRel w q bm gw hw n len i wr) (fun i _ => len - (intOf i).toNat)
      case atStart => exact ⟨0, by omega, rfl, _, _, HB.out, by rw [Nat.zero_mul]; exact HBZ.out⟩
      case round =>
        obtain ⟨k, hk, rfl, s, f, hb, hbo⟩ := hrel
        have HB1 := Lib.hid hb
        have HBO := Lib.hid hbo
        clear hb hbo HB HBZ
        by_cases hlt : k < len
        · have d3 : decide ((k : Int) < (len : Int)) = true := by simp; omega
          have hki : (k : Int) < (len : Int) := by omega
          obtain ⟨ab, aoff, rfl, hab, hc1, hc2, hcell⟩ := HR1.out.some_ (by omega)
          have hz := HR1.out.nums k
          have HF : Hid (∀ W, Off [] wr W → (W.cell? ⟨q, 0, none⟩ = some (.int .i64 4) ∧ W.cell? ⟨q, 1, none⟩ = some (.int .i64 2) ∧ W.cell? ⟨q, 2, none⟩ = some (.int .i64 (n : Int))) ∧ W.cell? ⟨ab, aoff + k, none⟩ = some (.int .u8 (z k))) := Lib.hid (fun W o => ⟨(HB1.out.off0 o).shape, ((HB1.out.off.trans o).cell (p := ⟨ab, aoff + k, none⟩) hab (by simp)).trans (hcell k hlt)⟩)
          have HZ := Lib.hid hz
          have HCL := Lib.hid (hcell k hlt)
          clear hz hcell hc1 hc2
          go_upto_region 11 with fail
          refine wp_region_noPanic ?_
          refine wp_region_held_drew (S := fun w' => (w'.cell? ⟨q, 0, none⟩ = some (.int .i64 4) ∧ w'.cell? ⟨q, 1, none⟩ = some (.int .i64 2) ∧ w'.cell? ⟨q, 2, none⟩ = some (.int .i64 (n : Int))) ∧ w'.cell? ⟨ab, aoff + k, none⟩ = some (.int .u8 (z k))) (by kernel_rfl) (HF.out _ (Off.refl [] wr).drew) (fun hHeld => ?_)
          have o := (Off.refl [] wr).drew
          refine wpAnyH_take (i := 0) (v := ?_) rfl (by kernel_rfl) (by kernel_rfl) (by kernel_rfl) (fun _ _ _ h => h) (Or.inl ⟨by rfl, ?_⟩) (by assumption) ?_
          rotate_left
          · intro w hSw
            try dsimp only at hSw
            go_simp
            first | done | with_reducible rfl
          try simp only [List.getElem_toArray, List.getElem_cons_zero, Act.put, List.setIfInBounds_toArray, List.set_cons_zero, List.set_cons_succ]
          refine wpAnyH_take (i := 1) (v := ?_) rfl (by kernel_rfl) (by kernel_rfl) (by kernel_rfl) (fun _ _ _ h => h) (Or.inl ⟨by rfl, ?_⟩) (by assumption) ?_
          rotate_left
          · intro w hSw
            try dsimp only at hSw
            go_simp
            first | done | with_reducible rfl
          try simp only [List.getElem_toArray, List.getElem_cons_succ, List.getElem_cons_zero, Act.put, List.setIfInBounds_toArray, List.set_cons_zero, List.set_cons_succ]
          refine wpAnyH_take (i := 2) (v := ?_) rfl (by kernel_rfl) (by kernel_rfl) (by kernel_rfl) (fun _ _ _ h => h) (Or.inl ⟨by rfl, ?_⟩) (by assumption) ?_
          rotate_left
          · intro w hSw
            try dsimp only at hSw
            go_simp
            first | done | with_reducible rfl
          try simp only [List.getElem_toArray, List.getElem_cons_succ, List.getElem_cons_zero, Act.put, List.setIfInBounds_toArray, List.set_cons_zero, List.set_cons_succ]
          refine wpAnyH_take (i := 3) (v := ?_) rfl (by kernel_rfl) (by kernel_rfl) (by kernel_rfl) (fun _ _ _ h => h) (Or.inl ⟨by rfl, ?_⟩) (by assumption) ?_
          rotate_left
          · intro w hSw
            try dsimp only at hSw
            go_simp
            first | done | with_reducible rfl
          try simp only [List.getElem_toArray, List.getElem_cons_succ, List.getElem_cons_zero, Act.put, List.setIfInBounds_toArray, List.set_cons_zero, List.set_cons_succ]
          refine wpAnyH_take (i := 4) (v := ?_) rfl (by kernel_rfl) (by kernel_rfl) (by kernel_rfl) (fun _ _ _ h => h) (Or.inl ⟨by rfl, ?_⟩) (by assumption) ?_
          rotate_left
          · intro w hSw
            try dsimp only at hSw
            go_simp
            first | done | with_reducible rfl
          try simp only [List.getElem_toArray, List.getElem_cons_succ, List.getElem_cons_zero, Act.put, List.setIfInBounds_toArray, List.set_cons_zero, List.set_cons_succ]
          refine wpAnyH_take (i := 5) (v := ?_) rfl (by kernel_rfl) (by kernel_rfl) (by kernel_rfl) (fun _ _ _ h => h) (Or.inl ⟨by rfl, ?_⟩) (by assumption) ?_
          rotate_left
          · intro w hSw
            try dsimp only at hSw
            go_simp
            first | done | with_reducible rfl
          try simp only [List.getElem_toArray, List.getElem_cons_succ, List.getElem_cons_zero, Act.put, List.setIfInBounds_toArray, List.set_cons_zero, List.set_cons_succ]
          refine wpAnyH_take (i := 6) (v := ?_) rfl (by kernel_rfl) (by kernel_rfl) (by kernel_rfl) (fun _ _ _ h => h) (Or.inl ⟨by rfl, ?_⟩) (by assumption) ?_
          rotate_left
          · intro w hSw
            try dsimp only at hSw
            go_simp
            first | done | with_reducible rfl
          try simp only [List.getElem_toArray, List.getElem_cons_succ, List.getElem_cons_zero, Act.put, List.setIfInBounds_toArray, List.set_cons_zero, List.set_cons_succ]
          refine wpAnyH_take (i := 7) (v := ?_) rfl (by kernel_rfl) (by kernel_rfl) (by kernel_rfl) (fun _ _ _ h => h) (Or.inl ⟨by rfl, ?_⟩) (by assumption) ?_
          rotate_left
          · intro w hSw
            try dsimp only at hSw
            go_simp
            first | done | with_reducible rfl
          try simp only [List.getElem_toArray, List.getElem_cons_succ, List.getElem_cons_zero, Act.put, List.setIfInBounds_toArray, List.set_cons_zero, List.set_cons_succ]
          refine wpAnyH_take (i := 8) (v := ?_) rfl (by kernel_rfl) (by kernel_rfl) (by kernel_rfl) (fun _ _ _ h => h) (Or.inl ⟨by rfl, ?_⟩) (by assumption) ?_
          rotate_left
          · intro w hSw
            try dsimp only at hSw
            go_simp
            first | done | with_reducible rfl
          try simp only [List.getElem_toArray, List.getElem_cons_succ, List.getElem_cons_zero, Act.put, List.setIfInBounds_toArray, List.set_cons_zero, List.set_cons_succ]
          refine wpAnyH_take (i := 9) (v := ?_) rfl (by kernel_rfl) (by kernel_rfl) (by kernel_rfl) (fun _ _ _ h => h) (Or.inl ⟨by rfl, ?_⟩) (by assumption) ?_
          rotate_left
          · intro w hSw
            try dsimp only at hSw
            go_simp
            first | done | with_reducible rfl
          try simp only [List.getElem_toArray, List.getElem_cons_succ, List.getElem_cons_zero, Act.put, List.setIfInBounds_toArray, List.set_cons_zero, List.set_cons_succ]
          refine wpAnyH_take (i := 10) (v := ?_) rfl (by kernel_rfl) (by kernel_rfl) (by kernel_rfl) (fun _ _ _ h => h) (Or.inl ⟨by rfl, ?_⟩) (by assumption) ?_
          rotate_left
          · intro w hSw
            try dsimp only at hSw
            go_simp
            first | done | with_reducible rfl
          try simp only [List.getElem_toArray, List.getElem_cons_succ, List.getElem_cons_zero, Act.put, List.setIfInBounds_toArray, List.set_cons_zero, List.set_cons_succ]
          refine wpAnyH_take (i := 11) (v := ?_) rfl (by kernel_rfl) (by kernel_rfl) (by kernel_rfl) (fun _ _ _ h => h) (Or.inl ⟨by rfl, ?_⟩) (by assumption) ?_
          rotate_left
          · intro w hSw
            try dsimp only at hSw
            go_simp
            first | done | with_reducible rfl
          try simp only [List.getElem_toArray, List.getElem_cons_succ, List.getElem_cons_zero, Act.put, List.setIfInBounds_toArray, List.set_cons_zero, List.set_cons_succ]
          refine wpAnyH_take (i := 12) (v := ?_) rfl (by kernel_rfl) (by kernel_rfl) (by kernel_rfl) (fun _ _ _ h => h) (Or.inl ⟨by rfl, ?_⟩) (by assumption) ?_
          rotate_left
          · intro w hSw
            try dsimp only at hSw
            go_simp
            first | done | with_reducible rfl
          try simp only [List.getElem_toArray, List.getElem_cons_succ, List.getElem_cons_zero, Act.put, List.setIfInBounds_toArray, List.set_cons_zero, List.set_cons_succ]
          refine wpAnyH_take (i := 13) (v := ?_) rfl (by kernel_rfl) (by kernel_rfl) (by kernel_rfl) (fun _ _ _ h => h) (Or.inl ⟨by rfl, ?_⟩) (by assumption) ?_
          rotate_left
          · intro w hSw
            try dsimp only at hSw
            go_simp
            first | done | with_reducible rfl
          try simp only [List.getElem_toArray, List.getElem_cons_succ, List.getElem_cons_zero, Act.put, List.setIfInBounds_toArray, List.set_cons_zero, List.set_cons_succ]
          refine wpAnyH_take (i := 14) (v := ?_) rfl (by kernel_rfl) (by kernel_rfl) (by kernel_rfl) (fun _ _ _ h => h) (Or.inl ⟨by rfl, ?_⟩) (by assumption) ?_
          rotate_left
          · intro w hSw
            try dsimp only at hSw
            go_simp
            first | done | with_reducible rfl
          try simp only [List.getElem_toArray, List.getElem_cons_succ, List.getElem_cons_zero, Act.put, List.setIfInBounds_toArray, List.set_cons_zero, List.set_cons_succ]
          refine wpAnyH_take (i := 15) (v := ?_) rfl (by kernel_rfl) (by kernel_rfl) (by kernel_rfl) (fun _ _ _ h => h) (Or.inl ⟨by rfl, ?_⟩) (by assumption) ?_
          rotate_left
          · intro w hSw
            try dsimp only at hSw
            go_simp
            first | done | with_reducible rfl
          try simp only [List.getElem_toArray, List.getElem_cons_succ, List.getElem_cons_zero, Act.put, List.setIfInBounds_toArray, List.set_cons_zero, List.set_cons_succ]
          refine wpAnyH_ready (rs := [16]) (by kernel_rfl) (by simp) (AllReadyH.cons rfl (fun K hK => ?_) AllReadyH.nil)
          go_simp
          go_wp2_with (go_at_call 12; refine (HD.out.new _ _ _ _ _ _ _ _).mono ?_; rintro e w4 ⟨⟨g, F, rfl, hi, hf⟩, oc⟩)
          refine hK.out _ _ (HF.out _ (o.trans oc)) (fun hHeld => ?_)
          clear hK K
          try simp only [List.getElem_toArray, List.getElem_cons_succ, List.getElem_cons_zero, Act.put, List.setIfInBounds_toArray, List.set_cons_zero, List.set_cons_succ]
          refine wpAnyH_take (i := 17) (v := ?_) rfl (by kernel_rfl) (by kernel_rfl) (by kernel_rfl) (fun _ _ _ h => h) (Or.inl ⟨by rfl, ?_⟩) (by assumption) ?_
          rotate_left
          · intro w hSw
            try dsimp only at hSw
            go_simp
            first | done | with_reducible rfl
          try simp only [List.getElem_toArray, List.getElem_cons_succ, List.getElem_cons_zero, Act.put, List.setIfInBounds_toArray, List.set_cons_zero, List.set_cons_succ]
          refine wpAnyH_done (by kernel_rfl) ?_ _
          refine NoPanic.normal ?_
          have hF := Lib.hid (fly_new_p HB1.out (o.trans oc) hi hf)
          obtain ⟨b1, b2, b3⟩ := args_in k (z k) HZ.out
          generalize hpg : (k : Int).tmod 4 = pg at *
          generalize hsl : (IntKind.i64.wrap (z k / 4)).tmod 2 = sl at *
          generalize hcl : (IntKind.i64.wrap (z k)).tmod 4 = cl at *
          have HPG := Lib.hid (And.intro hpg (And.intro hsl hcl))
          have HPB := Lib.hid (And.intro b1 (And.intro b2 b3))
          have HKM : Hid (k * (n + 1) ≤ 1000) := Lib.hid (by have := Nat.mul_le_mul (show k ≤ 40 by omega) (show n + 1 ≤ 9 by omega); omega)
          clear hi hf hpg hsl hcl b1 b2 b3 oc o hHeld
          go_wp2_with fail
          go_loopw [12] (fun i wr => PutRel J w q bm gw hw n f g (pk0 4 2 n 1 pg sl cl) s i wr) (fun i _ => (n + 1) - (intOf i).toNat)
          case atStart => exact ⟨0, by omega, rfl, F, hF.out⟩
          case round =>
            obtain ⟨k2, hk2, rfl, F2, hf2⟩ := hrel
            have HF2 := Lib.hid hf2
            have wn : IntKind.i64.wrap ((n : Int) + 1) = (n : Int) + 1 := IntWalk.i64_in _ (by omega)
            clear hf2 hF
            by_cases hlt2 : k2 < n + 1
            · have d4 : decide ((k2 : Int) < (n : Int) + 1) = true := by simp; omega
              go_wp2_with (go_at_call 14; refine (fly_seq_p HD.out hn HBO.out HKM.out hk2 HF2.out).mono ?_; rintro e w5 ⟨rfl, F5, hf5⟩)
              go_roundw
              case rel => exact ⟨k2 + 1, by omega, by go_num, F5, hf5⟩
              case measure => simp [intOf]; omega
            · obtain rfl : k2 = n + 1 := by omega
              have d4 : decide ((((n + 1 : Nat)) : Int) < (n : Int) + 1) = false := by simp
              have wn1 : IntKind.i64.wrap ((n : Int) - 1) = (n : Int) - 1 := IntWalk.i64_in _ (by omega)
              clear hlt2
              go_wp2_with fail
              go_loopw [13, 14] (fun fr i wr => LowRel J w q bm gw hw n f g F2 (seqP (pk0 4 2 n 1 pg sl cl) s (n + 1)).1 (seqP (pk0 4 2 n 1 pg sl cl) s (n + 1)).2 fr i wr) (fun _ i _ => (intOf i + 1).toNat)
              case atStart => exact ⟨0, _, by omega, rfl, rfl, by omega, HF2.out⟩
              case round =>
                obtain ⟨r, v, hr, rfl, rfl, hv, hf3⟩ := hrel
                have HF3 := Lib.hid hf3
                clear hf3 HF2
                by_cases hlt3 : r < n
                · obtain ⟨j, rfl⟩ : ∃ j : Nat, v = (j : Int) := ⟨n - 1 - r, by omega⟩
                  have HJ : Hid (j = n - 1 - r) := Lib.hid (by omega)
                  have d5 : decide ((0 : Int) ≤ (j : Int)) = true := by simp
                  have hji : (j : Int) < (n : Int) := by omega
                  have wj : IntKind.i64.wrap ((j : Int) - 1) = (j : Int) - 1 := IntWalk.i64_in _ (by omega)
                  have cj := HF3.out.b.cell j (by omega)
                  have HJR := Lib.hid hv
                  clear hv
                  by_cases hz : f j = 0
                  · have d6 : decide (f j = 0) = true := by simpa using hz
                    go_wp2_with fail
                    go_roundw
                    case rel => exact ⟨r + 1, _, by omega, by rw [dn_yes (show (decide (f (n - 1 - r) = 0)) = true by rw [← HJ.out]; exact d6), ← HJ.out], rfl, by have := HJR.out; omega, HF3.out⟩
                    case measure => simp [intOf]
                  · have d6 : decide (f j = 0) = false := by simpa using hz
                    go_wp2_with fail
                    go_roundw
                    case rel => exact ⟨r + 1, _, by omega, by rw [dn_no (show (decide (f (n - 1 - r) = 0)) = false by rw [← HJ.out]; exact d6)], rfl, by have := HJR.out; omega, HF3.out⟩
                    case measure => simp [intOf]
                · obtain rfl : n = r := by omega
                  obtain rfl : v = -1 := by omega
                  clear hlt3 hv
                  obtain ⟨p1, p2, p3⟩ := put_round hn HBO.out HPB.out.1 HPB.out.2.1 HPB.out.2.2
                  have bd := dn_bd (fun j => decide (f j = 0)) n n (Nat.le_refl _)
                  generalize hdn : dn (fun j => decide (f j = 0)) n n = d at *
                  have HP1 := Lib.hid p1
                  have HP3 := Lib.hid p3
                  clear p1 p3
                  clear hdn
                  by_cases hd : 0 ≤ d
                  · obtain ⟨j, rfl⟩ : ∃ j : Nat, d = (j : Int) := ⟨d.toNat, by omega⟩
                    have hji : (j : Int) < (n : Int) := by omega
                    have dd : decide ((0 : Int) ≤ (j : Int)) = true := by simp
                    rw [dd] at p2
                    clear hd bd
                    go_upto_region 25 with (first | (go_at_call 15; refine (HD.out.done HF3.out.p).mono ?_; rintro e w6 ⟨rfl, o6⟩; rw [HP1.out]; have HF4 := Lib.hid (HF3.out.off0 HD.out o6); clear HF3 o6) | (go_at_call 18; refine (HD.out.put HF4.out.p).mono ?_; rintro e w7 ⟨rfl, o7⟩; rw [p2]; have HF5 := Lib.hid (HF4.out.off0 HD.out o7); clear HF4 o7))
                    have c25 := (HF5.out.b.off.cell (p := ⟨ab, aoff + k, none⟩) hab (by simp)).trans HCL.out
                    have cj := HF5.out.b.cell j (by omega)
                    have zj := HF5.out.b.row.free j
                    go_region
                    go_wp2_with fail
                    go_roundw
                    case rel => exact ⟨k + 1, by omega, by go_num, _, _, (HF5.out.b.mark j _).off0 (Off.refl [] _).drew, by rw [Nat.succ_mul, mark_val k (z k) HZ.out, HPG.out.1, HPG.out.2.1, HPG.out.2.2]; exact HP3.out⟩
                    case measure => simp [intOf]; omega
                  · obtain rfl : d = -1 := by omega
                    rw [show decide ((0 : Int) ≤ -1) = false by decide] at p2
                    clear hd bd
                    go_wp2_with (first | (go_at_call 15; refine (HD.out.done HF3.out.p).mono ?_; rintro e w6 ⟨rfl, o6⟩; rw [HP1.out]; have HF4 := Lib.hid (HF3.out.off0 HD.out o6); clear HF3 o6) | (go_at_call 18; refine (HD.out.put HF4.out.p).mono ?_; rintro e w7 ⟨rfl, o7⟩; rw [p2]; have HF5 := Lib.hid (HF4.out.off0 HD.out o7); clear HF4 o7))
                    go_roundw
                    case rel => exact ⟨k + 1, by omega, by go_num, _, _, HF5.out.b, by rw [Nat.succ_mul]; have := HP3.out; rw [updI_no] at this; exact this⟩
                    case measure => simp [intOf]; omega
        · obtain rfl : len = k := by omega
          have d3 : decide ((len : Int) < (len : Int)) = false := by simp
          clear hlt hk
          go_wp2_with fail
          go_loopw [15] (fun i wr => TakesRel2 w q bm gw hw n len len2 i wr) (fun i _ => len2 - (intOf i).toNat)
          case atStart => exact ⟨0, by omega, rfl, s, f, HB1.out, HBO.out⟩
          case round =>
            obtain ⟨k, hk, rfl, s, f, hb, hbo⟩ := hrel
            clear HB1 HBO
            have HB1 := Lib.hid hb
            have HBO := Lib.hid hbo
            clear hb hbo
            by_cases hlt : k < len2
            · have d4 : decide ((k : Int) < (len2 : Int)) = true := by simp; omega
              have hki : (k : Int) < (len2 : Int) := by omega
              obtain ⟨bb, boff, rfl, hbb, hc1, hc2, hcell⟩ := HR2.out.some_ (by omega)
              have hz := HR2.out.nums k
              have HF : Hid (∀ W, Off [] wr W → (W.cell? ⟨q, 0, none⟩ = some (.int .i64 4) ∧ W.cell? ⟨q, 1, none⟩ = some (.int .i64 2) ∧ W.cell? ⟨q, 2, none⟩ = some (.int .i64 (n : Int))) ∧ W.cell? ⟨bb, boff + k, none⟩ = some (.int .u8 (z2 k))) := Lib.hid (fun W o => ⟨(HB1.out.off0 o).shape, ((HB1.out.off.trans o).cell (p := ⟨bb, boff + k, none⟩) hbb (by simp)).trans (hcell k hlt)⟩)
              have HZ := Lib.hid hz
              have HCL := Lib.hid (hcell k hlt)
              clear hz hcell hc1 hc2
              go_upto_region 29 with fail
              refine wp_region_noPanic ?_
              refine wp_region_held_drew (S := fun w' => (w'.cell? ⟨q, 0, none⟩ = some (.int .i64 4) ∧ w'.cell? ⟨q, 1, none⟩ = some (.int .i64 2) ∧ w'.cell? ⟨q, 2, none⟩ = some (.int .i64 (n : Int))) ∧ w'.cell? ⟨bb, boff + k, none⟩ = some (.int .u8 (z2 k))) (by kernel_rfl) (HF.out _ (Off.refl [] wr).drew) (fun hHeld => ?_)
              have o := (Off.refl [] wr).drew
              refine wpAnyH_take (i := 0) (v := ?_) rfl (by kernel_rfl) (by kernel_rfl) (by kernel_rfl) (fun _ _ _ h => h) (Or.inl ⟨by rfl, ?_⟩) (by assumption) ?_
              rotate_left
              · intro w hSw
                try dsimp only at hSw
                go_simp
                first | done | with_reducible rfl
              try simp only [List.getElem_toArray, List.getElem_cons_zero, Act.put, List.setIfInBounds_toArray, List.set_cons_zero, List.set_cons_succ]
              refine wpAnyH_take (i := 1) (v := ?_) rfl (by kernel_rfl) (by kernel_rfl) (by kernel_rfl) (fun _ _ _ h => h) (Or.inl ⟨by rfl, ?_⟩) (by assumption) ?_
              rotate_left
              · intro w hSw
                try dsimp only at hSw
                go_simp
                first | done | with_reducible rfl
              try simp only [List.getElem_toArray, List.getElem_cons_succ, List.getElem_cons_zero, Act.put, List.setIfInBounds_toArray, List.set_cons_zero, List.set_cons_succ]
              refine wpAnyH_take (i := 2) (v := ?_) rfl (by kernel_rfl) (by kernel_rfl) (by kernel_rfl) (fun _ _ _ h => h) (Or.inl ⟨by rfl, ?_⟩) (by assumption) ?_
              rotate_left
              · intro w hSw
                try dsimp only at hSw
                go_simp
                first | done | with_reducible rfl
              try simp only [List.getElem_toArray, List.getElem_cons_succ, List.getElem_cons_zero, Act.put, List.setIfInBounds_toArray, List.set_cons_zero, List.set_cons_succ]
              refine wpAnyH_take (i := 3) (v := ?_) rfl (by kernel_rfl) (by kernel_rfl) (by kernel_rfl) (fun _ _ _ h => h) (Or.inl ⟨by rfl, ?_⟩) (by assumption) ?_
              rotate_left
              · intro w hSw
                try dsimp only at hSw
                go_simp
                first | done | with_reducible rfl
              try simp only [List.getElem_toArray, List.getElem_cons_succ, List.getElem_cons_zero, Act.put, List.setIfInBounds_toArray, List.set_cons_zero, List.set_cons_succ]
              refine wpAnyH_take (i := 4) (v := ?_) rfl (by kernel_rfl) (by kernel_rfl) (by kernel_rfl) (fun _ _ _ h => h) (Or.inl ⟨by rfl, ?_⟩) (by assumption) ?_
              rotate_left
              · intro w hSw
                try dsimp only at hSw
                go_simp
                first | done | with_reducible rfl
              try simp only [List.getElem_toArray, List.getElem_cons_succ, List.getElem_cons_zero, Act.put, List.setIfInBounds_toArray, List.set_cons_zero, List.set_cons_succ]
              refine wpAnyH_take (i := 5) (v := ?_) rfl (by kernel_rfl) (by kernel_rfl) (by kernel_rfl) (fun _ _ _ h => h) (Or.inl ⟨by rfl, ?_⟩) (by assumption) ?_
              rotate_left
              · intro w hSw
                try dsimp only at hSw
                go_simp
                first | done | with_reducible rfl
              try simp only [List.getElem_toArray, List.getElem_cons_succ, List.getElem_cons_zero, Act.put, List.setIfInBounds_toArray, List.set_cons_zero, List.set_cons_succ]
              refine wpAnyH_take (i := 6) (v := ?_) rfl (by kernel_rfl) (by kernel_rfl) (by kernel_rfl) (fun _ _ _ h => h) (Or.inl ⟨by rfl, ?_⟩) (by assumption) ?_
              rotate_left
              · intro w hSw
                try dsimp only at hSw
                go_simp
                first | done | with_reducible rfl
              try simp only [List.getElem_toArray, List.getElem_cons_succ, List.getElem_cons_zero, Act.put, List.setIfInBounds_toArray, List.set_cons_zero, List.set_cons_succ]
              refine wpAnyH_ready (rs := [7]) (by kernel_rfl) (by simp) (AllReadyH.cons rfl (fun K hK => ?_) AllReadyH.nil)
              go_simp
              go_wp2_with (go_at_call 11; refine (HC.out.new _ _ _ _ _ _).mono ?_; rintro e w4 ⟨⟨g, F, rfl, hi, hf⟩, oc⟩)
              refine hK.out _ _ (HF.out _ (o.trans oc)) (fun hHeld => ?_)
              clear hK K
              try simp only [List.getElem_toArray, List.getElem_cons_succ, List.getElem_cons_zero, Act.put, List.setIfInBounds_toArray, List.set_cons_zero, List.set_cons_succ]
              refine wpAnyH_take (i := 8) (v := ?_) rfl (by kernel_rfl) (by kernel_rfl) (by kernel_rfl) (fun _ _ _ h => h) (Or.inl ⟨by rfl, ?_⟩) (by assumption) ?_
              rotate_left
              · intro w hSw
                try dsimp only at hSw
                go_simp
                first | done | with_reducible rfl
              try simp only [List.getElem_toArray, List.getElem_cons_succ, List.getElem_cons_zero, Act.put, List.setIfInBounds_toArray, List.set_cons_zero, List.set_cons_succ]
              refine wpAnyH_done (by kernel_rfl) ?_ _
              refine NoPanic.normal ?_
              have hF := Lib.hid (fly_new_t HB1.out (o.trans oc) hi hf)
              have b3 := (args_in k (z2 k) HZ.out).2.2
              generalize hcl : (IntKind.i64.wrap (z2 k)).tmod 4 = cl at *
              have HCC := Lib.hid hcl
              have HPB := Lib.hid b3
              have HKM : Hid ((len + k) * (n + 1) ≤ 1000) := Lib.hid (by have := Nat.mul_le_mul (show len + k ≤ 80 by omega) (show n + 1 ≤ 9 by omega); omega)
              clear hi hf hcl b3 oc o hHeld
              go_wp2_with fail
              go_loopw [17] (fun i wr => TakeRel I w q bm gw hw n f g (tk0 4 2 n 1 cl) s i wr) (fun i _ => (n + 1) - (intOf i).toNat)
              case atStart => exact ⟨0, by omega, rfl, F, hF.out⟩
              case round =>
                obtain ⟨k2, hk2, rfl, F2, hf2⟩ := hrel
                have HF2 := Lib.hid hf2
                have wn : IntKind.i64.wrap ((n : Int) + 1) = (n : Int) + 1 := IntWalk.i64_in _ (by omega)
                clear hf2 hF
                by_cases hlt2 : k2 < n + 1
                · have d5 : decide ((k2 : Int) < (n : Int) + 1) = true := by simp; omega
                  go_wp2_with (go_at_call 13; refine (fly_seq_t HC.out hn HBO.out HKM.out hk2 HF2.out).mono ?_; rintro e w5 ⟨rfl, F5, hf5⟩)
                  go_roundw
                  case rel => exact ⟨k2 + 1, by omega, by go_num, F5, hf5⟩
                  case measure => simp [intOf]; omega
                · obtain rfl : k2 = n + 1 := by omega
                  have d5 : decide ((((n + 1 : Nat)) : Int) < (n : Int) + 1) = false := by simp
                  have wn1 : IntKind.i64.wrap ((n : Int) - 1) = (n : Int) - 1 := IntWalk.i64_in _ (by omega)
                  clear hlt2
                  go_wp2_with fail
                  rw [show (((n + 1 : Nat)) : Int) = (n : Int) + 1 by omega]
                  go_loopw [18, 19] (fun fr i wr => LowRelT I w q bm gw hw n f cl g F2 (seqT (tk0 4 2 n 1 cl) s (n + 1)).1 (seqT (tk0 4 2 n 1 cl) s (n + 1)).2 fr i wr) (fun _ i _ => (intOf i + 1).toNat)
                  case atStart => exact ⟨0, _, by omega, rfl, rfl, by omega, HF2.out⟩
                  case round =>
                    obtain ⟨r, v, hr, rfl, rfl, hv, hf3⟩ := hrel
                    have HF3 := Lib.hid hf3
                    clear hf3 HF2
                    by_cases hlt3 : r < n
                    · obtain ⟨j, rfl⟩ : ∃ j : Nat, v = (j : Int) := ⟨n - 1 - r, by omega⟩
                      have HJ : Hid (j = n - 1 - r) := Lib.hid (by omega)
                      have d6 : decide ((0 : Int) ≤ (j : Int)) = true := by simp
                      have hji : (j : Int) < (n : Int) := by omega
                      have wj : IntKind.i64.wrap ((j : Int) - 1) = (j : Int) - 1 := IntWalk.i64_in _ (by omega)
                      have cj := HF3.out.b.cell j (by omega)
                      have bj := lies_bd (HBO.out.held j (by omega))
                      have c38 := (HF3.out.b.off.cell (p := ⟨bb, boff + k, none⟩) hbb (by simp)).trans HCL.out
                      have HJR := Lib.hid hv
                      clear hv
                      by_cases hz : 0 < f j
                      · have d7 : decide ((0 : Int) < f j) = true := by simpa using hz
                        have wf : IntKind.i64.wrap (f j - 1) = f j - 1 := IntWalk.i64_in _ (by omega)
                        have tf : (f j - 1).tmod 4 = (f j - 1) % 4 := Int.tmod_eq_emod_of_nonneg (by omega)
                        have tc : (wrap64 (z2 k)).tmod 4 = cl := by have := HZ.out; rw [← HCC.out, IntWalk.wrap64_in _ (by omega), IntWalk.i64_in _ (by omega)]
                        by_cases he : (f j - 1) % 4 = cl
                        · have HE := Lib.hid he
                          go_wp2_with fail
                          go_quiet (fail)
                          go_wp2_with fail
                          go_roundw
                          case rel => exact ⟨r + 1, _, by omega, by rw [dnT_yes (by rw [← HJ.out]; exact ⟨hz, HE.out⟩), ← HJ.out], rfl, by have := HJR.out; omega, HF3.out.off0 HC.out ((Off.refl [] _).drewN _)⟩
                          case measure => simp [intOf]
                        · have d8 : ((f j - 1) % 4 == cl) = false := by simpa using he
                          go_wp2_with fail
                          go_quiet (fail)
                          go_wp2_with fail
                          go_roundw
                          case rel => exact ⟨r + 1, _, by omega, by rw [dnT_no (by rw [← HJ.out]; exact fun h => he h.2)], rfl, by have := HJR.out; omega, HF3.out.off0 HC.out ((Off.refl [] _).drewN _)⟩
                          case measure => simp [intOf]
                      · have d7 : decide ((0 : Int) < f j) = false := by simpa using hz
                        go_wp2_with fail
                        go_quiet (fail)
                        go_wp2_with fail
                        go_roundw
                        case rel => exact ⟨r + 1, _, by omega, by rw [dnT_no (by rw [← HJ.out]; exact fun h => by omega)], rfl, by have := HJR.out; omega, HF3.out.off0 HC.out ((Off.refl [] _).drewN _)⟩
                        case measure => simp [intOf]
                    · obtain rfl : n = r := by omega
                      obtain rfl : v = -1 := by omega
                      clear hlt3 hv
                      obtain ⟨p1, p2, p3, p4⟩ := take_round2 hn HBO.out HPB.out
                      have bd : -1 ≤ dnT f cl n n ∧ dnT f cl n n < n := dn_bd (fun j => decide (0 < f j ∧ (f j - 1) % 4 = cl)) n n (Nat.le_refl _)
                      generalize hdn : dnT f cl n n = d at *
                      have HP1 := Lib.hid p1
                      have HP4 := Lib.hid p4
                      clear p1 p4 hdn
                      by_cases hd : 0 ≤ d
                      · obtain ⟨j, rfl⟩ : ∃ j : Nat, d = (j : Int) := ⟨d.toNat, by omega⟩
                        have hji : (j : Int) < (n : Int) := by omega
                        have dd : decide ((0 : Int) ≤ (j : Int)) = true := by simp
                        rw [dd] at p2
                        obtain ⟨q1, q2, q3, q4⟩ := p3 hd
                        rw [Int.toNat_natCast] at q1 q2
                        have HP2 := Lib.hid p2
                        have bj := lies_bd (HBO.out.held j (by omega))
                        clear hd bd p3 p2
                        go_upto_region 41 with (go_at_call 23; refine (HC.out.found HF3.out.t).mono ?_; rintro e w6 ⟨hq1, hq2, o6⟩; obtain rfl := hq1 HP2.out; clear hq1 hq2; have HF4 := Lib.hid (HF3.out.off0 HC.out o6); clear HF3 o6)
                        have wf : IntKind.i64.wrap (f j - 1) = f j - 1 := IntWalk.i64_in _ (by omega)
                        have td : (f j - 1).tdiv 4 = (seqT (tk0 4 2 n 1 cl) s (n + 1)).1.page * 2 + (seqT (tk0 4 2 n 1 cl) s (n + 1)).1.slot := by rw [Int.tdiv_eq_ediv_of_nonneg (by omega)]; exact q2
                        generalize (seqT (tk0 4 2 n 1 cl) s (n + 1)).1.page = pg at *
                        generalize (seqT (tk0 4 2 n 1 cl) s (n + 1)).1.slot = sl at *
                        have wp2 : IntKind.i64.wrap (pg * 2) = pg * 2 := IntWalk.i64_in _ (by omega)
                        have wp3 : IntKind.i64.wrap (pg * 2 + sl) = pg * 2 + sl := IntWalk.i64_in _ (by omega)
                        clear q2
                        go_wp2_with (go_at_call 16; refine (HC.out.done HF4.out.t).mono ?_; rintro e w7 ⟨rfl, o7⟩; rw [HP1.out]; have HF5 := Lib.hid (HF4.out.off0 HC.out o7); clear HF4 o7; have cj := HF5.out.b.cell j (by omega); have zj := HF5.out.b.row.free j)
                        go_roundw
                        case rel => exact ⟨k + 1, by omega, by go_num, _, _, HF5.out.b.mark j 0, by rw [← Nat.add_assoc, Nat.succ_mul]; exact HP4.out⟩
                        case measure => simp [intOf]; omega
                      · obtain rfl : d = -1 := by omega
                        rw [show decide ((0 : Int) ≤ -1) = false by decide] at p2
                        have HP2 := Lib.hid p2
                        clear hd bd p3 p2
                        go_wp2_with (first | (go_at_call 23; refine (HC.out.found HF3.out.t).mono ?_; rintro e w6 ⟨hq1, hq2, o6⟩; obtain rfl := hq2 HP2.out; clear hq1 hq2; have HF4 := Lib.hid (HF3.out.off0 HC.out o6); clear HF3 o6) | (go_at_call 16; refine (HC.out.done HF4.out.t).mono ?_; rintro e w7 ⟨rfl, o7⟩; rw [HP1.out]; have HF5 := Lib.hid (HF4.out.off0 HC.out o7); clear HF4 o7))
                        go_roundw
                        case rel => exact ⟨k + 1, by omega, by go_num, _, _, HF5.out.b, by rw [← Nat.add_assoc, Nat.succ_mul]; have := HP4.out; rw [updI_no] at this; exact this⟩
                        case measure => simp [intOf]; omega
            · obtain rfl : len2 = k := by omega
              have d4 : decide ((len2 : Int) < (len2 : Int)) = false := by simp
              clear hlt hk
              go_wp2_with fail
              go_loopw [23] (fun i wr => ∃ k : Nat, k ≤ n ∧ i = .int .i64 k ∧ Bm w q bm gw hw n s f wr) (fun i _ => n - (intOf i).toNat)
              case atStart => exact ⟨0, by omega, rfl, HB1.out⟩
              case round =>
                obtain ⟨k, hk, rfl, hb⟩ := hrel
                have HB2 := Lib.hid hb
                obtain ⟨x0, x1, x2⟩ := hb.shape
                clear hb HB1
                by_cases hlt : k < n
                · have d5 : decide ((k : Int) < (n : Int)) = true := by simp; omega
                  have HMG : Hid (magI 4 2 n 0 k = ((70 + k : Nat) : Int)) := Lib.hid (by
                    have h := (mag_in (P := 4) (C := 2) (M := n) (c := 0) (i := k) ⟨by decide, by decide, by decide, by decide, by omega, by omega⟩ ⟨by decide, by decide⟩ (by omega)).1
                    omega)
                  have HLO := Lib.hid (HBO.out.low (70 + k) (by omega))
                  have HLE := Lib.hid HBO.out.len
                  go_wp2_with (first | (go_at_call 27; refine (rmag_any 4 2 n 0 k _).mono ?_; rintro e w6 ⟨rfl, o6⟩; rw [HMG.out]; have HB3 := Lib.hid (HB2.out.off0 o6); clear o6) | (go_at_call 28; refine (look_i HB3.out.m _ (70 + k) rfl (by rw [HLE.out]; omega)).mono ?_; rintro e w7 ⟨rfl, rfl⟩; rw [HLO.out]))
                  go_roundw
                  case rel => exact ⟨k + 1, by omega, by go_num, HB3.out⟩
                  case measure => simp [intOf]; omega
                · have d5 : decide ((k : Int) < (n : Int)) = false := by simp; omega
                  go_wp2_with fail
                  go_ret
                  exact ⟨rfl, HB2.out.off⟩
    · have d1 : decide ((40 : Int) < (len : Int)) = false := by simp; omega
      have d2 : decide ((40 : Int) < (len2 : Int)) = true := by simp; omega
      go_enter Try.func26, Try.ntmps26
      go_wp2_with (go_at_call 7; refine (HA.out _).mono ?_; rintro e w1 ⟨rfl, o1⟩)
      go_ret
      exact ⟨rfl, o1⟩
  · have d1 : decide ((40 : Int) < (len : Int)) = true := by simp; omega
    go_enter Try.func26, Try.ntmps26
    go_wp2_with (go_at_call 7; refine (HA.out _).mono ?_; rintro e w1 ⟨rfl, o1⟩)
    go_ret
    exact ⟨rfl, o1⟩

end Go.Proofs.Ytdnahojpeplajaa.Mag
