/- ModelPlays: the program's model and the document's side by side; the walk, over the contracts of the program's model. -/
import Derived.Test.YtpkpkfcboimhnaaModC
import Derived.Test.YtpkpkfcboimhnaaModF
import Derived.Deep.CutBlock
namespace Go.Proofs.Ytpkpkfcboimhnaa.Mod
open Go.RowKit Mem Go.Proofs.Ytpkpkfcboimhnaa.Open

theorem IsV.offF {w1 w2 : World} {base b : Nat} {W : Int} {l : List Bk} {F : List Nat} (h : IsV w1 base b W l) (ho : Off F w1 w2)
    (hn : ∀ k ∈ F, ∀ t cs, Blk w1 k t cs → t ≠ 36 ∧ t ≠ 46) : IsV w2 base b W l := by
  obtain ⟨lv, hh, hown⟩ := h.head
  exact ⟨⟨lv, ho.blk hh (fun m => (hn b m _ _ hh).2 rfl), own_keep hown (fun c cur hc _ => ho.block c (⟨hc⟩ : Blk w1 c _ _).lt (fun m => (hn c m _ _ ⟨hc⟩).1 rfl))⟩, Nat.le_trans h.lo ho.size, h.hb, h.ok, h.w0, h.w1⟩

/-- The program's model, and the document's. -/
structure Pair (I : Hold) (w : World) (g : Nat) (F : List Nat) (W : Int) (la : List Bk) (b : Nat) (lb : List Bk) (w' : World) : Prop where
  a : Live I w g F W la w'
  v : IsV w' w.heap.size b W lb
/-- And a deed beside them. -/
structure Play (I : Hold) (w : World) (g : Nat) (F : List Nat) (W : Int) (la : List Bk) (b : Nat) (lb : List Bk) (db : Nat) (d : Tri) (w' : World) : Prop where
  p : Pair I w g F W la b lb w'
  d : Blk w' db 29 #[.int .i64 d.n0, .int .i64 d.n1, .int .i64 d.n2]
  nd : db ∉ F

section
variable {I : Hold} {w w1 w2 : World} {g b db : Nat} {F : List Nat} {W : Int} {la la' lb lb' : List Bk} {d : Tri}
theorem Pair.off0 (C : Con I) (h : Pair I w g F W la b lb w1) (ho : Off [] w1 w2) : Pair I w g F W la b lb w2 := ⟨C.off0 h.a ho, h.v.off0 ho⟩
theorem Pair.nb (C : Con I) (h : Pair I w g F W la b lb w1) : b ∉ F := fun m => by
  obtain ⟨lv, hh, -⟩ := h.v.head
  exact (C.typ h.a.i b m _ _ hh).2 rfl
theorem Play.off0 (C : Con I) (h : Play I w g F W la b lb db d w1) (ho : Off [] w1 w2) : Play I w g F W la b lb db d w2 := ⟨h.p.off0 C ho, ho.blk h.d (by simp), h.nd⟩
theorem Play.len (C : Con I) (h : Play I w g F W la b lb db d w1) : la.length ≤ 4096 := by
  obtain ⟨h1, h2, h3⟩ := C.ok h.p.a.i
  have := ok_len 0 h1 (fun b hb => (h1.each b hb).1) h2
  omega
theorem play_new (C : Con I) (h : Pair I w g F W la b lb w1) (d : Tri) : Play I w g F W la b lb w1.heap.size d (w1.alloc (.cells #[.int .i64 d.n0, .int .i64 d.n1, .int .i64 d.n2] 29)) :=
  ⟨h.off0 C ((Off.refl _ _).alloc _), Blk.new _ _ _, fun m => absurd (C.lt h.a.i _ m) (Nat.lt_irrefl _)⟩
theorem Play.turn_a (C : Con I) (h : Play I w g F W la b lb db d w1) (hx : ∃ F', I w2 g F' W la' ∧ ∀ k ∈ F', k ∈ F ∨ w1.heap.size ≤ k) (ho : Off F w1 w2) : ∃ F', Play I w g F' W la' b lb db d w2 := by
  obtain ⟨F', h1, h2⟩ := hx
  refine ⟨F', ⟨⟨h1, off_F h.p.a.off ho h.p.a.fresh, fun k hk => ?_⟩, h.p.v.offF ho (C.typ h.p.a.i)⟩, ho.blk h.d h.nd, fun hk => ?_⟩
  · rcases h2 k hk with h3 | h3
    · exact h.p.a.fresh k h3
    · have := h.p.a.off.size; omega
  · rcases h2 db hk with h3 | h3
    · exact h.nd h3
    · have := h.d.lt; omega
theorem Play.turn_b (C : Con I) (h : Play I w g F W la b lb db d w1) (hv : IsV w2 w.heap.size b W lb') (ho : Off [b] w1 w2) : Play I w g F W la b lb' db d w2 := by
  obtain ⟨lv, hh, -⟩ := h.p.v.head
  have hne := Blk.ne h.d hh (by decide)
  have hb := h.p.v.hb
  exact ⟨⟨⟨C.keep h.p.a.i ho (fun k hk => by rw [List.mem_singleton.1 hk]; exact h.p.nb C), off_F h.p.a.off ho (fun k hk => by rw [List.mem_singleton.1 hk]; exact hb), h.p.a.fresh⟩, hv⟩, ho.blk h.d (by simpa using hne), h.nd⟩
theorem Play.c1 (h : Play I w g F W la b lb db d w1) : w1.cell? ⟨db, 1, none⟩ = some (.int .i64 d.n1) := h.d.cell 1
theorem Play.c2 (h : Play I w g F W la b lb db d w1) : w1.cell? ⟨db, 2, none⟩ = some (.int .i64 d.n2) := h.d.cell 2
theorem pair_cells {t : TypeId} {x y : Value} (h : Blk w b t #[x, y]) : w.cell? ⟨b, 0, none⟩ = some x ∧ w.cell? ⟨b, 1, none⟩ = some y := ⟨h.cell 0, h.cell 1⟩
theorem play_take_a (C : Con I) (h : Play I w g F W la b lb db d w1) (p n : Int) :
    Calls Try.prog 10 #[.pointer (some ⟨g, 0, none⟩), .int .i64 p, .int .i64 n] w1 fun e w' => e = .returned (.bool (canB W la p n)) ∧ ∃ F', Play I w g F' W (takeL W la p n) b lb db d w' :=
  (C.take h.p.a.i p n).mono fun _ _ k => ⟨k.1, h.turn_a C k.2.1 k.2.2⟩
theorem play_give_a (C : Con I) (h : Play I w g F W la b lb db d w1) (p : Int) :
    Calls Try.prog 12 #[.pointer (some ⟨g, 0, none⟩), .int .i64 p] w1 fun e w' => e = .returned (.bool (giveB la p)) ∧ ∃ F', Play I w g F' W (give la p) b lb db d w' :=
  (C.give h.p.a.i p).mono fun _ _ k => ⟨k.1, h.turn_a C k.2.1 k.2.2⟩
theorem play_take_b (C : Con I) (h : Play I w g F W la b lb db d w1) (p n : Int) :
    Calls Try.prog 11 #[.pointer (some ⟨b, 0, none⟩), .int .i64 p, .int .i64 n] w1 fun e w' => e = .returned (.bool (canB W lb p n)) ∧ Play I w g F W la b (takeL W lb p n) db d w' :=
  (rtake_any h.p.v p n).mono fun _ _ k => ⟨k.1, h.turn_b C k.2.1 k.2.2⟩
theorem play_give_b (C : Con I) (h : Play I w g F W la b lb db d w1) (p : Int) :
    Calls Try.prog 13 #[.pointer (some ⟨b, 0, none⟩), .int .i64 p] w1 fun e w' => e = .returned (.bool (giveB lb p)) ∧ Play I w g F W la b (give lb p) db d w' :=
  (rgive_any h.p.v p).mono fun _ _ k => ⟨k.1, h.turn_b C k.2.1 k.2.2⟩
end
def PlayRel (I : Hold) (w : World) (g b : Nat) (W : Int) (len : Nat) (i : Value) (wr : World) : Prop :=
  ∃ (j : Nat) (l : List Bk) (F : List Nat), j ≤ len ∧ i = .int .i64 j ∧ Pair I w g F W l b l wr

/-- Behind a deed: both say the same, and hold the same. -/
def CutRel (I : Hold) (w : World) (g b : Nat) (W : Int) (db : Nat) (d : Tri) (ok : Value) (wr : World) : Prop :=
  ok = .bool true ∧ ∃ (l : List Bk) (F : List Nat), Play I w g F W l b l db d wr

set_option maxRecDepth 100000 in
set_option maxHeartbeats 16000000 in
theorem plays_walk {I : Hold} (C : Con I) (m : Int) (a0 : Option Addr) (len cap : Nat) (z : Nat → Tri) (w : World) (hr : IsRowT w a0 len cap z) :
    Calls Try.prog 3 #[.int .i64 m, .slice a0 len cap] w fun e w' => e = .returned (.bool true) ∧ Off [] w w' := by
  have HC := Lib.hid C
  have HR := Lib.hid hr
  clear C hr
  by_cases hlen : 100 < len
  · have hl1 : decide (100 < len) = true := by simpa using hlen
    go_enter Try.func3, Try.ntmps3
    go_wp2_with (go_at_call 7; refine (awake_any HC.out _).mono ?_; rintro e w1 ⟨rfl, o1⟩)
    go_ret
    exact ⟨rfl, o1⟩
  · have hl0 : decide (100 < len) = false := by simpa using hlen
    go_enter Try.func3, Try.ntmps3
    go_wp2_with (first | (go_at_call 7; refine (awake_any HC.out _).mono ?_; rintro e w1 ⟨rfl, o1⟩; have O1 := Lib.hid o1; clear o1) | (go_at_call 9; refine (rnew_any m _ w.heap.size L1.out.off.size).mono ?_; rintro e w3 ⟨rfl, hv, ho⟩; have T1 := Lib.hid (Pair.mk (HC.out.off0 L1.out ho) hv); clear hv ho) | (go_at_call 8; refine (HC.out.new m _).mono ?_; rintro e w2 ⟨g, F, rfl, hi, ho, hf⟩; have L1 : Hid (Live I w g F (clampW m) [] w2) := Lib.hid ⟨hi, O1.out.trans ho, fun k hk => Nat.le_trans O1.out.size (hf k hk)⟩; clear hi ho hf))
    generalize clampW m = W at *
    generalize w2.heap.size = b at *
    go_loopw [7] (fun i wr => PlayRel I w g b W len i wr) (fun i _ => len - (intOf i).toNat)
    case atStart => exact ⟨0, [], F, Nat.zero_le _, rfl, T1.out⟩
    case round =>
      clear L1 T1
      obtain ⟨j, l, F, hj, rfl, hp⟩ := hrel
      have HP := Lib.hid hp
      clear hp
      by_cases hlt : j < len
      · have dlt : (j : Int) < (len : Int) := by omega
        obtain ⟨bz, off, rfl, hbl, hcap, hmax, hcell⟩ := HR.out.some_ (by omega)
        obtain ⟨-, hzc⟩ := hcell j hlt
        have hmem : ∀ i u, (z j).cells[i]? = some u → wr.cell? ⟨bz, off + j * 3 + i, none⟩ = some u := fun i u hu => by rw [HP.out.a.off.cell hbl (by simp)]; exact hzc i u hu
        have c0 := hmem 0 _ rfl
        have c1 := hmem 1 _ rfl
        have c2 := hmem 2 _ rfl
        rw [Nat.add_zero] at c0
        clear hcell hzc hmem
        generalize z j = d at *
        have HY0 := Lib.hid (play_new HC.out HP.out d)
        have e1 := HY0.out.c1
        have e2 := HY0.out.c2
        go_upto_block 2 with fail
        go_cut [9] from 39 to 68 (fun ok wx => CutRel I w g b W wr.heap.size d ok wx)
        case first =>
          by_cases q1 : d.n0 ≤ 3
          · as_aux_lemma =>
              have t1 : decide (d.n0 ≤ 3) = true := by simpa using q1
              go_upto_region 14 with fail
              go_region_held3 (fun w' => w'.cell? ⟨wr.heap.size, 1, none⟩ = some (.int .i64 d.n1) ∧ w'.cell? ⟨wr.heap.size, 2, none⟩ = some (.int .i64 d.n2)) (first | exact ⟨e1, e2⟩ | exact ⟨k1, k2⟩ | exact ⟨r1, r2⟩) (first | (go_at_call 10; refine (play_take_a HC.out (by first | exact yB | exact HY0.out.off0 HC.out ((Off.refl _ _).drewN _)) _ _).mono ?_; rintro e wA ⟨rfl, FA, yA⟩; have k1 := yA.c1; have k2 := yA.c2) | (go_at_call 11; refine (play_take_b HC.out (by first | exact yA | exact HY0.out.off0 HC.out ((Off.refl _ _).drewN _)) _ _).mono ?_; rintro e wB ⟨rfl, yB⟩; have r1 := yB.c1; have r2 := yB.c2))
              all_goals
                go_wp2_with fail
                go_meet
                case rel => exact ⟨rfl, _, FA, by first | exact yB | exact yA⟩
          · have t1 : decide (d.n0 ≤ 3) = false := by simpa using q1
            by_cases q2 : d.n0 ≤ 5
            · as_aux_lemma =>
                have t2 : decide (d.n0 ≤ 5) = true := by simpa using q2
                go_upto_region 16 with fail
                go_region_held3 (fun w' => w'.cell? ⟨wr.heap.size, 1, none⟩ = some (.int .i64 d.n1) ∧ w'.cell? ⟨wr.heap.size, 2, none⟩ = some (.int .i64 d.n2)) (first | exact ⟨e1, e2⟩ | exact ⟨k1, k2⟩ | exact ⟨r1, r2⟩) (first | (go_at_call 12; refine (play_give_a HC.out (by first | exact yB | exact HY0.out.off0 HC.out ((Off.refl _ _).drewN _)) _).mono ?_; rintro e wA ⟨rfl, FA, yA⟩; have k1 := yA.c1; have k2 := yA.c2) | (go_at_call 13; refine (play_give_b HC.out (by first | exact yA | exact HY0.out.off0 HC.out ((Off.refl _ _).drewN _)) _).mono ?_; rintro e wB ⟨rfl, yB⟩; have r1 := yB.c1; have r2 := yB.c2))
                all_goals
                  go_wp2_with fail
                  go_meet
                  case rel => exact ⟨rfl, _, FA, by first | exact yB | exact yA⟩
            · have t2 : decide (d.n0 ≤ 5) = false := by simpa using q2
              go_wp2_with fail
              go_meet
              case rel => exact ⟨rfl, _, F, HY0.out⟩
        case rest =>
            clear e1 e2 c0 c1 c2 HY0
            obtain ⟨rfl, l1, FA, hy⟩ := hcut
            have e1 := hy.c1
            have e2 := hy.c2
            have HY := Lib.hid hy
            have HLL := Lib.hid (HY.out.len HC.out)
            clear hy
            go_upto_region 21 with (first | (go_at_call 14; refine (HC.out.at_ HY.out.p.a.i _).mono ?_; rintro e w3 ⟨rfl, o3⟩; have HY3 := Lib.hid (HY.out.off0 HC.out o3); have z1 := HY3.out.c1; have z1b := (HY3.out.off0 HC.out ((Off.refl _ _).alloc (.cells #[.int .i64 (fp (atF l1 d.n1)), .int .i64 (fn (atF l1 d.n1))] 33))).c1; clear o3) | (go_at_call 15; refine (rat_any (HY3.out.off0 HC.out ((Off.refl _ _).alloc _)).p.v _).mono ?_; rintro e w4 ⟨rfl, o4⟩; have HY4 := Lib.hid ((HY3.out.off0 HC.out ((Off.refl _ _).alloc _)).off0 HC.out o4); have z2 := HY4.out.c1; have z2b := (HY4.out.off0 HC.out ((Off.refl _ _).alloc (.cells #[.int .i64 (fp (atF l1 d.n1)), .int .i64 (fn (atF l1 d.n1))] 36))).c1; have A4 := Lib.hid (o4.blk (Blk.new w3 33 #[.int .i64 (fp (atF l1 d.n1)), .int .i64 (fn (atF l1 d.n1))]) (by simp)); clear o4) | (go_at_call 16; refine (HC.out.inside (HY4.out.off0 HC.out ((Off.refl _ _).alloc _)).p.a.i _).mono ?_; rintro e w5 ⟨rfl, o5⟩; have HY5 := Lib.hid ((HY4.out.off0 HC.out ((Off.refl _ _).alloc _)).off0 HC.out o5); have z3 := HY5.out.c1; have z3b := (HY5.out.off0 HC.out ((Off.refl _ _).alloc (.cells #[.int .i64 (fp (insideF l1 d.n1)), .int .i64 (fn (insideF l1 d.n1))] 33))).c1; have A5 := Lib.hid (o5.blk (((Off.refl [] _).alloc (.cells #[.int .i64 (fp (atF l1 d.n1)), .int .i64 (fn (atF l1 d.n1))] 36)).blk A4.out (by simp)) (by simp)); have B5 := Lib.hid (o5.blk (Blk.new w4 36 #[.int .i64 (fp (atF l1 d.n1)), .int .i64 (fn (atF l1 d.n1))]) (by simp)); clear o5) | (go_at_call 17; refine (rinside_any (HY5.out.off0 HC.out ((Off.refl _ _).alloc _)).p.v _).mono ?_; rintro e w6 ⟨rfl, o6⟩; have HY6 := Lib.hid ((HY5.out.off0 HC.out ((Off.refl _ _).alloc _)).off0 HC.out o6); have C6 := Lib.hid ((o6.alloc (.cells #[.int .i64 (fp (insideF l1 d.n1)), .int .i64 (fn (insideF l1 d.n1))] 36)).blk (Blk.new w5 33 #[.int .i64 (fp (insideF l1 d.n1)), .int .i64 (fn (insideF l1 d.n1))]) (by simp)); have A6 := Lib.hid ((o6.alloc (.cells #[.int .i64 (fp (insideF l1 d.n1)), .int .i64 (fn (insideF l1 d.n1))] 36)).blk (((Off.refl [] _).alloc (.cells #[.int .i64 (fp (insideF l1 d.n1)), .int .i64 (fn (insideF l1 d.n1))] 33)).blk A5.out (by simp)) (by simp)); have B6 := Lib.hid ((o6.alloc (.cells #[.int .i64 (fp (insideF l1 d.n1)), .int .i64 (fn (insideF l1 d.n1))] 36)).blk (((Off.refl [] _).alloc (.cells #[.int .i64 (fp (insideF l1 d.n1)), .int .i64 (fn (insideF l1 d.n1))] 33)).blk B5.out (by simp)) (by simp));  have z4 := (HY6.out.off0 HC.out ((Off.refl _ _).alloc (.cells #[.int .i64 (fp (insideF l1 d.n1)), .int .i64 (fn (insideF l1 d.n1))] 36))).c2; clear o6))
            have HH6 : Hid (∀ w', Off [] (w6.alloc (.cells #[.int .i64 (fp (insideF l1 d.n1)), .int .i64 (fn (insideF l1 d.n1))] 36)) w' → Play I w g FA W l1 b l1 wr.heap.size d w') := Lib.hid (fun w' ho => (HY6.out.off0 HC.out ((Off.refl _ _).alloc _)).off0 HC.out ho)
            obtain ⟨va, vc, q0, -, rv⟩ := (HH6.out _ (Off.refl _ _)).p.v.read
            have RV := Lib.hid rv
            have D6 := Lib.hid (Blk.new w6 36 #[.int .i64 (fp (insideF l1 d.n1)), .int .i64 (fn (insideF l1 d.n1))])
            have KP : Hid (∀ w', Off [] (w6.alloc (.cells #[.int .i64 (fp (insideF l1 d.n1)), .int .i64 (fn (insideF l1 d.n1))] 36)) w' → w'.cell? ⟨w3.heap.size, 0, none⟩ = some (.int .i64 (fp (atF l1 d.n1))) ∧ w'.cell? ⟨w3.heap.size, 1, none⟩ = some (.int .i64 (fn (atF l1 d.n1))) ∧ w'.cell? ⟨w4.heap.size, 0, none⟩ = some (.int .i64 (fp (atF l1 d.n1))) ∧ w'.cell? ⟨w4.heap.size, 1, none⟩ = some (.int .i64 (fn (atF l1 d.n1))) ∧ w'.cell? ⟨w5.heap.size, 0, none⟩ = some (.int .i64 (fp (insideF l1 d.n1))) ∧ w'.cell? ⟨w5.heap.size, 1, none⟩ = some (.int .i64 (fn (insideF l1 d.n1))) ∧ w'.cell? ⟨w6.heap.size, 0, none⟩ = some (.int .i64 (fp (insideF l1 d.n1))) ∧ w'.cell? ⟨w6.heap.size, 1, none⟩ = some (.int .i64 (fn (insideF l1 d.n1))) ∧ w'.cell? ⟨wr.heap.size, 2, none⟩ = some (.int .i64 d.n2) ∧ w'.cell? ⟨b, 0, none⟩ = some (.slice va l1.length vc)) := Lib.hid (fun w' ho => by
              obtain ⟨a0, a1⟩ := pair_cells (ho.blk A6.out (by simp))
              obtain ⟨b0, b1⟩ := pair_cells (ho.blk B6.out (by simp))
              obtain ⟨g0, g1⟩ := pair_cells (ho.blk C6.out (by simp))
              obtain ⟨h0, h1⟩ := pair_cells (ho.blk D6.out (by simp))
              exact ⟨a0, a1, b0, b1, g0, g1, h0, h1, (HH6.out _ ho).c2, (ho.cell (World.block_lt_of_cell? _ _ q0) (by simp)).trans q0⟩)
            simp only [List.append]
            have kk := KP.out _ (Off.refl _ _)
            go_region_held3 (fun w' => w'.cell? ⟨w3.heap.size, 0, none⟩ = some (.int .i64 (fp (atF l1 d.n1))) ∧ w'.cell? ⟨w3.heap.size, 1, none⟩ = some (.int .i64 (fn (atF l1 d.n1))) ∧ w'.cell? ⟨w4.heap.size, 0, none⟩ = some (.int .i64 (fp (atF l1 d.n1))) ∧ w'.cell? ⟨w4.heap.size, 1, none⟩ = some (.int .i64 (fn (atF l1 d.n1))) ∧ w'.cell? ⟨w5.heap.size, 0, none⟩ = some (.int .i64 (fp (insideF l1 d.n1))) ∧ w'.cell? ⟨w5.heap.size, 1, none⟩ = some (.int .i64 (fn (insideF l1 d.n1))) ∧ w'.cell? ⟨w6.heap.size, 0, none⟩ = some (.int .i64 (fp (insideF l1 d.n1))) ∧ w'.cell? ⟨w6.heap.size, 1, none⟩ = some (.int .i64 (fn (insideF l1 d.n1))) ∧ w'.cell? ⟨wr.heap.size, 2, none⟩ = some (.int .i64 d.n2) ∧ w'.cell? ⟨b, 0, none⟩ = some (.slice va l1.length vc)) (first | exact kk | exact KP.out _ ((Off.refl _ _).drewN _) | exact KP.out _ p12 | exact KP.out _ p11 | exact KP.out _ p10 | exact KP.out _ p9 | exact KP.out _ p8 | exact KP.out _ p7) (first | (go_at_call 18; refine (HC.out.room (HH6.out _ (by first | exact p8 | exact (Off.refl _ _).drewN _)).p.a.i _).mono ?_; rintro e w7 ⟨rfl, o7⟩; have p7 : Off [] (w6.alloc (.cells #[.int .i64 (fp (insideF l1 d.n1)), .int .i64 (fn (insideF l1 d.n1))] 36)) w7 := (by first | exact p8.trans o7 | exact ((Off.refl _ _).drewN _).trans o7)) | (go_at_call 19; refine (rroom_any (HH6.out _ (by first | exact p7 | exact (Off.refl _ _).drewN _)).p.v _).mono ?_; rintro e w8 ⟨rfl, o8⟩; have p8 : Off [] (w6.alloc (.cells #[.int .i64 (fp (insideF l1 d.n1)), .int .i64 (fn (insideF l1 d.n1))] 36)) w8 := (by first | exact p7.trans o8 | exact ((Off.refl _ _).drewN _).trans o8)) | (go_at_call 20; refine (HC.out.used (HH6.out _ (by first | exact p8 | exact p7)).p.a.i).mono ?_; rintro e w9 ⟨rfl, o9⟩; have p9 : Off [] (w6.alloc (.cells #[.int .i64 (fp (insideF l1 d.n1)), .int .i64 (fn (insideF l1 d.n1))] 36)) w9 := (by first | exact p8.trans o9 | exact p7.trans o9)) | (go_at_call 21; refine (rused_any (HH6.out _ (by first | exact p9 | exact p8 | exact p7)).p.v).mono ?_; rintro e w10 ⟨rfl, rfl⟩) | (go_at_call 24; refine (HC.out.blocks (HH6.out _ (by first | exact p9 | exact p8 | exact p7)).p.a.i).mono ?_; rintro e w10 ⟨⟨u0, rfl, r0⟩, o10⟩; have p10 : Off [] (w6.alloc (.cells #[.int .i64 (fp (insideF l1 d.n1)), .int .i64 (fn (insideF l1 d.n1))] 36)) w10 := (by first | exact p9.trans o10 | exact p8.trans o10 | exact p7.trans o10)) | (go_at_call 23; refine (blocks_any r0 HLL.out).mono ?_; rintro e w11 ⟨⟨u1, rfl, r1⟩, o11⟩; have p11 : Off [] (w6.alloc (.cells #[.int .i64 (fp (insideF l1 d.n1)), .int .i64 (fn (insideF l1 d.n1))] 36)) w11 := p10.trans o11) | (go_at_call 22; refine (same_same r1 (RV.out.off p11 (by simp)) HLL.out).mono ?_; rintro e w12 ⟨rfl, o12⟩; have p12 : Off [] (w6.alloc (.cells #[.int .i64 (fp (insideF l1 d.n1)), .int .i64 (fn (insideF l1 d.n1))] 36)) w12 := p11.trans o12))
            all_goals
              go_wp2_with fail
              go_roundw
              case rel => exact ⟨j + 1, l1, FA, by omega, by go_num, (HH6.out _ p12).p⟩
              case measure => simp [intOf]; omega
      · obtain rfl : j = len := by omega
        go_wp2_with fail
        go_ret
        exact ⟨rfl, HP.out.a.off⟩

end Go.Proofs.Ytpkpkfcboimhnaa.Mod
