/- EdgeOrder: the walk. -/
import Derived.Test.YthpbdgdbgohooaaEdgeD
import Derived.BigQuiet
import Derived.Deep.QuietTactic
namespace Go.Proofs.Ythpbdgdbgohooaa.Edge
open Go.RowKit Fl

/-- One of three. -/
def pick3 (b0 b1 b2 k : Nat) : Nat := if k = 0 then b0 else if k = 1 then b1 else b2

theorem pick3_lt {b0 b1 b2 : Nat} (h0 : b0 < 18446744073709551616) (h1 : b1 < 18446744073709551616) (h2 : b2 < 18446744073709551616) (k : Nat) : pick3 b0 b1 b2 k < 18446744073709551616 := by
  unfold pick3; split
  · exact h0
  · split
    · exact h1
    · exact h2

theorem quiet_add_left {P : Program} {f : FuncId} {args : Array Value} {w : World} {a n : Nat} {v : Value}
    (h : Calls P f args (w.drewN (a + n)) fun e w' => e = .returned v ∧ w.drewN (a + n) = w') :
    Calls P f args (w.drewN (a + n)) fun e w'' => e = .returned v ∧ ∃ m, w'' = w.drewN (a + m) :=
  h.mono fun _ _ ⟨he, hm⟩ => ⟨he, n, hm.symm⟩

theorem sgn_turn (x y : Int) : (cmpI x y != IntKind.i64.wrap (-cmpI y x)) = false := by
  rcases Int.lt_trichotomy x y with c | c | c
  · rw [cmpI_lt c, cmpI_gt c]; rfl
  · rw [c, cmpI_self]; rfl
  · rw [cmpI_gt c, cmpI_lt c]; rfl

theorem eq_cmp (x y : Nat) : (cmpI (tkey x) (tkey y) == 0) = sameB x y := by
  unfold sameB
  rcases Int.lt_trichotomy (tkey x) (tkey y) with c | c | c
  · rw [cmpI_lt c, decide_eq_false (by omega)]; rfl
  · rw [c, cmpI_self, decide_eq_true rfl]; rfl
  · rw [cmpI_gt c, decide_eq_false (by omega)]; rfl

theorem drewn2 (W : World) (a b : Nat) : ∃ n, (W.drewN a).drewN b = W.drewN n := ⟨_, World.drewN_drewN _ _ _⟩

theorem lt_cmp {x y : Nat} (h : ltB x y = true) : (cmpI (tkey x) (tkey y) != -1) = false := by
  unfold ltB at h
  simp at h
  rw [cmpI_lt (tkey_lt h.1.1 h.1.2 h.2)]; rfl

theorem le_cmp {x y : Int} (h : decide (cmpI x y ≤ 0) = true) : x ≤ y := by
  unfold cmpI at h
  split at h
  · omega
  · split at h
    · omega
    · simp at h

theorem trans_cmp {x y z : Int} (h1 : decide (cmpI x y ≤ 0) = true) (h2 : decide (cmpI y z ≤ 0) = true) : decide (0 < cmpI x z) = false :=
  pos_cmp (by have := le_cmp h1; have := le_cmp h2; omega)

set_option maxHeartbeats 4000000 in
set_option maxRecDepth 100000 in
theorem order_walk (b0 b1 b2 : Nat) (w : World) (h0 : b0 < 18446744073709551616) (h1 : b1 < 18446744073709551616) (h2 : b2 < 18446744073709551616) :
    Calls Try.prog 5 #[.agg #[.float .f64 b0, .float .f64 b1, .float .f64 b2]] w fun e w' => e = .returned (.bool true) ∧ Below w.heap.size w w' := by
  go_enter Try.func5, Try.ntmps5
  go_wp2_with (go_at_call 9; refine (awake_any _).mono ?_; rintro e w' ⟨rfl, rfl⟩)
  have hbel : Below w.heap.size w (w.alloc (.cells #[.float .f64 b0, .float .f64 b1, .float .f64 b2] 37)) := (Below.refl _ _).alloc (Nat.le_refl _) _
  have hcell : ∀ k : Nat, k < 3 → (w.alloc (.cells #[.float .f64 b0, .float .f64 b1, .float .f64 b2] 37)).cell? ⟨w.heap.size, k, none⟩ = some (.float .f64 (pick3 b0 b1 b2 k)) := by
    intro k hk
    match k, hk with
    | 0, _ => simp [pick3]
    | 1, _ => simp [pick3]
    | 2, _ => simp [pick3]
  have hlt3 := pick3_lt h0 h1 h2
  generalize hW : (w.alloc (.cells #[.float .f64 b0, .float .f64 b1, .float .f64 b2] 37)) = W0 at *
  generalize pick3 b0 b1 b2 = pk at *
  have HB := Lib.hid hbel
  have HC := Lib.hid hcell
  have HL := Lib.hid hlt3
  clear hbel hcell hlt3 hW h0 h1 h2
  go_loopw [3] (fun i wr => ∃ k : Nat, k ≤ 3 ∧ i = .int .i64 k ∧ ∃ n, wr = W0.drewN n) (fun i _ => 3 - (intOf i).toNat)
  case atStart => exact ⟨0, by omega, rfl, 0, rfl⟩
  case round =>
    obtain ⟨k, hk, rfl, n, rfl⟩ := hrel
    by_cases hlt : k < 3
    · have hd : decide ((k : Int) < 3) = true := by simp; omega
      have hi : (k : Int) < 3 := by omega
      go_wp2
      go_loopw [4] (fun j wr => ∃ q : Nat, q ≤ 3 ∧ j = .int .i64 q ∧ ∃ n, wr = W0.drewN n) (fun j _ => 3 - (intOf j).toNat)
      case atStart => exact ⟨0, by omega, rfl, n, rfl⟩
      case round =>
        obtain ⟨q, hq, rfl, n2, rfl⟩ := hrel
        by_cases hlq : q < 3
        · have hdq : decide ((q : Int) < 3) = true := by simp; omega
          have hiq : (q : Int) < 3 := by omega
          have ck := HC.out k hlt
          have cq := HC.out q hlq
          have f1 := sgn_turn (tkey (pk k)) (tkey (pk q))
          have f4 := eq_cmp (pk k) (pk q)
          have f3 := order_lt (pk k) (pk q)
          have F1 := Lib.hid f1
          have F4 := Lib.hid f4
          have F3 := Lib.hid f3
          clear f1 f4 f3
          go_wp2
          go_quiet ((first | (go_at_call 14; exact quiet_add_left (compare_any _ _ (HL.out _) (HL.out _) _)) | (go_at_call 23; exact quiet_add_left (same_any _ _ (HL.out _) (HL.out _) _))))
          have f1 := F1.out
          have f4 := F4.out
          have f3 := F3.out
          clear F1 F4 F3
          by_cases hkq : k = q
          · subst hkq
            have f2 : (cmpI (tkey (pk k)) (tkey (pk k)) != 0) = false := by rw [cmpI_self]; rfl
            have f5 : ltB (pk k) (pk k) = false := by unfold ltB; rw [decide_eq_false (by omega)]; simp
            have f6 : sameB (pk k) (pk k) = true := by unfold sameB; rw [decide_eq_true rfl]
            rw [f5] at f3
            rw [f6] at f4
            clear f5
            go_wp2
            go_quiet ((first | (go_at_call 14; exact quiet_add_left (compare_any _ _ (HL.out _) (HL.out _) _)) | (go_at_call 23; exact quiet_add_left (same_any _ _ (HL.out _) (HL.out _) _))))
            clear f1 f2 f3 f4 f6
            go_wp2
            go_loopw [6] (fun h wr => ∃ r : Nat, r ≤ 3 ∧ h = .int .i64 r ∧ ∃ n, wr = W0.drewN n) (fun h _ => 3 - (intOf h).toNat)
            case atStart => exact ⟨0, by omega, rfl, (by first | exact ⟨_, rfl⟩ | (simp only [World.drewN_drewN]; exact ⟨_, rfl⟩))⟩
            case round =>
              obtain ⟨r, hr, rfl, n3, rfl⟩ := hrel
              by_cases hlr : r < 3
              · have hdr : decide ((r : Int) < 3) = true := by simp; omega
                have hir : (r : Int) < 3 := by omega
                have cr := HC.out r hlr
                have ht := @trans_cmp (tkey (pk k)) (tkey (pk k)) (tkey (pk r))
                have HT := Lib.hid ht
                clear ht
                cases g1 : decide (cmpI (tkey (pk k)) (tkey (pk k)) ≤ 0)
                · go_wp2
                  go_quiet ((first | (go_at_call 14; exact quiet_add_left (compare_any _ _ (HL.out _) (HL.out _) _)) | (go_at_call 23; exact quiet_add_left (same_any _ _ (HL.out _) (HL.out _) _))))
                  go_wp2
                  go_roundw
                  case rel => exact ⟨r + 1, by omega, by go_num, (by first | exact ⟨_, rfl⟩ | (simp only [World.drewN_drewN]; exact ⟨_, rfl⟩))⟩
                  case measure => simp [intOf]; omega
                · cases g2 : decide (cmpI (tkey (pk k)) (tkey (pk r)) ≤ 0)
                  · go_wp2
                    go_quiet ((first | (go_at_call 14; exact quiet_add_left (compare_any _ _ (HL.out _) (HL.out _) _)) | (go_at_call 23; exact quiet_add_left (same_any _ _ (HL.out _) (HL.out _) _))))
                    go_wp2
                    go_roundw
                    case rel => exact ⟨r + 1, by omega, by go_num, (by first | exact ⟨_, rfl⟩ | (simp only [World.drewN_drewN]; exact ⟨_, rfl⟩))⟩
                    case measure => simp [intOf]; omega
                  · have g3 := HT.out g1 g2
                    go_wp2
                    go_quiet ((first | (go_at_call 14; exact quiet_add_left (compare_any _ _ (HL.out _) (HL.out _) _)) | (go_at_call 23; exact quiet_add_left (same_any _ _ (HL.out _) (HL.out _) _))))
                    go_wp2
                    go_roundw
                    case rel => exact ⟨r + 1, by omega, by go_num, (by first | exact ⟨_, rfl⟩ | (simp only [World.drewN_drewN]; exact ⟨_, rfl⟩))⟩
                    case measure => simp [intOf]; omega
              · have hdr : decide ((r : Int) < 3) = false := by simp; omega
                go_wp2
                go_roundw
                case rel => exact ⟨k + 1, by omega, by go_num, _, rfl⟩
                case measure => simp [intOf]; omega
          · have f2 : ((k : Int) == (q : Int)) = false := by simp; omega
            clear hkq
            cases f6 : sameB (pk k) (pk q) <;> cases f5 : ltB (pk k) (pk q)
            · rw [f5] at f3
              rw [f6] at f4
              clear f5
              go_wp2
              go_quiet ((first | (go_at_call 14; exact quiet_add_left (compare_any _ _ (HL.out _) (HL.out _) _)) | (go_at_call 23; exact quiet_add_left (same_any _ _ (HL.out _) (HL.out _) _))))
              clear f1 f2 f3 f4 f6
              go_wp2
              go_loopw [6] (fun h wr => ∃ r : Nat, r ≤ 3 ∧ h = .int .i64 r ∧ ∃ n, wr = W0.drewN n) (fun h _ => 3 - (intOf h).toNat)
              case atStart => exact ⟨0, by omega, rfl, (by first | exact ⟨_, rfl⟩ | (simp only [World.drewN_drewN]; exact ⟨_, rfl⟩))⟩
              case round =>
                obtain ⟨r, hr, rfl, n3, rfl⟩ := hrel
                by_cases hlr : r < 3
                · have hdr : decide ((r : Int) < 3) = true := by simp; omega
                  have hir : (r : Int) < 3 := by omega
                  have cr := HC.out r hlr
                  have ht := @trans_cmp (tkey (pk k)) (tkey (pk q)) (tkey (pk r))
                  have HT := Lib.hid ht
                  clear ht
                  cases g1 : decide (cmpI (tkey (pk k)) (tkey (pk q)) ≤ 0)
                  · go_wp2
                    go_quiet ((first | (go_at_call 14; exact quiet_add_left (compare_any _ _ (HL.out _) (HL.out _) _)) | (go_at_call 23; exact quiet_add_left (same_any _ _ (HL.out _) (HL.out _) _))))
                    go_wp2
                    go_roundw
                    case rel => exact ⟨r + 1, by omega, by go_num, (by first | exact ⟨_, rfl⟩ | (simp only [World.drewN_drewN]; exact ⟨_, rfl⟩))⟩
                    case measure => simp [intOf]; omega
                  · cases g2 : decide (cmpI (tkey (pk q)) (tkey (pk r)) ≤ 0)
                    · go_wp2
                      go_quiet ((first | (go_at_call 14; exact quiet_add_left (compare_any _ _ (HL.out _) (HL.out _) _)) | (go_at_call 23; exact quiet_add_left (same_any _ _ (HL.out _) (HL.out _) _))))
                      go_wp2
                      go_roundw
                      case rel => exact ⟨r + 1, by omega, by go_num, (by first | exact ⟨_, rfl⟩ | (simp only [World.drewN_drewN]; exact ⟨_, rfl⟩))⟩
                      case measure => simp [intOf]; omega
                    · have g3 := HT.out g1 g2
                      go_wp2
                      go_quiet ((first | (go_at_call 14; exact quiet_add_left (compare_any _ _ (HL.out _) (HL.out _) _)) | (go_at_call 23; exact quiet_add_left (same_any _ _ (HL.out _) (HL.out _) _))))
                      go_wp2
                      go_roundw
                      case rel => exact ⟨r + 1, by omega, by go_num, (by first | exact ⟨_, rfl⟩ | (simp only [World.drewN_drewN]; exact ⟨_, rfl⟩))⟩
                      case measure => simp [intOf]; omega
                · have hdr : decide ((r : Int) < 3) = false := by simp; omega
                  go_wp2
                  go_roundw
                  case rel => exact ⟨q + 1, by omega, by go_num, _, rfl⟩
                  case measure => simp [intOf]; omega
            · have f7 := lt_cmp f5
              rw [f5] at f3
              rw [f6] at f4
              clear f5
              go_wp2
              go_quiet ((first | (go_at_call 14; exact quiet_add_left (compare_any _ _ (HL.out _) (HL.out _) _)) | (go_at_call 23; exact quiet_add_left (same_any _ _ (HL.out _) (HL.out _) _))))
              clear f1 f2 f3 f4 f6 f7
              go_wp2
              go_loopw [6] (fun h wr => ∃ r : Nat, r ≤ 3 ∧ h = .int .i64 r ∧ ∃ n, wr = W0.drewN n) (fun h _ => 3 - (intOf h).toNat)
              case atStart => exact ⟨0, by omega, rfl, (by first | exact ⟨_, rfl⟩ | (simp only [World.drewN_drewN]; exact ⟨_, rfl⟩))⟩
              case round =>
                obtain ⟨r, hr, rfl, n3, rfl⟩ := hrel
                by_cases hlr : r < 3
                · have hdr : decide ((r : Int) < 3) = true := by simp; omega
                  have hir : (r : Int) < 3 := by omega
                  have cr := HC.out r hlr
                  have ht := @trans_cmp (tkey (pk k)) (tkey (pk q)) (tkey (pk r))
                  have HT := Lib.hid ht
                  clear ht
                  cases g1 : decide (cmpI (tkey (pk k)) (tkey (pk q)) ≤ 0)
                  · go_wp2
                    go_quiet ((first | (go_at_call 14; exact quiet_add_left (compare_any _ _ (HL.out _) (HL.out _) _)) | (go_at_call 23; exact quiet_add_left (same_any _ _ (HL.out _) (HL.out _) _))))
                    go_wp2
                    go_roundw
                    case rel => exact ⟨r + 1, by omega, by go_num, (by first | exact ⟨_, rfl⟩ | (simp only [World.drewN_drewN]; exact ⟨_, rfl⟩))⟩
                    case measure => simp [intOf]; omega
                  · cases g2 : decide (cmpI (tkey (pk q)) (tkey (pk r)) ≤ 0)
                    · go_wp2
                      go_quiet ((first | (go_at_call 14; exact quiet_add_left (compare_any _ _ (HL.out _) (HL.out _) _)) | (go_at_call 23; exact quiet_add_left (same_any _ _ (HL.out _) (HL.out _) _))))
                      go_wp2
                      go_roundw
                      case rel => exact ⟨r + 1, by omega, by go_num, (by first | exact ⟨_, rfl⟩ | (simp only [World.drewN_drewN]; exact ⟨_, rfl⟩))⟩
                      case measure => simp [intOf]; omega
                    · have g3 := HT.out g1 g2
                      go_wp2
                      go_quiet ((first | (go_at_call 14; exact quiet_add_left (compare_any _ _ (HL.out _) (HL.out _) _)) | (go_at_call 23; exact quiet_add_left (same_any _ _ (HL.out _) (HL.out _) _))))
                      go_wp2
                      go_roundw
                      case rel => exact ⟨r + 1, by omega, by go_num, (by first | exact ⟨_, rfl⟩ | (simp only [World.drewN_drewN]; exact ⟨_, rfl⟩))⟩
                      case measure => simp [intOf]; omega
                · have hdr : decide ((r : Int) < 3) = false := by simp; omega
                  go_wp2
                  go_roundw
                  case rel => exact ⟨q + 1, by omega, by go_num, _, rfl⟩
                  case measure => simp [intOf]; omega
            · rw [f5] at f3
              rw [f6] at f4
              clear f5
              go_wp2
              go_quiet ((first | (go_at_call 14; exact quiet_add_left (compare_any _ _ (HL.out _) (HL.out _) _)) | (go_at_call 23; exact quiet_add_left (same_any _ _ (HL.out _) (HL.out _) _))))
              clear f1 f2 f3 f4 f6
              go_wp2
              go_loopw [6] (fun h wr => ∃ r : Nat, r ≤ 3 ∧ h = .int .i64 r ∧ ∃ n, wr = W0.drewN n) (fun h _ => 3 - (intOf h).toNat)
              case atStart => exact ⟨0, by omega, rfl, (by first | exact ⟨_, rfl⟩ | (simp only [World.drewN_drewN]; exact ⟨_, rfl⟩))⟩
              case round =>
                obtain ⟨r, hr, rfl, n3, rfl⟩ := hrel
                by_cases hlr : r < 3
                · have hdr : decide ((r : Int) < 3) = true := by simp; omega
                  have hir : (r : Int) < 3 := by omega
                  have cr := HC.out r hlr
                  have ht := @trans_cmp (tkey (pk k)) (tkey (pk q)) (tkey (pk r))
                  have HT := Lib.hid ht
                  clear ht
                  cases g1 : decide (cmpI (tkey (pk k)) (tkey (pk q)) ≤ 0)
                  · go_wp2
                    go_quiet ((first | (go_at_call 14; exact quiet_add_left (compare_any _ _ (HL.out _) (HL.out _) _)) | (go_at_call 23; exact quiet_add_left (same_any _ _ (HL.out _) (HL.out _) _))))
                    go_wp2
                    go_roundw
                    case rel => exact ⟨r + 1, by omega, by go_num, (by first | exact ⟨_, rfl⟩ | (simp only [World.drewN_drewN]; exact ⟨_, rfl⟩))⟩
                    case measure => simp [intOf]; omega
                  · cases g2 : decide (cmpI (tkey (pk q)) (tkey (pk r)) ≤ 0)
                    · go_wp2
                      go_quiet ((first | (go_at_call 14; exact quiet_add_left (compare_any _ _ (HL.out _) (HL.out _) _)) | (go_at_call 23; exact quiet_add_left (same_any _ _ (HL.out _) (HL.out _) _))))
                      go_wp2
                      go_roundw
                      case rel => exact ⟨r + 1, by omega, by go_num, (by first | exact ⟨_, rfl⟩ | (simp only [World.drewN_drewN]; exact ⟨_, rfl⟩))⟩
                      case measure => simp [intOf]; omega
                    · have g3 := HT.out g1 g2
                      go_wp2
                      go_quiet ((first | (go_at_call 14; exact quiet_add_left (compare_any _ _ (HL.out _) (HL.out _) _)) | (go_at_call 23; exact quiet_add_left (same_any _ _ (HL.out _) (HL.out _) _))))
                      go_wp2
                      go_roundw
                      case rel => exact ⟨r + 1, by omega, by go_num, (by first | exact ⟨_, rfl⟩ | (simp only [World.drewN_drewN]; exact ⟨_, rfl⟩))⟩
                      case measure => simp [intOf]; omega
                · have hdr : decide ((r : Int) < 3) = false := by simp; omega
                  go_wp2
                  go_roundw
                  case rel => exact ⟨q + 1, by omega, by go_num, _, rfl⟩
                  case measure => simp [intOf]; omega
            · have f7 := lt_cmp f5
              rw [f5] at f3
              rw [f6] at f4
              clear f5
              go_wp2
              go_quiet ((first | (go_at_call 14; exact quiet_add_left (compare_any _ _ (HL.out _) (HL.out _) _)) | (go_at_call 23; exact quiet_add_left (same_any _ _ (HL.out _) (HL.out _) _))))
              clear f1 f2 f3 f4 f6 f7
              go_wp2
              go_loopw [6] (fun h wr => ∃ r : Nat, r ≤ 3 ∧ h = .int .i64 r ∧ ∃ n, wr = W0.drewN n) (fun h _ => 3 - (intOf h).toNat)
              case atStart => exact ⟨0, by omega, rfl, (by first | exact ⟨_, rfl⟩ | (simp only [World.drewN_drewN]; exact ⟨_, rfl⟩))⟩
              case round =>
                obtain ⟨r, hr, rfl, n3, rfl⟩ := hrel
                by_cases hlr : r < 3
                · have hdr : decide ((r : Int) < 3) = true := by simp; omega
                  have hir : (r : Int) < 3 := by omega
                  have cr := HC.out r hlr
                  have ht := @trans_cmp (tkey (pk k)) (tkey (pk q)) (tkey (pk r))
                  have HT := Lib.hid ht
                  clear ht
                  cases g1 : decide (cmpI (tkey (pk k)) (tkey (pk q)) ≤ 0)
                  · go_wp2
                    go_quiet ((first | (go_at_call 14; exact quiet_add_left (compare_any _ _ (HL.out _) (HL.out _) _)) | (go_at_call 23; exact quiet_add_left (same_any _ _ (HL.out _) (HL.out _) _))))
                    go_wp2
                    go_roundw
                    case rel => exact ⟨r + 1, by omega, by go_num, (by first | exact ⟨_, rfl⟩ | (simp only [World.drewN_drewN]; exact ⟨_, rfl⟩))⟩
                    case measure => simp [intOf]; omega
                  · cases g2 : decide (cmpI (tkey (pk q)) (tkey (pk r)) ≤ 0)
                    · go_wp2
                      go_quiet ((first | (go_at_call 14; exact quiet_add_left (compare_any _ _ (HL.out _) (HL.out _) _)) | (go_at_call 23; exact quiet_add_left (same_any _ _ (HL.out _) (HL.out _) _))))
                      go_wp2
                      go_roundw
                      case rel => exact ⟨r + 1, by omega, by go_num, (by first | exact ⟨_, rfl⟩ | (simp only [World.drewN_drewN]; exact ⟨_, rfl⟩))⟩
                      case measure => simp [intOf]; omega
                    · have g3 := HT.out g1 g2
                      go_wp2
                      go_quiet ((first | (go_at_call 14; exact quiet_add_left (compare_any _ _ (HL.out _) (HL.out _) _)) | (go_at_call 23; exact quiet_add_left (same_any _ _ (HL.out _) (HL.out _) _))))
                      go_wp2
                      go_roundw
                      case rel => exact ⟨r + 1, by omega, by go_num, (by first | exact ⟨_, rfl⟩ | (simp only [World.drewN_drewN]; exact ⟨_, rfl⟩))⟩
                      case measure => simp [intOf]; omega
                · have hdr : decide ((r : Int) < 3) = false := by simp; omega
                  go_wp2
                  go_roundw
                  case rel => exact ⟨q + 1, by omega, by go_num, _, rfl⟩
                  case measure => simp [intOf]; omega
        · have hdq : decide ((q : Int) < 3) = false := by simp; omega
          go_wp2
          go_roundw
          case rel => exact ⟨k + 1, by omega, by go_num, _, rfl⟩
          case measure => simp [intOf]; omega
    · have hd : decide ((k : Int) < 3) = false := by simp; omega
      go_wp2
      go_ret
      exact ⟨rfl, below_drewN HB.out _⟩

end Go.Proofs.Ythpbdgdbgohooaa.Edge
