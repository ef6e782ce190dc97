/- Stage 8, MagTwo: the nine objects while the two take turns, and behind that. -/
import Derived.Test.YtdnahojpeplajaaTwoA
namespace Go.Proofs.Ytdnahojpeplajaa.Mag
open Go.RowKit Mem Go.Proofs.Ytdnahojpeplajaa.Words Go.Proofs.Ytdnahojpeplajaa.Plan Go.Proofs.Ytdnahojpeplajaa.Pack Go.Proofs.Ytdnahojpeplajaa.Open Go.Proofs.Ytdnahojpeplajaa.Farm

/-- What the two begin with. -/
structure Env (n : Nat) (t0 : Tk) (p0 : Pk) (s0 : St) : Prop where
  t : SeqT 4 2 n 0 s0.row.length t0 s0
  p : SeqP 4 2 n 1 s0.row.length p0 s0
  l : (s0.row.length : Int) = wordsI 4 2 n
  row : RowOk s0
  st : s0.steps = 0
  small : n ≤ 8
  pt : Pos t0 0
  pp : PosP p0 0
theorem env_is {n L : Nat} {k a b c : Int} {s0 : St} (hn : n ≤ 8) (hl : s0.row.length = L) (hL : 70 + 2 * n = L) (hr : RowOk s0) (hs : s0.steps = 0) : Env n (tk0 4 2 n 0 k) (pk0 4 2 n 1 a b c) s0 := by
  refine ⟨⟨tk0_ok _ _ _ _ _, ⟨rfl, rfl, rfl, rfl⟩, rfl⟩, ⟨pk0_ok _ _ _ _ _ _ _, ⟨rfl, rfl, rfl, rfl⟩, rfl⟩, ?_, hr, hs, hn, .inr (.inl ⟨rfl, rfl⟩), .inr (.inl ⟨rfl, rfl⟩)⟩
  rw [words_8 hn, hl]
  omega

section
variable {I : HoldT} {J : HoldP} {w W W' : World} {n : Nat} {t0 : Tk} {p0 : Pk} {s0 : St} {qb q bm gw hw gx hx gy hy ga gb gu gv : Nat} {cb cq cm : Array Value} {ia ib ru rv : Nat} {s : St} {Fa Fb Fu Fv : List Nat}
/-- The two have done ia, ib steps; those alone ru, rv. -/
structure Duo (I : HoldT) (J : HoldP) (w : World) (n : Nat) (t0 : Tk) (p0 : Pk) (s0 : St) (qb : Nat) (cb : Array Value) (q : Nat) (cq : Array Value) (bm : Nat) (cm : Array Value) (gw hw gx hx gy hy ga gb gu gv : Nat) (ia ib ru rv : Nat) (s : St) (Fa Fb Fu Fv : List Nat) (W : World) : Prop where
  f : Farm w (herd I J qb cb q cq bm cm gw hw gx hx gy hy s (seqT t0 s0 ru).2 (seqP p0 s0 rv).2 ga Fa (seqT t0 s0 ia).1 gb Fb (seqP p0 s0 ib).1 gu Fu (seqT t0 s0 ru).1 gv Fv (seqP p0 s0 rv).1) W
  two : Two 4 2 n t0 p0 s0 ia ib s
  row : RowOk s
  lo : 0 ≤ s.steps
  hi : s.steps ≤ ia + ib
theorem duo_start (E : Env n t0 p0 s0) (h : Farm w (base6 qb cb q cq bm cm gw hw gx hx gy hy s0 s0 s0 ++ [tT I ga Fa t0, pT J gb Fb p0] ++ [tT I gu Fu t0, pT J gv Fv p0]) W) :
    Duo I J w n t0 p0 s0 qb cb q cq bm cm gw hw gx hx gy hy ga gb gu gv 0 0 0 0 s0 Fa Fb Fu Fv W :=
  ⟨h, ⟨rfl, fun _ _ => rfl, fun _ _ => rfl⟩, E.row, by rw [E.st]; decide, by rw [E.st]; decide⟩
theorem Duo.off0 (h : Duo I J w n t0 p0 s0 qb cb q cq bm cm gw hw gx hx gy hy ga gb gu gv ia ib ru rv s Fa Fb Fu Fv W) (o : Off [] W W') : Duo I J w n t0 p0 s0 qb cb q cq bm cm gw hw gx hx gy hy ga gb gu gv ia ib ru rv s Fa Fb Fu Fv W' :=
  ⟨h.f.off0 o, h.two, h.row, h.lo, h.hi⟩
theorem duo_a (C : ConT I) (E : Env n t0 p0 s0) (h : Duo I J w n t0 p0 s0 qb cb q cq bm cm gw hw gx hx gy hy ga gb gu gv ia ib ru rv s Fa Fb Fu Fv W) (hb : ia + ib < 1000) :
    Calls Try.prog 13 #[.pointer (some ⟨ga, 0, none⟩), .pointer (some ⟨gw, 0, none⟩)] W fun e W' => e = .returned (.tuple #[]) ∧ ∃ Fa', Duo I J w n t0 p0 s0 qb cb q cq bm cm gw hw gx hx gy hy ga gb gu gv (ia + 1) ib ru rv ((seqT t0 s0 ia).1.words s) Fa' Fb Fu Fv W' := by
  have q := seqT_is E.t ia
  have h2 := two_t E.t E.l h.two
  have hst := Tk.words_steps (seqT t0 s0 ia).1 s
  have l1 := h.lo
  have l2 := h.hi
  refine (farm_t C h.f (i := 6) (j := 3) (by decide) rfl rfl q.ok (fun _ => by rw [q.sh.1, q.sh.2.1, q.sh.2.2.1, h.two.len]; exact E.l) h.row h.lo (by omega)).mono ?_
  rintro e W' ⟨rfl, F', hf⟩
  rw [h2.1] at hf
  exact ⟨rfl, F', hf, h2.2, Tk.words_ok h.row, by omega, by omega⟩
theorem duo_b (D : ConP J) (E : Env n t0 p0 s0) (h : Duo I J w n t0 p0 s0 qb cb q cq bm cm gw hw gx hx gy hy ga gb gu gv ia ib ru rv s Fa Fb Fu Fv W) (hb : ia + ib < 1000) :
    Calls Try.prog 14 #[.pointer (some ⟨gb, 0, none⟩), .pointer (some ⟨gw, 0, none⟩)] W fun e W' => e = .returned (.tuple #[]) ∧ ∃ Fb', Duo I J w n t0 p0 s0 qb cb q cq bm cm gw hw gx hx gy hy ga gb gu gv ia (ib + 1) ru rv ((seqP p0 s0 ib).1.words s) Fa Fb' Fu Fv W' := by
  have q := seqP_is E.p ib
  have h2 := two_p E.p E.l h.two
  have hst := Pk.words_steps (seqP p0 s0 ib).1 s
  have l1 := h.lo
  have l2 := h.hi
  refine (farm_p D h.f (i := 7) (j := 3) (by decide) rfl rfl q.ok (fun _ => by rw [q.sh.1, q.sh.2.1, q.sh.2.2.1, h.two.len]; exact E.l) h.lo (by omega)).mono ?_
  rintro e W' ⟨rfl, F', hf⟩
  rw [h2.1] at hf
  exact ⟨rfl, F', hf, h2.2, Pk.words_ok q.ok h.row, by omega, by omega⟩
theorem duo_u (C : ConT I) (E : Env n t0 p0 s0) (h : Duo I J w n t0 p0 s0 qb cb q cq bm cm gw hw gx hx gy hy ga gb gu gv ia ib ru rv s Fa Fb Fu Fv W) (hb : ru < 1000) :
    Calls Try.prog 13 #[.pointer (some ⟨gu, 0, none⟩), .pointer (some ⟨gx, 0, none⟩)] W fun e W' => e = .returned (.tuple #[]) ∧ ∃ Fu', Duo I J w n t0 p0 s0 qb cb q cq bm cm gw hw gx hx gy hy ga gb gu gv ia ib (ru + 1) rv s Fa Fb Fu' Fv W' := by
  have q := seqT_is E.t ru
  have hst := seqT_steps t0 s0 ru
  have h0 := E.st
  refine (farm_t C h.f (i := 8) (j := 4) (by decide) rfl rfl q.ok (fun _ => by rw [q.sh.1, q.sh.2.1, q.sh.2.2.1, q.len]; exact E.l) (seqT_row E.row ru) (by omega) (by omega)).mono ?_
  rintro e W' ⟨rfl, F', hf⟩
  exact ⟨rfl, F', hf, h.two, h.row, h.lo, h.hi⟩
theorem duo_v (D : ConP J) (E : Env n t0 p0 s0) (h : Duo I J w n t0 p0 s0 qb cb q cq bm cm gw hw gx hx gy hy ga gb gu gv ia ib ru rv s Fa Fb Fu Fv W) (hb : rv < 1000) :
    Calls Try.prog 14 #[.pointer (some ⟨gv, 0, none⟩), .pointer (some ⟨gy, 0, none⟩)] W fun e W' => e = .returned (.tuple #[]) ∧ ∃ Fv', Duo I J w n t0 p0 s0 qb cb q cq bm cm gw hw gx hx gy hy ga gb gu gv ia ib ru (rv + 1) s Fa Fb Fu Fv' W' := by
  have q := seqP_is E.p rv
  have hst := seqP_steps p0 s0 rv
  have h0 := E.st
  refine (farm_p D h.f (i := 9) (j := 5) (by decide) rfl rfl q.ok (fun _ => by rw [q.sh.1, q.sh.2.1, q.sh.2.2.1, q.len]; exact E.l) (by omega) (by omega)).mono ?_
  rintro e W' ⟨rfl, F', hf⟩
  exact ⟨rfl, F', hf, h.two, h.row, h.lo, h.hi⟩

/-- The turns so far. -/
def TurnRel (I : HoldT) (J : HoldP) (w : World) (n : Nat) (t0 : Tk) (p0 : Pk) (s0 : St) (qb : Nat) (cb : Array Value) (q : Nat) (cq : Array Value) (bm : Nat) (cm : Array Value) (gw hw gx hx gy hy ga gb gu gv len2 : Nat) (i : Value) (W : World) : Prop :=
  ∃ k : Nat, k ≤ len2 ∧ i = .int .i64 k ∧ ∃ ia ib s Fa Fb Fu Fv, ia + ib = k ∧ Duo I J w n t0 p0 s0 qb cb q cq bm cm gw hw gx hx gy hy ga gb gu gv ia ib 0 0 s Fa Fb Fu Fv W
/-- The steps to the end so far. -/
def EndRel (I : HoldT) (J : HoldP) (w : World) (n : Nat) (t0 : Tk) (p0 : Pk) (s0 : St) (qb : Nat) (cb : Array Value) (q : Nat) (cq : Array Value) (bm : Nat) (cm : Array Value) (gw hw gx hx gy hy ga gb gu gv len2 : Nat) (i : Value) (W : World) : Prop :=
  ∃ r : Nat, r ≤ n + 2 ∧ i = .int .i64 r ∧ ∃ ia ib s Fa Fb Fu Fv, ia + ib = len2 ∧ Duo I J w n t0 p0 s0 qb cb q cq bm cm gw hw gx hx gy hy ga gb gu gv (ia + r) (ib + r) r r s Fa Fb Fu Fv W
/-- All is over. -/
structure Fin (I : HoldT) (J : HoldP) (w : World) (n L : Nat) (qb : Nat) (cb : Array Value) (q : Nat) (cq : Array Value) (bm : Nat) (cm : Array Value) (gw hw gx hx gy hy ga gb gu gv : Nat) (tf : Tk) (pf : Pk) (s sx sy : St) (Fa Fb Fu Fv : List Nat) (W : World) : Prop where
  f : Farm w (herd I J qb cb q cq bm cm gw hw gx hx gy hy s sx sy ga Fa tf gb Fb pf gu Fu tf gv Fv pf) W
  ot : tf.over = true
  op : pf.over = true
  len : s.row.length = L ∧ sx.row.length = L ∧ sy.row.length = L
  a : ∀ j, j < n → s.at (70 + j) = sx.at (70 + j)
  b : ∀ j, j < n → s.at (70 + (n + j)) = sy.at (70 + (n + j))
theorem duo_end (E : Env n t0 p0 s0) (h : Duo I J w n t0 p0 s0 qb cb q cq bm cm gw hw gx hx gy hy ga gb gu gv (ia + (n + 2)) (ib + (n + 2)) (n + 2) (n + 2) s Fa Fb Fu Fv W) :
    ∃ tf pf sx sy, Fin I J w n s0.row.length qb cb q cq bm cm gw hw gx hx gy hy ga gb gu gv tf pf s sx sy Fa Fb Fu Fv W := by
  have qt := seqT_is E.t (n + 2)
  have qp := seqP_is E.p (n + 2)
  have ot : (seqT t0 s0 (n + 2)).1.over = true := pos_end (seqT_pos E.pt (n + 2)) qt.ok (by rw [qt.sh.2.2.1]; omega)
  have op : (seqP p0 s0 (n + 2)).1.over = true := posP_end (seqP_pos E.pp (n + 2)) qp.ok (by rw [qp.sh.2.2.1]; omega)
  have e1 : seqT t0 s0 (ia + (n + 2)) = seqT t0 s0 (n + 2) := by rw [Nat.add_comm]; exact seqT_over ot ia
  have e2 : seqP p0 s0 (ib + (n + 2)) = seqP p0 s0 (n + 2) := by rw [Nat.add_comm]; exact seqP_over op ib
  have hf := h.f
  have hs := E.small
  rw [e1, e2] at hf
  refine ⟨_, _, _, _, hf, ot, op, ⟨h.two.len, qt.len, qp.len⟩, fun j hj => ?_, fun j hj => ?_⟩
  · have h1 := h.two.a (70 + j) (by unfold inMag; omega)
    rwa [e1] at h1
  · have h1 := h.two.b (70 + (n + j)) (by unfold inMag; omega)
    rwa [e2] at h1
theorem Fin.off0 {L : Nat} {tf : Tk} {pf : Pk} {sx sy : St} (h : Fin I J w n L qb cb q cq bm cm gw hw gx hx gy hy ga gb gu gv tf pf s sx sy Fa Fb Fu Fv W) (o : Off [] W W') : Fin I J w n L qb cb q cq bm cm gw hw gx hx gy hy ga gb gu gv tf pf s sx sy Fa Fb Fu Fv W' :=
  ⟨h.f.off0 o, h.ot, h.op, h.len, h.a, h.b⟩
/-- What a taker tells, whichever way. -/
theorem found_one (C : ConT I) (t : Tk) : ∃ a b f, ∀ W g F, I W g F t → Calls Try.prog 23 #[.pointer (some ⟨g, 0, none⟩)] W fun e w' => e = .returned (.tuple #[.int .i64 a, .int .i64 b, .bool f]) ∧ Off [] W w' := by
  cases hf : t.found
  · exact ⟨0, 0, false, fun W g F h => (C.found h).mono fun e w' k => ⟨k.2.1 hf, k.2.2⟩⟩
  · exact ⟨t.page, t.slot, true, fun W g F h => (C.found h).mono fun e w' k => ⟨k.1 hf, k.2.2⟩⟩
def LookRel (I : HoldT) (J : HoldP) (w : World) (n L : Nat) (qb : Nat) (cb : Array Value) (q : Nat) (cq : Array Value) (bm : Nat) (cm : Array Value) (gw hw gx hx gy hy ga gb gu gv : Nat) (tf : Tk) (pf : Pk) (s sx sy : St) (Fa Fb Fu Fv : List Nat) (i : Value) (W : World) : Prop :=
  ∃ j : Nat, j ≤ n ∧ i = .int .i64 j ∧ Fin I J w n L qb cb q cq bm cm gw hw gx hx gy hy ga gb gu gv tf pf s sx sy Fa Fb Fu Fv W
end
end Go.Proofs.Ytdnahojpeplajaa.Mag
