/- ModelBack: two models side by side, the pieces that were taken; the walk, over the contracts of the program's model. -/
import Derived.Test.YtpkpkfcboimhnaaModG
import Derived.Test.YtpkpkfcboimhnaaModP
import Derived.Maps.OwnRows
namespace Go.Proofs.Ytpkpkfcboimhnaa.Mod
open Go.RowKit Mem Go.Proofs.Ytpkpkfcboimhnaa.Open

def bkOf (d : Tri) : Bk := ⟨d.n1, d.n2⟩
theorem deed_info : (Try.prog.info? 29).map (fun i => (i.zero, i.size, i.bytes)) = some (some (.agg #[.int .i64 0, .int .i64 0, .int .i64 0]), 3, 24) := by kernel_rfl
theorem tri_len (d : Tri) : d.cells.length = 3 := rfl
theorem flat3_len (l : List Tri) : (l.flatMap Tri.cells).length = l.length * 3 := by
  induction l with
  | nil => rfl
  | cons a l ih => rw [List.flatMap_cons, List.length_append, ih, List.length_cons, tri_len]; omega
theorem flat3_get (l : List Tri) (i : Nat) (d : Tri) (hd : l[i]? = some d) (j : Nat) (u : Value) (hu : d.cells[j]? = some u) : (l.flatMap Tri.cells)[i * 3 + j]? = some u := by
  have hj : j < 3 := (List.getElem?_eq_some_iff.1 hu).1
  induction l generalizing i with
  | nil => simp at hd
  | cons a l ih =>
    rw [List.flatMap_cons]
    cases i with
    | zero =>
      obtain rfl : a = d := by simpa using hd
      rw [List.getElem?_append_left (by rw [tri_len]; omega), Nat.zero_mul, Nat.zero_add]
      exact hu
    | succ i =>
      rw [List.getElem?_append_right (by rw [tri_len]; omega), tri_len, show (i + 1) * 3 + j - 3 = i * 3 + j from by omega]
      exact ih i (by simpa using hd)
theorem own_lt {w : World} {base size n : Nat} {e : TypeId} {v : Value} {xs : List Value} (h : w.ownsRow base e size v n xs) {k : Nat} (hk : v.ownBlock = some k) : k < w.heap.size := by
  rcases h.2 with ⟨rfl, _⟩ | ⟨g, cap, cur, rfl, _, hc, _⟩
  · cases hk
  · injection hk with hk
    subst hk
    exact (⟨hc⟩ : Blk w g _ _).lt
theorem own_slice {w : World} {base size n : Nat} {e : TypeId} {v : Value} {xs : List Value} (h : w.ownsRow base e size v n xs) : ∃ a c, v = .slice a n c := by
  rcases h.2 with ⟨rfl, h0⟩ | ⟨g, cap, cur, rfl, _⟩
  · exact ⟨none, 0, by rw [h0]⟩
  · exact ⟨_, _, rfl⟩

/-- Two models that share nothing, and a row of pieces beside them. -/
structure Two (I : Hold) (w : World) (ga : Nat) (Fa : List Nat) (la : List Bk) (gb : Nat) (Fb : List Nat) (lb : List Bk) (hv : Value) (ds : List Tri) (w' : World) : Prop where
  a : Live I w ga Fa 100 la w'
  b : Live I w gb Fb 100 lb w'
  apart : ∀ k ∈ Fa, k ∉ Fb
  own : w'.ownsRow w.heap.size 29 3 hv ds.length (ds.flatMap Tri.cells)
  fa : ∀ k, hv.ownBlock = some k → k ∉ Fa ∧ k ∉ Fb

section
variable {I : Hold} {w w1 w2 : World} {ga gb : Nat} {Fa Fb : List Nat} {la la' lb lb' : List Bk} {hv : Value} {ds : List Tri}
theorem Two.off0 (C : Con I) (h : Two I w ga Fa la gb Fb lb hv ds w1) (ho : Off [] w1 w2) : Two I w ga Fa la gb Fb lb hv ds w2 :=
  ⟨C.off0 h.a ho, C.off0 h.b ho, h.apart, own_row h.own rfl ho, h.fa⟩
theorem Two.turn_a (C : Con I) (h : Two I w ga Fa la gb Fb lb hv ds w1) (hx : ∃ F', I w2 ga F' 100 la' ∧ ∀ k ∈ F', k ∈ Fa ∨ w1.heap.size ≤ k) (ho : Off Fa w1 w2) :
    ∃ Fa', Two I w ga Fa' la' gb Fb lb hv ds w2 := by
  obtain ⟨F', h1, h2⟩ := hx
  refine ⟨F', ⟨h1, off_F h.a.off ho h.a.fresh, fun k hk => ?_⟩, ⟨C.keep h.b.i ho h.apart, off_F h.b.off ho h.a.fresh, h.b.fresh⟩, fun k hk hb => ?_, own_keep h.own (fun g _ _ hg => ho.block g (own_lt h.own hg) (h.fa g hg).1), fun k hk => ⟨fun h3 => ?_, (h.fa k hk).2⟩⟩
  · rcases h2 k hk with h3 | h3
    · exact h.a.fresh k h3
    · have := h.a.off.size; omega
  · have h4 := C.lt h.b.i k hb
    rcases h2 k hk with h3 | h3
    · exact h.apart k h3 hb
    · omega
  · have h4 := own_lt h.own hk
    rcases h2 k h3 with h5 | h5
    · exact (h.fa k hk).1 h5
    · omega
theorem Two.turn_b (C : Con I) (h : Two I w ga Fa la gb Fb lb hv ds w1) (hx : ∃ F', I w2 gb F' 100 lb' ∧ ∀ k ∈ F', k ∈ Fb ∨ w1.heap.size ≤ k) (ho : Off Fb w1 w2) :
    ∃ Fb', Two I w ga Fa la gb Fb' lb' hv ds w2 := by
  obtain ⟨F', h1, h2⟩ := hx
  refine ⟨F', ⟨C.keep h.a.i ho (fun k hk ha => h.apart k ha hk), off_F h.a.off ho h.b.fresh, h.a.fresh⟩, ⟨h1, off_F h.b.off ho h.b.fresh, fun k hk => ?_⟩, fun k hk hb => ?_, own_keep h.own (fun g _ _ hg => ho.block g (own_lt h.own hg) (h.fa g hg).2), fun k hk => ⟨(h.fa k hk).1, fun h3 => ?_⟩⟩
  · rcases h2 k hk with h3 | h3
    · exact h.b.fresh k h3
    · have := h.b.off.size; omega
  · have h4 := C.lt h.a.i k hk
    rcases h2 k hb with h3 | h3
    · exact h.apart k hk h3
    · omega
  · have h4 := own_lt h.own hk
    rcases h2 k h3 with h5 | h5
    · exact (h.fa k hk).2 h5
    · omega
theorem two_new (C : Con I) (L : Live I w ga Fa 100 [] w1) :
    Calls Try.prog 8 #[.int .i64 100] w1 fun e w' => ∃ g F, e = .returned (.pointer (some ⟨g, 0, none⟩)) ∧ Two I w ga Fa [] g F [] (.slice none 0 0) [] w' :=
  (C.new 100 w1).mono fun e w' k => by
    obtain ⟨g, F, rfl, hi, ho, hf⟩ := k
    refine ⟨g, F, rfl, C.off0 L ho, ⟨hi, L.off.trans ho, fun k hk => Nat.le_trans L.off.size (hf k hk)⟩, fun k ha hb => ?_, World.ownsRow_nil _ _ _ _, fun k hk => by cases hk⟩
    have h1 := C.lt L.i k ha
    have h2 := hf k hb
    omega
theorem two_take_a (C : Con I) (h : Two I w ga Fa la gb Fb lb hv ds w1) (p n : Int) :
    Calls Try.prog 10 #[.pointer (some ⟨ga, 0, none⟩), .int .i64 p, .int .i64 n] w1 fun e w' => e = .returned (.bool (canB 100 la p n)) ∧ ∃ F, Two I w ga F (takeL 100 la p n) gb Fb lb hv ds w' :=
  (C.take h.a.i p n).mono fun _ _ k => ⟨k.1, h.turn_a C k.2.1 k.2.2⟩
theorem two_take_b (C : Con I) (h : Two I w ga Fa la gb Fb lb hv ds w1) (p n : Int) :
    Calls Try.prog 10 #[.pointer (some ⟨gb, 0, none⟩), .int .i64 p, .int .i64 n] w1 fun e w' => e = .returned (.bool (canB 100 lb p n)) ∧ ∃ F, Two I w ga Fa la gb F (takeL 100 lb p n) hv ds w' :=
  (C.take h.b.i p n).mono fun _ _ k => ⟨k.1, h.turn_b C k.2.1 k.2.2⟩
theorem two_give_a (C : Con I) (h : Two I w ga Fa la gb Fb lb hv ds w1) (p : Int) :
    Calls Try.prog 12 #[.pointer (some ⟨ga, 0, none⟩), .int .i64 p] w1 fun e w' => e = .returned (.bool (giveB la p)) ∧ (∃ F, Two I w ga F (give la p) gb Fb lb hv ds w') ∧ Off Fa w1 w' :=
  (C.give h.a.i p).mono fun _ _ k => ⟨k.1, h.turn_a C k.2.1 k.2.2, k.2.2⟩
/-- One piece more. -/
theorem Two.grown (C : Con I) (h : Two I w ga Fa la gb Fb lb hv ds w1) {w3 : World} {hv' : Value} {d : Tri} (ho : Off [] w1 w3) (hg : w3.grownBy w2 hv.ownBlock)
    (hown : w2.ownsRow w.heap.size 29 3 hv' (ds.length + 1) (ds.flatMap Tri.cells ++ d.cells)) (hb : hv'.ownBlock = hv.ownBlock ∨ hv'.ownBlock = some w3.heap.size) :
    Two I w ga Fa la gb Fb lb hv' (ds ++ [d]) w2 := by
  have hsz := ho.size
  have oS : Off hv.ownBlock.toList w1 w2 := Off.grown ⟨ho.os, ho.tape, ho.output, ho.size, fun i hi _ => ho.block i hi (by simp)⟩ hg (fun k hk => .inl (by rw [hk]; simp))
  have o0 : Off [] w w2 := off_grown (h.a.off.trans ho) hg (own_row h.own rfl ho) (Nat.le_refl _)
  have hs : ∀ k ∈ hv.ownBlock.toList, k ∉ Fa ∧ k ∉ Fb := fun k hk => h.fa k (by simpa using hk)
  refine ⟨⟨C.keep h.a.i oS (fun k hk => (hs k hk).1), o0, h.a.fresh⟩, ⟨C.keep h.b.i oS (fun k hk => (hs k hk).2), o0, h.b.fresh⟩, h.apart, ?_, fun k hk => ?_⟩
  · rw [List.length_append, List.flatMap_append]
    simpa using hown
  · rcases hb with hb | hb
    · exact h.fa k (hb ▸ hk)
    · rw [hb] at hk
      injection hk with hk
      refine ⟨fun h1 => ?_, fun h1 => ?_⟩
      · have := C.lt h.a.i k h1; omega
      · have := C.lt h.b.i k h1; omega
/-- A piece's cells. -/
theorem Two.cell (h : Two I w ga Fa la gb Fb lb hv ds w1) (k : Nat) (hk : k < ds.length) : ∃ g c, hv = .slice (some ⟨g, 0, none⟩) ds.length c ∧ ∀ j u, ds[k].cells[j]? = some u → w1.cell? ⟨g, k * 3 + j, none⟩ = some u := by
  rcases h.own.2 with ⟨_, h0⟩ | ⟨g, cap, cur, hv', _⟩
  · omega
  · refine ⟨g, cap, hv', fun j u hu => ?_⟩
    have := h.own.cells (g := g) (by rw [hv']; rfl) _ _ (flat3_get ds k _ (List.getElem?_eq_getElem hk) j u hu)
    rw [addr_add, Nat.zero_add] at this
    exact this
end

theorem give_give {l : List Bk} {p : Int} : give (give l p) p = give l p := by simp [give]

def GotRel (I : Hold) (w : World) (ga gb len : Nat) (hv i : Value) (wr : World) : Prop :=
  ∃ (j : Nat) (la : List Bk) (Fa Fb : List Nat) (ds : List Tri), j ≤ len ∧ i = .int .i64 j ∧ ds.length ≤ j ∧ Two I w ga Fa la gb Fb [] hv ds wr ∧ RowOf 100 (ds.map bkOf) la ∧ Had 100 (ds.map bkOf)

end Go.Proofs.Ytpkpkfcboimhnaa.Mod
