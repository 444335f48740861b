/- Several texts as one. -/
import Derived.Test.YtepklbboejnecaaGreatY
import Derived.Test.YtepklbboejnecaaGreatG
/- What is held, of all three kinds: the rows that hold it. -/
namespace Go.Proofs.YtepklbboejnecaaGreat
open Go.RowKit Go.Shelf Sedge

/-- The kinds: 0: ints, 1: hits, 2: factors: an element's type, a list's type, the type of what is held; how many cells an element has; its mark. -/
def elT : Nat → TypeId
  | 0 => 3
  | 1 => 59
  | _ => 112
def slT : Nat → TypeId
  | 0 => 55
  | 1 => 52
  | _ => 87
def hdT : Nat → TypeId
  | 0 => 114
  | 1 => 116
  | _ => 118
def wd (κ : Nat) : Nat := κ + 1
def mkc : Nat → Int → List Value
  | 0, m => [.int .i64 m]
  | 1, m => [.int .i64 m, .int .i64 m]
  | 2, m => [.int .i64 m, .int .i64 m, .int .u8 0]
  | _, _ => []
theorem mkc_length {κ : Nat} (h : κ < 3) (m : Int) : (mkc κ m).length = wd κ := by
  match κ, h with
  | 0, _ => rfl
  | 1, _ => rfl
  | 2, _ => rfl
theorem mkc_one {κ : Nat} (m : Int) : ∀ u ∈ mkc κ m, u.oneCell' = true := by
  match κ with
  | 0 => intro u hu; simp [mkc] at hu; subst hu; rfl
  | 1 => intro u hu; simp [mkc] at hu; subst hu; rfl
  | 2 => intro u hu; simp [mkc] at hu; rcases hu with rfl | rfl <;> rfl
  | _ + 3 => intro u hu; simp [mkc] at hu
/-- So many marks, as cells. -/
def marks (κ n : Nat) (m : Int) : List Value := (List.replicate n (mkc κ m)).flatten
theorem marks_length {κ : Nat} (h : κ < 3) (n : Nat) (m : Int) : (marks κ n m).length = n * wd κ := by
  induction n with
  | zero => simp [marks]
  | succ n ih =>
    unfold marks at ih ⊢
    rw [List.replicate_succ, List.flatten_cons, List.length_append, ih, mkc_length h]
    rw [Nat.succ_mul, Nat.add_comm]
theorem marks_succ (κ n : Nat) (m : Int) : marks κ (n + 1) m = marks κ n m ++ mkc κ m := by
  unfold marks
  rw [List.replicate_succ', List.flatten_append]; simp
theorem marks_at {κ : Nat} (h : κ < 3) {n k j : Nat} {m : Int} (hk : k < n) (hj : j < wd κ) : (marks κ n m)[k * wd κ + j]? = (mkc κ m)[j]? := by
  induction n with
  | zero => omega
  | succ n ih =>
    rw [marks_succ]
    by_cases e : k = n
    · subst e
      rw [List.getElem?_append_right (by rw [marks_length h]; omega), marks_length h]
      congr 1; omega
    · have hkn : k < n := by omega
      have : k * wd κ + j < n * wd κ := by
        have := Nat.mul_le_mul_right (wd κ) (show k + 1 ≤ n by omega)
        rw [Nat.succ_mul] at this; omega
      rw [List.getElem?_append_left (by rw [marks_length h]; exact this)]
      exact ih hkn

/-- A list that reads as a mark at all its places. -/
def RdK (κ : Nat) (w : World) (v : Value) (m : Int) : Prop := ∃ ad n c, v = .slice ad n c ∧ (n ≤ 5864062014720 ∧ ∀ b o p, ad = some ⟨b, o, p⟩ → o = 0) ∧ ∀ k, k < n → ∃ b o, ad = some ⟨b, o, none⟩ ∧ ∀ j u, (mkc κ m)[j]? = some u → w.cell? ⟨b, o + (k * wd κ + j), none⟩ = some u
theorem RdK.fr {κ : Nat} {w w' : World} {v : Value} {m : Int} {bs : List (Option Nat)} (h : RdK κ w v m) (k : Fr w w' bs) (f : Free v bs) : RdK κ w' v m := by
  obtain ⟨ad, n, c, rfl, hn, h⟩ := h
  refine ⟨ad, n, c, rfl, hn, fun i hi => ?_⟩
  obtain ⟨b, o, rfl, hc⟩ := h i hi
  refine ⟨b, o, rfl, fun j u hu => ?_⟩
  have hc := hc j u hu
  rw [World.cell?_of_block (k.2 b (World.block_lt_of_cell? w _ hc) (f b rfl))]; exact hc
/-- Of a list in the same block that is as long or longer. -/
theorem rdK_own {κ : Nat} (hκ : κ < 3) {w : World} {base n n' : Nat} {v v' : Value} {m : Int} (h : w.ownsRow base (elT κ) (wd κ) v' n' (marks κ n' m)) (hn : n ≤ n') (hn' : n' ≤ 5864062014720) (hv : v = .slice none 0 0 ∨ ∃ g c, v = .slice (some ⟨g, 0, none⟩) n c ∧ v'.ownBlock = some g) : RdK κ w v m := by
  rcases hv with rfl | ⟨g, c, rfl, hb⟩
  · exact ⟨none, 0, 0, rfl, ⟨by omega, fun b o p e => by cases e⟩, fun k hk => by omega⟩
  · rcases h.2 with ⟨rfl, rfl⟩ | ⟨g', cap, cur, rfl, h2, h3, h4⟩
    · cases hb
    · simp only [Value.ownBlock, Option.some.injEq] at hb
      subst hb
      refine ⟨some ⟨g', 0, none⟩, n, c, rfl, ⟨by omega, fun b o p e => by cases e; rfl⟩, fun k hk => ⟨g', 0, rfl, fun j u hu => ?_⟩⟩
      have hj : j < wd κ := by
        rw [← mkc_length hκ m]; exact (List.getElem?_eq_some_iff.1 hu).1
      have hlt : k * wd κ + j < n' * wd κ := by
        have := Nat.mul_le_mul_right (wd κ) (show k + 1 ≤ n' by omega)
        rw [Nat.succ_mul] at this; omega
      rw [Nat.zero_add, h.cellAt _ hlt, marks_at hκ (by omega) hj]; exact hu

/-- Where what is held lies: a block, its type, the place in it at which the box begins, what stands ahead of the box. -/
structure Bx where
  g : Nat
  ty : TypeId
  o : Nat
  pre : List Value
theorem Blk.cellP {w : World} {g o k : Nat} {T : TypeId} {pre vs : List Value} (h : Blk w g T (pre ++ vs)) (hp : pre.length = o) (hk : k < vs.length) : w.cell? ⟨g, o + k, none⟩ = some vs[k] := by
  subst hp
  rw [h.cell (k := pre.length + k) (by rw [List.length_append]; omega)]
  rw [List.getElem_append_right (by omega)]
  congr 2; omega
theorem Blk.setP {w : World} {g o k : Nat} {T : TypeId} {pre vs : List Value} (h : Blk w g T (pre ++ vs)) (hp : pre.length = o) (v : Value) : Blk (w.setCell ⟨g, o + k, none⟩ v) g T (pre ++ vs.set k v) := by
  have := h.set (o + k) v
  rwa [List.set_append_right _ _ (by omega), show o + k - pre.length = k by omega] at this
/-- What lies apart from what holds the lists. -/
def Clr (hb : Bx) (R : List Value) (x : Value) : Prop := x.ownBlock ≠ some hb.g ∧ ∀ r ∈ R, Apart x r
/-- The box and its rows. -/
structure RW (B : Nat) (W : World) (hb : Bx) (N : Nat) (R : List Value) : Prop where
  base : B ≤ hb.g
  len : R.length = 9
  po : hb.pre.length = hb.o
  box : Blk W hb.g hb.ty (hb.pre ++ (.int .i64 (N : Int) :: R))
  pR : R.Pairwise Apart
  oR : ∀ r ∈ R, r.ownBlock ≠ some hb.g
  lR : ∀ r ∈ R, ∀ g, r.ownBlock = some g → g < W.heap.size
/-- A row of the box. -/
abbrev row (R : List Value) (j : Nat) : Value := R.getD j nl
theorem row_mem {R : List Value} {j : Nat} (h : j < R.length) : row R j ∈ R := by
  unfold row; rw [List.getD_eq_getElem?_getD, List.getElem?_eq_getElem h]; exact List.getElem_mem h
theorem row_set {R : List Value} {j : Nat} {v : Value} (h : j < R.length) : row (R.set j v) j = v := by
  unfold row; rw [List.getD_eq_getElem?_getD]; simp [h]
theorem row_set_ne {R : List Value} {i j : Nat} {v : Value} (h : i ≠ j) : row (R.set j v) i = row R i := by
  unfold row; rw [List.getD_eq_getElem?_getD, List.getD_eq_getElem?_getD, List.getElem?_set_ne (fun e => h e.symm)]
theorem mem_set {R : List Value} {j : Nat} {v r : Value} (h : r ∈ R.set j v) : r = v ∨ ∃ i, i ≠ j ∧ i < R.length ∧ r = row R i := by
  obtain ⟨i, hi⟩ := List.getElem?_of_mem h
  by_cases e : i = j
  · subst e
    rw [List.getElem?_set] at hi
    simp at hi
    exact .inl hi.2.symm
  · rw [List.getElem?_set_ne (fun e' => e e'.symm)] at hi
    refine .inr ⟨i, e, (List.getElem?_eq_some_iff.1 hi).1, ?_⟩
    unfold row; rw [List.getD_eq_getElem?_getD, hi]; rfl
theorem pw_row {R : List Value} (h : R.Pairwise Apart) {i j : Nat} (hi : i < R.length) (hj : j < R.length) (hij : i ≠ j) : Apart (row R i) (row R j) := by
  have e : ∀ k (hk : k < R.length), row R k = R[k] := fun k hk => by unfold row; rw [List.getD_eq_getElem?_getD, List.getElem?_eq_getElem hk]; rfl
  rw [e i hi, e j hj]
  rcases Nat.lt_or_gt_of_ne hij with c | c
  · exact List.pairwise_iff_getElem.1 h i j hi hj c
  · exact (List.pairwise_iff_getElem.1 h j i hj hi c).symm
theorem pw_set {R : List Value} (h : R.Pairwise Apart) {j : Nat} {v : Value} (hv : ∀ i, i ≠ j → i < R.length → Apart (row R i) v) : (R.set j v).Pairwise Apart := by
  rw [List.pairwise_iff_getElem]
  intro a b ha hb hab
  rw [List.length_set] at ha hb
  have e : ∀ k (hk : k < R.length), R[k] = row R k := fun k hk => by unfold row; rw [List.getD_eq_getElem?_getD, List.getElem?_eq_getElem hk]; rfl
  rw [List.getElem_set, List.getElem_set]
  by_cases h1 : j = a
  · rw [if_pos h1, if_neg (by omega)]
    rw [e b hb]; exact (hv b (by omega) hb).symm
  · rw [if_neg h1]
    by_cases h2 : j = b
    · rw [if_pos h2, e a ha]; exact hv a (by omega) ha
    · rw [if_neg h2]; exact List.pairwise_iff_getElem.1 h a b ha hb hab
section
variable {B : Nat} {W W' w1 w2 : World} {hb : Bx} {N : Nat} {R : List Value}
theorem RW.later (h : RW B W hb N R) (k : Below W.heap.size W W') : RW B W' hb N R :=
  { h with box := h.box.later k, lR := fun r hr g hg => Nat.lt_of_lt_of_le (h.lR r hr g hg) k.size }
theorem RW.cell (h : RW B W hb N R) {j : Nat} (hj : j < 9) : W.cell? ⟨hb.g, hb.o + (j + 1), none⟩ = some (row R j) := by
  have hl := h.len
  have := h.box.cellP h.po (k := j + 1) (by simp; omega)
  rw [this]
  simp [row, List.getD_eq_getElem?_getD, hl, hj]
theorem RW.cellN (h : RW B W hb N R) : W.cell? ⟨hb.g, hb.o, none⟩ = some (.int .i64 (N : Int)) := h.box.cellP h.po (k := 0) (by simp)
theorem RW.sz (h : RW B W hb N R) : B ≤ W.heap.size := by have := h.base; have := h.box.lt; omega
/-- A list in a new block lies apart from the rows. -/
theorem RW.fresh (h : RW B W hb N R) {x : Value} (hx : ∀ g, x.ownBlock = some g → W.heap.size ≤ g) : Clr hb R x :=
  ⟨fun e => by have := hx _ e; have := h.box.lt; omega, fun r hr g h1 h2 => by have := hx g h1; have := h.lR r hr g h2; omega⟩
/-- What an append to a row, and its store into the box, leave as it was. -/
structure Stepped (B : Nat) (w1 W' : World) (hb : Bx) (N : Nat) (R : List Value) (j : Nat) (v' : Value) : Prop where
  rw' : RW B W' hb N (R.set j v')
  fr : Fr w1 W' [(row R j).ownBlock, some hb.g]
  free : ∀ x, Clr hb R x → Free x [(row R j).ownBlock, some hb.g]
  clr : ∀ x, Clr hb R x → (∀ g, x.ownBlock = some g → g < w1.heap.size) → Clr hb (R.set j v') x
  rows : ∀ i, i ≠ j → i < 9 → Free (row R i) [(row R j).ownBlock, some hb.g]
  blw : Below B w1 W'
theorem RW.step (h : RW B w1 hb N R) {j : Nat} (hj : j < 9) {o : Obj} {v' : Value} (hg : (w1.alloc o).grownBy w2 (row R j).ownBlock) (hl : Lies (w1.alloc o) w2 (row R j) v') (hv : ∀ g, v'.ownBlock = some g → g < w2.heap.size) (hB : ∀ k, (row R j).ownBlock = some k → B ≤ k) :
    Stepped B w1 (w2.setCell ⟨hb.g, hb.o + (j + 1), none⟩ v') hb N R j v' := by
  have hlen := h.len
  have z1 : w1.heap.size ≤ (w1.alloc o).heap.size := by rw [World.size_alloc]; omega
  have z2 := hg.size
  have hbl := h.box.lt
  have hsz := h.sz
  have hm : row R j ∈ R := row_mem (by omega)
  have F12 : Fr w1 w2 [(row R j).ownBlock] := (Fr.alloc w1 o).trans (Fr.of_grown hg)
  have F13 : Fr w1 (w2.setCell ⟨hb.g, hb.o + (j + 1), none⟩ v') [(row R j).ownBlock, some hb.g] := F12.trans (Fr.set w2 hb.g (hb.o + (j + 1)) v')
  have lie : ∀ x, Apart x (row R j) → (∀ g, x.ownBlock = some g → g < w1.heap.size) → Apart x v' := fun x hx hlt => hx.lies (fun g hg' => by have := hlt g hg'; omega) hl
  refine ⟨⟨h.base, by rw [List.length_set]; exact hlen, h.po, ?_, ?_, ?_, ?_⟩, F13, ?_, ?_, ?_, ?_⟩
  · have b1 := Blk.fr h.box F12 (fun r hr => by simp at hr; subst hr; exact fun e => h.oR _ hm e.symm)
    have b2 := Blk.setP b1 h.po (k := j + 1) v'
    rwa [List.set_cons_succ] at b2
  · exact pw_set h.pR fun i hi hi2 => lie _ (pw_row h.pR hi2 (by omega) hi) (h.lR _ (row_mem hi2))
  · intro r hr
    rcases mem_set hr with rfl | ⟨i, hi, hi2, rfl⟩
    · exact off_lies (h.oR _ hm) (by omega) hl
    · exact h.oR _ (row_mem hi2)
  · intro r hr g hg'
    have := F13.1
    rcases mem_set hr with rfl | ⟨i, hi, hi2, rfl⟩
    · have := hv g hg'; simpa using this
    · have := h.lR _ (row_mem hi2) g hg'; omega
  · exact fun x hx => free_cons (free_of_apart (hx.2 _ hm)) (free_of_off hx.1)
  · intro x hx hlt
    refine ⟨hx.1, fun r hr => ?_⟩
    rcases mem_set hr with rfl | ⟨i, hi, hi2, rfl⟩
    · exact lie x (hx.2 _ hm) hlt
    · exact hx.2 _ (row_mem hi2)
  · exact fun i hi hi9 => free_cons (free_of_apart (pw_row h.pR (by omega) (by omega) hi)) (free_of_off (h.oR _ (row_mem (by omega))))
  · exact (((Below.refl B w1).alloc hsz _).grown hg (by omega) hB).setCell (p := ⟨hb.g, hb.o + (j + 1), none⟩) h.base _
/-- Another block has grown, that is clear of all rows. -/
theorem RW.other (h : RW B w1 hb N R) {bs : List (Option Nat)} (hf : Fr w1 w2 bs) (hc : ∀ r ∈ bs, r ≠ some hb.g) : RW B w2 hb N R :=
  { h with
    box := Blk.fr h.box hf (fun r hr e => hc r hr e.symm)
    lR := fun r hr g hg => Nat.lt_of_lt_of_le (h.lR r hr g hg) hf.1 }
end
end Go.Proofs.YtepklbboejnecaaGreat

/- What is held, of all three kinds: the lists that wait, the lists that are marked. -/
namespace Go.Proofs.YtepklbboejnecaaGreat
open Go.RowKit Go.Shelf Sedge
attribute [local go_sem ↓] Go.wp_at_zero Go.wp_at_succ

/-- A list that waits: where it lies, where its copy lies; how long it is, its cells. -/
structure It where
  v : Value
  u : Value
  n : Nat
  xs : List Value
/-- Hits, as cells. -/
def HV (l : List (Int × Int)) : List Value := l.flatMap fun p => [.int .i64 p.1, .int .i64 p.2]
theorem HV_append (a b : List (Int × Int)) : HV (a ++ b) = HV a ++ HV b := by simp [HV]
theorem HV_at : ∀ (l : List (Int × Int)) (i : Nat) (h : i < l.length), (HV l)[i * 2]? = some (.int .i64 l[i].1) ∧ (HV l)[i * 2 + 1]? = some (.int .i64 l[i].2)
  | e :: l, 0, _ => ⟨rfl, rfl⟩
  | e :: l, i + 1, h => by
    have ih := HV_at l i (by simpa using h)
    rw [show (i + 1) * 2 = i * 2 + 2 by omega]
    exact ih
/-- A list's cells are numbers, hits, factors. -/
def Good (κ : Nat) (t : It) : Prop := match κ with
  | 0 => ∃ L : List Nat, t.xs = IV L ∧ t.n = L.length
  | 1 => ∃ l : List (Int × Int), t.xs = HV l ∧ t.n = l.length
  | _ => ∃ l : List (Int × Int × Nat), t.xs = FV l ∧ t.n = l.length
def upd {α : Type} (f : Nat → α) (k : Nat) (a : α) : Nat → α := fun i => if i = k then a else f i
theorem upd_same {α : Type} (f : Nat → α) (k : Nat) (a : α) : upd f k a k = a := by simp [upd]
theorem upd_other {α : Type} (f : Nat → α) {k i : Nat} (a : α) (h : i ≠ k) : upd f k a i = f i := by simp [upd, h]

/-- What is held, whole. -/
structure HI (B : Nat) (W : World) (hb : Bx) (N : Nat) (R : List Value) (E : Nat → List (Value × Int)) (T : Nat → List It) : Prop where
  rw' : RW B W hb N R
  rI : ∀ κ, κ < 3 → W.ownsRow B (hdT κ) 2 (row R κ) (E κ).length (cellsE (E κ))
  rT : ∀ κ, κ < 3 → W.ownsRow B (slT κ) 1 (row R (3 + 2 * κ)) (T κ).length ((T κ).map (·.v))
  rR : ∀ κ, κ < 3 → W.ownsRow B (slT κ) 1 (row R (4 + 2 * κ)) (T κ).length ((T κ).map (·.u))
  own : ∀ κ, κ < 3 → ∀ t ∈ T κ, W.ownsRow B (elT κ) (wd κ) t.v t.n t.xs ∧ W.ownsRow B (elT κ) (wd κ) t.u t.n t.xs
  good : ∀ κ, κ < 3 → ∀ t ∈ T κ, Good κ t
  small : ∀ κ, κ < 3 → ∀ t ∈ T κ, t.n ≤ 100000
  rd : ∀ κ, κ < 3 → ∀ e ∈ E κ, RdK κ W e.1 e.2
  lt : ∀ κ, κ < 3 → ∀ e ∈ E κ, ∀ g, e.1.ownBlock = some g → g < W.heap.size
  cT : ∀ κ, κ < 3 → ∀ t ∈ T κ, Clr hb R t.v ∧ Clr hb R t.u
  cE : ∀ κ, κ < 3 → ∀ e ∈ E κ, Clr hb R e.1
  pw : ∀ κ, κ < 3 → (T κ).Pairwise fun t t' => Apart t.v t'.v
  pc : ∀ κ κ', κ < 3 → κ' < 3 → κ ≠ κ' → ∀ t ∈ T κ, ∀ t' ∈ T κ', Apart t.v t'.v
  te : ∀ κ κ', κ < 3 → κ' < 3 → ∀ t ∈ T κ, ∀ e ∈ E κ', Apart e.1 t.v
  nN : N ≤ 100000000
  nE : ∀ κ, κ < 3 → (E κ).length ≤ 4 * N
  nT : ∀ κ, κ < 3 → (T κ).length ≤ 10000000

theorem mem_set_self {R : List Value} {j : Nat} {v : Value} (h : j < R.length) : v ∈ R.set j v := List.mem_of_getElem? (i := j) (by simp [h])
section
variable {B : Nat} {W W' w1 w2 w4 : World} {hb : Bx} {N : Nat} {R : List Value} {E : Nat → List (Value × Int)} {T : Nat → List It}
theorem HI.later (h : HI B W hb N R E T) (k : Below W.heap.size W W') : HI B W' hb N R E T :=
  { h with
    rw' := h.rw'.later k
    rI := fun κ hκ => own_fr (h.rI κ hκ) (Fr.of_below k) (free_nil _)
    rT := fun κ hκ => own_fr (h.rT κ hκ) (Fr.of_below k) (free_nil _)
    rR := fun κ hκ => own_fr (h.rR κ hκ) (Fr.of_below k) (free_nil _)
    own := fun κ hκ t ht => ⟨own_fr (h.own κ hκ t ht).1 (Fr.of_below k) (free_nil _), own_fr (h.own κ hκ t ht).2 (Fr.of_below k) (free_nil _)⟩
    rd := fun κ hκ e he => (h.rd κ hκ e he).fr (Fr.of_below k) (free_nil _)
    lt := fun κ hκ e he g hg => Nat.lt_of_lt_of_le (h.lt κ hκ e he g hg) k.size }
/-- A list in a new block lies apart from all that is held. -/
theorem HI.fresh (h : HI B W hb N R E T) {x : Value} (hx : ∀ g, x.ownBlock = some g → W.heap.size ≤ g) : Clr hb R x ∧ (∀ κ, κ < 3 → ∀ t ∈ T κ, Apart t.v x) ∧ (∀ κ, κ < 3 → ∀ e ∈ E κ, Apart e.1 x) :=
  ⟨h.rw'.fresh hx, fun κ hκ t ht g h1 h2 => by have := hx g h2; have := ((h.own κ hκ t ht).1.lt g h1).2; omega, fun κ hκ e he g h1 h2 => by have := hx g h2; have := h.lt κ hκ e he g h1; omega⟩
/-- One list more waits: what is held behind it. -/
theorem HI.more {κ : Nat} (hκ : κ < 3) {vT2 vR4 v u : Value} {n : Nat} {xs : List Value} {o1 o2 : Obj}
    (H : HI B w1 hb N R E T) (hgd : Good κ ⟨v, u, n, xs⟩) (hn : n ≤ 100000) (hT : (T κ).length < 10000000)
    (ov : w1.ownsRow B (elT κ) (wd κ) v n xs) (ou : w1.ownsRow B (elT κ) (wd κ) u n xs) (cv : Clr hb R v) (cu : Clr hb R u) (hct : ∀ κ', κ' < 3 → ∀ t ∈ T κ', Apart t.v v) (hce : ∀ κ', κ' < 3 → ∀ e ∈ E κ', Apart e.1 v)
    (hT2 : w2.ownsRow B (slT κ) 1 vT2 ((T κ).length + 1) ((T κ).map (·.v) ++ [v])) (hg2 : (w1.alloc o1).grownBy w2 (row R (3 + 2 * κ)).ownBlock) (hl2 : Lies (w1.alloc o1) w2 (row R (3 + 2 * κ)) vT2)
    (hR4 : w4.ownsRow B (slT κ) 1 vR4 ((T κ).length + 1) ((T κ).map (·.u) ++ [u])) (hg4 : ((w2.setCell ⟨hb.g, hb.o + (3 + 2 * κ + 1), none⟩ vT2).alloc o2).grownBy w4 (row R (4 + 2 * κ)).ownBlock) (hl4 : Lies ((w2.setCell ⟨hb.g, hb.o + (3 + 2 * κ + 1), none⟩ vT2).alloc o2) w4 (row R (4 + 2 * κ)) vR4) :
    HI B (w4.setCell ⟨hb.g, hb.o + (4 + 2 * κ + 1), none⟩ vR4) hb N ((R.set (3 + 2 * κ) vT2).set (4 + 2 * κ) vR4) E (upd T κ (T κ ++ [⟨v, u, n, xs⟩])) ∧ Below B w1 (w4.setCell ⟨hb.g, hb.o + (4 + 2 * κ + 1), none⟩ vR4) ∧ Fr w1 (w4.setCell ⟨hb.g, hb.o + (4 + 2 * κ + 1), none⟩ vR4) [(row R (3 + 2 * κ)).ownBlock, some hb.g, (row R (4 + 2 * κ)).ownBlock, some hb.g] := by
  have hlen := H.rw'.len
  have S1 := H.rw'.step (j := 3 + 2 * κ) (by omega) hg2 hl2 (own_lt hT2) (fun k hk => ((H.rT κ hκ).lt k hk).1)
  have e4 : row (R.set (3 + 2 * κ) vT2) (4 + 2 * κ) = row R (4 + 2 * κ) := row_set_ne (by omega)
  have S2 := S1.rw'.step (j := 4 + 2 * κ) (by omega) (o := o2) (v' := vR4) (w2 := w4) (by rw [e4]; exact hg4) (by rw [e4]; exact hl4) (own_lt hR4) (fun k hk => by rw [e4] at hk; exact ((H.rR κ hκ).lt k hk).1)
  have F := S1.fr.trans S2.fr
  have z1 := S1.fr.1
  have z2 := S2.fr.1
  have c1 : ∀ x, Clr hb R x → (∀ g, x.ownBlock = some g → g < w1.heap.size) → Clr hb ((R.set (3 + 2 * κ) vT2).set (4 + 2 * κ) vR4) x := fun x hx hl => S2.clr x (S1.clr x hx hl) (fun g hg => Nat.lt_of_lt_of_le (hl g hg) z1)
  have fr : ∀ x, Clr hb R x → (∀ g, x.ownBlock = some g → g < w1.heap.size) → Free x ([(row R (3 + 2 * κ)).ownBlock, some hb.g] ++ [(row (R.set (3 + 2 * κ) vT2) (4 + 2 * κ)).ownBlock, some hb.g]) := fun x hx hl g hg r hr => by
    rcases List.mem_append.1 hr with hr | hr
    · exact S1.free x hx g hg r hr
    · exact S2.free x (S1.clr x hx hl) g hg r hr
  have rows : ∀ i, i < 9 → i ≠ 3 + 2 * κ → i ≠ 4 + 2 * κ → row ((R.set (3 + 2 * κ) vT2).set (4 + 2 * κ) vR4) i = row R i ∧ Free (row R i) ([(row R (3 + 2 * κ)).ownBlock, some hb.g] ++ [(row (R.set (3 + 2 * κ) vT2) (4 + 2 * κ)).ownBlock, some hb.g]) := fun i hi h1 h2 => by
    have e1 : row (R.set (3 + 2 * κ) vT2) i = row R i := row_set_ne h1
    refine ⟨by rw [row_set_ne h2, e1], fun g hg r hr => ?_⟩
    rcases List.mem_append.1 hr with hr | hr
    · exact S1.rows i h1 hi g hg r hr
    · exact S2.rows i h2 hi g (by rw [e1]; exact hg) r hr
  have oldT : ∀ κ' t, κ' < 3 → t ∈ upd T κ (T κ ++ [⟨v, u, n, xs⟩]) κ' → t ∈ T κ' ∨ (κ' = κ ∧ t = ⟨v, u, n, xs⟩) := fun κ' t _ ht => by
    by_cases e : κ' = κ
    · subst e
      rw [upd_same] at ht
      rcases List.mem_append.1 ht with ht | ht
      · exact .inl ht
      · simp at ht; exact .inr ⟨rfl, ht⟩
    · rw [upd_other _ _ e] at ht; exact .inl ht
  refine ⟨⟨S2.rw', ?_, ?_, ?_, ?_, ?_, ?_, ?_, ?_, ?_, ?_, ?_, ?_, ?_, H.nN, H.nE, ?_⟩, S1.blw.trans S2.blw, by have F' := F; rw [e4] at F'; exact F'⟩
  · intro κ' hκ'
    obtain ⟨e, f⟩ := rows κ' (by omega) (by omega) (by omega)
    rw [e]; exact own_fr (H.rI κ' hκ') F f
  · intro κ' hκ'
    by_cases e : κ' = κ
    · subst e
      rw [upd_same, row_set_ne (by omega), row_set (by omega), List.length_append, List.map_append]
      exact own_fr (own_fr hT2 (Fr.set w2 hb.g (hb.o + (3 + 2 * κ' + 1)) vT2) (free_of_off (S1.rw'.oR _ (mem_set_self (by omega))))) S2.fr (by
        have := S2.rows (3 + 2 * κ') (by omega) (by omega)
        rwa [row_set (by omega)] at this)
    · obtain ⟨e', f⟩ := rows (3 + 2 * κ') (by omega) (by omega) (by omega)
      rw [e', upd_other _ _ e]; exact own_fr (H.rT κ' hκ') F f
  · intro κ' hκ'
    by_cases e : κ' = κ
    · subst e
      rw [upd_same, row_set (by rw [List.length_set]; omega), List.length_append, List.map_append]
      refine own_fr hR4 (Fr.set w4 hb.g (hb.o + (4 + 2 * κ' + 1)) vR4) (free_of_off (S2.rw'.oR _ (mem_set_self (by rw [List.length_set]; omega))))
    · obtain ⟨e', f⟩ := rows (4 + 2 * κ') (by omega) (by omega) (by omega)
      rw [e', upd_other _ _ e]; exact own_fr (H.rR κ' hκ') F f
  · intro κ' hκ' t ht
    rcases oldT κ' t hκ' ht with ht | ⟨rfl, rfl⟩
    · have o := H.own κ' hκ' t ht
      have c := H.cT κ' hκ' t ht
      exact ⟨own_fr o.1 F (fr _ c.1 (own_lt o.1)), own_fr o.2 F (fr _ c.2 (own_lt o.2))⟩
    · exact ⟨own_fr ov F (fr _ cv (own_lt ov)), own_fr ou F (fr _ cu (own_lt ou))⟩
  · intro κ' hκ' t ht
    rcases oldT κ' t hκ' ht with ht | ⟨rfl, rfl⟩
    · exact H.good κ' hκ' t ht
    · exact hgd
  · intro κ' hκ' t ht
    rcases oldT κ' t hκ' ht with ht | ⟨rfl, rfl⟩
    · exact H.small κ' hκ' t ht
    · exact hn
  · exact fun κ' hκ' e he => (H.rd κ' hκ' e he).fr F (fr _ (H.cE κ' hκ' e he) (H.lt κ' hκ' e he))
  · exact fun κ' hκ' e he g hg => Nat.lt_of_lt_of_le (H.lt κ' hκ' e he g hg) F.1
  · intro κ' hκ' t ht
    rcases oldT κ' t hκ' ht with ht | ⟨rfl, rfl⟩
    · have o := H.own κ' hκ' t ht
      have c := H.cT κ' hκ' t ht
      exact ⟨c1 _ c.1 (own_lt o.1), c1 _ c.2 (own_lt o.2)⟩
    · exact ⟨c1 _ cv (own_lt ov), c1 _ cu (own_lt ou)⟩
  · exact fun κ' hκ' e he => c1 _ (H.cE κ' hκ' e he) (H.lt κ' hκ' e he)
  · intro κ' hκ'
    by_cases e : κ' = κ
    · subst e
      rw [upd_same, List.pairwise_append]
      refine ⟨H.pw κ' hκ', by simp, fun t ht t' ht' => ?_⟩
      simp at ht'; subst ht'; exact hct κ' hκ' t ht
    · rw [upd_other _ _ e]; exact H.pw κ' hκ'
  · intro κ1 κ2 h1 h2 hne t ht t' ht'
    rcases oldT κ1 t h1 ht with hx | ⟨rfl, rfl⟩
    · rcases oldT κ2 t' h2 ht' with hy | ⟨rfl, rfl⟩
      · exact H.pc κ1 κ2 h1 h2 hne t hx t' hy
      · exact hct κ1 h1 t hx
    · rcases oldT κ2 t' h2 ht' with hy | ⟨rfl, rfl⟩
      · exact (hct κ2 h2 t' hy).symm
      · exact absurd rfl hne
  · intro κ1 κ2 h1 h2 t ht e he
    rcases oldT κ1 t h1 ht with ht | ⟨rfl, rfl⟩
    · exact H.te κ1 κ2 h1 h2 t ht e he
    · exact hce κ2 h2 e he
  · intro κ' hκ'
    by_cases e : κ' = κ
    · subst e; rw [upd_same, List.length_append]; simp; omega
    · rw [upd_other _ _ e]; exact H.nT κ' hκ'
end
end Go.Proofs.YtepklbboejnecaaGreat

/- What is held, of all three kinds: a list is marked. -/
namespace Go.Proofs.YtepklbboejnecaaGreat
open Go.RowKit Go.Shelf Sedge
attribute [local go_sem ↓] Go.wp_at_zero Go.wp_at_succ

/-- 'append(h, Held..{..})'. -/
theorem wpList_push_hd (t e : TypeId) (hu : Tryz.prog.underlying t = some (.slice e)) (hinf : (Tryz.prog.info? e).map (fun i => (i.zero, i.size, i.bytes)) = some (some (.agg #[.slice none 0 0, .int .i64 0]), 2, 32))
    (w : World) {ops : Array Oper} {rest : List Oper} {o : Oper} {a : Act} {Q : Exit → Act → World → Prop} (hg : o.guard = none)
    (s x : Operand) (hop : o.op = Op.call { callee := Callee.builtin Builtin.append, args := #[s, x], argTypes := #[t, t] })
    (base : Nat) (v : Value) (E : List (Value × Int)) (hs : a.eval s = v) (hown : w.ownsRow base e 2 v E.length (cellsE E))
    (b : Nat) (y : Value) (m : Int) (hx : a.eval x = .slice (some ⟨b, 0, none⟩) 1 1) (hc : Blk w b e [y, .int .i64 m]) (h1 : y.oneCell' = true) (hn : E.length ≤ 1000000000) (hbase : base ≤ w.heap.size)
    (hK : ∀ v' w', w'.ownsRow base e 2 v' (E ++ [(y, m)]).length (cellsE (E ++ [(y, m)])) → w.grownBy w' v.ownBlock → Lies w w' v v' → wpList Tryz.prog ops Q rest (a.put o.dst v') w') :
    wpList Tryz.prog ops Q (o :: rest) a w := by
  obtain ⟨i0, hi, hz0, hz1, hz2⟩ := info_parts hinf
  refine wpList_push_at w hg s x t hop e i0 (.agg #[.slice none 0 0, .int .i64 0]) 2 32 hu hi hz0 hz1 hz2 rfl (by decide) base v E.length (cellsE E) hs hown ⟨b, 0, none⟩ 1 [y, .int .i64 m] hx rfl ?_ ?_ ?_ ?_ hbase ?_
  · obtain ⟨q0, q1⟩ := cells2 hc
    intro j u hj
    match j, hj with
    | 0, hj => simp at hj; subst hj; simpa [Addr.add] using q0
    | 1, hj => simp at hj; subst hj; simpa [Addr.add] using q1
  · intro u hu
    simp at hu
    rcases hu with rfl | rfl
    · exact h1
    · rfl
  · unfold maxLen; omega
  · omega
  · intro v' w' q1 q2 q3
    refine hK v' w' ?_ q2 q3
    rw [cellsE_append, List.length_append]
    exact q1
/-- 'append(l, m)'. -/
theorem wpList_push_mk {κ : Nat} (hκ : κ < 3) (t : TypeId) (z : Value) (bytes : Nat) (hb24 : bytes ≤ 24) (hu : Tryz.prog.underlying t = some (.slice (elT κ))) (hinf : (Tryz.prog.info? (elT κ)).map (fun i => (i.zero, i.size, i.bytes)) = some (some z, wd κ, bytes)) (hzc : z.cells.size = wd κ)
    (w : World) {ops : Array Oper} {rest : List Oper} {o : Oper} {a : Act} {Q : Exit → Act → World → Prop} (hg : o.guard = none)
    (s x : Operand) (hop : o.op = Op.call { callee := Callee.builtin Builtin.append, args := #[s, x], argTypes := #[t, t] })
    (base : Nat) (v : Value) (n : Nat) (m : Int) (hs : a.eval s = v) (hown : w.ownsRow base (elT κ) (wd κ) v n (marks κ n m))
    (b : Nat) (T : TypeId) (hx : a.eval x = .slice (some ⟨b, 0, none⟩) 1 1) (hc : Blk w b T (mkc κ m)) (hn : n ≤ 5864062014720) (hbase : base ≤ w.heap.size)
    (hK : ∀ v' w', w'.ownsRow base (elT κ) (wd κ) v' (n + 1) (marks κ (n + 1) m) → w.grownBy w' v.ownBlock → Lies w w' v v' → wpList Tryz.prog ops Q rest (a.put o.dst v') w') :
    wpList Tryz.prog ops Q (o :: rest) a w := by
  obtain ⟨i0, hi, hz0, hz1, hz2⟩ := info_parts hinf
  refine wpList_push_at w hg s x t hop (elT κ) i0 z (wd κ) bytes hu hi hz0 hz1 hz2 hzc (by unfold wd; omega) base v n _ hs hown ⟨b, 0, none⟩ 1 (mkc κ m) hx (by rw [mkc_length hκ]; omega) ?_ (mkc_one m) ?_ ?_ hbase ?_
  · intro j u hj
    have := hc.cell (k := j) (List.getElem?_eq_some_iff.1 hj).1
    have ea : (⟨b, 0, none⟩ : Addr).add j = ⟨b, j, none⟩ := by unfold Addr.add; split <;> simp_all
    rw [ea, this]
    exact congrArg some (List.getElem?_eq_some_iff.1 hj).2
  · unfold maxLen; omega
  · have := Nat.mul_le_mul_left (n + 1) hb24; omega
  · intro v' w' q1 q2 q3
    refine hK v' w' ?_ q2 q3
    rw [marks_succ]
    exact q1

/-- A list's marking, so far: g: the list with so many marks behind it; G: what was kept of it. -/
structure MKK (κ B : Nat) (W0 : World) (hb : Bx) (N : Nat) (R0 : List Value) (v0 : Value) (n0 : Nat) (m : Int) (E : List (Value × Int)) (W : World) (R : List Value) (g : Value) (G : List (Value × Int)) (t : Nat) : Prop where
  rw' : RW B W hb N R
  only : ∀ i, i ≠ κ → row R i = row R0 i
  rI : W.ownsRow B (hdT κ) 2 (row R κ) (E ++ G).length (cellsE (E ++ G))
  rg : W.ownsRow B (elT κ) (wd κ) g (n0 + t) (marks κ (n0 + t) m)
  rd : ∀ e ∈ E ++ G, RdK κ W e.1 e.2
  lt : ∀ e ∈ E ++ G, ∀ k, e.1.ownBlock = some k → k < W.heap.size
  gG : ∀ e ∈ G, e.2 = m ∧ (e.1 = nl ∨ ∃ k n' c, e.1 = .slice (some ⟨k, 0, none⟩) n' c ∧ n' ≤ n0 + t)
  gl : ∀ e ∈ G, ∀ k, e.1.ownBlock = some k → v0.ownBlock = some k ∨ W0.heap.size ≤ k
  g0 : ∀ k, g.ownBlock = some k → v0.ownBlock = some k ∨ W0.heap.size ≤ k
  vIl : ∀ k, (row R κ).ownBlock = some k → (row R0 κ).ownBlock = some k ∨ W0.heap.size ≤ k
  cg : Clr hb R g
  cE : ∀ e ∈ E ++ G, Clr hb R e.1
  aEg : ∀ e ∈ E, Apart e.1 g
  fr : Fr W0 W [some hb.g, (row R0 κ).ownBlock, v0.ownBlock]
  blw : Below B W0 W
  nG : G.length ≤ t + 1
  nn : n0 ≤ 5864062014700

section
variable {κ B : Nat} {W0 : World} {hb : Bx} {N : Nat} {R0 R : List Value} {v0 : Value} {n0 : Nat} {m : Int} {E : List (Value × Int)} {W w2 : World} {g : Value} {G : List (Value × Int)} {t : Nat}
/-- What is kept of a list is one more. -/
theorem MKK.kept (hκ : κ < 3) (h : MKK κ B W0 hb N R0 v0 n0 m E W R g G t) {o : Obj} {vI' : Value} (ht : t ≤ 10) (hG : G.length ≤ t)
    (q1 : w2.ownsRow B (hdT κ) 2 vI' (E ++ G ++ [(g, m)]).length (cellsE (E ++ G ++ [(g, m)]))) (q2 : (W.alloc o).grownBy w2 (row R κ).ownBlock) (q3 : Lies (W.alloc o) w2 (row R κ) vI') :
    MKK κ B W0 hb N R0 v0 n0 m E (w2.setCell ⟨hb.g, hb.o + (κ + 1), none⟩ vI') (R.set κ vI') g (G ++ [(g, m)]) t := by
  have hlen := h.rw'.len
  have S := h.rw'.step (j := κ) (by omega) q2 q3 (own_lt q1) (fun k hk => (h.rI.lt k hk).1)
  have z0 := h.fr.1
  have z1 : W.heap.size ≤ (W.alloc o).heap.size := by rw [World.size_alloc]; omega
  have agl := own_lt h.rg
  have hkap : row (R.set κ vI') κ = vI' := row_set (by omega)
  refine ⟨S.rw', ?_, ?_, ?_, ?_, ?_, ?_, ?_, h.g0, ?_, ?_, ?_, h.aEg, ?_, h.blw.trans S.blw, by simp; omega, h.nn⟩
  · intro i hi; rw [row_set_ne hi]; exact h.only i hi
  · rw [hkap, ← List.append_assoc]
    exact own_fr q1 (Fr.set w2 hb.g (hb.o + (κ + 1)) vI') (free_of_off (S.rw'.oR _ (mem_set_self (by omega))))
  · exact own_fr h.rg S.fr (S.free _ h.cg)
  · intro e he
    rw [← List.append_assoc] at he
    rcases List.mem_append.1 he with he | he
    · exact (h.rd e he).fr S.fr (S.free _ (h.cE e he))
    · simp at he; subst he
      refine (rdK_own hκ h.rg (Nat.le_refl _) (by have := h.nn; omega) ?_).fr S.fr (S.free _ h.cg)
      rcases own_form h.rg with ⟨q, _⟩ | ⟨k, c, q⟩
      · exact .inl q
      · exact .inr ⟨k, c, q, by rw [q]; rfl⟩
  · intro e he k hk
    rw [← List.append_assoc] at he
    have := S.fr.1
    rcases List.mem_append.1 he with he | he
    · have := h.lt e he k hk; omega
    · simp at he; subst he; have := agl k hk; omega
  · intro e he
    rcases List.mem_append.1 he with he | he
    · exact h.gG e he
    · simp at he; subst he
      refine ⟨rfl, ?_⟩
      rcases own_form h.rg with ⟨q, _⟩ | ⟨k, c, q⟩
      · exact .inl q
      · exact .inr ⟨k, _, c, q, Nat.le_refl _⟩
  · intro e he
    rcases List.mem_append.1 he with he | he
    · exact h.gl e he
    · simp at he; subst he; exact h.g0
  · intro k hk
    rw [hkap] at hk
    rcases q3 with q3 | q3
    · rw [q3] at hk; exact h.vIl k hk
    · right; have := q3.1 k hk; omega
  · exact S.clr _ h.cg agl
  · intro e he
    rw [← List.append_assoc] at he
    rcases List.mem_append.1 he with he | he
    · exact S.clr _ (h.cE e he) (h.lt e he)
    · simp at he; subst he; exact S.clr _ h.cg agl
  · refine ⟨Nat.le_trans h.fr.1 S.fr.1, fun k hk hr => (S.fr.2 k (by omega) fun r hr' e => ?_).trans (h.fr.2 k hk hr)⟩
    simp only [List.mem_cons, List.not_mem_nil, or_false] at hr'
    rcases hr' with rfl | rfl
    · rcases h.vIl k e.symm with q | q
      · exact hr _ (by simp) q.symm
      · omega
    · exact hr _ (by simp) e
/-- One mark more behind the list. -/
theorem MKK.grow (hκ : κ < 3) (h : MKK κ B W0 hb N R0 v0 n0 m E W R g G t) {o : Obj} {g' : Value} (ht : t ≤ 10)
    (q1 : w2.ownsRow B (elT κ) (wd κ) g' (n0 + t + 1) (marks κ (n0 + t + 1) m)) (q2 : (W.alloc o).grownBy w2 g.ownBlock) (q3 : Lies (W.alloc o) w2 g g') :
    MKK κ B W0 hb N R0 v0 n0 m E w2 R g' G (t + 1) := by
  have hlen := h.rw'.len
  have z0 := h.fr.1
  have z1 : W.heap.size ≤ (W.alloc o).heap.size := by rw [World.size_alloc]; omega
  have z2 := q2.size
  have hbl := h.rw'.box.lt
  have hsz := h.rw'.sz
  have F2 : Fr W w2 [g.ownBlock] := (Fr.alloc W o).trans (Fr.of_grown q2)
  have hkm : row R κ ∈ R := row_mem (by omega)
  have hGm : ∀ e ∈ G, RdK κ w2 e.1 e.2 := fun e he => by
    have hm := h.gG e he
    have he' : e ∈ E ++ G := List.mem_append.2 (Or.inr he)
    rcases q3 with q3 | q3
    · rcases hm.2 with hn | ⟨k, n', c, hk, hn'⟩
      · rw [hm.1, hn]; exact rdK_own hκ (n := 0) q1 (by omega) (by have := h.nn; omega) (.inl rfl)
      · by_cases hb' : g.ownBlock = some k
        · rw [hm.1]
          exact rdK_own hκ (n := n') q1 (by omega) (by have := h.nn; omega) (.inr ⟨k, c, hk, by rw [q3]; exact hb'⟩)
        · refine (h.rd e he').fr F2 fun j hj r hr er => ?_
          rw [hk] at hj
          simp only [Value.ownBlock, Option.some.injEq] at hj
          simp at hr; subst hr; subst hj; exact hb' er.symm
    · exact (h.rd e he').fr ((Fr.alloc W o).trans (Fr.of_grown q3.2)) (fun j hj r hr er => by simp at hr; subst hr; cases er)
  have lieg : ∀ x, Apart x g → (∀ k, x.ownBlock = some k → k < W.heap.size) → Apart x g' := fun x hx hl => hx.lies (fun k hk => by have := hl k hk; omega) q3
  have hcg' : Clr hb R g' := ⟨off_lies h.cg.1 (by omega) q3, fun r hr => (lieg r (h.cg.2 r hr).symm (h.rw'.lR r hr)).symm⟩
  refine ⟨h.rw'.other F2 (fun r hr => by simp at hr; subst hr; exact h.cg.1), h.only, ?_, q1, ?_, ?_, ?_, h.gl, ?_, h.vIl, hcg', h.cE, ?_, ?_, ?_, by have := h.nG; omega, h.nn⟩
  · exact own_fr h.rI F2 (free_of_apart (h.cg.2 _ hkm).symm)
  · intro e he
    rcases List.mem_append.1 he with he | he
    · exact (h.rd e (List.mem_append.2 (Or.inl he))).fr F2 (free_of_apart (h.aEg e he))
    · exact hGm e he
  · exact fun e he k hk => by have := h.lt e he k hk; omega
  · intro e he
    refine ⟨(h.gG e he).1, ?_⟩
    rcases (h.gG e he).2 with q | ⟨k, n', c, hk, hn'⟩
    · exact .inl q
    · exact .inr ⟨k, n', c, hk, by omega⟩
  · intro k hk
    rcases q3 with q3 | q3
    · rw [q3] at hk; exact h.g0 k hk
    · right; have := q3.1 k hk; omega
  · exact fun e he => lieg _ (h.aEg e he) (h.lt e (List.mem_append.2 (Or.inl he)))
  · refine ⟨Nat.le_trans h.fr.1 F2.1, fun k hk hr => (F2.2 k (by omega) fun r hr' e => ?_).trans (h.fr.2 k hk hr)⟩
    simp at hr'
    subst hr'
    rcases h.g0 k e.symm with q | q
    · exact hr _ (by simp) q.symm
    · omega
  · exact (h.blw.alloc (by omega) _).grown q2 (by omega) (fun k hk => (h.rg.lt k hk).1)
end

/-- What marking asks. -/
structure MP (κ B : Nat) (W : World) (hb : Bx) (N : Nat) (R : List Value) (E : List (Value × Int)) (v : Value) (n : Nat) (xs : List Value) : Prop where
  rw' : RW B W hb N R
  rI : W.ownsRow B (hdT κ) 2 (row R κ) E.length (cellsE E)
  rv : W.ownsRow B (elT κ) (wd κ) v n xs
  rd : ∀ e ∈ E, RdK κ W e.1 e.2
  lt : ∀ e ∈ E, ∀ k, e.1.ownBlock = some k → k < W.heap.size
  cv : Clr hb R v
  cE : ∀ e ∈ E, Clr hb R e.1
  aEv : ∀ e ∈ E, Apart e.1 v
  nE : E.length ≤ 900000000
  nn : n ≤ 5864062014700
  nN : N ≤ 100000000
theorem RW.setN {B : Nat} {W : World} {hb : Bx} {N : Nat} {R : List Value} (h : RW B W hb N R) : RW B (W.setCell ⟨hb.g, hb.o, none⟩ (.int .i64 ((N : Int) + 1))) hb (N + 1) R :=
  { h with
    box := Blk.setP h.box h.po (k := 0) (.int .i64 ((N : Int) + 1))
    lR := fun r hr g hg => by have := h.lR r hr g hg; simpa using this }
/-- All its places are marked: the marking's start. -/
theorem MP.start {κ B : Nat} {W wr : World} {hb : Bx} {N : Nat} {R : List Value} {v : Value} {E : List (Value × Int)} {n : Nat} {xs : List Value} {m : Int} (hκ : κ < 3) (h : MP κ B W hb N R E v n xs)
    (q1 : wr.ownsRow B (elT κ) (wd κ) v n (marks κ n m)) (q2 : Fr (W.setCell ⟨hb.g, hb.o, none⟩ (.int .i64 ((N : Int) + 1))) wr [v.ownBlock]) (q3 : Below B (W.setCell ⟨hb.g, hb.o, none⟩ (.int .i64 ((N : Int) + 1))) wr) :
    MKK κ B W hb (N + 1) R v n m E wr R v [] 0 := by
  have hlen := h.rw'.len
  have F : Fr W wr [some hb.g, v.ownBlock] := (Fr.set W hb.g hb.o _).trans q2
  have fE : ∀ e ∈ E, Free e.1 [some hb.g, v.ownBlock] := fun e he => free_cons (free_of_off (h.cE e he).1) (free_of_apart (h.aEv e he))
  have hkm : row R κ ∈ R := row_mem (by omega)
  refine ⟨h.rw'.setN.other q2 (fun r hr => by simp at hr; subst hr; exact h.cv.1), fun _ _ => rfl, ?_, q1, ?_, ?_, (fun e he => by cases he), (fun e he => by cases he), fun k hk => .inl hk, fun k hk => .inl hk, h.cv, ?_, h.aEv, ?_, ?_, by simp, h.nn⟩
  · rw [List.append_nil]
    exact own_fr h.rI F (free_cons (free_of_off (h.rw'.oR _ hkm)) (free_of_apart (h.cv.2 _ hkm).symm))
  · rw [List.append_nil]; exact fun e he => (h.rd e he).fr F (fE e he)
  · rw [List.append_nil]; exact fun e he k hk => by have := h.lt e he k hk; have := F.1; omega
  · rw [List.append_nil]; exact h.cE
  · exact F.sub fun r hr => by simp at hr ⊢; rcases hr with hr | hr <;> simp [hr]
  · exact ((Below.refl B W).setCell (p := ⟨hb.g, hb.o, none⟩) h.rw'.base _).trans q3
end Go.Proofs.YtepklbboejnecaaGreat

/- What is held, of all three kinds: factors are marked: the walk. -/
namespace Go.Proofs.YtepklbboejnecaaGreat
open Go.RowKit Go.Shelf Sedge
attribute [local go_sem ↓] Go.wp_at_zero Go.wp_at_succ

theorem Tryz.infoHF : (Tryz.prog.info? 118).map (fun i => (i.zero, i.size, i.bytes)) = some (some (.agg #[.slice none 0 0, .int .i64 0]), 2, 32) := by kernel_rfl

theorem marks_cut {κ : Nat} (hκ : κ < 3) {k n : Nat} {m : Int} {xs : List Value} (hx : xs.length = n * wd κ) (hk : k < n) : (marks κ k m ++ xs.drop (k * wd κ)).length = n * wd κ := by
  have := Nat.mul_le_mul_right (wd κ) (show k ≤ n by omega)
  rw [List.length_append, marks_length hκ, List.length_drop, hx]; omega
/-- The k-th factor of a list is marked. -/
theorem set_marks3 {k n : Nat} {m : Int} {xs : List Value} (hx : xs.length = n * 3) (hk : k < n) : (((marks 2 k m ++ xs.drop (k * 3)).set (k * 3) (.int .i64 m)).set (k * 3 + 1) (.int .i64 m)).set (k * 3 + 2) (.int .u8 0) = marks 2 (k + 1) m ++ xs.drop ((k + 1) * 3) := by
  have hl : (marks 2 k m).length = k * 3 := marks_length (by omega) k m
  have h0 : k * 3 < xs.length := by omega
  have h1 : k * 3 + 1 < xs.length := by omega
  have h2 : k * 3 + 1 + 1 < xs.length := by omega
  rw [marks_succ, List.append_assoc, List.set_append_right _ _ (by omega), List.set_append_right _ _ (by omega), List.set_append_right _ _ (by omega), hl]
  rw [show k * 3 - k * 3 = 0 by omega, show k * 3 + 1 - k * 3 = 1 by omega, show k * 3 + 2 - k * 3 = 2 by omega, List.drop_eq_getElem_cons h0, List.drop_eq_getElem_cons h1, List.drop_eq_getElem_cons h2, show (k + 1) * 3 = k * 3 + 1 + 1 + 1 by omega]
  rfl

set_option maxRecDepth 20000 in
set_option maxHeartbeats 4000000 in
/-- 'markFactors'. -/
theorem markFactors_any (B : Nat) (W : World) (hb : Bx) (N : Nat) (R : List Value) (E : List (Value × Int)) (v : Value) (n : Nat) (xs : List Value) (H : MP 2 B W hb N R E v n xs) :
    Calls Tryz.prog 37 #[.pointer (some ⟨hb.g, hb.o, none⟩), v] W fun e w' => e = .returned (.tuple #[]) ∧ ∃ m R' g G, MKK 2 B W hb (N + 1) R v n m E w' R' g G 3 ∧ G.length ≤ 4 := by
  obtain ⟨ad, cv, rfl⟩ := own_val H.rv
  have HH : Hid _ := H
  have c0 : W.cell? ⟨hb.g, hb.o, none⟩ = some (.int .i64 (N : Int)) := H.rw'.cellN
  have f0 := Blk.free H.rw'.box hb.o
  have hsz : B ≤ W.heap.size := H.rw'.sz
  have nN := H.nN
  have nn := H.nn
  have nE0 := H.nE
  have v1 : IntKind.i64.wrap ((N : Int) + 1) = (N : Int) + 1 := by rw [IntKind.wrap_i64]; omega
  have v2 : IntKind.i64.wrap (-1000 - ((N : Int) + 1)) = -1000 - ((N : Int) + 1) := by rw [IntKind.wrap_i64]; omega
  clear H
  go_enter Tryz.func37, Tryz.ntmps37
  go_wp2_with fail
  clear v2
  generalize (-1000 : Int) - ((N : Int) + 1) = m
  go_loopw [5] (fun i wr => ∃ k : Nat, k ≤ n ∧ i = .int .i64 k ∧ wr.ownsRow B 112 3 (.slice ad n cv) n (marks 2 k m ++ xs.drop (k * 3)) ∧ Fr (W.setCell ⟨hb.g, hb.o, none⟩ (.int .i64 ((N : Int) + 1))) wr [Value.ownBlock (.slice ad n cv)] ∧ Below B (W.setCell ⟨hb.g, hb.o, none⟩ (.int .i64 ((N : Int) + 1))) wr) (fun i _ => n - (intOf i).toNat)
  case atStart =>
    refine ⟨0, Nat.zero_le _, rfl, ?_, ⟨Nat.le_refl _, fun _ _ _ => rfl⟩, Below.refl _ _⟩
    exact own_fr (MP.rv HH.out) (Fr.set W hb.g hb.o _) (free_of_off (MP.cv HH.out).1)
  case round =>
    clear c0 f0 v1
    obtain ⟨k, hk, rfl, hown, hF, hB⟩ := hrel
    have hxl : xs.length = n * 3 := (MP.rv HH.out).1
    have HXL : Hid _ := hxl
    clear hxl
    by_cases hlt : k < n
    · rcases own_form hown with ⟨_, h0⟩ | ⟨g, c', e1⟩
      · omega
      simp only [Value.slice.injEq, true_and] at e1
      obtain ⟨rfl, rfl⟩ := e1
      have hml : (marks 2 k m ++ xs.drop (k * 3)).length = n * 3 := marks_cut (κ := 2) (by omega) HXL.out hlt
      obtain ⟨z0, d0⟩ : ∃ z, wr.cell? ⟨g, k * 3, none⟩ = some z := ⟨_, (hown.cellAt (k * 3) (by omega)).trans (List.getElem?_eq_getElem (by omega))⟩
      obtain ⟨z1, d1⟩ : ∃ z, wr.cell? ⟨g, k * 3 + 1, none⟩ = some z := ⟨_, (hown.cellAt (k * 3 + 1) (by omega)).trans (List.getElem?_eq_getElem (by omega))⟩
      obtain ⟨z2, d2⟩ : ∃ z, wr.cell? ⟨g, k * 3 + 2, none⟩ = some z := ⟨_, (hown.cellAt (k * 3 + 2) (by omega)).trans (List.getElem?_eq_getElem (by omega))⟩
      have hf0 := hown.frozenAt (k * 3)
      have hf1 := hown.frozenAt (k * 3 + 1)
      have hf2 := hown.frozenAt (k * 3 + 2)
      have s1 := hown.stored (k * 3) (.int .i64 m)
      have s2 := s1.1.stored (k * 3 + 1) (.int .i64 m)
      have s3 := s2.1.stored (k * 3 + 2) (.int .u8 0)
      rw [set_marks3 HXL.out hlt] at s3
      have HS1 : Hid _ := s1.2
      have HS2 : Hid _ := s2.2
      have HS3 : Hid _ := s3
      have HF : Hid _ := hF
      have i1 : (k : Int) < (n : Int) := by omega
      have i2 : (0 : Int) ≤ (k : Int) := by omega
      have hg := (hown.lt g rfl).1
      clear s1 s2 s3 hF hown hml
      go_wp2
      go_roundw
      case rel =>
        refine ⟨k + 1, by omega, by go_num, HS3.out.1, ?_, ((hB.setCell (p := ⟨g, k * 3, none⟩) hg _).setCell (p := ⟨g, k * 3 + 1, none⟩) hg _).setCell (p := ⟨g, k * 3 + 2, none⟩) hg _⟩
        exact (((Fr.trans HF.out (Fr.of_grown HS1.out)).trans (Fr.of_grown HS2.out)).trans (Fr.of_grown HS3.out.2)).sub (fun r hr => by simpa [Value.ownBlock] using hr)
      case measure => simp [intOf]; omega
    · have hkn : k = n := by omega
      subst hkn
      rw [List.drop_of_length_le (Nat.le_of_eq HXL.out), List.append_nil] at hown
      have hMK := MP.start (by omega) HH.out hown hF hB
      have i1 : ¬ (k : Int) < (k : Int) := by omega
      clear hown hF hB
      go_wp2_with fail
      go_loopw [6, 7] (fun g i wr => ∃ (t : Nat) (R' : List Value) (G : List (Value × Int)), t ≤ 3 ∧ i = .int .i64 t ∧ MKK 2 B W hb (N + 1) R (.slice ad k cv) k m E wr R' g G t ∧ G.length ≤ t) (fun _ i _ => 3 - (intOf i).toNat)
      case atStart => exact ⟨0, R, [], by omega, rfl, hMK, by simp⟩
      case round =>
        clear hMK
        obtain ⟨t, R', G, ht, rfl, hM, hG⟩ := hrel
        obtain ⟨adg, cg, rfl⟩ := own_val hM.rg
        obtain ⟨adI, nI, cI, eI⟩ := own_val3 hM.rI
        have c1 := hM.rw'.cell (j := 2) (by omega)
        rw [eI] at c1
        have HM : Hid _ := hM
        have HEI : Hid _ := eI
        have hszr : B ≤ wr.heap.size := hM.rw'.sz
        have hEG : (E ++ G).length ≤ 1000000000 := by rw [List.length_append]; omega
        have HRI : Hid (wr.ownsRow B 118 2 (.slice adI nI cI) (E ++ G).length (cellsE (E ++ G))) := by have := hM.rI; rw [eI] at this; exact this
        clear hM eI
        by_cases ht3 : t < 3
        · have i3 : (t : Int) < 3 := by omega
          go_wp2_with (first
            | (at_builtin; refine wpList_push_hd 28 118 Tryz.underlying28 Tryz.infoHF _ rfl (.tmp 42) (.tmp 46) rfl B (.slice adI nI cI) (E ++ G) rfl (World.ownsRow.alloc HRI.out _) wr.heap.size (.slice adg (k + t) cg) m rfl (Blk.new wr _ _ rfl) rfl hEG (by simp; omega) ?_; intro vI2 w2 q1 q2 q3; obtain ⟨adI2, nI2, cI2, rfl⟩ := own_val3 q1; rw [← HEI.out] at q2 q3; have HK : Hid _ := MKK.kept (by omega) HM.out (by omega) hG q1 q2 q3; have hbx2 := Blk.fr (Blk.alloc (RW.box (MKK.rw' HM.out)) _) (Fr.of_grown q2) (fun r hr => by simp at hr; subst hr; exact fun e => RW.oR (MKK.rw' HM.out) _ (row_mem (by have := RW.len (MKK.rw' HM.out); omega)) e.symm); have d1 := Blk.cellP hbx2 (RW.po (MKK.rw' HM.out)) (k := 3) (by simp [RW.len (MKK.rw' HM.out)]); have f1 := Blk.free hbx2 (hb.o + 3); have HCN : Hid (Blk ((w2.setCell ⟨hb.g, hb.o + 3, none⟩ (.slice adI2 nI2 cI2)).alloc (Obj.cells #[.int .i64 m, .int .i64 m, .int .u8 0] 112)) w2.heap.size 112 (mkc 2 m)) := Blk.new _ _ _ (by simp); have hs2 := q2.size; simp only [World.size_alloc] at hs2; clear q1 q2 q3 hbx2 c1)
            | (at_builtin; refine wpList_push_mk (κ := 2) (by omega) 87 (.agg #[.int .i64 0, .int .i64 0, .int .u8 0]) 24 (by omega) Tryz.underlying87 Tryz.infoFac rfl _ rfl (.tmp 50) (.tmp 54) rfl B (.slice adg (k + t) cg) (k + t) m rfl ((MKK.rg HK.out).alloc _) w2.heap.size 112 rfl HCN.out (by omega) (by simp; omega) ?_; intro g2 w3 r1 r2 r3; have HM3 : Hid _ := MKK.grow (by omega) HK.out (by omega) r1 r2 r3; clear r1 r2 r3)
            | fail)
          go_roundw
          case rel => exact ⟨t + 1, _, _, by omega, by go_num, HM3.out, by rw [List.length_append]; simp; omega⟩
          case measure => simp [intOf]; omega
        · have ht' : t = 3 := by omega
          subst ht'
          have i3 : ¬ ((3 : Nat) : Int) < 3 := by omega
          go_wp2_with (first
            | (at_builtin; refine wpList_push_hd 28 118 Tryz.underlying28 Tryz.infoHF _ rfl (.tmp 60) (.tmp 64) rfl B (.slice adI nI cI) (E ++ G) rfl (World.ownsRow.alloc HRI.out _) wr.heap.size (.slice adg (k + 3) cg) m rfl (Blk.new wr _ _ rfl) rfl hEG (by simp; omega) ?_; intro vI2 w2 q1 q2 q3; obtain ⟨adI2, nI2, cI2, rfl⟩ := own_val3 q1; rw [← HEI.out] at q2 q3; have HK : Hid _ := MKK.kept (by omega) HM.out (by omega) hG q1 q2 q3; have hbx2 := Blk.fr (Blk.alloc (RW.box (MKK.rw' HM.out)) _) (Fr.of_grown q2) (fun r hr => by simp at hr; subst hr; exact fun e => RW.oR (MKK.rw' HM.out) _ (row_mem (by have := RW.len (MKK.rw' HM.out); omega)) e.symm); have d1 := Blk.cellP hbx2 (RW.po (MKK.rw' HM.out)) (k := 3) (by simp [RW.len (MKK.rw' HM.out)]); have f1 := Blk.free hbx2 (hb.o + 3); have HCN : Hid (Blk ((w2.setCell ⟨hb.g, hb.o + 3, none⟩ (.slice adI2 nI2 cI2)).alloc (Obj.cells #[.int .i64 m, .int .i64 m, .int .u8 0] 112)) w2.heap.size 112 (mkc 2 m)) := Blk.new _ _ _ (by simp); have hs2 := q2.size; simp only [World.size_alloc] at hs2; clear q1 q2 q3 hbx2 c1)
            | fail)
          go_end0
          exact ⟨rfl, m, _, _, _, HK.out, by rw [List.length_append]; simp; omega⟩
end Go.Proofs.YtepklbboejnecaaGreat

/- What is held, of all three kinds: hits and ints are marked: the walks. -/
namespace Go.Proofs.YtepklbboejnecaaGreat
open Go.RowKit Go.Shelf Sedge
attribute [local go_sem ↓] Go.wp_at_zero Go.wp_at_succ

theorem Tryz.infoHH : (Tryz.prog.info? 116).map (fun i => (i.zero, i.size, i.bytes)) = some (some (.agg #[.slice none 0 0, .int .i64 0]), 2, 32) := by kernel_rfl
theorem Tryz.infoHit : (Tryz.prog.info? 59).map (fun i => (i.zero, i.size, i.bytes)) = some (some (.agg #[.int .i64 0, .int .i64 0]), 2, 16) := by kernel_rfl
/-- The k-th hit of a list is marked. -/
theorem set_marks2 {k n : Nat} {m : Int} {xs : List Value} (hx : xs.length = n * 2) (hk : k < n) : ((marks 1 k m ++ xs.drop (k * 2)).set (k * 2) (.int .i64 m)).set (k * 2 + 1) (.int .i64 m) = marks 1 (k + 1) m ++ xs.drop ((k + 1) * 2) := by
  have hl : (marks 1 k m).length = k * 2 := marks_length (by omega) k m
  have h0 : k * 2 < xs.length := by omega
  have h1 : k * 2 + 1 < xs.length := by omega
  rw [marks_succ, List.append_assoc, List.set_append_right _ _ (by omega), List.set_append_right _ _ (by omega), hl]
  rw [show k * 2 - k * 2 = 0 by omega, show k * 2 + 1 - k * 2 = 1 by omega, List.drop_eq_getElem_cons h0, List.drop_eq_getElem_cons h1, show (k + 1) * 2 = k * 2 + 1 + 1 by omega]
  rfl
/-- The k-th number of a list is marked. -/
theorem set_marks1 {k n : Nat} {m : Int} {xs : List Value} (hx : xs.length = n * 1) (hk : k < n) : (marks 0 k m ++ xs.drop (k * 1)).set k (.int .i64 m) = marks 0 (k + 1) m ++ xs.drop ((k + 1) * 1) := by
  have hl : (marks 0 k m).length = k * 1 := marks_length (by omega) k m
  rw [Nat.mul_one] at hl
  rw [Nat.mul_one, Nat.mul_one, marks_succ, List.append_assoc, List.set_append_right _ _ (by omega), hl]
  rw [show k - k = 0 by omega, List.drop_eq_getElem_cons (show k < xs.length by omega)]
  rfl

set_option maxRecDepth 20000 in
set_option maxHeartbeats 4000000 in
/-- 'markHits'. -/
theorem markHits_any (B : Nat) (W : World) (hb : Bx) (N : Nat) (R : List Value) (E : List (Value × Int)) (v : Value) (n : Nat) (xs : List Value) (H : MP 1 B W hb N R E v n xs) :
    Calls Tryz.prog 36 #[.pointer (some ⟨hb.g, hb.o, none⟩), v] W fun e w' => e = .returned (.tuple #[]) ∧ ∃ m R' g G, MKK 1 B W hb (N + 1) R v n m E w' R' g G 3 ∧ G.length ≤ 4 := by
  obtain ⟨ad, cv, rfl⟩ := own_val H.rv
  have HH : Hid _ := H
  have c0 : W.cell? ⟨hb.g, hb.o, none⟩ = some (.int .i64 (N : Int)) := H.rw'.cellN
  have f0 := Blk.free H.rw'.box hb.o
  have hsz : B ≤ W.heap.size := H.rw'.sz
  have nN := H.nN
  have nn := H.nn
  have nE0 := H.nE
  have v1 : IntKind.i64.wrap ((N : Int) + 1) = (N : Int) + 1 := by rw [IntKind.wrap_i64]; omega
  have v2 : IntKind.i64.wrap (-1000 - ((N : Int) + 1)) = -1000 - ((N : Int) + 1) := by rw [IntKind.wrap_i64]; omega
  clear H
  go_enter Tryz.func36, Tryz.ntmps36
  go_wp2_with fail
  clear v2
  generalize (-1000 : Int) - ((N : Int) + 1) = m
  go_loopw [5] (fun i wr => ∃ k : Nat, k ≤ n ∧ i = .int .i64 k ∧ wr.ownsRow B 59 2 (.slice ad n cv) n (marks 1 k m ++ xs.drop (k * 2)) ∧ Fr (W.setCell ⟨hb.g, hb.o, none⟩ (.int .i64 ((N : Int) + 1))) wr [Value.ownBlock (.slice ad n cv)] ∧ Below B (W.setCell ⟨hb.g, hb.o, none⟩ (.int .i64 ((N : Int) + 1))) wr) (fun i _ => n - (intOf i).toNat)
  case atStart =>
    refine ⟨0, Nat.zero_le _, rfl, ?_, ⟨Nat.le_refl _, fun _ _ _ => rfl⟩, Below.refl _ _⟩
    exact own_fr (MP.rv HH.out) (Fr.set W hb.g hb.o _) (free_of_off (MP.cv HH.out).1)
  case round =>
    clear c0 f0 v1
    obtain ⟨k, hk, rfl, hown, hF, hB⟩ := hrel
    have hxl : xs.length = n * 2 := (MP.rv HH.out).1
    have HXL : Hid _ := hxl
    clear hxl
    by_cases hlt : k < n
    · rcases own_form hown with ⟨_, h0⟩ | ⟨g, c', e1⟩
      · omega
      simp only [Value.slice.injEq, true_and] at e1
      obtain ⟨rfl, rfl⟩ := e1
      have hml : (marks 1 k m ++ xs.drop (k * 2)).length = n * 2 := marks_cut (κ := 1) (by omega) HXL.out hlt
      obtain ⟨z0, d0⟩ : ∃ z, wr.cell? ⟨g, k * 2, none⟩ = some z := ⟨_, (hown.cellAt (k * 2) (by omega)).trans (List.getElem?_eq_getElem (by omega))⟩
      obtain ⟨z1, d1⟩ : ∃ z, wr.cell? ⟨g, k * 2 + 1, none⟩ = some z := ⟨_, (hown.cellAt (k * 2 + 1) (by omega)).trans (List.getElem?_eq_getElem (by omega))⟩
      have hf0 := hown.frozenAt (k * 2)
      have hf1 := hown.frozenAt (k * 2 + 1)
      have s1 := hown.stored (k * 2) (.int .i64 m)
      have s3 := s1.1.stored (k * 2 + 1) (.int .i64 m)
      rw [set_marks2 HXL.out hlt] at s3
      have HS1 : Hid _ := s1.2
      have HS3 : Hid _ := s3
      have HF : Hid _ := hF
      have i1 : (k : Int) < (n : Int) := by omega
      have i2 : (0 : Int) ≤ (k : Int) := by omega
      have hg := (hown.lt g rfl).1
      clear s1 s3 hF hown hml
      go_wp2
      go_roundw
      case rel =>
        refine ⟨k + 1, by omega, by go_num, HS3.out.1, ?_, (hB.setCell (p := ⟨g, k * 2, none⟩) hg _).setCell (p := ⟨g, k * 2 + 1, none⟩) hg _⟩
        exact ((Fr.trans HF.out (Fr.of_grown HS1.out)).trans (Fr.of_grown HS3.out.2)).sub (fun r hr => by simpa [Value.ownBlock] using hr)
      case measure => simp [intOf]; omega
    · have hkn : k = n := by omega
      subst hkn
      rw [List.drop_of_length_le (Nat.le_of_eq HXL.out), List.append_nil] at hown
      have hMK := MP.start (by omega) HH.out hown hF hB
      have i1 : ¬ (k : Int) < (k : Int) := by omega
      clear hown hF hB
      go_wp2_with fail
      go_loopw [6, 7] (fun g i wr => ∃ (t : Nat) (R' : List Value) (G : List (Value × Int)), t ≤ 3 ∧ i = .int .i64 t ∧ MKK 1 B W hb (N + 1) R (.slice ad k cv) k m E wr R' g G t ∧ G.length ≤ t) (fun _ i _ => 3 - (intOf i).toNat)
      case atStart => exact ⟨0, R, [], by omega, rfl, hMK, by simp⟩
      case round =>
        clear hMK
        obtain ⟨t, R', G, ht, rfl, hM, hG⟩ := hrel
        obtain ⟨adg, cg, rfl⟩ := own_val hM.rg
        obtain ⟨adI, nI, cI, eI⟩ := own_val3 hM.rI
        have c1 := hM.rw'.cell (j := 1) (by omega)
        rw [eI] at c1
        have HM : Hid _ := hM
        have HEI : Hid _ := eI
        have hszr : B ≤ wr.heap.size := hM.rw'.sz
        have hEG : (E ++ G).length ≤ 1000000000 := by rw [List.length_append]; omega
        have HRI : Hid (wr.ownsRow B 116 2 (.slice adI nI cI) (E ++ G).length (cellsE (E ++ G))) := by have := hM.rI; rw [eI] at this; exact this
        clear hM eI
        by_cases ht3 : t < 3
        · have i3 : (t : Int) < 3 := by omega
          go_wp2_with (first
            | (at_builtin; refine wpList_push_hd 27 116 Tryz.underlying27 Tryz.infoHH _ rfl (.tmp 42) (.tmp 46) rfl B (.slice adI nI cI) (E ++ G) rfl (World.ownsRow.alloc HRI.out _) wr.heap.size (.slice adg (k + t) cg) m rfl (Blk.new wr _ _ rfl) rfl hEG (by simp; omega) ?_; intro vI2 w2 q1 q2 q3; obtain ⟨adI2, nI2, cI2, rfl⟩ := own_val3 q1; rw [← HEI.out] at q2 q3; have HK : Hid _ := MKK.kept (by omega) HM.out (by omega) hG q1 q2 q3; have hbx2 := Blk.fr (Blk.alloc (RW.box (MKK.rw' HM.out)) _) (Fr.of_grown q2) (fun r hr => by simp at hr; subst hr; exact fun e => RW.oR (MKK.rw' HM.out) _ (row_mem (by have := RW.len (MKK.rw' HM.out); omega)) e.symm); have d1 := Blk.cellP hbx2 (RW.po (MKK.rw' HM.out)) (k := 2) (by simp [RW.len (MKK.rw' HM.out)]); have f1 := Blk.free hbx2 (hb.o + 2); have HCN : Hid (Blk ((w2.setCell ⟨hb.g, hb.o + 2, none⟩ (.slice adI2 nI2 cI2)).alloc (Obj.cells #[.int .i64 m, .int .i64 m] 59)) w2.heap.size 59 (mkc 1 m)) := Blk.new _ _ _ (by simp); have hs2 := q2.size; simp only [World.size_alloc] at hs2; clear q1 q2 q3 hbx2 c1)
            | (at_builtin; refine wpList_push_mk (κ := 1) (by omega) 52 (.agg #[.int .i64 0, .int .i64 0]) 16 (by omega) Tryz.underlying52 Tryz.infoHit rfl _ rfl (.tmp 50) (.tmp 54) rfl B (.slice adg (k + t) cg) (k + t) m rfl ((MKK.rg HK.out).alloc _) w2.heap.size 59 rfl HCN.out (by omega) (by simp; omega) ?_; intro g2 w3 r1 r2 r3; have HM3 : Hid _ := MKK.grow (by omega) HK.out (by omega) r1 r2 r3; clear r1 r2 r3)
            | fail)
          go_roundw
          case rel => exact ⟨t + 1, _, _, by omega, by go_num, HM3.out, by rw [List.length_append]; simp; omega⟩
          case measure => simp [intOf]; omega
        · have ht' : t = 3 := by omega
          subst ht'
          have i3 : ¬ ((3 : Nat) : Int) < 3 := by omega
          go_wp2_with (first
            | (at_builtin; refine wpList_push_hd 27 116 Tryz.underlying27 Tryz.infoHH _ rfl (.tmp 60) (.tmp 64) rfl B (.slice adI nI cI) (E ++ G) rfl (World.ownsRow.alloc HRI.out _) wr.heap.size (.slice adg (k + 3) cg) m rfl (Blk.new wr _ _ rfl) rfl hEG (by simp; omega) ?_; intro vI2 w2 q1 q2 q3; obtain ⟨adI2, nI2, cI2, rfl⟩ := own_val3 q1; rw [← HEI.out] at q2 q3; have HK : Hid _ := MKK.kept (by omega) HM.out (by omega) hG q1 q2 q3; have hbx2 := Blk.fr (Blk.alloc (RW.box (MKK.rw' HM.out)) _) (Fr.of_grown q2) (fun r hr => by simp at hr; subst hr; exact fun e => RW.oR (MKK.rw' HM.out) _ (row_mem (by have := RW.len (MKK.rw' HM.out); omega)) e.symm); have d1 := Blk.cellP hbx2 (RW.po (MKK.rw' HM.out)) (k := 2) (by simp [RW.len (MKK.rw' HM.out)]); have f1 := Blk.free hbx2 (hb.o + 2); have HCN : Hid (Blk ((w2.setCell ⟨hb.g, hb.o + 2, none⟩ (.slice adI2 nI2 cI2)).alloc (Obj.cells #[.int .i64 m, .int .i64 m] 59)) w2.heap.size 59 (mkc 1 m)) := Blk.new _ _ _ (by simp); have hs2 := q2.size; simp only [World.size_alloc] at hs2; clear q1 q2 q3 hbx2 c1)
            | fail)
          go_end0
          exact ⟨rfl, m, _, _, _, HK.out, by rw [List.length_append]; simp; omega⟩
set_option maxRecDepth 20000 in
set_option maxHeartbeats 4000000 in
/-- 'markInts'. -/
theorem markIntsK_any (B : Nat) (W : World) (hb : Bx) (N : Nat) (R : List Value) (E : List (Value × Int)) (v : Value) (n : Nat) (xs : List Value) (H : MP 0 B W hb N R E v n xs) :
    Calls Tryz.prog 35 #[.pointer (some ⟨hb.g, hb.o, none⟩), v] W fun e w' => e = .returned (.tuple #[]) ∧ ∃ m R' g G, MKK 0 B W hb (N + 1) R v n m E w' R' g G 3 ∧ G.length ≤ 4 := by
  obtain ⟨ad, cv, rfl⟩ := own_val H.rv
  have HH : Hid _ := H
  have c0 : W.cell? ⟨hb.g, hb.o, none⟩ = some (.int .i64 (N : Int)) := H.rw'.cellN
  have f0 := Blk.free H.rw'.box hb.o
  have hsz : B ≤ W.heap.size := H.rw'.sz
  have nN := H.nN
  have nn := H.nn
  have nE0 := H.nE
  have v1 : IntKind.i64.wrap ((N : Int) + 1) = (N : Int) + 1 := by rw [IntKind.wrap_i64]; omega
  have v2 : IntKind.i64.wrap (-1000 - ((N : Int) + 1)) = -1000 - ((N : Int) + 1) := by rw [IntKind.wrap_i64]; omega
  clear H
  go_enter Tryz.func35, Tryz.ntmps35
  go_wp2_with fail
  clear v2
  generalize (-1000 : Int) - ((N : Int) + 1) = m
  go_loopw [5] (fun i wr => ∃ k : Nat, k ≤ n ∧ i = .int .i64 k ∧ wr.ownsRow B 3 1 (.slice ad n cv) n (marks 0 k m ++ xs.drop (k * 1)) ∧ Fr (W.setCell ⟨hb.g, hb.o, none⟩ (.int .i64 ((N : Int) + 1))) wr [Value.ownBlock (.slice ad n cv)] ∧ Below B (W.setCell ⟨hb.g, hb.o, none⟩ (.int .i64 ((N : Int) + 1))) wr) (fun i _ => n - (intOf i).toNat)
  case atStart =>
    refine ⟨0, Nat.zero_le _, rfl, ?_, ⟨Nat.le_refl _, fun _ _ _ => rfl⟩, Below.refl _ _⟩
    exact own_fr (MP.rv HH.out) (Fr.set W hb.g hb.o _) (free_of_off (MP.cv HH.out).1)
  case round =>
    clear c0 f0 v1
    obtain ⟨k, hk, rfl, hown, hF, hB⟩ := hrel
    have hxl : xs.length = n * 1 := (MP.rv HH.out).1
    have HXL : Hid _ := hxl
    clear hxl
    by_cases hlt : k < n
    · rcases own_form hown with ⟨_, h0⟩ | ⟨g, c', e1⟩
      · omega
      simp only [Value.slice.injEq, true_and] at e1
      obtain ⟨rfl, rfl⟩ := e1
      have hml : (marks 0 k m ++ xs.drop (k * 1)).length = n * 1 := marks_cut (κ := 0) (by omega) HXL.out hlt
      obtain ⟨z0, d0⟩ : ∃ z, wr.cell? ⟨g, k, none⟩ = some z := ⟨_, (hown.cellAt k (by omega)).trans (List.getElem?_eq_getElem (by omega))⟩
      have hf0 := hown.frozenAt k
      have s3 := hown.stored k (.int .i64 m)
      rw [set_marks1 HXL.out hlt] at s3
      have HS3 : Hid _ := s3
      have HF : Hid _ := hF
      have i1 : (k : Int) < (n : Int) := by omega
      have i2 : (0 : Int) ≤ (k : Int) := by omega
      have hg := (hown.lt g rfl).1
      clear s3 hF hown hml
      go_wp2
      go_roundw
      case rel =>
        refine ⟨k + 1, by omega, by go_num, HS3.out.1, ?_, hB.setCell (p := ⟨g, k, none⟩) hg _⟩
        exact (Fr.trans HF.out (Fr.of_grown HS3.out.2)).sub (fun r hr => by simpa [Value.ownBlock] using hr)
      case measure => simp [intOf]; omega
    · have hkn : k = n := by omega
      subst hkn
      rw [List.drop_of_length_le (Nat.le_of_eq HXL.out), List.append_nil] at hown
      have hMK := MP.start (by omega) HH.out hown hF hB
      have i1 : ¬ (k : Int) < (k : Int) := by omega
      clear hown hF hB
      go_wp2_with fail
      go_loopw [6, 7] (fun g i wr => ∃ (t : Nat) (R' : List Value) (G : List (Value × Int)), t ≤ 3 ∧ i = .int .i64 t ∧ MKK 0 B W hb (N + 1) R (.slice ad k cv) k m E wr R' g G t ∧ G.length ≤ t) (fun _ i _ => 3 - (intOf i).toNat)
      case atStart => exact ⟨0, R, [], by omega, rfl, hMK, by simp⟩
      case round =>
        clear hMK
        obtain ⟨t, R', G, ht, rfl, hM, hG⟩ := hrel
        obtain ⟨adg, cg, rfl⟩ := own_val hM.rg
        obtain ⟨adI, nI, cI, eI⟩ := own_val3 hM.rI
        have c1 := hM.rw'.cell (j := 0) (by omega)
        rw [eI] at c1
        have HM : Hid _ := hM
        have HEI : Hid _ := eI
        have hszr : B ≤ wr.heap.size := hM.rw'.sz
        have hEG : (E ++ G).length ≤ 1000000000 := by rw [List.length_append]; omega
        have HRI : Hid (wr.ownsRow B 114 2 (.slice adI nI cI) (E ++ G).length (cellsE (E ++ G))) := by have := hM.rI; rw [eI] at this; exact this
        clear hM eI
        by_cases ht3 : t < 3
        · have i3 : (t : Int) < 3 := by omega
          go_wp2_with (first
            | (at_builtin; refine wpList_push_hd 26 114 Tryz.underlying26 Tryz.infoHeld _ rfl (.tmp 40) (.tmp 44) rfl B (.slice adI nI cI) (E ++ G) rfl (World.ownsRow.alloc HRI.out _) wr.heap.size (.slice adg (k + t) cg) m rfl (Blk.new wr _ _ rfl) rfl hEG (by simp; omega) ?_; intro vI2 w2 q1 q2 q3; obtain ⟨adI2, nI2, cI2, rfl⟩ := own_val3 q1; rw [← HEI.out] at q2 q3; have HK : Hid _ := MKK.kept (by omega) HM.out (by omega) hG q1 q2 q3; have hbx2 := Blk.fr (Blk.alloc (RW.box (MKK.rw' HM.out)) _) (Fr.of_grown q2) (fun r hr => by simp at hr; subst hr; exact fun e => RW.oR (MKK.rw' HM.out) _ (row_mem (by have := RW.len (MKK.rw' HM.out); omega)) e.symm); have d1 := Blk.cellP hbx2 (RW.po (MKK.rw' HM.out)) (k := 1) (by simp [RW.len (MKK.rw' HM.out)]); have f1 := Blk.free hbx2 (hb.o + 1); have HCN : Hid (Blk ((w2.setCell ⟨hb.g, hb.o + 1, none⟩ (.slice adI2 nI2 cI2)).alloc (Obj.cells #[.int .i64 m] 3)) w2.heap.size 3 (mkc 0 m)) := Blk.new _ _ _ (by simp); have hs2 := q2.size; simp only [World.size_alloc] at hs2; clear q1 q2 q3 hbx2 c1)
            | (at_builtin; refine wpList_push_mk (κ := 0) (by omega) 55 (.int .i64 0) 8 (by omega) Tryz.underlying55 Tryz.infoInt rfl _ rfl (.tmp 48) (.tmp 50) rfl B (.slice adg (k + t) cg) (k + t) m rfl ((MKK.rg HK.out).alloc _) w2.heap.size 3 rfl HCN.out (by omega) (by simp; omega) ?_; intro g2 w3 r1 r2 r3; have HM3 : Hid _ := MKK.grow (by omega) HK.out (by omega) r1 r2 r3; clear r1 r2 r3)
            | fail)
          go_roundw
          case rel => exact ⟨t + 1, _, _, by omega, by go_num, HM3.out, by rw [List.length_append]; simp; omega⟩
          case measure => simp [intOf]; omega
        · have ht' : t = 3 := by omega
          subst ht'
          have i3 : ¬ ((3 : Nat) : Int) < 3 := by omega
          go_wp2_with (first
            | (at_builtin; refine wpList_push_hd 26 114 Tryz.underlying26 Tryz.infoHeld _ rfl (.tmp 56) (.tmp 60) rfl B (.slice adI nI cI) (E ++ G) rfl (World.ownsRow.alloc HRI.out _) wr.heap.size (.slice adg (k + 3) cg) m rfl (Blk.new wr _ _ rfl) rfl hEG (by simp; omega) ?_; intro vI2 w2 q1 q2 q3; obtain ⟨adI2, nI2, cI2, rfl⟩ := own_val3 q1; rw [← HEI.out] at q2 q3; have HK : Hid _ := MKK.kept (by omega) HM.out (by omega) hG q1 q2 q3; have hbx2 := Blk.fr (Blk.alloc (RW.box (MKK.rw' HM.out)) _) (Fr.of_grown q2) (fun r hr => by simp at hr; subst hr; exact fun e => RW.oR (MKK.rw' HM.out) _ (row_mem (by have := RW.len (MKK.rw' HM.out); omega)) e.symm); have d1 := Blk.cellP hbx2 (RW.po (MKK.rw' HM.out)) (k := 1) (by simp [RW.len (MKK.rw' HM.out)]); have f1 := Blk.free hbx2 (hb.o + 1); have HCN : Hid (Blk ((w2.setCell ⟨hb.g, hb.o + 1, none⟩ (.slice adI2 nI2 cI2)).alloc (Obj.cells #[.int .i64 m] 3)) w2.heap.size 3 (mkc 0 m)) := Blk.new _ _ _ (by simp); have hs2 := q2.size; simp only [World.size_alloc] at hs2; clear q1 q2 q3 hbx2 c1)
            | fail)
          go_end0
          exact ⟨rfl, m, _, _, _, HK.out, by rw [List.length_append]; simp; omega⟩
end Go.Proofs.YtepklbboejnecaaGreat

/- What is held, of all three kinds: do the lists that wait read as they came. -/
namespace Go.Proofs.YtepklbboejnecaaGreat
open Go.RowKit Go.Shelf Sedge
attribute [local go_sem ↓] Go.wp_at_zero Go.wp_at_succ

theorem guardH : Tryz.prog.eqGuardType Tryz.prog.depth 59 = false := by kernel_rfl
theorem guardF : Tryz.prog.eqGuardType Tryz.prog.depth 112 = false := by kernel_rfl
/-- Two hits, two factors, against one another. -/
theorem eqH (a b c d : Int) (w : World) : (Op.equalIn 10000 59 (.agg #[.int .i64 a, .int .i64 b]) (.agg #[.int .i64 c, .int .i64 d])).run Tryz.prog w = .ok (a == c && b == d) w := by
  have hS : Tryz.prog.underlying 59 = some (.struct (Tryz.prog.fieldsOf 59)) := by kernel_rfl
  have hp : Tryz.prog.stoodInHeld 59 = false := by kernel_rfl
  rw [show (10000 : Nat) = 9999 + 1 from rfl, run_equalIn_agg w 9999 59 _ _ hS hp]
  simp only [Program.fieldsOf, Tryz.underlying59]
  go_simp
  by_cases h1 : a = c <;> by_cases h2 : b = d <;> simp [h1, h2]
theorem eqF (a b c a' b' c' : Int) (w : World) : (Op.equalIn 10000 112 (.agg #[.int .i64 a, .int .i64 b, .int .u8 c]) (.agg #[.int .i64 a', .int .i64 b', .int .u8 c'])).run Tryz.prog w = .ok (a == a' && b == b' && c == c') w := by
  have hS : Tryz.prog.underlying 112 = some (.struct (Tryz.prog.fieldsOf 112)) := by kernel_rfl
  have hp : Tryz.prog.stoodInHeld 112 = false := by kernel_rfl
  rw [show (10000 : Nat) = 9999 + 1 from rfl, run_equalIn_agg w 9999 112 _ _ hS hp]
  simp only [Program.fieldsOf, Tryz.underlying112]
  go_simp
  by_cases h1 : a = a' <;> by_cases h2 : b = b' <;> by_cases h3 : c = c' <;> simp [h1, h2, h3]
attribute [local go_sem ↓] eqH eqF
attribute [local go_sem] guardH guardF

set_option maxRecDepth 20000 in
set_option maxHeartbeats 8000000 in
/-- 'waits'. -/
theorem waitsK_any (B : Nat) (W : World) (hb : Bx) (N : Nat) (R : List Value) (E : Nat → List (Value × Int)) (T : Nat → List It) (H : HI B W hb N R E T) :
    Calls Tryz.prog 33 #[.pointer (some ⟨hb.g, hb.o, none⟩)] W fun e w' => e = .returned (.bool true) ∧ Below W.heap.size W w' := by
  obtain ⟨a3, c3, e3⟩ : ∃ a c, row R 3 = .slice a (T 0).length c := own_val (H.rT 0 (by omega))
  obtain ⟨a4, c4, e4⟩ : ∃ a c, row R 4 = .slice a (T 0).length c := own_val (H.rR 0 (by omega))
  obtain ⟨a5, c5, e5⟩ : ∃ a c, row R 5 = .slice a (T 1).length c := own_val (H.rT 1 (by omega))
  obtain ⟨a6, c6, e6⟩ : ∃ a c, row R 6 = .slice a (T 1).length c := own_val (H.rR 1 (by omega))
  obtain ⟨a7, c7, e7⟩ : ∃ a c, row R 7 = .slice a (T 2).length c := own_val (H.rT 2 (by omega))
  obtain ⟨a8, c8, e8⟩ : ∃ a c, row R 8 = .slice a (T 2).length c := own_val (H.rR 2 (by omega))
  have HH : Hid _ := H
  have HE3 : Hid _ := e3
  have HE4 : Hid _ := e4
  have HE5 : Hid _ := e5
  have HE6 : Hid _ := e6
  have HE7 : Hid _ := e7
  have HE8 : Hid _ := e8
  have hlt := H.rw'.box.lt
  have n0 := H.nT 0 (by omega)
  have n1 := H.nT 1 (by omega)
  have n2 := H.nT 2 (by omega)
  have L0 : ∃ l, l = (T 0).length := ⟨_, rfl⟩
  clear H e3 e4 e5 e6 e7 e8 L0
  go_enter Tryz.func33, Tryz.ntmps33
  go_wp2_with fail
  go_loopw [3, 4] (fun ok i wr => ∃ k : Nat, k ≤ (T 0).length ∧ ok = .bool true ∧ i = .int .i64 k ∧ Below W.heap.size W wr) (fun _ i _ => (T 0).length - (intOf i).toNat)
  case atStart => exact ⟨0, Nat.zero_le _, rfl, rfl, Below.refl _ _⟩
  case round =>
    obtain ⟨k, hk, rfl, rfl, hB⟩ := hrel
    have H1 : HI B wr hb N R E T := HI.later HH.out hB
    have b4 := H1.rw'.cell (j := 3) (by omega)
    rw [HE3.out] at b4
    by_cases hlt2 : k < (T 0).length
    · obtain ⟨gT, cT', eT, hx1, d1⟩ := own_at (H1.rT 0 (by omega)) hlt2
      obtain ⟨gR, cR', eR, hx2, d2⟩ := own_at (H1.rR 0 (by omega)) hlt2
      have eT := HE3.out.symm.trans eT
      have eR := HE4.out.symm.trans eR
      rw [List.getElem_map] at d1 d2
      simp only [Value.slice.injEq, true_and] at eT eR
      obtain ⟨rfl, rfl⟩ := eT
      obtain ⟨rfl, rfl⟩ := eR
      have b5 := H1.rw'.cell (j := 4) (by omega)
      rw [HE4.out] at b5
      obtain ⟨o1, o2⟩ := H1.own 0 (by omega) (T 0)[k] (List.getElem_mem hlt2)
      have hsm := H1.small 0 (by omega) (T 0)[k] (List.getElem_mem hlt2)
      obtain ⟨L, hL1, hL2⟩ := H1.good 0 (by omega) (T 0)[k] (List.getElem_mem hlt2)
      rw [hL1, hL2] at o1 o2
      rw [hL2] at hsm
      obtain ⟨a1, x1, e1, s1⟩ := own_sl o1
      obtain ⟨a2, x2, e2, s2⟩ := own_sl o2
      rw [e1] at d1
      rw [e2] at d2
      have A5 : Below wr.heap.size wr wr.drew := (Below.refl _ _).drew
      have HA5 : Hid _ := A5
      have i1 : (k : Int) < ((T 0).length : Int) := by omega
      have i2 : (0 : Int) ≤ (k : Int) := by omega
      have lb : hb.g < wr.heap.size := H1.rw'.box.lt
      have lT := cell_lt d1
      have lR := cell_lt d2
      clear A5 o1 o2 e1 e2 hL1 hL2 H1
      go_wp2_with fail
      go_region_held3 (fun w' => w'.cell? ⟨hb.g, hb.o + 4, none⟩ = some (.slice (some ⟨gT, 0, none⟩) (T 0).length c3) ∧ w'.cell? ⟨hb.g, hb.o + 5, none⟩ = some (.slice (some ⟨gR, 0, none⟩) (T 0).length c4) ∧ w'.cell? ⟨gT, k, none⟩ = some (.slice a1 L.length x1) ∧ w'.cell? ⟨gR, k, none⟩ = some (.slice a2 L.length x2)) (go_keep)
        (first
          | (go_at_call 30; refine (sameInts_any a1 a2 L L x1 x2 _ (s1.later HA5.out) (s2.later HA5.out) rfl (by omega)).mono ?_; rintro e w2 ⟨rfl, hb2⟩; have hB2 := Below.later HA5.out hb2; have e4 := (hB2.cell (p := ⟨hb.g, hb.o + 4, none⟩) lb).trans b4; have e5 := (hB2.cell (p := ⟨hb.g, hb.o + 5, none⟩) lb).trans b5; have e6 := (hB2.cell lT).trans d1; have e7 := (hB2.cell lR).trans d2))
      clear b4 b5 d1 d2 e4 e5 e6 e7
      go_wp2
      go_roundw
      case rel => exact ⟨k + 1, by omega, rfl, by go_num, Below.later hB hB2⟩
      case measure => simp [intOf]; omega
    · have i1 : ¬ (k : Int) < ((T 0).length : Int) := by omega
      clear H1
      go_wp2_with fail
      go_loopw [3, 6] (fun ok i wr => ∃ k : Nat, k ≤ (T 1).length ∧ ok = .bool true ∧ i = .int .i64 k ∧ Below W.heap.size W wr) (fun _ i _ => (T 1).length - (intOf i).toNat)
      case atStart => exact ⟨0, Nat.zero_le _, rfl, rfl, hB⟩
      case round =>
        clear hB hk hlt2 i1 b4
        obtain ⟨k, hk, rfl, rfl, hB⟩ := hrel
        have H1 : HI B wr hb N R E T := HI.later HH.out hB
        have b6 := H1.rw'.cell (j := 5) (by omega)
        rw [HE5.out] at b6
        by_cases hlt2 : k < (T 1).length
        · have i1 : (k : Int) < ((T 1).length : Int) := by omega
          have i2 : (0 : Int) ≤ (k : Int) := by omega
          obtain ⟨l, hL1, hL2⟩ := H1.good 1 (by omega) (T 1)[k] (List.getElem_mem hlt2)
          have hsm := H1.small 1 (by omega) (T 1)[k] (List.getElem_mem hlt2)
          rw [hL2] at hsm
          have HL1 : Hid _ := hL1
          have HL2 : Hid _ := hL2
          clear hL1 hL2 H1
          go_wp2_with fail
          go_loopw [3, 7] (fun ok i wr => ∃ j : Nat, j ≤ l.length ∧ ok = .bool true ∧ i = .int .i64 j ∧ Below W.heap.size W wr) (fun _ i _ => l.length - (intOf i).toNat)
          case atStart => exact ⟨0, Nat.zero_le _, rfl, rfl, hB⟩
          case round =>
            clear b6 hB
            obtain ⟨j, hj', rfl, rfl, hB⟩ := hrel
            have H1 : HI B wr hb N R E T := HI.later HH.out hB
            have b6 := H1.rw'.cell (j := 5) (by omega)
            have b7 := H1.rw'.cell (j := 6) (by omega)
            rw [HE5.out] at b6
            rw [HE6.out] at b7
            obtain ⟨gT, cT', eT, hx1, d1⟩ := own_at (H1.rT 1 (by omega)) hlt2
            obtain ⟨gR, cR', eR, hx2, d2⟩ := own_at (H1.rR 1 (by omega)) hlt2
            have eT := HE5.out.symm.trans eT
            have eR := HE6.out.symm.trans eR
            rw [List.getElem_map] at d1 d2
            simp only [Value.slice.injEq, true_and] at eT eR
            obtain ⟨rfl, rfl⟩ := eT
            obtain ⟨rfl, rfl⟩ := eR
            obtain ⟨o1, o2⟩ := H1.own 1 (by omega) (T 1)[k] (List.getElem_mem hlt2)
            rw [HL1.out, HL2.out] at o1 o2
            obtain ⟨a1, x1, q1⟩ := own_val o1
            obtain ⟨a2, x2, q2⟩ := own_val o2
            rw [q1] at d1 o1
            rw [q2] at d2 o2
            by_cases hj : j < l.length
            · rcases own_form o1 with ⟨_, h0⟩ | ⟨g1, y1, r1⟩
              · omega
              rcases own_form o2 with ⟨_, h0⟩ | ⟨g2, y2, r2⟩
              · omega
              simp only [Value.slice.injEq, true_and] at r1 r2
              obtain ⟨rfl, rfl⟩ := r1
              obtain ⟨rfl, rfl⟩ := r2
              have ha := HV_at l j hj
              have m0 := (o1.cellAt (j * 2) (by unfold wd; omega)).trans ha.1
              have p0 := (o2.cellAt (j * 2) (by unfold wd; omega)).trans ha.1
              have m1 := (o1.cellAt (j * 2 + 1) (by unfold wd; omega)).trans ha.2
              have p1 := (o2.cellAt (j * 2 + 1) (by unfold wd; omega)).trans ha.2
              have j1 : (j : Int) < (l.length : Int) := by omega
              have j2 : (0 : Int) ≤ (j : Int) := by omega
              generalize l[j] = x at m0 p0 m1 p1
              clear ha o1 o2 H1 hx1 hx2 q1 q2
              go_wp2
              go_quiet (fail)
              go_wp2_with fail
              go_roundw
              case rel => exact ⟨j + 1, by omega, rfl, by go_num, hB.drewN _⟩
              case measure => simp [intOf]; omega
            · have j1 : ¬ (j : Int) < (l.length : Int) := by omega
              clear o1 o2 H1 hx1 hx2 q1 q2
              go_wp2_with fail
              go_roundw
              case rel => exact ⟨k + 1, by omega, rfl, by go_num, hB⟩
              case measure => simp [intOf]; omega
        · have i1 : ¬ (k : Int) < ((T 1).length : Int) := by omega
          clear H1
          go_wp2_with fail
          go_loopw [3, 8] (fun ok i wr => ∃ k : Nat, k ≤ (T 2).length ∧ ok = .bool true ∧ i = .int .i64 k ∧ Below W.heap.size W wr) (fun _ i _ => (T 2).length - (intOf i).toNat)
          case atStart => exact ⟨0, Nat.zero_le _, rfl, rfl, hB⟩
          case round =>
            clear hB hk hlt2 i1 b6
            obtain ⟨k, hk, rfl, rfl, hB⟩ := hrel
            have H1 : HI B wr hb N R E T := HI.later HH.out hB
            have b8 := H1.rw'.cell (j := 7) (by omega)
            rw [HE7.out] at b8
            by_cases hlt2 : k < (T 2).length
            · have i1 : (k : Int) < ((T 2).length : Int) := by omega
              have i2 : (0 : Int) ≤ (k : Int) := by omega
              obtain ⟨l, hL1, hL2⟩ := H1.good 2 (by omega) (T 2)[k] (List.getElem_mem hlt2)
              have hsm := H1.small 2 (by omega) (T 2)[k] (List.getElem_mem hlt2)
              rw [hL2] at hsm
              have HL1 : Hid _ := hL1
              have HL2 : Hid _ := hL2
              clear hL1 hL2 H1
              go_wp2_with fail
              go_loopw [3, 9] (fun ok i wr => ∃ j : Nat, j ≤ l.length ∧ ok = .bool true ∧ i = .int .i64 j ∧ Below W.heap.size W wr) (fun _ i _ => l.length - (intOf i).toNat)
              case atStart => exact ⟨0, Nat.zero_le _, rfl, rfl, hB⟩
              case round =>
                clear b8 hB
                obtain ⟨j, hj', rfl, rfl, hB⟩ := hrel
                have H1 : HI B wr hb N R E T := HI.later HH.out hB
                have b8 := H1.rw'.cell (j := 7) (by omega)
                have b9 := H1.rw'.cell (j := 8) (by omega)
                rw [HE7.out] at b8
                rw [HE8.out] at b9
                obtain ⟨gT, cT', eT, hx1, d1⟩ := own_at (H1.rT 2 (by omega)) hlt2
                obtain ⟨gR, cR', eR, hx2, d2⟩ := own_at (H1.rR 2 (by omega)) hlt2
                have eT := HE7.out.symm.trans eT
                have eR := HE8.out.symm.trans eR
                rw [List.getElem_map] at d1 d2
                simp only [Value.slice.injEq, true_and] at eT eR
                obtain ⟨rfl, rfl⟩ := eT
                obtain ⟨rfl, rfl⟩ := eR
                obtain ⟨o1, o2⟩ := H1.own 2 (by omega) (T 2)[k] (List.getElem_mem hlt2)
                rw [HL1.out, HL2.out] at o1 o2
                obtain ⟨a1, x1, q1⟩ := own_val o1
                obtain ⟨a2, x2, q2⟩ := own_val o2
                rw [q1] at d1 o1
                rw [q2] at d2 o2
                by_cases hj : j < l.length
                · rcases own_form o1 with ⟨_, h0⟩ | ⟨g1, y1, r1⟩
                  · omega
                  rcases own_form o2 with ⟨_, h0⟩ | ⟨g2, y2, r2⟩
                  · omega
                  simp only [Value.slice.injEq, true_and] at r1 r2
                  obtain ⟨rfl, rfl⟩ := r1
                  obtain ⟨rfl, rfl⟩ := r2
                  have ha := FV_at l j hj
                  have m0 := (o1.cellAt (j * 3) (by unfold wd; omega)).trans ha.1
                  have p0 := (o2.cellAt (j * 3) (by unfold wd; omega)).trans ha.1
                  have m1 := (o1.cellAt (j * 3 + 1) (by unfold wd; omega)).trans ha.2.1
                  have p1 := (o2.cellAt (j * 3 + 1) (by unfold wd; omega)).trans ha.2.1
                  have m2 := (o1.cellAt (j * 3 + 2) (by unfold wd; omega)).trans ha.2.2
                  have p2 := (o2.cellAt (j * 3 + 2) (by unfold wd; omega)).trans ha.2.2
                  have j1 : (j : Int) < (l.length : Int) := by omega
                  have j2 : (0 : Int) ≤ (j : Int) := by omega
                  generalize l[j] = x at m0 p0 m1 p1 m2 p2
                  clear ha o1 o2 H1 hx1 hx2 q1 q2
                  go_wp2
                  go_quiet (fail)
                  go_wp2_with fail
                  go_roundw
                  case rel => exact ⟨j + 1, by omega, rfl, by go_num, hB.drewN _⟩
                  case measure => simp [intOf]; omega
                · have j1 : ¬ (j : Int) < (l.length : Int) := by omega
                  clear o1 o2 H1 hx1 hx2 q1 q2
                  go_wp2_with fail
                  go_roundw
                  case rel => exact ⟨k + 1, by omega, rfl, by go_num, hB⟩
                  case measure => simp [intOf]; omega
            · have i1 : ¬ (k : Int) < ((T 2).length : Int) := by omega
              clear H1
              go_wp2
              go_ret
              exact ⟨rfl, hB⟩
end Go.Proofs.YtepklbboejnecaaGreat

/- What is held, of all three kinds: do the lists that are marked read as their marks. -/
namespace Go.Proofs.YtepklbboejnecaaGreat
open Go.RowKit Go.Shelf Sedge
attribute [local go_sem ↓] Go.wp_at_zero Go.wp_at_succ
attribute [local go_sem ↓] eqH eqF
attribute [local go_sem] guardH guardF

theorem own_at2K {w : World} {base : Nat} {e : TypeId} {v : Value} {E : List (Value × Int)} (h : w.ownsRow base e 2 v E.length (cellsE E)) {i : Nat} (hi : i < E.length) : ∃ g c, v = .slice (some ⟨g, 0, none⟩) E.length c ∧ w.cell? ⟨g, i * 2, none⟩ = some E[i].1 ∧ w.cell? ⟨g, i * 2 + 1, none⟩ = some (.int .i64 E[i].2) := by
  have hc := cellsE_at E i hi
  rcases h.2 with ⟨_, h0⟩ | ⟨g, cap, cur, rfl, _⟩
  · omega
  · exact ⟨g, cap, rfl, by rw [h.cellAt (i * 2) (by omega)]; exact hc.1, by rw [h.cellAt (i * 2 + 1) (by omega)]; exact hc.2⟩

set_option maxRecDepth 20000 in
set_option maxHeartbeats 8000000 in
/-- 'dry'. -/
theorem dryK_any (B : Nat) (W : World) (hb : Bx) (N : Nat) (R : List Value) (E : Nat → List (Value × Int)) (T : Nat → List It) (H : HI B W hb N R E T) :
    Calls Tryz.prog 34 #[.pointer (some ⟨hb.g, hb.o, none⟩)] W fun e w' => e = .returned (.bool true) ∧ Below W.heap.size W w' := by
  obtain ⟨a0, c0, e0⟩ : ∃ a c, row R 0 = .slice a (E 0).length c := own_val (H.rI 0 (by omega))
  obtain ⟨a1, c1, e1⟩ : ∃ a c, row R 1 = .slice a (E 1).length c := own_val (H.rI 1 (by omega))
  obtain ⟨a2, c2, e2⟩ : ∃ a c, row R 2 = .slice a (E 2).length c := own_val (H.rI 2 (by omega))
  have HH : Hid _ := H
  have HE0 : Hid _ := e0
  have HE1 : Hid _ := e1
  have HE2 : Hid _ := e2
  have nN := H.nN
  have n0 := H.nE 0 (by omega)
  have n1 := H.nE 1 (by omega)
  have n2 := H.nE 2 (by omega)
  have hB0 : Below W.heap.size W W := Below.refl _ _
  clear H e0 e1 e2
  go_enter Tryz.func34, Tryz.ntmps34
  go_wp2_with fail
  go_loopw [3] (fun i wr => ∃ k : Nat, k ≤ (E 0).length ∧ i = .int .i64 k ∧ Below W.heap.size W wr) (fun i _ => (E 0).length - (intOf i).toNat)
  case atStart => exact ⟨0, Nat.zero_le _, rfl, hB0⟩
  case round =>
    clear hB0
    obtain ⟨k, hk, rfl, hB⟩ := hrel
    have H1 : HI B wr hb N R E T := HI.later HH.out hB
    have b1 := H1.rw'.cell (j := 0) (by omega)
    rw [HE0.out] at b1
    by_cases hlt2 : k < (E 0).length
    · obtain ⟨gI, cI', eI, d1, d2⟩ := own_at2K (H1.rI 0 (by omega)) hlt2
      have eI := HE0.out.symm.trans eI
      simp only [Value.slice.injEq, true_and] at eI
      obtain ⟨rfl, rfl⟩ := eI
      obtain ⟨ad, n, c, q1, ⟨hn, _⟩, hrd⟩ := H1.rd 0 (by omega) (E 0)[k] (List.getElem_mem hlt2)
      obtain ⟨m, hm⟩ : ∃ m, m = (E 0)[k].2 := ⟨_, rfl⟩
      rw [q1] at d1
      rw [← hm] at d2 hrd
      have i1 : (k : Int) < ((E 0).length : Int) := by omega
      have i2 : (0 : Int) ≤ (k : Int) := by omega
      have HRD : Hid _ := hrd
      clear H1 hm q1 hrd
      obtain ⟨w0, hw0⟩ : ∃ w0, w0 = wr := ⟨_, rfl⟩
      subst hw0
      have hbx : Blk (w0.alloc (Obj.cells #[.slice ad n c, .int .i64 m] 114)) w0.heap.size 114 [.slice ad n c, .int .i64 m] := Blk.new w0 _ _ rfl
      have hbb : Below w0.heap.size w0 (w0.alloc (Obj.cells #[.slice ad n c, .int .i64 m] 114)) := (Below.refl _ _).alloc (Nat.le_refl _) _
      go_wp2_with fail
      go_loopw [5] (fun i w2 => ∃ j : Nat, j ≤ n ∧ i = .int .i64 j ∧ Blk w2 w0.heap.size 114 [.slice ad n c, .int .i64 m] ∧ Below w0.heap.size w0 w2) (fun i _ => n - (intOf i).toNat)
      case atStart => exact ⟨0, Nat.zero_le _, rfl, hbx, hbb⟩
      case round =>
        clear hbx hbb b1 d1 d2
        obtain ⟨j, hj, rfl, hbx, hbb⟩ := hrel
        obtain ⟨x0, x1⟩ := cells2 hbx
        by_cases hjn : j < n
        · obtain ⟨b, o, rfl, hc⟩ := HRD.out j hjn
          have y0 : w0.cell? ⟨b, o + j, none⟩ = some (.int .i64 m) := by have h := hc 0 _ rfl; simpa [wd, Nat.add_assoc] using h
          have dc0 := (hbb.cell (cell_lt y0)).trans y0
          have i3 : (j : Int) < (n : Int) := by omega
          have i4 : (0 : Int) ≤ (j : Int) := by omega
          clear hc y0
          go_wp2
          go_quiet (fail)
          go_wp2_with fail
          go_roundw
          case rel => exact ⟨j + 1, by omega, by go_num, hbx, hbb.drewN _⟩
          case measure => simp [intOf]; omega
        · have i3 : ¬ (j : Int) < (n : Int) := by omega
          go_wp2
          go_roundw
          case rel => exact ⟨k + 1, by omega, by go_num, Below.later hB hbb⟩
          case measure => simp [intOf]; omega
    · have i1 : ¬ (k : Int) < ((E 0).length : Int) := by omega
      clear H1
      go_wp2_with fail
      go_loopw [6] (fun i wr => ∃ k : Nat, k ≤ (E 1).length ∧ i = .int .i64 k ∧ Below W.heap.size W wr) (fun i _ => (E 1).length - (intOf i).toNat)
      case atStart => exact ⟨0, Nat.zero_le _, rfl, hB⟩
      case round =>
        clear hB hk hlt2 i1 b1
        obtain ⟨k, hk, rfl, hB⟩ := hrel
        have H1 : HI B wr hb N R E T := HI.later HH.out hB
        have b1 := H1.rw'.cell (j := 1) (by omega)
        rw [HE1.out] at b1
        by_cases hlt2 : k < (E 1).length
        · obtain ⟨gI, cI', eI, d1, d2⟩ := own_at2K (H1.rI 1 (by omega)) hlt2
          have eI := HE1.out.symm.trans eI
          simp only [Value.slice.injEq, true_and] at eI
          obtain ⟨rfl, rfl⟩ := eI
          obtain ⟨ad, n, c, q1, ⟨hn, _⟩, hrd⟩ := H1.rd 1 (by omega) (E 1)[k] (List.getElem_mem hlt2)
          obtain ⟨m, hm⟩ : ∃ m, m = (E 1)[k].2 := ⟨_, rfl⟩
          rw [q1] at d1
          rw [← hm] at d2 hrd
          have i1 : (k : Int) < ((E 1).length : Int) := by omega
          have i2 : (0 : Int) ≤ (k : Int) := by omega
          have HRD : Hid _ := hrd
          clear H1 hm q1 hrd
          obtain ⟨w0, hw0⟩ : ∃ w0, w0 = wr := ⟨_, rfl⟩
          subst hw0
          have hbx : Blk (w0.alloc (Obj.cells #[.slice ad n c, .int .i64 m] 116)) w0.heap.size 116 [.slice ad n c, .int .i64 m] := Blk.new w0 _ _ rfl
          have hbb : Below w0.heap.size w0 (w0.alloc (Obj.cells #[.slice ad n c, .int .i64 m] 116)) := (Below.refl _ _).alloc (Nat.le_refl _) _
          go_wp2_with fail
          go_loopw [8] (fun i w2 => ∃ j : Nat, j ≤ n ∧ i = .int .i64 j ∧ Blk w2 w0.heap.size 116 [.slice ad n c, .int .i64 m] ∧ Below w0.heap.size w0 w2) (fun i _ => n - (intOf i).toNat)
          case atStart => exact ⟨0, Nat.zero_le _, rfl, hbx, hbb⟩
          case round =>
            clear hbx hbb b1 d1 d2
            obtain ⟨j, hj, rfl, hbx, hbb⟩ := hrel
            obtain ⟨x0, x1⟩ := cells2 hbx
            by_cases hjn : j < n
            · obtain ⟨b, o, rfl, hc⟩ := HRD.out j hjn
              have y0 : w0.cell? ⟨b, o + j * 2, none⟩ = some (.int .i64 m) := by have h := hc 0 _ rfl; simpa [wd, Nat.add_assoc] using h
              have dc0 := (hbb.cell (cell_lt y0)).trans y0
              have y1 : w0.cell? ⟨b, o + j * 2 + 1, none⟩ = some (.int .i64 m) := by have h := hc 1 _ rfl; simpa [wd, Nat.add_assoc] using h
              have dc1 := (hbb.cell (cell_lt y1)).trans y1
              have i3 : (j : Int) < (n : Int) := by omega
              have i4 : (0 : Int) ≤ (j : Int) := by omega
              clear hc y0 y1
              go_wp2
              go_quiet (fail)
              go_wp2_with fail
              go_roundw
              case rel => exact ⟨j + 1, by omega, by go_num, hbx, hbb.drewN _⟩
              case measure => simp [intOf]; omega
            · have i3 : ¬ (j : Int) < (n : Int) := by omega
              go_wp2
              go_roundw
              case rel => exact ⟨k + 1, by omega, by go_num, Below.later hB hbb⟩
              case measure => simp [intOf]; omega
        · have i1 : ¬ (k : Int) < ((E 1).length : Int) := by omega
          clear H1
          go_wp2_with fail
          go_loopw [9] (fun i wr => ∃ k : Nat, k ≤ (E 2).length ∧ i = .int .i64 k ∧ Below W.heap.size W wr) (fun i _ => (E 2).length - (intOf i).toNat)
          case atStart => exact ⟨0, Nat.zero_le _, rfl, hB⟩
          case round =>
            clear hB hk hlt2 i1 b1
            obtain ⟨k, hk, rfl, hB⟩ := hrel
            have H1 : HI B wr hb N R E T := HI.later HH.out hB
            have b1 := H1.rw'.cell (j := 2) (by omega)
            rw [HE2.out] at b1
            by_cases hlt2 : k < (E 2).length
            · obtain ⟨gI, cI', eI, d1, d2⟩ := own_at2K (H1.rI 2 (by omega)) hlt2
              have eI := HE2.out.symm.trans eI
              simp only [Value.slice.injEq, true_and] at eI
              obtain ⟨rfl, rfl⟩ := eI
              obtain ⟨ad, n, c, q1, ⟨hn, _⟩, hrd⟩ := H1.rd 2 (by omega) (E 2)[k] (List.getElem_mem hlt2)
              obtain ⟨m, hm⟩ : ∃ m, m = (E 2)[k].2 := ⟨_, rfl⟩
              rw [q1] at d1
              rw [← hm] at d2 hrd
              have i1 : (k : Int) < ((E 2).length : Int) := by omega
              have i2 : (0 : Int) ≤ (k : Int) := by omega
              have HRD : Hid _ := hrd
              clear H1 hm q1 hrd
              obtain ⟨w0, hw0⟩ : ∃ w0, w0 = wr := ⟨_, rfl⟩
              subst hw0
              have hbx : Blk (w0.alloc (Obj.cells #[.slice ad n c, .int .i64 m] 118)) w0.heap.size 118 [.slice ad n c, .int .i64 m] := Blk.new w0 _ _ rfl
              have hbb : Below w0.heap.size w0 (w0.alloc (Obj.cells #[.slice ad n c, .int .i64 m] 118)) := (Below.refl _ _).alloc (Nat.le_refl _) _
              go_wp2_with fail
              go_loopw [11] (fun i w2 => ∃ j : Nat, j ≤ n ∧ i = .int .i64 j ∧ Blk w2 w0.heap.size 118 [.slice ad n c, .int .i64 m] ∧ Below w0.heap.size w0 w2) (fun i _ => n - (intOf i).toNat)
              case atStart => exact ⟨0, Nat.zero_le _, rfl, hbx, hbb⟩
              case round =>
                clear hbx hbb b1 d1 d2
                obtain ⟨j, hj, rfl, hbx, hbb⟩ := hrel
                obtain ⟨x0, x1⟩ := cells2 hbx
                by_cases hjn : j < n
                · obtain ⟨b, o, rfl, hc⟩ := HRD.out j hjn
                  have y0 : w0.cell? ⟨b, o + j * 3, none⟩ = some (.int .i64 m) := by have h := hc 0 _ rfl; simpa [wd, Nat.add_assoc] using h
                  have dc0 := (hbb.cell (cell_lt y0)).trans y0
                  have y1 : w0.cell? ⟨b, o + j * 3 + 1, none⟩ = some (.int .i64 m) := by have h := hc 1 _ rfl; simpa [wd, Nat.add_assoc] using h
                  have dc1 := (hbb.cell (cell_lt y1)).trans y1
                  have y2 : w0.cell? ⟨b, o + j * 3 + 2, none⟩ = some (.int .u8 0) := by have h := hc 2 _ rfl; simpa [wd, Nat.add_assoc] using h
                  have dc2 := (hbb.cell (cell_lt y2)).trans y2
                  have i3 : (j : Int) < (n : Int) := by omega
                  have i4 : (0 : Int) ≤ (j : Int) := by omega
                  clear hc y0 y1 y2
                  go_wp2
                  go_quiet (fail)
                  go_wp2_with fail
                  go_roundw
                  case rel => exact ⟨j + 1, by omega, by go_num, hbx, hbb.drewN _⟩
                  case measure => simp [intOf]; omega
                · have i3 : ¬ (j : Int) < (n : Int) := by omega
                  go_wp2
                  go_roundw
                  case rel => exact ⟨k + 1, by omega, by go_num, Below.later hB hbb⟩
                  case measure => simp [intOf]; omega
            · have i1 : ¬ (k : Int) < ((E 2).length : Int) := by omega
              clear H1
              go_wp2
              go_ret
              exact ⟨rfl, hB⟩
end Go.Proofs.YtepklbboejnecaaGreat

/- What is held, of all three kinds: all lists that wait are marked. -/
namespace Go.Proofs.YtepklbboejnecaaGreat
open Go.RowKit Go.Shelf Sedge
attribute [local go_sem ↓] Go.wp_at_zero Go.wp_at_succ

/-- What holds while the lists are marked one by one. -/
structure SK (B : Nat) (hb : Bx) (T : Nat → List It) (W : World) (p : Nat → Nat) (N : Nat) (R : List Value) (E : Nat → List (Value × Int)) : Prop where
  rw' : RW B W hb N R
  rI : ∀ κ, κ < 3 → W.ownsRow B (hdT κ) 2 (row R κ) (E κ).length (cellsE (E κ))
  rT : ∀ κ, κ < 3 → W.ownsRow B (slT κ) 1 (row R (3 + 2 * κ)) (T κ).length ((T κ).map (·.v))
  own : ∀ κ, κ < 3 → ∀ t ∈ (T κ).drop (p κ), ∃ xs, W.ownsRow B (elT κ) (wd κ) t.v t.n xs
  small : ∀ κ, κ < 3 → ∀ t ∈ T κ, t.n ≤ 100000
  rd : ∀ κ, κ < 3 → ∀ e ∈ E κ, RdK κ W e.1 e.2
  lt : ∀ κ, κ < 3 → ∀ e ∈ E κ, ∀ g, e.1.ownBlock = some g → g < W.heap.size
  ct : ∀ κ, κ < 3 → ∀ t ∈ (T κ).drop (p κ), Clr hb R t.v
  cE : ∀ κ, κ < 3 → ∀ e ∈ E κ, Clr hb R e.1
  pw : ∀ κ, κ < 3 → (T κ).Pairwise fun t t' => Apart t.v t'.v
  pc : ∀ κ κ', κ < 3 → κ' < 3 → κ ≠ κ' → ∀ t ∈ T κ, ∀ t' ∈ T κ', Apart t.v t'.v
  te : ∀ κ κ', κ < 3 → κ' < 3 → ∀ t ∈ (T κ).drop (p κ), ∀ e ∈ E κ', Apart e.1 t.v
  nN : N ≤ 100000000
  nE : ∀ κ, κ < 3 → (E κ).length ≤ 4 * N

theorem RW.clear {B : Nat} {W : World} {hb : Bx} {N : Nat} {R : List Value} (h : RW B W hb N R) (j : Nat) : RW B (W.setCell ⟨hb.g, hb.o + (j + 1), none⟩ nl) hb N (R.set j nl) where
  base := h.base
  po := h.po
  len := by rw [List.length_set]; exact h.len
  box := by have := Blk.setP h.box h.po (k := j + 1) nl; rwa [List.set_cons_succ] at this
  pR := pw_set h.pR fun i _ _ => apart_nl _
  oR := fun r hr => by
    rcases mem_set hr with rfl | ⟨i, hi, hi2, rfl⟩
    · intro e; cases e
    · exact h.oR _ (row_mem hi2)
  lR := fun r hr g hg => by
    rcases mem_set hr with rfl | ⟨i, hi, hi2, rfl⟩
    · cases hg
    · have := h.lR _ (row_mem hi2) g hg; simpa using this
theorem Clr.clear {hb : Bx} {R : List Value} {x : Value} (h : Clr hb R x) (j : Nat) : Clr hb (R.set j nl) x :=
  ⟨h.1, fun r hr => by
    rcases mem_set hr with rfl | ⟨i, hi, hi2, rfl⟩
    · exact apart_nl _
    · exact h.2 _ (row_mem hi2)⟩

section
variable {B : Nat} {hb : Bx} {T : Nat → List It} {W w' : World} {p : Nat → Nat} {N : Nat} {R : List Value} {E : Nat → List (Value × Int)}
theorem SK.start (h : HI B W hb N R E T) : SK B hb T W (fun _ => 0) N R E where
  rw' := h.rw'
  rI := h.rI
  rT := h.rT
  own := fun κ hκ t ht => ⟨_, (h.own κ hκ t ht).1⟩
  small := h.small
  rd := h.rd
  lt := h.lt
  ct := fun κ hκ t ht => (h.cT κ hκ t ht).1
  cE := h.cE
  pw := h.pw
  pc := h.pc
  te := h.te
  nN := h.nN
  nE := h.nE
theorem SK.pre (h : SK B hb T W p N R E) {κ : Nat} (hκ : κ < 3) (hi : p κ < (T κ).length) : ∃ xs, MP κ B W hb N R (E κ) (T κ)[p κ].v (T κ)[p κ].n xs := by
  have hd : (T κ)[p κ] ∈ (T κ).drop (p κ) := by rw [List.drop_eq_getElem_cons hi]; exact List.mem_cons_self
  obtain ⟨xs, hx⟩ := h.own κ hκ _ hd
  exact ⟨xs, h.rw', h.rI κ hκ, hx, h.rd κ hκ, h.lt κ hκ, h.ct κ hκ _ hd, h.cE κ hκ, h.te κ κ hκ hκ _ hd, by have := h.nE κ hκ; have := h.nN; omega, by have := h.small κ hκ _ (List.getElem_mem hi); omega, h.nN⟩
theorem SK.next (h : SK B hb T W p N R E) {κ : Nat} (hκ : κ < 3) (hi : p κ < (T κ).length) {m : Int} {R' : List Value} {g : Value} {G : List (Value × Int)} (hN : N + 1 ≤ 100000000) (hG : G.length ≤ 4)
    (k : MKK κ B W hb (N + 1) R (T κ)[p κ].v (T κ)[p κ].n m (E κ) w' R' g G 3) : SK B hb T w' (upd p κ (p κ + 1)) (N + 1) R' (upd E κ (E κ ++ G)) := by
  have hlen := h.rw'.len
  have hlen' := k.rw'.len
  have hd : (T κ)[p κ] ∈ (T κ).drop (p κ) := by rw [List.drop_eq_getElem_cons hi]; exact List.mem_cons_self
  have hct := h.ct κ hκ _ hd
  -- what is left is apart from what is marked
  have left : ∀ κ' t', κ' < 3 → t' ∈ (T κ').drop (upd p κ (p κ + 1) κ') → t' ∈ (T κ').drop (p κ') ∧ Apart (T κ)[p κ].v t'.v := fun κ' t' hκ' ht' => by
    by_cases e : κ' = κ
    · subst e
      rw [upd_same] at ht'
      refine ⟨by rw [List.drop_eq_getElem_cons hi]; exact List.mem_cons_of_mem _ ht', ?_⟩
      have := (h.pw κ' hκ').sublist (List.drop_sublist (p κ') (T κ'))
      rw [List.drop_eq_getElem_cons hi] at this
      exact (List.pairwise_cons.1 this).1 t' ht'
    · rw [upd_other _ _ e] at ht'
      exact ⟨ht', h.pc κ κ' hκ hκ' (fun q => e q.symm) _ (List.getElem_mem hi) t' (List.mem_of_mem_drop ht')⟩
  have hlt : ∀ κ' t', κ' < 3 → t' ∈ (T κ').drop (p κ') → ∀ b, t'.v.ownBlock = some b → b < W.heap.size := fun κ' t' hκ' ht' b hb => by
    obtain ⟨xs, hx⟩ := h.own κ' hκ' t' ht'
    exact own_lt hx b hb
  have fx : ∀ x, Clr hb R x → Apart x (T κ)[p κ].v → Free x [some hb.g, (row R κ).ownBlock, ((T κ)[p κ].v).ownBlock] := fun x hx hv => free_cons (free_of_off hx.1) (free_cons (free_of_apart (hx.2 _ (row_mem (by omega)))) (free_of_apart hv))
  have frow : ∀ i, i < 9 → i ≠ κ → Free (row R i) [some hb.g, (row R κ).ownBlock, ((T κ)[p κ].v).ownBlock] := fun i hi9 hne => free_cons (free_of_off (h.rw'.oR _ (row_mem (by omega)))) (free_cons (free_of_apart (pw_row h.rw'.pR (by omega) (by omega) hne)) (free_of_apart (hct.2 _ (row_mem (by omega))).symm))
  have clr : ∀ x, Clr hb R x → (∀ b, x.ownBlock = some b → b < W.heap.size) → Clr hb R' x := fun x hx hl => ⟨hx.1, fun r hr => by
    obtain ⟨i, hi', hir⟩ := List.getElem_of_mem hr
    have er : r = row R' i := by rw [← hir]; unfold row; rw [List.getD_eq_getElem?_getD, List.getElem?_eq_getElem hi']; rfl
    rw [er]
    by_cases e : i = κ
    · subst e
      intro b h1 h2
      rcases k.vIl b h2 with q | q
      · exact hx.2 _ (row_mem (by omega)) b h1 q
      · have := hl b h1; omega
    · rw [k.only i e]; exact hx.2 _ (row_mem (by omega))⟩
  have te' : ∀ κ' e, κ' < 3 → e ∈ E κ' → Apart e.1 (T κ)[p κ].v := fun κ' e hκ' he => h.te κ κ' hκ hκ' _ hd e he
  refine ⟨k.rw', ?_, ?_, ?_, h.small, ?_, ?_, ?_, ?_, h.pw, h.pc, ?_, hN, ?_⟩
  · intro κ' hκ'
    by_cases e : κ' = κ
    · subst e; rw [upd_same]; exact k.rI
    · rw [upd_other _ _ e, k.only κ' e]; exact own_fr (h.rI κ' hκ') k.fr (frow κ' (by omega) e)
  · intro κ' hκ'
    rw [k.only (3 + 2 * κ') (by omega)]
    exact own_fr (h.rT κ' hκ') k.fr (frow _ (by omega) (by omega))
  · intro κ' hκ' t ht
    obtain ⟨ht1, ha⟩ := left κ' t hκ' ht
    obtain ⟨xs, hx⟩ := h.own κ' hκ' t ht1
    exact ⟨xs, own_fr hx k.fr (fx _ (h.ct κ' hκ' t ht1) ha.symm)⟩
  · intro κ' hκ' e he
    by_cases q : κ' = κ
    · subst q; rw [upd_same] at he; exact k.rd e he
    · rw [upd_other _ _ q] at he; exact (h.rd κ' hκ' e he).fr k.fr (fx _ (h.cE κ' hκ' e he) (te' κ' e hκ' he))
  · intro κ' hκ' e he b hb'
    by_cases q : κ' = κ
    · subst q; rw [upd_same] at he; exact k.lt e he b hb'
    · rw [upd_other _ _ q] at he; exact Nat.lt_of_lt_of_le (h.lt κ' hκ' e he b hb') k.fr.1
  · intro κ' hκ' t ht
    obtain ⟨ht1, ha⟩ := left κ' t hκ' ht
    exact clr _ (h.ct κ' hκ' t ht1) (hlt κ' t hκ' ht1)
  · intro κ' hκ' e he
    by_cases q : κ' = κ
    · subst q; rw [upd_same] at he; exact k.cE e he
    · rw [upd_other _ _ q] at he; exact clr _ (h.cE κ' hκ' e he) (h.lt κ' hκ' e he)
  · intro κ1 κ2 h1 h2 t ht e he b b1 b2
    obtain ⟨ht1, ha⟩ := left κ1 t h1 ht
    by_cases q : κ2 = κ
    · subst q
      rw [upd_same] at he
      rcases List.mem_append.1 he with he | he
      · exact h.te κ1 κ2 h1 h2 t ht1 e he b b1 b2
      · rcases k.gl e he b b1 with q | q
        · exact ha b q b2
        · have := hlt κ1 t h1 ht1 b b2; omega
    · rw [upd_other _ _ q] at he; exact h.te κ1 κ2 h1 h2 t ht1 e he b b1 b2
  · intro κ' hκ'
    have := h.nE κ' hκ'
    by_cases q : κ' = κ
    · subst q; rw [upd_same, List.length_append]; omega
    · rw [upd_other _ _ q]; omega

/-- The box without what waited. -/
abbrev cleared (R : List Value) : List Value := (((((R.set 3 nl).set 4 nl).set 5 nl).set 6 nl).set 7 nl).set 8 nl
abbrev clearedW (W : World) (hb : Bx) : World := (((((W.setCell ⟨hb.g, hb.o + 4, none⟩ nl).setCell ⟨hb.g, hb.o + 5, none⟩ nl).setCell ⟨hb.g, hb.o + 6, none⟩ nl).setCell ⟨hb.g, hb.o + 7, none⟩ nl).setCell ⟨hb.g, hb.o + 8, none⟩ nl).setCell ⟨hb.g, hb.o + 9, none⟩ nl
/-- Nothing waits any more. -/
theorem SK.done (h : SK B hb T W p N R E) : HI B (clearedW W hb) hb N (cleared R) E (fun _ => []) := by
  have hlen := h.rw'.len
  have F : Fr W (clearedW W hb) [some hb.g] := ((((((Fr.set W hb.g (hb.o + 4) nl).trans (Fr.set _ hb.g (hb.o + 5) nl)).trans (Fr.set _ hb.g (hb.o + 6) nl)).trans (Fr.set _ hb.g (hb.o + 7) nl)).trans (Fr.set _ hb.g (hb.o + 8) nl)).trans (Fr.set _ hb.g (hb.o + 9) nl)).sub (fun r hr => by simpa using hr)
  have hr : ∀ κ, κ < 3 → row (cleared R) κ = row R κ := fun κ hκ => by
    unfold cleared
    rw [row_set_ne (by omega), row_set_ne (by omega), row_set_ne (by omega), row_set_ne (by omega), row_set_ne (by omega), row_set_ne (by omega)]
  have hz : ∀ κ, 3 ≤ κ → κ < 9 → row (cleared R) κ = nl := fun κ h3 h9 => by
    obtain ⟨r0, r1, r2, r3, r4, r5, r6, r7, r8, rfl⟩ : ∃ r0 r1 r2 r3 r4 r5 r6 r7 r8, R = [r0, r1, r2, r3, r4, r5, r6, r7, r8] := by
      match R, hlen with
      | [r0, r1, r2, r3, r4, r5, r6, r7, r8], _ => exact ⟨_, _, _, _, _, _, _, _, _, rfl⟩
    match κ, h3, h9 with
    | 3, _, _ => rfl
    | 4, _, _ => rfl
    | 5, _, _ => rfl
    | 6, _, _ => rfl
    | 7, _, _ => rfl
    | 8, _, _ => rfl
  refine ⟨((((((h.rw'.clear 3).clear 4).clear 5).clear 6).clear 7).clear 8), ?_, ?_, ?_, (fun κ _ t ht => by cases ht), (fun κ _ t ht => by cases ht), (fun κ _ t ht => by cases ht), ?_, ?_, (fun κ _ t ht => by cases ht), ?_, (fun κ _ => List.Pairwise.nil), (fun κ κ' _ _ _ t ht => by cases ht), (fun κ κ' _ _ t ht => by cases ht), h.nN, h.nE, fun κ _ => by simp⟩
  · intro κ hκ
    rw [hr κ hκ]; exact own_fr (h.rI κ hκ) F (free_of_off (h.rw'.oR _ (row_mem (by omega))))
  · intro κ hκ
    rw [hz (3 + 2 * κ) (by omega) (by omega)]; exact World.ownsRow_nil _ _ _ _
  · intro κ hκ
    rw [hz (4 + 2 * κ) (by omega) (by omega)]; exact World.ownsRow_nil _ _ _ _
  · exact fun κ hκ e he => (h.rd κ hκ e he).fr F (free_of_off (h.cE κ hκ e he).1)
  · exact fun κ hκ e he g hg => Nat.lt_of_lt_of_le (h.lt κ hκ e he g hg) F.1
  · exact fun κ hκ e he => ((((((h.cE κ hκ e he).clear 3).clear 4).clear 5).clear 6).clear 7).clear 8
end

/-- What lies in blocks of certain types stays as it was. -/
def Keep (P : TypeId → Prop) (W w' : World) : Prop := ∀ (g : Nat) (cs : Array Value) (T : TypeId) (f : Nat × Nat), W.heap[g]? = some (Obj.cells cs T f) → P T → w'.heap[g]? = W.heap[g]?
/-- The types of what is held are none of these. -/
structure Off (P : TypeId → Prop) (hb : Bx) : Prop where
  ty : ¬ P hb.ty
  hd : ∀ κ, κ < 3 → ¬ P (hdT κ)
  el : ∀ κ, κ < 3 → ¬ P (elT κ)
  sl : ∀ κ, κ < 3 → ¬ P (slT κ)
theorem Keep.refl (P : TypeId → Prop) (W : World) : Keep P W W := fun _ _ _ _ _ _ => rfl
theorem Keep.trans {P : TypeId → Prop} {a b c : World} (h : Keep P a b) (k : Keep P b c) : Keep P a c := fun g cs T f hg hT => by
  have h1 := h g cs T f hg hT
  have h2 := k g cs T f (h1.trans hg) hT
  exact h2.trans h1
theorem Keep.below {P : TypeId → Prop} {W w' : World} (h : Below W.heap.size W w') : Keep P W w' := fun g cs T f hg _ => h.block g (by
  by_cases c : g < W.heap.size
  · exact c
  · rw [Array.getElem?_eq_none (by omega)] at hg; cases hg)
theorem Keep.of_fr {P : TypeId → Prop} {W w' : World} {bs : List (Option Nat)} (hf : Fr W w' bs) (h : ∀ r ∈ bs, ∀ (g : Nat), r = some g → ∀ (cs : Array Value) (T : TypeId) (f : Nat × Nat), W.heap[g]? = some (Obj.cells cs T f) → ¬ P T) : Keep P W w' := fun g cs T f hg hT => by
  have hl : g < W.heap.size := by
    by_cases c : g < W.heap.size
    · exact c
    · rw [Array.getElem?_eq_none (by omega)] at hg; cases hg
  exact hf.2 g hl fun r hr q => h r hr g q.symm cs T f hg hT
theorem own_tyP {w : World} {base g n : Nat} {e : TypeId} {s : Nat} {v : Value} {xs : List Value} (h : w.ownsRow base e s v n xs) (hg : v.ownBlock = some g) {cs : Array Value} {T : TypeId} {f : Nat × Nat} (hc : w.heap[g]? = some (.cells cs T f)) : T = e := by
  rcases h.2 with ⟨rfl, _⟩ | ⟨g', cap, cur, rfl, _, h3, _⟩
  · cases hg
  · simp only [Value.ownBlock, Option.some.injEq] at hg
    subst hg
    rw [h3] at hc
    simp only [Option.some.injEq, Obj.cells.injEq] at hc
    exact hc.2.1.symm
theorem blk_tyP {w : World} {g : Nat} {T0 : TypeId} {vs : List Value} (h : Blk w g T0 vs) {cs : Array Value} {T : TypeId} {f : Nat × Nat} (hc : w.heap[g]? = some (.cells cs T f)) : T = T0 := by
  unfold Blk at h
  rw [h] at hc
  simp only [Option.some.injEq, Obj.cells.injEq] at hc
  exact hc.2.1.symm
section
variable {B : Nat} {hb : Bx} {T : Nat → List It} {W w' : World} {p : Nat → Nat} {N : Nat} {R : List Value} {E : Nat → List (Value × Int)}
theorem SK.keep {P : TypeId → Prop} (h : SK B hb T W p N R E) {κ : Nat} (hκ : κ < 3) (hi : p κ < (T κ).length) {m : Int} {R' : List Value} {g : Value} {G : List (Value × Int)}
    (k : MKK κ B W hb (N + 1) R (T κ)[p κ].v (T κ)[p κ].n m (E κ) w' R' g G 3) (hP : Off P hb) : Keep P W w' := by
  have hd : (T κ)[p κ] ∈ (T κ).drop (p κ) := by rw [List.drop_eq_getElem_cons hi]; exact List.mem_cons_self
  obtain ⟨xs, hx⟩ := h.own κ hκ _ hd
  refine Keep.of_fr k.fr fun r hr g hg cs t f hc => ?_
  simp only [List.mem_cons, List.not_mem_nil, or_false] at hr
  rcases hr with rfl | rfl | rfl
  · simp only [Option.some.injEq] at hg
    subst hg
    rw [blk_tyP h.rw'.box hc]; exact hP.ty
  · rw [own_tyP (h.rI κ hκ) hg hc]; exact hP.hd κ hκ
  · rw [own_tyP hx hg hc]; exact hP.el κ hκ
theorem SK.keepC {P : TypeId → Prop} (h : SK B hb T W p N R E) (hP : Off P hb) : Keep P W (clearedW W hb) := by
  have F : Fr W (clearedW W hb) [some hb.g] := ((((((Fr.set W hb.g (hb.o + 4) nl).trans (Fr.set _ hb.g (hb.o + 5) nl)).trans (Fr.set _ hb.g (hb.o + 6) nl)).trans (Fr.set _ hb.g (hb.o + 7) nl)).trans (Fr.set _ hb.g (hb.o + 8) nl)).trans (Fr.set _ hb.g (hb.o + 9) nl)).sub (fun r hr => by simpa using hr)
  refine Keep.of_fr F fun r hr g hg cs t f hc => ?_
  simp only [List.mem_cons, List.not_mem_nil, or_false] at hr
  subst hr
  simp only [Option.some.injEq] at hg
  subst hg
  rw [blk_tyP h.rw'.box hc]; exact hP.ty
end
end Go.Proofs.YtepklbboejnecaaGreat

/- What is held, of all three kinds: 'settles', walked. -/
namespace Go.Proofs.YtepklbboejnecaaGreat
open Go.RowKit Go.Shelf Sedge
attribute [local go_sem ↓] Go.wp_at_zero Go.wp_at_succ

theorem SK.pos {B : Nat} {hb : Bx} {T : Nat → List It} {W : World} {p p' : Nat → Nat} {N : Nat} {R : List Value} {E : Nat → List (Value × Int)} (h : SK B hb T W p N R E) (e : ∀ κ, κ < 3 → p' κ = p κ) : SK B hb T W p' N R E :=
  { h with
    own := fun κ hκ t ht => h.own κ hκ t (by rw [← e κ hκ]; exact ht)
    ct := fun κ hκ t ht => h.ct κ hκ t (by rw [← e κ hκ]; exact ht)
    te := fun κ κ' hκ hκ' t ht => h.te κ κ' hκ hκ' t (by rw [← e κ hκ]; exact ht) }
/-- How far one is, kind by kind. -/
def pos3 (a b c : Nat) : Nat → Nat
  | 0 => a
  | 1 => b
  | _ => c

set_option maxRecDepth 20000 in
set_option maxHeartbeats 8000000 in
/-- 'settles'. -/
theorem settlesK_any (B : Nat) (W : World) (hb : Bx) (N : Nat) (R : List Value) (E : Nat → List (Value × Int)) (T : Nat → List It) (H : HI B W hb N R E T) (P : TypeId → Prop) (hP : Off P hb) (hN : N + (T 0).length + (T 1).length + (T 2).length ≤ 100000000) :
    Calls Tryz.prog 9 #[.pointer (some ⟨hb.g, hb.o, none⟩)] W fun e w' => e = .returned (.bool true) ∧ ∃ R' E', HI B w' hb (N + (T 0).length + (T 1).length + (T 2).length) R' E' (fun _ => []) ∧ Below B W w' ∧ Keep P W w' := by
  have HH : Hid _ := H
  have hsz : B ≤ W.heap.size := H.rw'.sz
  have n0 := H.nT 0 (by omega)
  have n1 := H.nT 1 (by omega)
  have n2 := H.nT 2 (by omega)
  clear H
  go_enter Tryz.func9, Tryz.ntmps9
  go_wp2_with fail
  refine (waitsK_any B W hb N R E T HH.out).mono ?_
  rintro e w1 ⟨rfl, hb1⟩
  have HB1 : Hid _ := hb1.mono hsz
  have HKP : Hid _ := Keep.below (P := P) hb1
  have HOFF : Hid _ := hP
  clear hP
  have HS1 : Hid _ := SK.pos (SK.start (HI.later HH.out hb1)) (p' := pos3 0 0 0) (fun κ hκ => by match κ, hκ with | 0, _ => rfl | 1, _ => rfl | 2, _ => rfl)
  clear hb1
  go_wp2_with fail
  go_loopw [4] (fun i wr => ∃ (k : Nat) (R' : List Value) (E' : Nat → List (Value × Int)), k ≤ (T 0).length ∧ i = .int .i64 k ∧ SK B hb T wr (pos3 k 0 0) (N + k) R' E' ∧ Below B W wr ∧ Keep P W wr) (fun i _ => (T 0).length - (intOf i).toNat)
  case atStart => exact ⟨0, _, _, Nat.zero_le _, rfl, HS1.out, HB1.out, HKP.out⟩
  case round =>
    skip
    clear HKP
    obtain ⟨k, R', E', hk, rfl, hS, hB, hKp⟩ := hrel
    have HKP : Hid _ := hKp
    clear hKp
    obtain ⟨a4, x4, e4⟩ : ∃ a c, row R' 3 = .slice a (T 0).length c := own_val (hS.rT 0 (by omega))
    have c4 := hS.rw'.cell (j := 3) (by omega)
    rw [e4] at c4
    by_cases hlt : k < (T 0).length
    · obtain ⟨gT, cT', eT, hx1, d1⟩ := own_at (hS.rT 0 (by omega)) hlt
      have eT := e4.symm.trans eT
      rw [List.getElem_map] at d1
      simp only [Value.slice.injEq, true_and] at eT
      obtain ⟨rfl, rfl⟩ := eT
      obtain ⟨xs, hP⟩ := SK.pre (κ := 0) hS (by omega) hlt
      have C := markIntsK_any _ _ _ _ _ _ _ _ _ hP
      obtain ⟨ad1, n1', c1, e1⟩ := own_val3 hP.rv
      have HC : Hid _ := C
      have HS : Hid _ := hS
      have HB : Hid _ := hB
      have e1 : (T 0)[k].v = .slice ad1 n1' c1 := e1
      rw [e1] at d1
      have i1 : (k : Int) < ((T 0).length : Int) := by omega
      have i2 : (0 : Int) ≤ (k : Int) := by omega
      have HE1 : Hid _ := e1
      clear C hS hB hP e1 hx1 e4
      go_wp2_with fail
      rw [← HE1.out]
      refine Calls.mono HC.out ?_
      rintro e w2 ⟨rfl, m, R2, g2, G, hMK, hG⟩
      clear c4 d1
      go_wp2_with fail
      go_roundw
      case rel =>
        have hn := SK.next (κ := 0) HS.out (by omega) hlt (by omega) hG hMK
        refine ⟨k + 1, R2, upd E' 0 (E' 0 ++ G), by omega, by go_num, ?_, HB.out.trans hMK.blw, Keep.trans HKP.out (SK.keep (κ := 0) HS.out (by omega) hlt hMK HOFF.out)⟩
        exact SK.pos hn (fun κ hκ => by match κ, hκ with | 0, _ => rfl | 1, _ => rfl | 2, _ => rfl)
      case measure => simp [intOf]; omega
    · have hkT : k = (T 0).length := by omega
      have i1 : ¬ (k : Int) < ((T 0).length : Int) := by omega
      have HS : Hid _ := hS
      have HB : Hid _ := hB
      have HK : Hid _ := hkT
      clear hS hB hkT e4
      go_wp2_with fail
      go_loopw [5] (fun i wr => ∃ (k : Nat) (R' : List Value) (E' : Nat → List (Value × Int)), k ≤ (T 1).length ∧ i = .int .i64 k ∧ SK B hb T wr (pos3 (T 0).length k 0) (N + (T 0).length + k) R' E' ∧ Below B W wr ∧ Keep P W wr) (fun i _ => (T 1).length - (intOf i).toNat)
      case atStart => exact ⟨0, _, _, Nat.zero_le _, rfl, (by rw [← HK.out]; exact HS.out), HB.out, HKP.out⟩
      case round =>
        clear HS HB HK hlt hk i1 c4
        clear HKP
        obtain ⟨k, R', E', hk, rfl, hS, hB, hKp⟩ := hrel
        have HKP : Hid _ := hKp
        clear hKp
        obtain ⟨a6, x6, e6⟩ : ∃ a c, row R' 5 = .slice a (T 1).length c := own_val (hS.rT 1 (by omega))
        have c6 := hS.rw'.cell (j := 5) (by omega)
        rw [e6] at c6
        by_cases hlt : k < (T 1).length
        · obtain ⟨gT, cT', eT, hx1, d1⟩ := own_at (hS.rT 1 (by omega)) hlt
          have eT := e6.symm.trans eT
          rw [List.getElem_map] at d1
          simp only [Value.slice.injEq, true_and] at eT
          obtain ⟨rfl, rfl⟩ := eT
          obtain ⟨xs, hP⟩ := SK.pre (κ := 1) hS (by omega) hlt
          have C := markHits_any _ _ _ _ _ _ _ _ _ hP
          obtain ⟨ad1, n1', c1, e1⟩ := own_val3 hP.rv
          have HC : Hid _ := C
          have HS : Hid _ := hS
          have HB : Hid _ := hB
          have e1 : (T 1)[k].v = .slice ad1 n1' c1 := e1
          rw [e1] at d1
          have i1 : (k : Int) < ((T 1).length : Int) := by omega
          have i2 : (0 : Int) ≤ (k : Int) := by omega
          have HE1 : Hid _ := e1
          clear C hS hB hP e1 hx1 e6
          go_wp2_with fail
          rw [← HE1.out]
          refine Calls.mono HC.out ?_
          rintro e w2 ⟨rfl, m, R2, g2, G, hMK, hG⟩
          clear c6 d1
          go_wp2_with fail
          go_roundw
          case rel =>
            have hn := SK.next (κ := 1) HS.out (by omega) hlt (by omega) hG hMK
            refine ⟨k + 1, R2, upd E' 1 (E' 1 ++ G), by omega, by go_num, ?_, HB.out.trans hMK.blw, Keep.trans HKP.out (SK.keep (κ := 1) HS.out (by omega) hlt hMK HOFF.out)⟩
            exact SK.pos hn (fun κ hκ => by match κ, hκ with | 0, _ => rfl | 1, _ => rfl | 2, _ => rfl)
          case measure => simp [intOf]; omega
        · have hkT : k = (T 1).length := by omega
          have i1 : ¬ (k : Int) < ((T 1).length : Int) := by omega
          have HS : Hid _ := hS
          have HB : Hid _ := hB
          have HK : Hid _ := hkT
          clear hS hB hkT e6
          go_wp2_with fail
          go_loopw [6] (fun i wr => ∃ (k : Nat) (R' : List Value) (E' : Nat → List (Value × Int)), k ≤ (T 2).length ∧ i = .int .i64 k ∧ SK B hb T wr (pos3 (T 0).length (T 1).length k) (N + (T 0).length + (T 1).length + k) R' E' ∧ Below B W wr ∧ Keep P W wr) (fun i _ => (T 2).length - (intOf i).toNat)
          case atStart => exact ⟨0, _, _, Nat.zero_le _, rfl, (by rw [← HK.out]; exact HS.out), HB.out, HKP.out⟩
          case round =>
            clear HS HB HK hlt hk i1 c6
            clear HKP
            obtain ⟨k, R', E', hk, rfl, hS, hB, hKp⟩ := hrel
            have HKP : Hid _ := hKp
            clear hKp
            obtain ⟨a8, x8, e8⟩ : ∃ a c, row R' 7 = .slice a (T 2).length c := own_val (hS.rT 2 (by omega))
            have c8 := hS.rw'.cell (j := 7) (by omega)
            rw [e8] at c8
            by_cases hlt : k < (T 2).length
            · obtain ⟨gT, cT', eT, hx1, d1⟩ := own_at (hS.rT 2 (by omega)) hlt
              have eT := e8.symm.trans eT
              rw [List.getElem_map] at d1
              simp only [Value.slice.injEq, true_and] at eT
              obtain ⟨rfl, rfl⟩ := eT
              obtain ⟨xs, hP⟩ := SK.pre (κ := 2) hS (by omega) hlt
              have C := markFactors_any _ _ _ _ _ _ _ _ _ hP
              obtain ⟨ad1, n1', c1, e1⟩ := own_val3 hP.rv
              have HC : Hid _ := C
              have HS : Hid _ := hS
              have HB : Hid _ := hB
              have e1 : (T 2)[k].v = .slice ad1 n1' c1 := e1
              rw [e1] at d1
              have i1 : (k : Int) < ((T 2).length : Int) := by omega
              have i2 : (0 : Int) ≤ (k : Int) := by omega
              have HE1 : Hid _ := e1
              clear C hS hB hP e1 hx1 e8
              go_wp2_with fail
              rw [← HE1.out]
              refine Calls.mono HC.out ?_
              rintro e w2 ⟨rfl, m, R2, g2, G, hMK, hG⟩
              clear c8 d1
              go_wp2_with fail
              go_roundw
              case rel =>
                have hn := SK.next (κ := 2) HS.out (by omega) hlt (by omega) hG hMK
                refine ⟨k + 1, R2, upd E' 2 (E' 2 ++ G), by omega, by go_num, ?_, HB.out.trans hMK.blw, Keep.trans HKP.out (SK.keep (κ := 2) HS.out (by omega) hlt hMK HOFF.out)⟩
                exact SK.pos hn (fun κ hκ => by match κ, hκ with | 0, _ => rfl | 1, _ => rfl | 2, _ => rfl)
              case measure => simp [intOf]; omega
            · have hkT : k = (T 2).length := by omega
              have i1 : ¬ (k : Int) < ((T 2).length : Int) := by omega
              have HS : Hid _ := hS
              have HB : Hid _ := hB
              have HK : Hid _ := hkT
              clear hS hB hkT e8
              have hr := SK.rw' HS.out
              have c4 := hr.cell (j := 3) (by omega)
              have c5 := hr.cell (j := 4) (by omega)
              have c6 := hr.cell (j := 5) (by omega)
              have c7 := hr.cell (j := 6) (by omega)
              have c9 := hr.cell (j := 8) (by omega)
              have f4 := Blk.free hr.box (hb.o + 4)
              have f5 := Blk.free hr.box (hb.o + 5)
              have f6 := Blk.free hr.box (hb.o + 6)
              have f7 := Blk.free hr.box (hb.o + 7)
              have f8 := Blk.free hr.box (hb.o + 8)
              have f9 := Blk.free hr.box (hb.o + 9)
              have hbs := hr.base
              have HD : Hid _ := SK.done HS.out
              clear hr
              go_wp2_with fail
              refine (dryK_any B _ hb _ _ E' _ HD.out).mono ?_
              rintro e w3 ⟨rfl, hb3⟩
              have HB6 : Hid _ := (((((HB.out.setCell (p := ⟨hb.g, hb.o + 4, none⟩) hbs nl).setCell (p := ⟨hb.g, hb.o + 5, none⟩) hbs nl).setCell (p := ⟨hb.g, hb.o + 6, none⟩) hbs nl).setCell (p := ⟨hb.g, hb.o + 7, none⟩) hbs nl).setCell (p := ⟨hb.g, hb.o + 8, none⟩) hbs nl).setCell (p := ⟨hb.g, hb.o + 9, none⟩) hbs nl
              have HB3 : Hid _ := hb3
              clear hb3 c4 c5 c6 c7 c8 c9 f4 f5 f6 f7 f8 f9
              go_wp2
              go_ret
              refine ⟨rfl, _, _, (by rw [← HK.out]; exact HI.later HD.out HB3.out), Below.trans HB6.out (Below.mono HB3.out ?_), Keep.trans (Keep.trans HKP.out (SK.keepC HS.out HOFF.out)) (Keep.below HB3.out)⟩
              exact Nat.le_trans hsz HB6.out.size
end Go.Proofs.YtepklbboejnecaaGreat

/- What is held: a list's copy; a list more in a list. -/
namespace Go.Proofs.YtepklbboejnecaaGreat
open Go.RowKit Go.Shelf Sedge
attribute [local go_sem ↓] Go.wp_at_zero Go.wp_at_succ

/-- 'append(nil, l...)' of a list of the call's own. -/
theorem wpList_cloneK (t e : TypeId) (z : Value) (size bytes : Nat) (hu : Tryz.prog.underlying t = some (.slice e)) (hinf : (Tryz.prog.info? e).map (fun i => (i.zero, i.size, i.bytes)) = some (some z, size, bytes)) (hzc : z.cells.size = size) (hsz : 0 < size) (hby : bytes ≤ 24)
    (w : World) {ops : Array Oper} {rest : List Oper} {o : Oper} {a : Act} {Q : Exit → Act → World → Prop} (hg : o.guard = none)
    (s x : Operand) (hop : o.op = Op.call { callee := Callee.builtin Builtin.append, args := #[s, x], argTypes := #[t, t] }) (hs : a.eval s = .slice none 0 0)
    (base2 : Nat) (vy : Value) (n : Nat) (ys : List Value) (hx : a.eval x = vy) (hy : w.ownsRow base2 e size vy n ys) (h1 : ∀ u ∈ ys, u.oneCell' = true) (hn : n ≤ 1000000)
    (hK : ∀ v' w', w'.ownsRow w.heap.size e size v' n ys → Below w.heap.size w w' → wpList Tryz.prog ops Q rest (a.put o.dst v') w') :
    wpList Tryz.prog ops Q (o :: rest) a w := by
  refine wpList_plain hg fun K hK' => ?_
  obtain ⟨i0, hi, hz0, hz1, hz2⟩ := info_parts hinf
  have hnil : w.ownsRow w.heap.size e size (.slice none 0 0) 0 [] := World.ownsRow_nil _ _ _ _
  rcases own_form hy with ⟨rfl, rfl⟩ | ⟨g, c, rfl⟩
  · have hrun := run_append_owned_none (P := Tryz.prog) (w := w) w.heap.size t o.type e i0 size hu hi (.slice none 0 0) 0 [] hnil
    have e0 : ys = [] := List.eq_nil_of_length_eq_zero (by rw [hy.1]; omega)
    subst e0
    unfold Oper.wp execOp
    simp only [hop, resolve, invoke, builtin, Sem.run_bind, Sem.run_pure, Result.andThen_ok, List.map_toArray, List.map_cons, List.map_nil, hs, hx, hrun]
    exact hK' _ _ (hK _ _ hnil (Below.refl _ _))
  · obtain ⟨v', w', hr, h2, h3, _⟩ := run_append_own_at (P := Tryz.prog) w w.heap.size t o.type e i0 z size bytes hu hi hz0 hz1 hz2 hzc hsz (.slice none 0 0) 0 [] hnil ⟨g, 0, none⟩ n c ys hy.1 (fun j u hj => by
      have ea : (⟨g, 0, none⟩ : Addr).add j = ⟨g, j, none⟩ := by unfold Addr.add; split <;> simp_all
      have hlt := (List.getElem?_eq_some_iff.1 hj).1
      rw [hy.1] at hlt
      rw [ea, hy.cellAt j hlt]; exact hj) h1 (by unfold maxLen; omega) (by have := Nat.mul_le_mul_left (0 + n) hby; omega) (Nat.le_refl _)
    unfold Oper.wp execOp
    simp only [hop, resolve, invoke, builtin, Sem.run_bind, Sem.run_pure, Result.andThen_ok, List.map_toArray, List.map_cons, List.map_nil, hs, hx, hr]
    refine hK' _ _ (hK v' w' (by simpa using h2) ((Below.refl _ w).grown h3 (Nat.le_refl _) (fun k e => by cases e)))
/-- 'append(s, x)' of lists. -/
theorem wpList_push_slK (t e : TypeId) (hu : Tryz.prog.underlying t = some (.slice e)) (hinf : (Tryz.prog.info? e).map (fun i => (i.zero, i.size, i.bytes)) = some (some (.slice none 0 0), 1, 24))
    (w : World) {ops : Array Oper} {rest : List Oper} {o : Oper} {a : Act} {Q : Exit → Act → World → Prop} (hg : o.guard = none)
    (s x : Operand) (hop : o.op = Op.call { callee := Callee.builtin Builtin.append, args := #[s, x], argTypes := #[t, t] })
    (base : Nat) (v : Value) (n : Nat) (xs : List Value) (hs : a.eval s = v) (hown : w.ownsRow base e 1 v n xs)
    (ad : Addr) (y : Value) (hx : a.eval x = .slice (some ad) 1 1) (hc : w.cell? ad = some y) (h1 : y.oneCell' = true) (hn : n ≤ 10000000) (hbase : base ≤ w.heap.size)
    (hK : ∀ v' w', w'.ownsRow base e 1 v' (n + 1) (xs ++ [y]) → w.grownBy w' v.ownBlock → Lies w w' v v' → wpList Tryz.prog ops Q rest (a.put o.dst v') w') :
    wpList Tryz.prog ops Q (o :: rest) a w := by
  obtain ⟨i0, hi, hz0, hz1, hz2⟩ := info_parts hinf
  refine wpList_push_at w hg s x t hop e i0 (.slice none 0 0) 1 24 hu hi hz0 hz1 hz2 rfl (by decide) base v n xs hs hown ad 1 [y] hx rfl ?_ ?_ ?_ ?_ hbase hK
  · intro j u hj
    match j, hj with
    | 0, hj => simp at hj; subst hj; simpa [Addr.add] using hc
  · intro u hu; simp at hu; subst hu; exact h1
  · unfold maxLen; omega
  · omega
end Go.Proofs.YtepklbboejnecaaGreat
