/- Several texts as one. -/
import Derived.Test.YtepklbboejnecaaY
import Derived.Test.YtepklbboejnecaaG
import Derived.Laws.CopyOwn
import Derived.Deep.Cut
/- What is held, of all three kinds: the rows that hold it. -/
namespace Go.Proofs.Ytepklbboejnecaa
open Go.RowKit Go.Shelf Sedge

/-- The kinds: 0: ints, 1: hits, 2: factors: an element's type, a list's type, the type of what is held; how many cells an element has; its mark. -/
def elT : Nat → TypeId
  | 0 => 3
  | 1 => 116
  | _ => 64
def slT : Nat → TypeId
  | 0 => 36
  | 1 => 78
  | _ => 61
def hdT : Nat → TypeId
  | 0 => 118
  | 1 => 120
  | _ => 122
def wd (κ : Nat) : Nat := κ + 1
def mkc : Nat → Int → List Value
  | 0, m => [.int .i64 m]
  | 1, m => [.int .i64 m, .int .i64 m]
  | 2, m => [.int .i64 m, .int .i64 m, .int .u8 0]
  | _, _ => []
theorem mkc_length {κ : Nat} (h : κ < 3) (m : Int) : (mkc κ m).length = wd κ := by
  match κ, h with
  | 0, _ => rfl
  | 1, _ => rfl
  | 2, _ => rfl
theorem mkc_one {κ : Nat} (m : Int) : ∀ u ∈ mkc κ m, u.oneCell' = true := by
  match κ with
  | 0 => intro u hu; simp [mkc] at hu; subst hu; rfl
  | 1 => intro u hu; simp [mkc] at hu; subst hu; rfl
  | 2 => intro u hu; simp [mkc] at hu; rcases hu with rfl | rfl <;> rfl
  | _ + 3 => intro u hu; simp [mkc] at hu
/-- So many marks, as cells. -/
def marks (κ n : Nat) (m : Int) : List Value := (List.replicate n (mkc κ m)).flatten
theorem marks_length {κ : Nat} (h : κ < 3) (n : Nat) (m : Int) : (marks κ n m).length = n * wd κ := by
  induction n with
  | zero => simp [marks]
  | succ n ih =>
    unfold marks at ih ⊢
    rw [List.replicate_succ, List.flatten_cons, List.length_append, ih, mkc_length h]
    rw [Nat.succ_mul, Nat.add_comm]
theorem marks_succ (κ n : Nat) (m : Int) : marks κ (n + 1) m = marks κ n m ++ mkc κ m := by
  unfold marks
  rw [List.replicate_succ', List.flatten_append]; simp
theorem marks_at {κ : Nat} (h : κ < 3) {n k j : Nat} {m : Int} (hk : k < n) (hj : j < wd κ) : (marks κ n m)[k * wd κ + j]? = (mkc κ m)[j]? := by
  induction n with
  | zero => omega
  | succ n ih =>
    rw [marks_succ]
    by_cases e : k = n
    · subst e
      rw [List.getElem?_append_right (by rw [marks_length h]; omega), marks_length h]
      congr 1; omega
    · have hkn : k < n := by omega
      have : k * wd κ + j < n * wd κ := by
        have := Nat.mul_le_mul_right (wd κ) (show k + 1 ≤ n by omega)
        rw [Nat.succ_mul] at this; omega
      rw [List.getElem?_append_left (by rw [marks_length h]; exact this)]
      exact ih hkn

/-- A list that reads as a mark at all its places. -/
def RdK (κ : Nat) (w : World) (v : Value) (m : Int) : Prop := ∃ ad n c, v = .slice ad n c ∧ n ≤ 5864062014720 ∧ ∀ k, k < n → ∃ b o, ad = some ⟨b, o, none⟩ ∧ ∀ j u, (mkc κ m)[j]? = some u → w.cell? ⟨b, o + (k * wd κ + j), none⟩ = some u
theorem RdK.fr {κ : Nat} {w w' : World} {v : Value} {m : Int} {bs : List (Option Nat)} (h : RdK κ w v m) (k : Fr w w' bs) (f : Free v bs) : RdK κ w' v m := by
  obtain ⟨ad, n, c, rfl, hn, h⟩ := h
  refine ⟨ad, n, c, rfl, hn, fun i hi => ?_⟩
  obtain ⟨b, o, rfl, hc⟩ := h i hi
  refine ⟨b, o, rfl, fun j u hu => ?_⟩
  have hc := hc j u hu
  rw [World.cell?_of_block (k.2 b (World.block_lt_of_cell? w _ hc) (f b rfl))]; exact hc
/-- Of a list in the same block that is as long or longer. -/
theorem rdK_own {κ : Nat} (hκ : κ < 3) {w : World} {base n n' : Nat} {v v' : Value} {m : Int} (h : w.ownsRow base (elT κ) (wd κ) v' n' (marks κ n' m)) (hn : n ≤ n') (hn' : n' ≤ 5864062014720) (hv : v = .slice none 0 0 ∨ ∃ g c, v = .slice (some ⟨g, 0, none⟩) n c ∧ v'.ownBlock = some g) : RdK κ w v m := by
  rcases hv with rfl | ⟨g, c, rfl, hb⟩
  · exact ⟨none, 0, 0, rfl, by omega, fun k hk => by omega⟩
  · rcases h.2 with ⟨rfl, rfl⟩ | ⟨g', cap, cur, rfl, h2, h3, h4⟩
    · cases hb
    · simp only [Value.ownBlock, Option.some.injEq] at hb
      subst hb
      refine ⟨some ⟨g', 0, none⟩, n, c, rfl, by omega, fun k hk => ⟨g', 0, rfl, fun j u hu => ?_⟩⟩
      have hj : j < wd κ := by
        rw [← mkc_length hκ m]; exact (List.getElem?_eq_some_iff.1 hu).1
      have hlt : k * wd κ + j < n' * wd κ := by
        have := Nat.mul_le_mul_right (wd κ) (show k + 1 ≤ n' by omega)
        rw [Nat.succ_mul] at this; omega
      rw [Nat.zero_add, h.cellAt _ hlt, marks_at hκ (by omega) hj]; exact hu

/-- What lies apart from what holds the lists. -/
def Clr (hb : Nat) (R : List Value) (x : Value) : Prop := x.ownBlock ≠ some hb ∧ ∀ r ∈ R, Apart x r
/-- The box and its rows. -/
structure RW (B : Nat) (W : World) (hb N : Nat) (R : List Value) : Prop where
  base : B ≤ hb
  len : R.length = 9
  box : Blk W hb 30 (.int .i64 (N : Int) :: R)
  pR : R.Pairwise Apart
  oR : ∀ r ∈ R, r.ownBlock ≠ some hb
  lR : ∀ r ∈ R, ∀ g, r.ownBlock = some g → g < W.heap.size
/-- A row of the box. -/
abbrev row (R : List Value) (j : Nat) : Value := R.getD j nl
theorem row_mem {R : List Value} {j : Nat} (h : j < R.length) : row R j ∈ R := by
  unfold row; rw [List.getD_eq_getElem?_getD, List.getElem?_eq_getElem h]; exact List.getElem_mem h
theorem row_set {R : List Value} {j : Nat} {v : Value} (h : j < R.length) : row (R.set j v) j = v := by
  unfold row; rw [List.getD_eq_getElem?_getD]; simp [h]
theorem row_set_ne {R : List Value} {i j : Nat} {v : Value} (h : i ≠ j) : row (R.set j v) i = row R i := by
  unfold row; rw [List.getD_eq_getElem?_getD, List.getD_eq_getElem?_getD, List.getElem?_set_ne (fun e => h e.symm)]
theorem mem_set {R : List Value} {j : Nat} {v r : Value} (h : r ∈ R.set j v) : r = v ∨ ∃ i, i ≠ j ∧ i < R.length ∧ r = row R i := by
  obtain ⟨i, hi⟩ := List.getElem?_of_mem h
  by_cases e : i = j
  · subst e
    rw [List.getElem?_set] at hi
    simp at hi
    exact .inl hi.2.symm
  · rw [List.getElem?_set_ne (fun e' => e e'.symm)] at hi
    refine .inr ⟨i, e, (List.getElem?_eq_some_iff.1 hi).1, ?_⟩
    unfold row; rw [List.getD_eq_getElem?_getD, hi]; rfl
theorem pw_row {R : List Value} (h : R.Pairwise Apart) {i j : Nat} (hi : i < R.length) (hj : j < R.length) (hij : i ≠ j) : Apart (row R i) (row R j) := by
  have e : ∀ k (hk : k < R.length), row R k = R[k] := fun k hk => by unfold row; rw [List.getD_eq_getElem?_getD, List.getElem?_eq_getElem hk]; rfl
  rw [e i hi, e j hj]
  rcases Nat.lt_or_gt_of_ne hij with c | c
  · exact List.pairwise_iff_getElem.1 h i j hi hj c
  · exact (List.pairwise_iff_getElem.1 h j i hj hi c).symm
theorem pw_set {R : List Value} (h : R.Pairwise Apart) {j : Nat} {v : Value} (hv : ∀ i, i ≠ j → i < R.length → Apart (row R i) v) : (R.set j v).Pairwise Apart := by
  rw [List.pairwise_iff_getElem]
  intro a b ha hb hab
  rw [List.length_set] at ha hb
  have e : ∀ k (hk : k < R.length), R[k] = row R k := fun k hk => by unfold row; rw [List.getD_eq_getElem?_getD, List.getElem?_eq_getElem hk]; rfl
  rw [List.getElem_set, List.getElem_set]
  by_cases h1 : j = a
  · rw [if_pos h1, if_neg (by omega)]
    rw [e b hb]; exact (hv b (by omega) hb).symm
  · rw [if_neg h1]
    by_cases h2 : j = b
    · rw [if_pos h2, e a ha]; exact hv a (by omega) ha
    · rw [if_neg h2]; exact List.pairwise_iff_getElem.1 h a b ha hb hab
section
variable {B : Nat} {W W' w1 w2 : World} {hb N : Nat} {R : List Value}
theorem RW.later (h : RW B W hb N R) (k : Below W.heap.size W W') : RW B W' hb N R :=
  { h with box := h.box.later k, lR := fun r hr g hg => Nat.lt_of_lt_of_le (h.lR r hr g hg) k.size }
theorem RW.cell (h : RW B W hb N R) {j : Nat} (hj : j < 9) : W.cell? ⟨hb, j + 1, none⟩ = some (row R j) := by
  have hl := h.len
  have := h.box.cell (k := j + 1) (by simp; omega)
  rw [this]
  simp [row, List.getD_eq_getElem?_getD, hl, hj]
theorem RW.cellN (h : RW B W hb N R) : W.cell? ⟨hb, 0, none⟩ = some (.int .i64 (N : Int)) := h.box.cell (k := 0) (by simp)
theorem RW.sz (h : RW B W hb N R) : B ≤ W.heap.size := by have := h.base; have := h.box.lt; omega
/-- A list in a new block lies apart from the rows. -/
theorem RW.fresh (h : RW B W hb N R) {x : Value} (hx : ∀ g, x.ownBlock = some g → W.heap.size ≤ g) : Clr hb R x :=
  ⟨fun e => by have := hx _ e; have := h.box.lt; omega, fun r hr g h1 h2 => by have := hx g h1; have := h.lR r hr g h2; omega⟩
/-- What an append to a row, and its store into the box, leave as it was. -/
structure Stepped (B : Nat) (w1 W' : World) (hb N : Nat) (R : List Value) (j : Nat) (v' : Value) : Prop where
  rw' : RW B W' hb N (R.set j v')
  fr : Fr w1 W' [(row R j).ownBlock, some hb]
  free : ∀ x, Clr hb R x → Free x [(row R j).ownBlock, some hb]
  clr : ∀ x, Clr hb R x → (∀ g, x.ownBlock = some g → g < w1.heap.size) → Clr hb (R.set j v') x
  rows : ∀ i, i ≠ j → i < 9 → Free (row R i) [(row R j).ownBlock, some hb]
  blw : Below B w1 W'
theorem RW.step (h : RW B w1 hb N R) {j : Nat} (hj : j < 9) {o : Obj} {v' : Value} (hg : (w1.alloc o).grownBy w2 (row R j).ownBlock) (hl : Lies (w1.alloc o) w2 (row R j) v') (hv : ∀ g, v'.ownBlock = some g → g < w2.heap.size) (hB : ∀ k, (row R j).ownBlock = some k → B ≤ k) :
    Stepped B w1 (w2.setCell ⟨hb, j + 1, none⟩ v') hb N R j v' := by
  have hlen := h.len
  have z1 : w1.heap.size ≤ (w1.alloc o).heap.size := by rw [World.size_alloc]; omega
  have z2 := hg.size
  have hbl := h.box.lt
  have hsz := h.sz
  have hm : row R j ∈ R := row_mem (by omega)
  have F12 : Fr w1 w2 [(row R j).ownBlock] := (Fr.alloc w1 o).trans (Fr.of_grown hg)
  have F13 : Fr w1 (w2.setCell ⟨hb, j + 1, none⟩ v') [(row R j).ownBlock, some hb] := F12.trans (Fr.set w2 hb (j + 1) v')
  have lie : ∀ x, Apart x (row R j) → (∀ g, x.ownBlock = some g → g < w1.heap.size) → Apart x v' := fun x hx hlt => hx.lies (fun g hg' => by have := hlt g hg'; omega) hl
  refine ⟨⟨h.base, by rw [List.length_set]; exact hlen, ?_, ?_, ?_, ?_⟩, F13, ?_, ?_, ?_, ?_⟩
  · have b1 := Blk.fr h.box F12 (fun r hr => by simp at hr; subst hr; exact fun e => h.oR _ hm e.symm)
    have b2 := Blk.set b1 (j + 1) v'
    rwa [List.set_cons_succ] at b2
  · exact pw_set h.pR fun i hi hi2 => lie _ (pw_row h.pR hi2 (by omega) hi) (h.lR _ (row_mem hi2))
  · intro r hr
    rcases mem_set hr with rfl | ⟨i, hi, hi2, rfl⟩
    · exact off_lies (h.oR _ hm) (by omega) hl
    · exact h.oR _ (row_mem hi2)
  · intro r hr g hg'
    have := F13.1
    rcases mem_set hr with rfl | ⟨i, hi, hi2, rfl⟩
    · have := hv g hg'; simpa using this
    · have := h.lR _ (row_mem hi2) g hg'; omega
  · exact fun x hx => free_cons (free_of_apart (hx.2 _ hm)) (free_of_off hx.1)
  · intro x hx hlt
    refine ⟨hx.1, fun r hr => ?_⟩
    rcases mem_set hr with rfl | ⟨i, hi, hi2, rfl⟩
    · exact lie x (hx.2 _ hm) hlt
    · exact hx.2 _ (row_mem hi2)
  · exact fun i hi hi9 => free_cons (free_of_apart (pw_row h.pR (by omega) (by omega) hi)) (free_of_off (h.oR _ (row_mem (by omega))))
  · exact (((Below.refl B w1).alloc hsz _).grown hg (by omega) hB).setCell (p := ⟨hb, j + 1, none⟩) h.base _
/-- Another block has grown, that is clear of all rows. -/
theorem RW.other (h : RW B w1 hb N R) {bs : List (Option Nat)} (hf : Fr w1 w2 bs) (hc : ∀ r ∈ bs, r ≠ some hb) : RW B w2 hb N R :=
  { h with
    box := Blk.fr h.box hf (fun r hr e => hc r hr e.symm)
    lR := fun r hr g hg => Nat.lt_of_lt_of_le (h.lR r hr g hg) hf.1 }
end
end Go.Proofs.Ytepklbboejnecaa

/- What is held, of all three kinds: the lists that wait, the lists that are marked. -/
namespace Go.Proofs.Ytepklbboejnecaa
open Go.RowKit Go.Shelf Sedge
attribute [local go_sem ↓] Go.wp_at_zero Go.wp_at_succ

/-- A list that waits: where it lies, where its copy lies; how long it is, its cells. -/
structure It where
  v : Value
  u : Value
  n : Nat
  xs : List Value
/-- Hits, as cells. -/
def HV (l : List (Int × Int)) : List Value := l.flatMap fun p => [.int .i64 p.1, .int .i64 p.2]
theorem HV_append (a b : List (Int × Int)) : HV (a ++ b) = HV a ++ HV b := by simp [HV]
theorem HV_at : ∀ (l : List (Int × Int)) (i : Nat) (h : i < l.length), (HV l)[i * 2]? = some (.int .i64 l[i].1) ∧ (HV l)[i * 2 + 1]? = some (.int .i64 l[i].2)
  | e :: l, 0, _ => ⟨rfl, rfl⟩
  | e :: l, i + 1, h => by
    have ih := HV_at l i (by simpa using h)
    rw [show (i + 1) * 2 = i * 2 + 2 by omega]
    exact ih
/-- A list's cells are numbers, hits, factors. -/
def Good (κ : Nat) (t : It) : Prop := match κ with
  | 0 => ∃ L : List Nat, t.xs = IV L ∧ t.n = L.length
  | 1 => ∃ l : List (Int × Int), t.xs = HV l ∧ t.n = l.length
  | _ => ∃ l : List (Int × Int × Nat), t.xs = FV l ∧ t.n = l.length
def upd {α : Type} (f : Nat → α) (k : Nat) (a : α) : Nat → α := fun i => if i = k then a else f i
theorem upd_same {α : Type} (f : Nat → α) (k : Nat) (a : α) : upd f k a k = a := by simp [upd]
theorem upd_other {α : Type} (f : Nat → α) {k i : Nat} (a : α) (h : i ≠ k) : upd f k a i = f i := by simp [upd, h]

/-- What is held, whole. -/
structure HI (B : Nat) (W : World) (hb N : Nat) (R : List Value) (E : Nat → List (Value × Int)) (T : Nat → List It) : Prop where
  rw' : RW B W hb N R
  rI : ∀ κ, κ < 3 → W.ownsRow B (hdT κ) 2 (row R κ) (E κ).length (cellsE (E κ))
  rT : ∀ κ, κ < 3 → W.ownsRow B (slT κ) 1 (row R (3 + 2 * κ)) (T κ).length ((T κ).map (·.v))
  rR : ∀ κ, κ < 3 → W.ownsRow B (slT κ) 1 (row R (4 + 2 * κ)) (T κ).length ((T κ).map (·.u))
  own : ∀ κ, κ < 3 → ∀ t ∈ T κ, W.ownsRow B (elT κ) (wd κ) t.v t.n t.xs ∧ W.ownsRow B (elT κ) (wd κ) t.u t.n t.xs
  good : ∀ κ, κ < 3 → ∀ t ∈ T κ, Good κ t
  small : ∀ κ, κ < 3 → ∀ t ∈ T κ, t.n ≤ 100000
  rd : ∀ κ, κ < 3 → ∀ e ∈ E κ, RdK κ W e.1 e.2
  lt : ∀ κ, κ < 3 → ∀ e ∈ E κ, ∀ g, e.1.ownBlock = some g → g < W.heap.size
  cT : ∀ κ, κ < 3 → ∀ t ∈ T κ, Clr hb R t.v ∧ Clr hb R t.u
  cE : ∀ κ, κ < 3 → ∀ e ∈ E κ, Clr hb R e.1
  pw : ∀ κ, κ < 3 → (T κ).Pairwise fun t t' => Apart t.v t'.v
  pc : ∀ κ κ', κ < 3 → κ' < 3 → κ ≠ κ' → ∀ t ∈ T κ, ∀ t' ∈ T κ', Apart t.v t'.v
  te : ∀ κ κ', κ < 3 → κ' < 3 → ∀ t ∈ T κ, ∀ e ∈ E κ', Apart e.1 t.v
  nN : N ≤ 100000000
  nE : ∀ κ, κ < 3 → (E κ).length ≤ 4 * N
  nT : ∀ κ, κ < 3 → (T κ).length ≤ 100

theorem mem_set_self {R : List Value} {j : Nat} {v : Value} (h : j < R.length) : v ∈ R.set j v := List.mem_of_getElem? (i := j) (by simp [h])
section
variable {B : Nat} {W W' w1 w2 w4 : World} {hb N : Nat} {R : List Value} {E : Nat → List (Value × Int)} {T : Nat → List It}
theorem HI.later (h : HI B W hb N R E T) (k : Below W.heap.size W W') : HI B W' hb N R E T :=
  { h with
    rw' := h.rw'.later k
    rI := fun κ hκ => own_fr (h.rI κ hκ) (Fr.of_below k) (free_nil _)
    rT := fun κ hκ => own_fr (h.rT κ hκ) (Fr.of_below k) (free_nil _)
    rR := fun κ hκ => own_fr (h.rR κ hκ) (Fr.of_below k) (free_nil _)
    own := fun κ hκ t ht => ⟨own_fr (h.own κ hκ t ht).1 (Fr.of_below k) (free_nil _), own_fr (h.own κ hκ t ht).2 (Fr.of_below k) (free_nil _)⟩
    rd := fun κ hκ e he => (h.rd κ hκ e he).fr (Fr.of_below k) (free_nil _)
    lt := fun κ hκ e he g hg => Nat.lt_of_lt_of_le (h.lt κ hκ e he g hg) k.size }
/-- A list in a new block lies apart from all that is held. -/
theorem HI.fresh (h : HI B W hb N R E T) {x : Value} (hx : ∀ g, x.ownBlock = some g → W.heap.size ≤ g) : Clr hb R x ∧ (∀ κ, κ < 3 → ∀ t ∈ T κ, Apart t.v x) ∧ (∀ κ, κ < 3 → ∀ e ∈ E κ, Apart e.1 x) :=
  ⟨h.rw'.fresh hx, fun κ hκ t ht g h1 h2 => by have := hx g h2; have := ((h.own κ hκ t ht).1.lt g h1).2; omega, fun κ hκ e he g h1 h2 => by have := hx g h2; have := h.lt κ hκ e he g h1; omega⟩
/-- One list more waits: what is held behind it. -/
theorem HI.more {κ : Nat} (hκ : κ < 3) {vT2 vR4 v u : Value} {n : Nat} {xs : List Value} {o1 o2 : Obj}
    (H : HI B w1 hb N R E T) (hgd : Good κ ⟨v, u, n, xs⟩) (hn : n ≤ 100000) (hT : (T κ).length < 100)
    (ov : w1.ownsRow B (elT κ) (wd κ) v n xs) (ou : w1.ownsRow B (elT κ) (wd κ) u n xs) (cv : Clr hb R v) (cu : Clr hb R u) (hct : ∀ κ', κ' < 3 → ∀ t ∈ T κ', Apart t.v v) (hce : ∀ κ', κ' < 3 → ∀ e ∈ E κ', Apart e.1 v)
    (hT2 : w2.ownsRow B (slT κ) 1 vT2 ((T κ).length + 1) ((T κ).map (·.v) ++ [v])) (hg2 : (w1.alloc o1).grownBy w2 (row R (3 + 2 * κ)).ownBlock) (hl2 : Lies (w1.alloc o1) w2 (row R (3 + 2 * κ)) vT2)
    (hR4 : w4.ownsRow B (slT κ) 1 vR4 ((T κ).length + 1) ((T κ).map (·.u) ++ [u])) (hg4 : ((w2.setCell ⟨hb, 3 + 2 * κ + 1, none⟩ vT2).alloc o2).grownBy w4 (row R (4 + 2 * κ)).ownBlock) (hl4 : Lies ((w2.setCell ⟨hb, 3 + 2 * κ + 1, none⟩ vT2).alloc o2) w4 (row R (4 + 2 * κ)) vR4) :
    HI B (w4.setCell ⟨hb, 4 + 2 * κ + 1, none⟩ vR4) hb N ((R.set (3 + 2 * κ) vT2).set (4 + 2 * κ) vR4) E (upd T κ (T κ ++ [⟨v, u, n, xs⟩])) ∧ Below B w1 (w4.setCell ⟨hb, 4 + 2 * κ + 1, none⟩ vR4) := by
  have hlen := H.rw'.len
  have S1 := H.rw'.step (j := 3 + 2 * κ) (by omega) hg2 hl2 (own_lt hT2) (fun k hk => ((H.rT κ hκ).lt k hk).1)
  have e4 : row (R.set (3 + 2 * κ) vT2) (4 + 2 * κ) = row R (4 + 2 * κ) := row_set_ne (by omega)
  have S2 := S1.rw'.step (j := 4 + 2 * κ) (by omega) (o := o2) (v' := vR4) (w2 := w4) (by rw [e4]; exact hg4) (by rw [e4]; exact hl4) (own_lt hR4) (fun k hk => by rw [e4] at hk; exact ((H.rR κ hκ).lt k hk).1)
  have F := S1.fr.trans S2.fr
  have z1 := S1.fr.1
  have z2 := S2.fr.1
  have c1 : ∀ x, Clr hb R x → (∀ g, x.ownBlock = some g → g < w1.heap.size) → Clr hb ((R.set (3 + 2 * κ) vT2).set (4 + 2 * κ) vR4) x := fun x hx hl => S2.clr x (S1.clr x hx hl) (fun g hg => Nat.lt_of_lt_of_le (hl g hg) z1)
  have fr : ∀ x, Clr hb R x → (∀ g, x.ownBlock = some g → g < w1.heap.size) → Free x ([(row R (3 + 2 * κ)).ownBlock, some hb] ++ [(row (R.set (3 + 2 * κ) vT2) (4 + 2 * κ)).ownBlock, some hb]) := fun x hx hl g hg r hr => by
    rcases List.mem_append.1 hr with hr | hr
    · exact S1.free x hx g hg r hr
    · exact S2.free x (S1.clr x hx hl) g hg r hr
  have rows : ∀ i, i < 9 → i ≠ 3 + 2 * κ → i ≠ 4 + 2 * κ → row ((R.set (3 + 2 * κ) vT2).set (4 + 2 * κ) vR4) i = row R i ∧ Free (row R i) ([(row R (3 + 2 * κ)).ownBlock, some hb] ++ [(row (R.set (3 + 2 * κ) vT2) (4 + 2 * κ)).ownBlock, some hb]) := fun i hi h1 h2 => by
    have e1 : row (R.set (3 + 2 * κ) vT2) i = row R i := row_set_ne h1
    refine ⟨by rw [row_set_ne h2, e1], fun g hg r hr => ?_⟩
    rcases List.mem_append.1 hr with hr | hr
    · exact S1.rows i h1 hi g hg r hr
    · exact S2.rows i h2 hi g (by rw [e1]; exact hg) r hr
  have oldT : ∀ κ' t, κ' < 3 → t ∈ upd T κ (T κ ++ [⟨v, u, n, xs⟩]) κ' → t ∈ T κ' ∨ (κ' = κ ∧ t = ⟨v, u, n, xs⟩) := fun κ' t _ ht => by
    by_cases e : κ' = κ
    · subst e
      rw [upd_same] at ht
      rcases List.mem_append.1 ht with ht | ht
      · exact .inl ht
      · simp at ht; exact .inr ⟨rfl, ht⟩
    · rw [upd_other _ _ e] at ht; exact .inl ht
  refine ⟨⟨S2.rw', ?_, ?_, ?_, ?_, ?_, ?_, ?_, ?_, ?_, ?_, ?_, ?_, ?_, H.nN, H.nE, ?_⟩, S1.blw.trans S2.blw⟩
  · intro κ' hκ'
    obtain ⟨e, f⟩ := rows κ' (by omega) (by omega) (by omega)
    rw [e]; exact own_fr (H.rI κ' hκ') F f
  · intro κ' hκ'
    by_cases e : κ' = κ
    · subst e
      rw [upd_same, row_set_ne (by omega), row_set (by omega), List.length_append, List.map_append]
      exact own_fr (own_fr hT2 (Fr.set w2 hb (3 + 2 * κ' + 1) vT2) (free_of_off (S1.rw'.oR _ (mem_set_self (by omega))))) S2.fr (by
        have := S2.rows (3 + 2 * κ') (by omega) (by omega)
        rwa [row_set (by omega)] at this)
    · obtain ⟨e', f⟩ := rows (3 + 2 * κ') (by omega) (by omega) (by omega)
      rw [e', upd_other _ _ e]; exact own_fr (H.rT κ' hκ') F f
  · intro κ' hκ'
    by_cases e : κ' = κ
    · subst e
      rw [upd_same, row_set (by rw [List.length_set]; omega), List.length_append, List.map_append]
      refine own_fr hR4 (Fr.set w4 hb (4 + 2 * κ' + 1) vR4) (free_of_off (S2.rw'.oR _ (mem_set_self (by rw [List.length_set]; omega))))
    · obtain ⟨e', f⟩ := rows (4 + 2 * κ') (by omega) (by omega) (by omega)
      rw [e', upd_other _ _ e]; exact own_fr (H.rR κ' hκ') F f
  · intro κ' hκ' t ht
    rcases oldT κ' t hκ' ht with ht | ⟨rfl, rfl⟩
    · have o := H.own κ' hκ' t ht
      have c := H.cT κ' hκ' t ht
      exact ⟨own_fr o.1 F (fr _ c.1 (own_lt o.1)), own_fr o.2 F (fr _ c.2 (own_lt o.2))⟩
    · exact ⟨own_fr ov F (fr _ cv (own_lt ov)), own_fr ou F (fr _ cu (own_lt ou))⟩
  · intro κ' hκ' t ht
    rcases oldT κ' t hκ' ht with ht | ⟨rfl, rfl⟩
    · exact H.good κ' hκ' t ht
    · exact hgd
  · intro κ' hκ' t ht
    rcases oldT κ' t hκ' ht with ht | ⟨rfl, rfl⟩
    · exact H.small κ' hκ' t ht
    · exact hn
  · exact fun κ' hκ' e he => (H.rd κ' hκ' e he).fr F (fr _ (H.cE κ' hκ' e he) (H.lt κ' hκ' e he))
  · exact fun κ' hκ' e he g hg => Nat.lt_of_lt_of_le (H.lt κ' hκ' e he g hg) F.1
  · intro κ' hκ' t ht
    rcases oldT κ' t hκ' ht with ht | ⟨rfl, rfl⟩
    · have o := H.own κ' hκ' t ht
      have c := H.cT κ' hκ' t ht
      exact ⟨c1 _ c.1 (own_lt o.1), c1 _ c.2 (own_lt o.2)⟩
    · exact ⟨c1 _ cv (own_lt ov), c1 _ cu (own_lt ou)⟩
  · exact fun κ' hκ' e he => c1 _ (H.cE κ' hκ' e he) (H.lt κ' hκ' e he)
  · intro κ' hκ'
    by_cases e : κ' = κ
    · subst e
      rw [upd_same, List.pairwise_append]
      refine ⟨H.pw κ' hκ', by simp, fun t ht t' ht' => ?_⟩
      simp at ht'; subst ht'; exact hct κ' hκ' t ht
    · rw [upd_other _ _ e]; exact H.pw κ' hκ'
  · intro κ1 κ2 h1 h2 hne t ht t' ht'
    rcases oldT κ1 t h1 ht with hx | ⟨rfl, rfl⟩
    · rcases oldT κ2 t' h2 ht' with hy | ⟨rfl, rfl⟩
      · exact H.pc κ1 κ2 h1 h2 hne t hx t' hy
      · exact hct κ1 h1 t hx
    · rcases oldT κ2 t' h2 ht' with hy | ⟨rfl, rfl⟩
      · exact (hct κ2 h2 t' hy).symm
      · exact absurd rfl hne
  · intro κ1 κ2 h1 h2 t ht e he
    rcases oldT κ1 t h1 ht with ht | ⟨rfl, rfl⟩
    · exact H.te κ1 κ2 h1 h2 t ht e he
    · exact hce κ2 h2 e he
  · intro κ' hκ'
    by_cases e : κ' = κ
    · subst e; rw [upd_same, List.length_append]; simp; omega
    · rw [upd_other _ _ e]; exact H.nT κ' hκ'
end
end Go.Proofs.Ytepklbboejnecaa

/- What is held, of all three kinds: a list is marked. -/
namespace Go.Proofs.Ytepklbboejnecaa
open Go.RowKit Go.Shelf Sedge
attribute [local go_sem ↓] Go.wp_at_zero Go.wp_at_succ

/-- 'append(h, Held..{..})'. -/
theorem wpList_push_hd (t e : TypeId) (hu : Try.prog.underlying t = some (.slice e)) (hinf : (Try.prog.info? e).map (fun i => (i.zero, i.size, i.bytes)) = some (some (.agg #[.slice none 0 0, .int .i64 0]), 2, 32))
    (w : World) {ops : Array Oper} {rest : List Oper} {o : Oper} {a : Act} {Q : Exit → Act → World → Prop} (hg : o.guard = none)
    (s x : Operand) (hop : o.op = Op.call { callee := Callee.builtin Builtin.append, args := #[s, x], argTypes := #[t, t] })
    (base : Nat) (v : Value) (E : List (Value × Int)) (hs : a.eval s = v) (hown : w.ownsRow base e 2 v E.length (cellsE E))
    (b : Nat) (y : Value) (m : Int) (hx : a.eval x = .slice (some ⟨b, 0, none⟩) 1 1) (hc : Blk w b e [y, .int .i64 m]) (h1 : y.oneCell' = true) (hn : E.length ≤ 1000000000) (hbase : base ≤ w.heap.size)
    (hK : ∀ v' w', w'.ownsRow base e 2 v' (E ++ [(y, m)]).length (cellsE (E ++ [(y, m)])) → w.grownBy w' v.ownBlock → Lies w w' v v' → wpList Try.prog ops Q rest (a.put o.dst v') w') :
    wpList Try.prog ops Q (o :: rest) a w := by
  obtain ⟨i0, hi, hz0, hz1, hz2⟩ := info_parts hinf
  refine wpList_push_at w hg s x t hop e i0 (.agg #[.slice none 0 0, .int .i64 0]) 2 32 hu hi hz0 hz1 hz2 rfl (by decide) base v E.length (cellsE E) hs hown ⟨b, 0, none⟩ 1 [y, .int .i64 m] hx rfl ?_ ?_ ?_ ?_ hbase ?_
  · obtain ⟨q0, q1⟩ := cells2 hc
    intro j u hj
    match j, hj with
    | 0, hj => simp at hj; subst hj; simpa [Addr.add] using q0
    | 1, hj => simp at hj; subst hj; simpa [Addr.add] using q1
  · intro u hu
    simp at hu
    rcases hu with rfl | rfl
    · exact h1
    · rfl
  · unfold maxLen; omega
  · omega
  · intro v' w' q1 q2 q3
    refine hK v' w' ?_ q2 q3
    rw [cellsE_append, List.length_append]
    exact q1
/-- 'append(l, m)'. -/
theorem wpList_push_mk {κ : Nat} (hκ : κ < 3) (t : TypeId) (z : Value) (bytes : Nat) (hb24 : bytes ≤ 24) (hu : Try.prog.underlying t = some (.slice (elT κ))) (hinf : (Try.prog.info? (elT κ)).map (fun i => (i.zero, i.size, i.bytes)) = some (some z, wd κ, bytes)) (hzc : z.cells.size = wd κ)
    (w : World) {ops : Array Oper} {rest : List Oper} {o : Oper} {a : Act} {Q : Exit → Act → World → Prop} (hg : o.guard = none)
    (s x : Operand) (hop : o.op = Op.call { callee := Callee.builtin Builtin.append, args := #[s, x], argTypes := #[t, t] })
    (base : Nat) (v : Value) (n : Nat) (m : Int) (hs : a.eval s = v) (hown : w.ownsRow base (elT κ) (wd κ) v n (marks κ n m))
    (b : Nat) (T : TypeId) (hx : a.eval x = .slice (some ⟨b, 0, none⟩) 1 1) (hc : Blk w b T (mkc κ m)) (hn : n ≤ 5864062014720) (hbase : base ≤ w.heap.size)
    (hK : ∀ v' w', w'.ownsRow base (elT κ) (wd κ) v' (n + 1) (marks κ (n + 1) m) → w.grownBy w' v.ownBlock → Lies w w' v v' → wpList Try.prog ops Q rest (a.put o.dst v') w') :
    wpList Try.prog ops Q (o :: rest) a w := by
  obtain ⟨i0, hi, hz0, hz1, hz2⟩ := info_parts hinf
  refine wpList_push_at w hg s x t hop (elT κ) i0 z (wd κ) bytes hu hi hz0 hz1 hz2 hzc (by unfold wd; omega) base v n _ hs hown ⟨b, 0, none⟩ 1 (mkc κ m) hx (by rw [mkc_length hκ]; omega) ?_ (mkc_one m) ?_ ?_ hbase ?_
  · intro j u hj
    have := hc.cell (k := j) (List.getElem?_eq_some_iff.1 hj).1
    have ea : (⟨b, 0, none⟩ : Addr).add j = ⟨b, j, none⟩ := by unfold Addr.add; split <;> simp_all
    rw [ea, this]
    exact congrArg some (List.getElem?_eq_some_iff.1 hj).2
  · unfold maxLen; omega
  · have := Nat.mul_le_mul_left (n + 1) hb24; omega
  · intro v' w' q1 q2 q3
    refine hK v' w' ?_ q2 q3
    rw [marks_succ]
    exact q1

/-- A list's marking, so far: g: the list with so many marks behind it; G: what was kept of it. -/
structure MKK (κ B : Nat) (W0 : World) (hb N : Nat) (R0 : List Value) (v0 : Value) (n0 : Nat) (m : Int) (E : List (Value × Int)) (W : World) (R : List Value) (g : Value) (G : List (Value × Int)) (t : Nat) : Prop where
  rw' : RW B W hb N R
  only : ∀ i, i ≠ κ → row R i = row R0 i
  rI : W.ownsRow B (hdT κ) 2 (row R κ) (E ++ G).length (cellsE (E ++ G))
  rg : W.ownsRow B (elT κ) (wd κ) g (n0 + t) (marks κ (n0 + t) m)
  rd : ∀ e ∈ E ++ G, RdK κ W e.1 e.2
  lt : ∀ e ∈ E ++ G, ∀ k, e.1.ownBlock = some k → k < W.heap.size
  gG : ∀ e ∈ G, e.2 = m ∧ (e.1 = nl ∨ ∃ k n' c, e.1 = .slice (some ⟨k, 0, none⟩) n' c ∧ n' ≤ n0 + t)
  gl : ∀ e ∈ G, ∀ k, e.1.ownBlock = some k → v0.ownBlock = some k ∨ W0.heap.size ≤ k
  g0 : ∀ k, g.ownBlock = some k → v0.ownBlock = some k ∨ W0.heap.size ≤ k
  vIl : ∀ k, (row R κ).ownBlock = some k → (row R0 κ).ownBlock = some k ∨ W0.heap.size ≤ k
  cg : Clr hb R g
  cE : ∀ e ∈ E ++ G, Clr hb R e.1
  aEg : ∀ e ∈ E, Apart e.1 g
  fr : Fr W0 W [some hb, (row R0 κ).ownBlock, v0.ownBlock]
  blw : Below B W0 W
  nG : G.length ≤ t + 1
  nn : n0 ≤ 5864062014700

section
variable {κ B : Nat} {W0 : World} {hb N : Nat} {R0 R : List Value} {v0 : Value} {n0 : Nat} {m : Int} {E : List (Value × Int)} {W w2 : World} {g : Value} {G : List (Value × Int)} {t : Nat}
/-- What is kept of a list is one more. -/
theorem MKK.kept (hκ : κ < 3) (h : MKK κ B W0 hb N R0 v0 n0 m E W R g G t) {o : Obj} {vI' : Value} (ht : t ≤ 10) (hG : G.length ≤ t)
    (q1 : w2.ownsRow B (hdT κ) 2 vI' (E ++ G ++ [(g, m)]).length (cellsE (E ++ G ++ [(g, m)]))) (q2 : (W.alloc o).grownBy w2 (row R κ).ownBlock) (q3 : Lies (W.alloc o) w2 (row R κ) vI') :
    MKK κ B W0 hb N R0 v0 n0 m E (w2.setCell ⟨hb, κ + 1, none⟩ vI') (R.set κ vI') g (G ++ [(g, m)]) t := by
  have hlen := h.rw'.len
  have S := h.rw'.step (j := κ) (by omega) q2 q3 (own_lt q1) (fun k hk => (h.rI.lt k hk).1)
  have z0 := h.fr.1
  have z1 : W.heap.size ≤ (W.alloc o).heap.size := by rw [World.size_alloc]; omega
  have agl := own_lt h.rg
  have hkap : row (R.set κ vI') κ = vI' := row_set (by omega)
  refine ⟨S.rw', ?_, ?_, ?_, ?_, ?_, ?_, ?_, h.g0, ?_, ?_, ?_, h.aEg, ?_, h.blw.trans S.blw, by simp; omega, h.nn⟩
  · intro i hi; rw [row_set_ne hi]; exact h.only i hi
  · rw [hkap, ← List.append_assoc]
    exact own_fr q1 (Fr.set w2 hb (κ + 1) vI') (free_of_off (S.rw'.oR _ (mem_set_self (by omega))))
  · exact own_fr h.rg S.fr (S.free _ h.cg)
  · intro e he
    rw [← List.append_assoc] at he
    rcases List.mem_append.1 he with he | he
    · exact (h.rd e he).fr S.fr (S.free _ (h.cE e he))
    · simp at he; subst he
      refine (rdK_own hκ h.rg (Nat.le_refl _) (by have := h.nn; omega) ?_).fr S.fr (S.free _ h.cg)
      rcases own_form h.rg with ⟨q, _⟩ | ⟨k, c, q⟩
      · exact .inl q
      · exact .inr ⟨k, c, q, by rw [q]; rfl⟩
  · intro e he k hk
    rw [← List.append_assoc] at he
    have := S.fr.1
    rcases List.mem_append.1 he with he | he
    · have := h.lt e he k hk; omega
    · simp at he; subst he; have := agl k hk; omega
  · intro e he
    rcases List.mem_append.1 he with he | he
    · exact h.gG e he
    · simp at he; subst he
      refine ⟨rfl, ?_⟩
      rcases own_form h.rg with ⟨q, _⟩ | ⟨k, c, q⟩
      · exact .inl q
      · exact .inr ⟨k, _, c, q, Nat.le_refl _⟩
  · intro e he
    rcases List.mem_append.1 he with he | he
    · exact h.gl e he
    · simp at he; subst he; exact h.g0
  · intro k hk
    rw [hkap] at hk
    rcases q3 with q3 | q3
    · rw [q3] at hk; exact h.vIl k hk
    · right; have := q3.1 k hk; omega
  · exact S.clr _ h.cg agl
  · intro e he
    rw [← List.append_assoc] at he
    rcases List.mem_append.1 he with he | he
    · exact S.clr _ (h.cE e he) (h.lt e he)
    · simp at he; subst he; exact S.clr _ h.cg agl
  · refine ⟨Nat.le_trans h.fr.1 S.fr.1, fun k hk hr => (S.fr.2 k (by omega) fun r hr' e => ?_).trans (h.fr.2 k hk hr)⟩
    simp only [List.mem_cons, List.not_mem_nil, or_false] at hr'
    rcases hr' with rfl | rfl
    · rcases h.vIl k e.symm with q | q
      · exact hr _ (by simp) q.symm
      · omega
    · exact hr _ (by simp) e
/-- One mark more behind the list. -/
theorem MKK.grow (hκ : κ < 3) (h : MKK κ B W0 hb N R0 v0 n0 m E W R g G t) {o : Obj} {g' : Value} (ht : t ≤ 10)
    (q1 : w2.ownsRow B (elT κ) (wd κ) g' (n0 + t + 1) (marks κ (n0 + t + 1) m)) (q2 : (W.alloc o).grownBy w2 g.ownBlock) (q3 : Lies (W.alloc o) w2 g g') :
    MKK κ B W0 hb N R0 v0 n0 m E w2 R g' G (t + 1) := by
  have hlen := h.rw'.len
  have z0 := h.fr.1
  have z1 : W.heap.size ≤ (W.alloc o).heap.size := by rw [World.size_alloc]; omega
  have z2 := q2.size
  have hbl := h.rw'.box.lt
  have hsz := h.rw'.sz
  have F2 : Fr W w2 [g.ownBlock] := (Fr.alloc W o).trans (Fr.of_grown q2)
  have hkm : row R κ ∈ R := row_mem (by omega)
  have hGm : ∀ e ∈ G, RdK κ w2 e.1 e.2 := fun e he => by
    have hm := h.gG e he
    have he' : e ∈ E ++ G := List.mem_append.2 (Or.inr he)
    rcases q3 with q3 | q3
    · rcases hm.2 with hn | ⟨k, n', c, hk, hn'⟩
      · rw [hm.1, hn]; exact rdK_own hκ (n := 0) q1 (by omega) (by have := h.nn; omega) (.inl rfl)
      · by_cases hb' : g.ownBlock = some k
        · rw [hm.1]
          exact rdK_own hκ (n := n') q1 (by omega) (by have := h.nn; omega) (.inr ⟨k, c, hk, by rw [q3]; exact hb'⟩)
        · refine (h.rd e he').fr F2 fun j hj r hr er => ?_
          rw [hk] at hj
          simp only [Value.ownBlock, Option.some.injEq] at hj
          simp at hr; subst hr; subst hj; exact hb' er.symm
    · exact (h.rd e he').fr ((Fr.alloc W o).trans (Fr.of_grown q3.2)) (fun j hj r hr er => by simp at hr; subst hr; cases er)
  have lieg : ∀ x, Apart x g → (∀ k, x.ownBlock = some k → k < W.heap.size) → Apart x g' := fun x hx hl => hx.lies (fun k hk => by have := hl k hk; omega) q3
  have hcg' : Clr hb R g' := ⟨off_lies h.cg.1 (by omega) q3, fun r hr => (lieg r (h.cg.2 r hr).symm (h.rw'.lR r hr)).symm⟩
  refine ⟨h.rw'.other F2 (fun r hr => by simp at hr; subst hr; exact h.cg.1), h.only, ?_, q1, ?_, ?_, ?_, h.gl, ?_, h.vIl, hcg', h.cE, ?_, ?_, ?_, by have := h.nG; omega, h.nn⟩
  · exact own_fr h.rI F2 (free_of_apart (h.cg.2 _ hkm).symm)
  · intro e he
    rcases List.mem_append.1 he with he | he
    · exact (h.rd e (List.mem_append.2 (Or.inl he))).fr F2 (free_of_apart (h.aEg e he))
    · exact hGm e he
  · exact fun e he k hk => by have := h.lt e he k hk; omega
  · intro e he
    refine ⟨(h.gG e he).1, ?_⟩
    rcases (h.gG e he).2 with q | ⟨k, n', c, hk, hn'⟩
    · exact .inl q
    · exact .inr ⟨k, n', c, hk, by omega⟩
  · intro k hk
    rcases q3 with q3 | q3
    · rw [q3] at hk; exact h.g0 k hk
    · right; have := q3.1 k hk; omega
  · exact fun e he => lieg _ (h.aEg e he) (h.lt e (List.mem_append.2 (Or.inl he)))
  · refine ⟨Nat.le_trans h.fr.1 F2.1, fun k hk hr => (F2.2 k (by omega) fun r hr' e => ?_).trans (h.fr.2 k hk hr)⟩
    simp at hr'
    subst hr'
    rcases h.g0 k e.symm with q | q
    · exact hr _ (by simp) q.symm
    · omega
  · exact (h.blw.alloc (by omega) _).grown q2 (by omega) (fun k hk => (h.rg.lt k hk).1)
end

/-- What marking asks. -/
structure MP (κ B : Nat) (W : World) (hb N : Nat) (R : List Value) (E : List (Value × Int)) (v : Value) (n : Nat) (xs : List Value) : Prop where
  rw' : RW B W hb N R
  rI : W.ownsRow B (hdT κ) 2 (row R κ) E.length (cellsE E)
  rv : W.ownsRow B (elT κ) (wd κ) v n xs
  rd : ∀ e ∈ E, RdK κ W e.1 e.2
  lt : ∀ e ∈ E, ∀ k, e.1.ownBlock = some k → k < W.heap.size
  cv : Clr hb R v
  cE : ∀ e ∈ E, Clr hb R e.1
  aEv : ∀ e ∈ E, Apart e.1 v
  nE : E.length ≤ 900000000
  nn : n ≤ 5864062014700
  nN : N ≤ 100000000
theorem RW.setN {B : Nat} {W : World} {hb N : Nat} {R : List Value} (h : RW B W hb N R) : RW B (W.setCell ⟨hb, 0, none⟩ (.int .i64 ((N : Int) + 1))) hb (N + 1) R :=
  { h with
    box := Blk.set h.box 0 (.int .i64 ((N : Int) + 1))
    lR := fun r hr g hg => by have := h.lR r hr g hg; simpa using this }
/-- All its places are marked: the marking's start. -/
theorem MP.start {κ B : Nat} {W wr : World} {hb N : Nat} {R : List Value} {v : Value} {E : List (Value × Int)} {n : Nat} {xs : List Value} {m : Int} (hκ : κ < 3) (h : MP κ B W hb N R E v n xs)
    (q1 : wr.ownsRow B (elT κ) (wd κ) v n (marks κ n m)) (q2 : Fr (W.setCell ⟨hb, 0, none⟩ (.int .i64 ((N : Int) + 1))) wr [v.ownBlock]) (q3 : Below B (W.setCell ⟨hb, 0, none⟩ (.int .i64 ((N : Int) + 1))) wr) :
    MKK κ B W hb (N + 1) R v n m E wr R v [] 0 := by
  have hlen := h.rw'.len
  have F : Fr W wr [some hb, v.ownBlock] := (Fr.set W hb 0 _).trans q2
  have fE : ∀ e ∈ E, Free e.1 [some hb, v.ownBlock] := fun e he => free_cons (free_of_off (h.cE e he).1) (free_of_apart (h.aEv e he))
  have hkm : row R κ ∈ R := row_mem (by omega)
  refine ⟨h.rw'.setN.other q2 (fun r hr => by simp at hr; subst hr; exact h.cv.1), fun _ _ => rfl, ?_, q1, ?_, ?_, (fun e he => by cases he), (fun e he => by cases he), fun k hk => .inl hk, fun k hk => .inl hk, h.cv, ?_, h.aEv, ?_, ?_, by simp, h.nn⟩
  · rw [List.append_nil]
    exact own_fr h.rI F (free_cons (free_of_off (h.rw'.oR _ hkm)) (free_of_apart (h.cv.2 _ hkm).symm))
  · rw [List.append_nil]; exact fun e he => (h.rd e he).fr F (fE e he)
  · rw [List.append_nil]; exact fun e he k hk => by have := h.lt e he k hk; have := F.1; omega
  · rw [List.append_nil]; exact h.cE
  · exact F.sub fun r hr => by simp at hr ⊢; rcases hr with hr | hr <;> simp [hr]
  · exact ((Below.refl B W).setCell (p := ⟨hb, 0, none⟩) h.rw'.base _).trans q3
end Go.Proofs.Ytepklbboejnecaa

/- What is held, of all three kinds: factors are marked: the walk. -/
namespace Go.Proofs.Ytepklbboejnecaa
open Go.RowKit Go.Shelf Sedge
attribute [local go_sem ↓] Go.wp_at_zero Go.wp_at_succ

theorem Try.infoHF : (Try.prog.info? 122).map (fun i => (i.zero, i.size, i.bytes)) = some (some (.agg #[.slice none 0 0, .int .i64 0]), 2, 32) := by kernel_rfl

theorem marks_cut {κ : Nat} (hκ : κ < 3) {k n : Nat} {m : Int} {xs : List Value} (hx : xs.length = n * wd κ) (hk : k < n) : (marks κ k m ++ xs.drop (k * wd κ)).length = n * wd κ := by
  have := Nat.mul_le_mul_right (wd κ) (show k ≤ n by omega)
  rw [List.length_append, marks_length hκ, List.length_drop, hx]; omega
/-- The k-th factor of a list is marked. -/
theorem set_marks3 {k n : Nat} {m : Int} {xs : List Value} (hx : xs.length = n * 3) (hk : k < n) : (((marks 2 k m ++ xs.drop (k * 3)).set (k * 3) (.int .i64 m)).set (k * 3 + 1) (.int .i64 m)).set (k * 3 + 2) (.int .u8 0) = marks 2 (k + 1) m ++ xs.drop ((k + 1) * 3) := by
  have hl : (marks 2 k m).length = k * 3 := marks_length (by omega) k m
  have h0 : k * 3 < xs.length := by omega
  have h1 : k * 3 + 1 < xs.length := by omega
  have h2 : k * 3 + 1 + 1 < xs.length := by omega
  rw [marks_succ, List.append_assoc, List.set_append_right _ _ (by omega), List.set_append_right _ _ (by omega), List.set_append_right _ _ (by omega), hl]
  rw [show k * 3 - k * 3 = 0 by omega, show k * 3 + 1 - k * 3 = 1 by omega, show k * 3 + 2 - k * 3 = 2 by omega, List.drop_eq_getElem_cons h0, List.drop_eq_getElem_cons h1, List.drop_eq_getElem_cons h2, show (k + 1) * 3 = k * 3 + 1 + 1 + 1 by omega]
  rfl

set_option maxRecDepth 20000 in
set_option maxHeartbeats 4000000 in
/-- 'markFactors'. -/
theorem markFactors_any (B : Nat) (W : World) (hb N : Nat) (R : List Value) (E : List (Value × Int)) (v : Value) (n : Nat) (xs : List Value) (H : MP 2 B W hb N R E v n xs) :
    Calls Try.prog 45 #[.pointer (some ⟨hb, 0, none⟩), v] W fun e w' => e = .returned (.tuple #[]) ∧ ∃ m R' g G, MKK 2 B W hb (N + 1) R v n m E w' R' g G 3 ∧ G.length ≤ 4 := by
  obtain ⟨ad, cv, rfl⟩ := own_val H.rv
  have HH : Hid _ := H
  have c0 : W.cell? ⟨hb, 0, none⟩ = some (.int .i64 (N : Int)) := H.rw'.cellN
  have f0 := Blk.free H.rw'.box 0
  have hsz : B ≤ W.heap.size := H.rw'.sz
  have nN := H.nN
  have nn := H.nn
  have nE0 := H.nE
  have v1 : IntKind.i64.wrap ((N : Int) + 1) = (N : Int) + 1 := by rw [IntKind.wrap_i64]; omega
  have v2 : IntKind.i64.wrap (-1000 - ((N : Int) + 1)) = -1000 - ((N : Int) + 1) := by rw [IntKind.wrap_i64]; omega
  clear H
  go_enter Try.func45, Try.ntmps45
  go_wp2_with fail
  clear v2
  generalize (-1000 : Int) - ((N : Int) + 1) = m
  go_loopw [5] (fun i wr => ∃ k : Nat, k ≤ n ∧ i = .int .i64 k ∧ wr.ownsRow B 64 3 (.slice ad n cv) n (marks 2 k m ++ xs.drop (k * 3)) ∧ Fr (W.setCell ⟨hb, 0, none⟩ (.int .i64 ((N : Int) + 1))) wr [Value.ownBlock (.slice ad n cv)] ∧ Below B (W.setCell ⟨hb, 0, none⟩ (.int .i64 ((N : Int) + 1))) wr) (fun i _ => n - (intOf i).toNat)
  case atStart =>
    refine ⟨0, Nat.zero_le _, rfl, ?_, ⟨Nat.le_refl _, fun _ _ _ => rfl⟩, Below.refl _ _⟩
    exact own_fr (MP.rv HH.out) (Fr.set W hb 0 _) (free_of_off (MP.cv HH.out).1)
  case round =>
    clear c0 f0 v1
    obtain ⟨k, hk, rfl, hown, hF, hB⟩ := hrel
    have hxl : xs.length = n * 3 := (MP.rv HH.out).1
    have HXL : Hid _ := hxl
    clear hxl
    by_cases hlt : k < n
    · rcases own_form hown with ⟨_, h0⟩ | ⟨g, c', e1⟩
      · omega
      simp only [Value.slice.injEq, true_and] at e1
      obtain ⟨rfl, rfl⟩ := e1
      have hml : (marks 2 k m ++ xs.drop (k * 3)).length = n * 3 := marks_cut (κ := 2) (by omega) HXL.out hlt
      obtain ⟨z0, d0⟩ : ∃ z, wr.cell? ⟨g, k * 3, none⟩ = some z := ⟨_, (hown.cellAt (k * 3) (by omega)).trans (List.getElem?_eq_getElem (by omega))⟩
      obtain ⟨z1, d1⟩ : ∃ z, wr.cell? ⟨g, k * 3 + 1, none⟩ = some z := ⟨_, (hown.cellAt (k * 3 + 1) (by omega)).trans (List.getElem?_eq_getElem (by omega))⟩
      obtain ⟨z2, d2⟩ : ∃ z, wr.cell? ⟨g, k * 3 + 2, none⟩ = some z := ⟨_, (hown.cellAt (k * 3 + 2) (by omega)).trans (List.getElem?_eq_getElem (by omega))⟩
      have hf0 := hown.frozenAt (k * 3)
      have hf1 := hown.frozenAt (k * 3 + 1)
      have hf2 := hown.frozenAt (k * 3 + 2)
      have s1 := hown.stored (k * 3) (.int .i64 m)
      have s2 := s1.1.stored (k * 3 + 1) (.int .i64 m)
      have s3 := s2.1.stored (k * 3 + 2) (.int .u8 0)
      rw [set_marks3 HXL.out hlt] at s3
      have HS1 : Hid _ := s1.2
      have HS2 : Hid _ := s2.2
      have HS3 : Hid _ := s3
      have HF : Hid _ := hF
      have i1 : (k : Int) < (n : Int) := by omega
      have i2 : (0 : Int) ≤ (k : Int) := by omega
      have hg := (hown.lt g rfl).1
      clear s1 s2 s3 hF hown hml
      go_wp2
      go_roundw
      case rel =>
        refine ⟨k + 1, by omega, by go_num, HS3.out.1, ?_, ((hB.setCell (p := ⟨g, k * 3, none⟩) hg _).setCell (p := ⟨g, k * 3 + 1, none⟩) hg _).setCell (p := ⟨g, k * 3 + 2, none⟩) hg _⟩
        exact (((Fr.trans HF.out (Fr.of_grown HS1.out)).trans (Fr.of_grown HS2.out)).trans (Fr.of_grown HS3.out.2)).sub (fun r hr => by simpa [Value.ownBlock] using hr)
      case measure => simp [intOf]; omega
    · have hkn : k = n := by omega
      subst hkn
      rw [List.drop_of_length_le (Nat.le_of_eq HXL.out), List.append_nil] at hown
      have hMK := MP.start (by omega) HH.out hown hF hB
      have i1 : ¬ (k : Int) < (k : Int) := by omega
      clear hown hF hB
      go_wp2_with fail
      go_loopw [6, 7] (fun g i wr => ∃ (t : Nat) (R' : List Value) (G : List (Value × Int)), t ≤ 3 ∧ i = .int .i64 t ∧ MKK 2 B W hb (N + 1) R (.slice ad k cv) k m E wr R' g G t ∧ G.length ≤ t) (fun _ i _ => 3 - (intOf i).toNat)
      case atStart => exact ⟨0, R, [], by omega, rfl, hMK, by simp⟩
      case round =>
        clear hMK
        obtain ⟨t, R', G, ht, rfl, hM, hG⟩ := hrel
        obtain ⟨adg, cg, rfl⟩ := own_val hM.rg
        obtain ⟨adI, nI, cI, eI⟩ := own_val3 hM.rI
        have c1 := hM.rw'.cell (j := 2) (by omega)
        rw [eI] at c1
        have HM : Hid _ := hM
        have HEI : Hid _ := eI
        have hszr : B ≤ wr.heap.size := hM.rw'.sz
        have hEG : (E ++ G).length ≤ 1000000000 := by rw [List.length_append]; omega
        have HRI : Hid (wr.ownsRow B 122 2 (.slice adI nI cI) (E ++ G).length (cellsE (E ++ G))) := by have := hM.rI; rw [eI] at this; exact this
        clear hM eI
        by_cases ht3 : t < 3
        · have i3 : (t : Int) < 3 := by omega
          go_wp2_with (first
            | (at_builtin; refine wpList_push_hd 25 122 Try.underlying25 Try.infoHF _ rfl (.tmp 42) (.tmp 46) rfl B (.slice adI nI cI) (E ++ G) rfl (World.ownsRow.alloc HRI.out _) wr.heap.size (.slice adg (k + t) cg) m rfl (Blk.new wr _ _ rfl) rfl hEG (by simp; omega) ?_; intro vI2 w2 q1 q2 q3; obtain ⟨adI2, nI2, cI2, rfl⟩ := own_val3 q1; rw [← HEI.out] at q2 q3; have HK : Hid _ := MKK.kept (by omega) HM.out (by omega) hG q1 q2 q3; have hbx2 := Blk.fr (Blk.alloc (RW.box (MKK.rw' HM.out)) _) (Fr.of_grown q2) (fun r hr => by simp at hr; subst hr; exact fun e => RW.oR (MKK.rw' HM.out) _ (row_mem (by have := RW.len (MKK.rw' HM.out); omega)) e.symm); have d1 := hbx2.cell (k := 3) (by simp [RW.len (MKK.rw' HM.out)]); have f1 := Blk.free hbx2 3; have HCN : Hid (Blk ((w2.setCell ⟨hb, 3, none⟩ (.slice adI2 nI2 cI2)).alloc (Obj.cells #[.int .i64 m, .int .i64 m, .int .u8 0] 64)) w2.heap.size 64 (mkc 2 m)) := Blk.new _ _ _ (by simp); have hs2 := q2.size; simp only [World.size_alloc] at hs2; clear q1 q2 q3 hbx2 c1)
            | (at_builtin; refine wpList_push_mk (κ := 2) (by omega) 61 (.agg #[.int .i64 0, .int .i64 0, .int .u8 0]) 24 (by omega) Try.underlying61 Try.infoFac rfl _ rfl (.tmp 50) (.tmp 54) rfl B (.slice adg (k + t) cg) (k + t) m rfl ((MKK.rg HK.out).alloc _) w2.heap.size 64 rfl HCN.out (by omega) (by simp; omega) ?_; intro g2 w3 r1 r2 r3; have HM3 : Hid _ := MKK.grow (by omega) HK.out (by omega) r1 r2 r3; clear r1 r2 r3)
            | fail)
          go_roundw
          case rel => exact ⟨t + 1, _, _, by omega, by go_num, HM3.out, by rw [List.length_append]; simp; omega⟩
          case measure => simp [intOf]; omega
        · have ht' : t = 3 := by omega
          subst ht'
          have i3 : ¬ ((3 : Nat) : Int) < 3 := by omega
          go_wp2_with (first
            | (at_builtin; refine wpList_push_hd 25 122 Try.underlying25 Try.infoHF _ rfl (.tmp 60) (.tmp 64) rfl B (.slice adI nI cI) (E ++ G) rfl (World.ownsRow.alloc HRI.out _) wr.heap.size (.slice adg (k + 3) cg) m rfl (Blk.new wr _ _ rfl) rfl hEG (by simp; omega) ?_; intro vI2 w2 q1 q2 q3; obtain ⟨adI2, nI2, cI2, rfl⟩ := own_val3 q1; rw [← HEI.out] at q2 q3; have HK : Hid _ := MKK.kept (by omega) HM.out (by omega) hG q1 q2 q3; have hbx2 := Blk.fr (Blk.alloc (RW.box (MKK.rw' HM.out)) _) (Fr.of_grown q2) (fun r hr => by simp at hr; subst hr; exact fun e => RW.oR (MKK.rw' HM.out) _ (row_mem (by have := RW.len (MKK.rw' HM.out); omega)) e.symm); have d1 := hbx2.cell (k := 3) (by simp [RW.len (MKK.rw' HM.out)]); have f1 := Blk.free hbx2 3; have HCN : Hid (Blk ((w2.setCell ⟨hb, 3, none⟩ (.slice adI2 nI2 cI2)).alloc (Obj.cells #[.int .i64 m, .int .i64 m, .int .u8 0] 64)) w2.heap.size 64 (mkc 2 m)) := Blk.new _ _ _ (by simp); have hs2 := q2.size; simp only [World.size_alloc] at hs2; clear q1 q2 q3 hbx2 c1)
            | fail)
          go_end0
          exact ⟨rfl, m, _, _, _, HK.out, by rw [List.length_append]; simp; omega⟩
end Go.Proofs.Ytepklbboejnecaa

/- What is held, of all three kinds: hits and ints are marked: the walks. -/
namespace Go.Proofs.Ytepklbboejnecaa
open Go.RowKit Go.Shelf Sedge
attribute [local go_sem ↓] Go.wp_at_zero Go.wp_at_succ

theorem Try.infoHH : (Try.prog.info? 120).map (fun i => (i.zero, i.size, i.bytes)) = some (some (.agg #[.slice none 0 0, .int .i64 0]), 2, 32) := by kernel_rfl
theorem Try.infoHit : (Try.prog.info? 116).map (fun i => (i.zero, i.size, i.bytes)) = some (some (.agg #[.int .i64 0, .int .i64 0]), 2, 16) := by kernel_rfl
/-- The k-th hit of a list is marked. -/
theorem set_marks2 {k n : Nat} {m : Int} {xs : List Value} (hx : xs.length = n * 2) (hk : k < n) : ((marks 1 k m ++ xs.drop (k * 2)).set (k * 2) (.int .i64 m)).set (k * 2 + 1) (.int .i64 m) = marks 1 (k + 1) m ++ xs.drop ((k + 1) * 2) := by
  have hl : (marks 1 k m).length = k * 2 := marks_length (by omega) k m
  have h0 : k * 2 < xs.length := by omega
  have h1 : k * 2 + 1 < xs.length := by omega
  rw [marks_succ, List.append_assoc, List.set_append_right _ _ (by omega), List.set_append_right _ _ (by omega), hl]
  rw [show k * 2 - k * 2 = 0 by omega, show k * 2 + 1 - k * 2 = 1 by omega, List.drop_eq_getElem_cons h0, List.drop_eq_getElem_cons h1, show (k + 1) * 2 = k * 2 + 1 + 1 by omega]
  rfl
/-- The k-th number of a list is marked. -/
theorem set_marks1 {k n : Nat} {m : Int} {xs : List Value} (hx : xs.length = n * 1) (hk : k < n) : (marks 0 k m ++ xs.drop (k * 1)).set k (.int .i64 m) = marks 0 (k + 1) m ++ xs.drop ((k + 1) * 1) := by
  have hl : (marks 0 k m).length = k * 1 := marks_length (by omega) k m
  rw [Nat.mul_one] at hl
  rw [Nat.mul_one, Nat.mul_one, marks_succ, List.append_assoc, List.set_append_right _ _ (by omega), hl]
  rw [show k - k = 0 by omega, List.drop_eq_getElem_cons (show k < xs.length by omega)]
  rfl

set_option maxRecDepth 20000 in
set_option maxHeartbeats 4000000 in
/-- 'markHits'. -/
theorem markHits_any (B : Nat) (W : World) (hb N : Nat) (R : List Value) (E : List (Value × Int)) (v : Value) (n : Nat) (xs : List Value) (H : MP 1 B W hb N R E v n xs) :
    Calls Try.prog 44 #[.pointer (some ⟨hb, 0, none⟩), v] W fun e w' => e = .returned (.tuple #[]) ∧ ∃ m R' g G, MKK 1 B W hb (N + 1) R v n m E w' R' g G 3 ∧ G.length ≤ 4 := by
  obtain ⟨ad, cv, rfl⟩ := own_val H.rv
  have HH : Hid _ := H
  have c0 : W.cell? ⟨hb, 0, none⟩ = some (.int .i64 (N : Int)) := H.rw'.cellN
  have f0 := Blk.free H.rw'.box 0
  have hsz : B ≤ W.heap.size := H.rw'.sz
  have nN := H.nN
  have nn := H.nn
  have nE0 := H.nE
  have v1 : IntKind.i64.wrap ((N : Int) + 1) = (N : Int) + 1 := by rw [IntKind.wrap_i64]; omega
  have v2 : IntKind.i64.wrap (-1000 - ((N : Int) + 1)) = -1000 - ((N : Int) + 1) := by rw [IntKind.wrap_i64]; omega
  clear H
  go_enter Try.func44, Try.ntmps44
  go_wp2_with fail
  clear v2
  generalize (-1000 : Int) - ((N : Int) + 1) = m
  go_loopw [5] (fun i wr => ∃ k : Nat, k ≤ n ∧ i = .int .i64 k ∧ wr.ownsRow B 116 2 (.slice ad n cv) n (marks 1 k m ++ xs.drop (k * 2)) ∧ Fr (W.setCell ⟨hb, 0, none⟩ (.int .i64 ((N : Int) + 1))) wr [Value.ownBlock (.slice ad n cv)] ∧ Below B (W.setCell ⟨hb, 0, none⟩ (.int .i64 ((N : Int) + 1))) wr) (fun i _ => n - (intOf i).toNat)
  case atStart =>
    refine ⟨0, Nat.zero_le _, rfl, ?_, ⟨Nat.le_refl _, fun _ _ _ => rfl⟩, Below.refl _ _⟩
    exact own_fr (MP.rv HH.out) (Fr.set W hb 0 _) (free_of_off (MP.cv HH.out).1)
  case round =>
    clear c0 f0 v1
    obtain ⟨k, hk, rfl, hown, hF, hB⟩ := hrel
    have hxl : xs.length = n * 2 := (MP.rv HH.out).1
    have HXL : Hid _ := hxl
    clear hxl
    by_cases hlt : k < n
    · rcases own_form hown with ⟨_, h0⟩ | ⟨g, c', e1⟩
      · omega
      simp only [Value.slice.injEq, true_and] at e1
      obtain ⟨rfl, rfl⟩ := e1
      have hml : (marks 1 k m ++ xs.drop (k * 2)).length = n * 2 := marks_cut (κ := 1) (by omega) HXL.out hlt
      obtain ⟨z0, d0⟩ : ∃ z, wr.cell? ⟨g, k * 2, none⟩ = some z := ⟨_, (hown.cellAt (k * 2) (by omega)).trans (List.getElem?_eq_getElem (by omega))⟩
      obtain ⟨z1, d1⟩ : ∃ z, wr.cell? ⟨g, k * 2 + 1, none⟩ = some z := ⟨_, (hown.cellAt (k * 2 + 1) (by omega)).trans (List.getElem?_eq_getElem (by omega))⟩
      have hf0 := hown.frozenAt (k * 2)
      have hf1 := hown.frozenAt (k * 2 + 1)
      have s1 := hown.stored (k * 2) (.int .i64 m)
      have s3 := s1.1.stored (k * 2 + 1) (.int .i64 m)
      rw [set_marks2 HXL.out hlt] at s3
      have HS1 : Hid _ := s1.2
      have HS3 : Hid _ := s3
      have HF : Hid _ := hF
      have i1 : (k : Int) < (n : Int) := by omega
      have i2 : (0 : Int) ≤ (k : Int) := by omega
      have hg := (hown.lt g rfl).1
      clear s1 s3 hF hown hml
      go_wp2
      go_roundw
      case rel =>
        refine ⟨k + 1, by omega, by go_num, HS3.out.1, ?_, (hB.setCell (p := ⟨g, k * 2, none⟩) hg _).setCell (p := ⟨g, k * 2 + 1, none⟩) hg _⟩
        exact ((Fr.trans HF.out (Fr.of_grown HS1.out)).trans (Fr.of_grown HS3.out.2)).sub (fun r hr => by simpa [Value.ownBlock] using hr)
      case measure => simp [intOf]; omega
    · have hkn : k = n := by omega
      subst hkn
      rw [List.drop_of_length_le (Nat.le_of_eq HXL.out), List.append_nil] at hown
      have hMK := MP.start (by omega) HH.out hown hF hB
      have i1 : ¬ (k : Int) < (k : Int) := by omega
      clear hown hF hB
      go_wp2_with fail
      go_loopw [6, 7] (fun g i wr => ∃ (t : Nat) (R' : List Value) (G : List (Value × Int)), t ≤ 3 ∧ i = .int .i64 t ∧ MKK 1 B W hb (N + 1) R (.slice ad k cv) k m E wr R' g G t ∧ G.length ≤ t) (fun _ i _ => 3 - (intOf i).toNat)
      case atStart => exact ⟨0, R, [], by omega, rfl, hMK, by simp⟩
      case round =>
        clear hMK
        obtain ⟨t, R', G, ht, rfl, hM, hG⟩ := hrel
        obtain ⟨adg, cg, rfl⟩ := own_val hM.rg
        obtain ⟨adI, nI, cI, eI⟩ := own_val3 hM.rI
        have c1 := hM.rw'.cell (j := 1) (by omega)
        rw [eI] at c1
        have HM : Hid _ := hM
        have HEI : Hid _ := eI
        have hszr : B ≤ wr.heap.size := hM.rw'.sz
        have hEG : (E ++ G).length ≤ 1000000000 := by rw [List.length_append]; omega
        have HRI : Hid (wr.ownsRow B 120 2 (.slice adI nI cI) (E ++ G).length (cellsE (E ++ G))) := by have := hM.rI; rw [eI] at this; exact this
        clear hM eI
        by_cases ht3 : t < 3
        · have i3 : (t : Int) < 3 := by omega
          go_wp2_with (first
            | (at_builtin; refine wpList_push_hd 24 120 Try.underlying24 Try.infoHH _ rfl (.tmp 42) (.tmp 46) rfl B (.slice adI nI cI) (E ++ G) rfl (World.ownsRow.alloc HRI.out _) wr.heap.size (.slice adg (k + t) cg) m rfl (Blk.new wr _ _ rfl) rfl hEG (by simp; omega) ?_; intro vI2 w2 q1 q2 q3; obtain ⟨adI2, nI2, cI2, rfl⟩ := own_val3 q1; rw [← HEI.out] at q2 q3; have HK : Hid _ := MKK.kept (by omega) HM.out (by omega) hG q1 q2 q3; have hbx2 := Blk.fr (Blk.alloc (RW.box (MKK.rw' HM.out)) _) (Fr.of_grown q2) (fun r hr => by simp at hr; subst hr; exact fun e => RW.oR (MKK.rw' HM.out) _ (row_mem (by have := RW.len (MKK.rw' HM.out); omega)) e.symm); have d1 := hbx2.cell (k := 2) (by simp [RW.len (MKK.rw' HM.out)]); have f1 := Blk.free hbx2 2; have HCN : Hid (Blk ((w2.setCell ⟨hb, 2, none⟩ (.slice adI2 nI2 cI2)).alloc (Obj.cells #[.int .i64 m, .int .i64 m] 116)) w2.heap.size 116 (mkc 1 m)) := Blk.new _ _ _ (by simp); have hs2 := q2.size; simp only [World.size_alloc] at hs2; clear q1 q2 q3 hbx2 c1)
            | (at_builtin; refine wpList_push_mk (κ := 1) (by omega) 78 (.agg #[.int .i64 0, .int .i64 0]) 16 (by omega) Try.underlying78 Try.infoHit rfl _ rfl (.tmp 50) (.tmp 54) rfl B (.slice adg (k + t) cg) (k + t) m rfl ((MKK.rg HK.out).alloc _) w2.heap.size 116 rfl HCN.out (by omega) (by simp; omega) ?_; intro g2 w3 r1 r2 r3; have HM3 : Hid _ := MKK.grow (by omega) HK.out (by omega) r1 r2 r3; clear r1 r2 r3)
            | fail)
          go_roundw
          case rel => exact ⟨t + 1, _, _, by omega, by go_num, HM3.out, by rw [List.length_append]; simp; omega⟩
          case measure => simp [intOf]; omega
        · have ht' : t = 3 := by omega
          subst ht'
          have i3 : ¬ ((3 : Nat) : Int) < 3 := by omega
          go_wp2_with (first
            | (at_builtin; refine wpList_push_hd 24 120 Try.underlying24 Try.infoHH _ rfl (.tmp 60) (.tmp 64) rfl B (.slice adI nI cI) (E ++ G) rfl (World.ownsRow.alloc HRI.out _) wr.heap.size (.slice adg (k + 3) cg) m rfl (Blk.new wr _ _ rfl) rfl hEG (by simp; omega) ?_; intro vI2 w2 q1 q2 q3; obtain ⟨adI2, nI2, cI2, rfl⟩ := own_val3 q1; rw [← HEI.out] at q2 q3; have HK : Hid _ := MKK.kept (by omega) HM.out (by omega) hG q1 q2 q3; have hbx2 := Blk.fr (Blk.alloc (RW.box (MKK.rw' HM.out)) _) (Fr.of_grown q2) (fun r hr => by simp at hr; subst hr; exact fun e => RW.oR (MKK.rw' HM.out) _ (row_mem (by have := RW.len (MKK.rw' HM.out); omega)) e.symm); have d1 := hbx2.cell (k := 2) (by simp [RW.len (MKK.rw' HM.out)]); have f1 := Blk.free hbx2 2; have HCN : Hid (Blk ((w2.setCell ⟨hb, 2, none⟩ (.slice adI2 nI2 cI2)).alloc (Obj.cells #[.int .i64 m, .int .i64 m] 116)) w2.heap.size 116 (mkc 1 m)) := Blk.new _ _ _ (by simp); have hs2 := q2.size; simp only [World.size_alloc] at hs2; clear q1 q2 q3 hbx2 c1)
            | fail)
          go_end0
          exact ⟨rfl, m, _, _, _, HK.out, by rw [List.length_append]; simp; omega⟩
set_option maxRecDepth 20000 in
set_option maxHeartbeats 4000000 in
/-- 'markInts'. -/
theorem markIntsK_any (B : Nat) (W : World) (hb N : Nat) (R : List Value) (E : List (Value × Int)) (v : Value) (n : Nat) (xs : List Value) (H : MP 0 B W hb N R E v n xs) :
    Calls Try.prog 43 #[.pointer (some ⟨hb, 0, none⟩), v] W fun e w' => e = .returned (.tuple #[]) ∧ ∃ m R' g G, MKK 0 B W hb (N + 1) R v n m E w' R' g G 3 ∧ G.length ≤ 4 := by
  obtain ⟨ad, cv, rfl⟩ := own_val H.rv
  have HH : Hid _ := H
  have c0 : W.cell? ⟨hb, 0, none⟩ = some (.int .i64 (N : Int)) := H.rw'.cellN
  have f0 := Blk.free H.rw'.box 0
  have hsz : B ≤ W.heap.size := H.rw'.sz
  have nN := H.nN
  have nn := H.nn
  have nE0 := H.nE
  have v1 : IntKind.i64.wrap ((N : Int) + 1) = (N : Int) + 1 := by rw [IntKind.wrap_i64]; omega
  have v2 : IntKind.i64.wrap (-1000 - ((N : Int) + 1)) = -1000 - ((N : Int) + 1) := by rw [IntKind.wrap_i64]; omega
  clear H
  go_enter Try.func43, Try.ntmps43
  go_wp2_with fail
  clear v2
  generalize (-1000 : Int) - ((N : Int) + 1) = m
  go_loopw [5] (fun i wr => ∃ k : Nat, k ≤ n ∧ i = .int .i64 k ∧ wr.ownsRow B 3 1 (.slice ad n cv) n (marks 0 k m ++ xs.drop (k * 1)) ∧ Fr (W.setCell ⟨hb, 0, none⟩ (.int .i64 ((N : Int) + 1))) wr [Value.ownBlock (.slice ad n cv)] ∧ Below B (W.setCell ⟨hb, 0, none⟩ (.int .i64 ((N : Int) + 1))) wr) (fun i _ => n - (intOf i).toNat)
  case atStart =>
    refine ⟨0, Nat.zero_le _, rfl, ?_, ⟨Nat.le_refl _, fun _ _ _ => rfl⟩, Below.refl _ _⟩
    exact own_fr (MP.rv HH.out) (Fr.set W hb 0 _) (free_of_off (MP.cv HH.out).1)
  case round =>
    clear c0 f0 v1
    obtain ⟨k, hk, rfl, hown, hF, hB⟩ := hrel
    have hxl : xs.length = n * 1 := (MP.rv HH.out).1
    have HXL : Hid _ := hxl
    clear hxl
    by_cases hlt : k < n
    · rcases own_form hown with ⟨_, h0⟩ | ⟨g, c', e1⟩
      · omega
      simp only [Value.slice.injEq, true_and] at e1
      obtain ⟨rfl, rfl⟩ := e1
      have hml : (marks 0 k m ++ xs.drop (k * 1)).length = n * 1 := marks_cut (κ := 0) (by omega) HXL.out hlt
      obtain ⟨z0, d0⟩ : ∃ z, wr.cell? ⟨g, k, none⟩ = some z := ⟨_, (hown.cellAt k (by omega)).trans (List.getElem?_eq_getElem (by omega))⟩
      have hf0 := hown.frozenAt k
      have s3 := hown.stored k (.int .i64 m)
      rw [set_marks1 HXL.out hlt] at s3
      have HS3 : Hid _ := s3
      have HF : Hid _ := hF
      have i1 : (k : Int) < (n : Int) := by omega
      have i2 : (0 : Int) ≤ (k : Int) := by omega
      have hg := (hown.lt g rfl).1
      clear s3 hF hown hml
      go_wp2
      go_roundw
      case rel =>
        refine ⟨k + 1, by omega, by go_num, HS3.out.1, ?_, hB.setCell (p := ⟨g, k, none⟩) hg _⟩
        exact (Fr.trans HF.out (Fr.of_grown HS3.out.2)).sub (fun r hr => by simpa [Value.ownBlock] using hr)
      case measure => simp [intOf]; omega
    · have hkn : k = n := by omega
      subst hkn
      rw [List.drop_of_length_le (Nat.le_of_eq HXL.out), List.append_nil] at hown
      have hMK := MP.start (by omega) HH.out hown hF hB
      have i1 : ¬ (k : Int) < (k : Int) := by omega
      clear hown hF hB
      go_wp2_with fail
      go_loopw [6, 7] (fun g i wr => ∃ (t : Nat) (R' : List Value) (G : List (Value × Int)), t ≤ 3 ∧ i = .int .i64 t ∧ MKK 0 B W hb (N + 1) R (.slice ad k cv) k m E wr R' g G t ∧ G.length ≤ t) (fun _ i _ => 3 - (intOf i).toNat)
      case atStart => exact ⟨0, R, [], by omega, rfl, hMK, by simp⟩
      case round =>
        clear hMK
        obtain ⟨t, R', G, ht, rfl, hM, hG⟩ := hrel
        obtain ⟨adg, cg, rfl⟩ := own_val hM.rg
        obtain ⟨adI, nI, cI, eI⟩ := own_val3 hM.rI
        have c1 := hM.rw'.cell (j := 0) (by omega)
        rw [eI] at c1
        have HM : Hid _ := hM
        have HEI : Hid _ := eI
        have hszr : B ≤ wr.heap.size := hM.rw'.sz
        have hEG : (E ++ G).length ≤ 1000000000 := by rw [List.length_append]; omega
        have HRI : Hid (wr.ownsRow B 118 2 (.slice adI nI cI) (E ++ G).length (cellsE (E ++ G))) := by have := hM.rI; rw [eI] at this; exact this
        clear hM eI
        by_cases ht3 : t < 3
        · have i3 : (t : Int) < 3 := by omega
          go_wp2_with (first
            | (at_builtin; refine wpList_push_hd 23 118 Try.underlying23 Try.infoHeld _ rfl (.tmp 40) (.tmp 44) rfl B (.slice adI nI cI) (E ++ G) rfl (World.ownsRow.alloc HRI.out _) wr.heap.size (.slice adg (k + t) cg) m rfl (Blk.new wr _ _ rfl) rfl hEG (by simp; omega) ?_; intro vI2 w2 q1 q2 q3; obtain ⟨adI2, nI2, cI2, rfl⟩ := own_val3 q1; rw [← HEI.out] at q2 q3; have HK : Hid _ := MKK.kept (by omega) HM.out (by omega) hG q1 q2 q3; have hbx2 := Blk.fr (Blk.alloc (RW.box (MKK.rw' HM.out)) _) (Fr.of_grown q2) (fun r hr => by simp at hr; subst hr; exact fun e => RW.oR (MKK.rw' HM.out) _ (row_mem (by have := RW.len (MKK.rw' HM.out); omega)) e.symm); have d1 := hbx2.cell (k := 1) (by simp [RW.len (MKK.rw' HM.out)]); have f1 := Blk.free hbx2 1; have HCN : Hid (Blk ((w2.setCell ⟨hb, 1, none⟩ (.slice adI2 nI2 cI2)).alloc (Obj.cells #[.int .i64 m] 3)) w2.heap.size 3 (mkc 0 m)) := Blk.new _ _ _ (by simp); have hs2 := q2.size; simp only [World.size_alloc] at hs2; clear q1 q2 q3 hbx2 c1)
            | (at_builtin; refine wpList_push_mk (κ := 0) (by omega) 36 (.int .i64 0) 8 (by omega) Try.underlying36 Try.infoInt rfl _ rfl (.tmp 48) (.tmp 50) rfl B (.slice adg (k + t) cg) (k + t) m rfl ((MKK.rg HK.out).alloc _) w2.heap.size 3 rfl HCN.out (by omega) (by simp; omega) ?_; intro g2 w3 r1 r2 r3; have HM3 : Hid _ := MKK.grow (by omega) HK.out (by omega) r1 r2 r3; clear r1 r2 r3)
            | fail)
          go_roundw
          case rel => exact ⟨t + 1, _, _, by omega, by go_num, HM3.out, by rw [List.length_append]; simp; omega⟩
          case measure => simp [intOf]; omega
        · have ht' : t = 3 := by omega
          subst ht'
          have i3 : ¬ ((3 : Nat) : Int) < 3 := by omega
          go_wp2_with (first
            | (at_builtin; refine wpList_push_hd 23 118 Try.underlying23 Try.infoHeld _ rfl (.tmp 56) (.tmp 60) rfl B (.slice adI nI cI) (E ++ G) rfl (World.ownsRow.alloc HRI.out _) wr.heap.size (.slice adg (k + 3) cg) m rfl (Blk.new wr _ _ rfl) rfl hEG (by simp; omega) ?_; intro vI2 w2 q1 q2 q3; obtain ⟨adI2, nI2, cI2, rfl⟩ := own_val3 q1; rw [← HEI.out] at q2 q3; have HK : Hid _ := MKK.kept (by omega) HM.out (by omega) hG q1 q2 q3; have hbx2 := Blk.fr (Blk.alloc (RW.box (MKK.rw' HM.out)) _) (Fr.of_grown q2) (fun r hr => by simp at hr; subst hr; exact fun e => RW.oR (MKK.rw' HM.out) _ (row_mem (by have := RW.len (MKK.rw' HM.out); omega)) e.symm); have d1 := hbx2.cell (k := 1) (by simp [RW.len (MKK.rw' HM.out)]); have f1 := Blk.free hbx2 1; have HCN : Hid (Blk ((w2.setCell ⟨hb, 1, none⟩ (.slice adI2 nI2 cI2)).alloc (Obj.cells #[.int .i64 m] 3)) w2.heap.size 3 (mkc 0 m)) := Blk.new _ _ _ (by simp); have hs2 := q2.size; simp only [World.size_alloc] at hs2; clear q1 q2 q3 hbx2 c1)
            | fail)
          go_end0
          exact ⟨rfl, m, _, _, _, HK.out, by rw [List.length_append]; simp; omega⟩
end Go.Proofs.Ytepklbboejnecaa

/- What is held, of all three kinds: do the lists that wait read as they came. -/
namespace Go.Proofs.Ytepklbboejnecaa
open Go.RowKit Go.Shelf Sedge
attribute [local go_sem ↓] Go.wp_at_zero Go.wp_at_succ

theorem guardH : Try.prog.eqGuardType Try.prog.depth 116 = false := by kernel_rfl
theorem guardF : Try.prog.eqGuardType Try.prog.depth 64 = false := by kernel_rfl
/-- Two hits, two factors, against one another. -/
theorem eqH (a b c d : Int) (w : World) : (Op.equalIn 10000 116 (.agg #[.int .i64 a, .int .i64 b]) (.agg #[.int .i64 c, .int .i64 d])).run Try.prog w = .ok (a == c && b == d) w := by
  have hS : Try.prog.underlying 116 = some (.struct (Try.prog.fieldsOf 116)) := by kernel_rfl
  have hp : Try.prog.stoodInHeld 116 = false := by kernel_rfl
  rw [show (10000 : Nat) = 9999 + 1 from rfl, run_equalIn_agg w 9999 116 _ _ hS hp]
  simp only [Program.fieldsOf, Try.underlying116]
  go_simp
  by_cases h1 : a = c <;> by_cases h2 : b = d <;> simp [h1, h2]
theorem eqF (a b c a' b' c' : Int) (w : World) : (Op.equalIn 10000 64 (.agg #[.int .i64 a, .int .i64 b, .int .u8 c]) (.agg #[.int .i64 a', .int .i64 b', .int .u8 c'])).run Try.prog w = .ok (a == a' && b == b' && c == c') w := by
  have hS : Try.prog.underlying 64 = some (.struct (Try.prog.fieldsOf 64)) := by kernel_rfl
  have hp : Try.prog.stoodInHeld 64 = false := by kernel_rfl
  rw [show (10000 : Nat) = 9999 + 1 from rfl, run_equalIn_agg w 9999 64 _ _ hS hp]
  simp only [Program.fieldsOf, Try.underlying64]
  go_simp
  by_cases h1 : a = a' <;> by_cases h2 : b = b' <;> by_cases h3 : c = c' <;> simp [h1, h2, h3]
attribute [local go_sem ↓] eqH eqF
attribute [local go_sem] guardH guardF

set_option maxRecDepth 20000 in
set_option maxHeartbeats 8000000 in
/-- 'waits'. -/
theorem waitsK_any (B : Nat) (W : World) (hb N : Nat) (R : List Value) (E : Nat → List (Value × Int)) (T : Nat → List It) (H : HI B W hb N R E T) :
    Calls Try.prog 42 #[.pointer (some ⟨hb, 0, none⟩)] W fun e w' => e = .returned (.bool true) ∧ Below W.heap.size W w' := by
  obtain ⟨a3, c3, e3⟩ : ∃ a c, row R 3 = .slice a (T 0).length c := own_val (H.rT 0 (by omega))
  obtain ⟨a4, c4, e4⟩ : ∃ a c, row R 4 = .slice a (T 0).length c := own_val (H.rR 0 (by omega))
  obtain ⟨a5, c5, e5⟩ : ∃ a c, row R 5 = .slice a (T 1).length c := own_val (H.rT 1 (by omega))
  obtain ⟨a6, c6, e6⟩ : ∃ a c, row R 6 = .slice a (T 1).length c := own_val (H.rR 1 (by omega))
  obtain ⟨a7, c7, e7⟩ : ∃ a c, row R 7 = .slice a (T 2).length c := own_val (H.rT 2 (by omega))
  obtain ⟨a8, c8, e8⟩ : ∃ a c, row R 8 = .slice a (T 2).length c := own_val (H.rR 2 (by omega))
  have HH : Hid _ := H
  have HE3 : Hid _ := e3
  have HE4 : Hid _ := e4
  have HE5 : Hid _ := e5
  have HE6 : Hid _ := e6
  have HE7 : Hid _ := e7
  have HE8 : Hid _ := e8
  have hlt := H.rw'.box.lt
  have n0 := H.nT 0 (by omega)
  have n1 := H.nT 1 (by omega)
  have n2 := H.nT 2 (by omega)
  have L0 : ∃ l, l = (T 0).length := ⟨_, rfl⟩
  clear H e3 e4 e5 e6 e7 e8 L0
  go_enter Try.func42, Try.ntmps42
  go_wp2_with fail
  go_loopw [3, 4] (fun ok i wr => ∃ k : Nat, k ≤ (T 0).length ∧ ok = .bool true ∧ i = .int .i64 k ∧ Below W.heap.size W wr) (fun _ i _ => (T 0).length - (intOf i).toNat)
  case atStart => exact ⟨0, Nat.zero_le _, rfl, rfl, Below.refl _ _⟩
  case round =>
    obtain ⟨k, hk, rfl, rfl, hB⟩ := hrel
    have H1 : HI B wr hb N R E T := HI.later HH.out hB
    have b4 := H1.rw'.cell (j := 3) (by omega)
    rw [HE3.out] at b4
    by_cases hlt2 : k < (T 0).length
    · obtain ⟨gT, cT', eT, hx1, d1⟩ := own_at (H1.rT 0 (by omega)) hlt2
      obtain ⟨gR, cR', eR, hx2, d2⟩ := own_at (H1.rR 0 (by omega)) hlt2
      have eT := HE3.out.symm.trans eT
      have eR := HE4.out.symm.trans eR
      rw [List.getElem_map] at d1 d2
      simp only [Value.slice.injEq, true_and] at eT eR
      obtain ⟨rfl, rfl⟩ := eT
      obtain ⟨rfl, rfl⟩ := eR
      have b5 := H1.rw'.cell (j := 4) (by omega)
      rw [HE4.out] at b5
      obtain ⟨o1, o2⟩ := H1.own 0 (by omega) (T 0)[k] (List.getElem_mem hlt2)
      have hsm := H1.small 0 (by omega) (T 0)[k] (List.getElem_mem hlt2)
      obtain ⟨L, hL1, hL2⟩ := H1.good 0 (by omega) (T 0)[k] (List.getElem_mem hlt2)
      rw [hL1, hL2] at o1 o2
      rw [hL2] at hsm
      obtain ⟨a1, x1, e1, s1⟩ := own_sl o1
      obtain ⟨a2, x2, e2, s2⟩ := own_sl o2
      rw [e1] at d1
      rw [e2] at d2
      have A5 : Below wr.heap.size wr wr.drew := (Below.refl _ _).drew
      have HA5 : Hid _ := A5
      have i1 : (k : Int) < ((T 0).length : Int) := by omega
      have i2 : (0 : Int) ≤ (k : Int) := by omega
      have lb : hb < wr.heap.size := H1.rw'.box.lt
      have lT := cell_lt d1
      have lR := cell_lt d2
      clear A5 o1 o2 e1 e2 hL1 hL2 H1
      go_wp2_with fail
      go_region_held3 (fun w' => w'.cell? ⟨hb, 4, none⟩ = some (.slice (some ⟨gT, 0, none⟩) (T 0).length c3) ∧ w'.cell? ⟨hb, 5, none⟩ = some (.slice (some ⟨gR, 0, none⟩) (T 0).length c4) ∧ w'.cell? ⟨gT, k, none⟩ = some (.slice a1 L.length x1) ∧ w'.cell? ⟨gR, k, none⟩ = some (.slice a2 L.length x2)) (go_keep)
        (first
          | (go_at_call 38; refine (sameInts_any a1 a2 L L x1 x2 _ (s1.later HA5.out) (s2.later HA5.out) rfl (by omega)).mono ?_; rintro e w2 ⟨rfl, hb2⟩; have hB2 := Below.later HA5.out hb2; have e4 := (hB2.cell (p := ⟨hb, 4, none⟩) lb).trans b4; have e5 := (hB2.cell (p := ⟨hb, 5, none⟩) lb).trans b5; have e6 := (hB2.cell lT).trans d1; have e7 := (hB2.cell lR).trans d2))
      clear b4 b5 d1 d2 e4 e5 e6 e7
      go_wp2
      go_roundw
      case rel => exact ⟨k + 1, by omega, rfl, by go_num, Below.later hB hB2⟩
      case measure => simp [intOf]; omega
    · have i1 : ¬ (k : Int) < ((T 0).length : Int) := by omega
      clear H1
      go_wp2_with fail
      go_loopw [3, 6] (fun ok i wr => ∃ k : Nat, k ≤ (T 1).length ∧ ok = .bool true ∧ i = .int .i64 k ∧ Below W.heap.size W wr) (fun _ i _ => (T 1).length - (intOf i).toNat)
      case atStart => exact ⟨0, Nat.zero_le _, rfl, rfl, hB⟩
      case round =>
        clear hB hk hlt2 i1 b4
        obtain ⟨k, hk, rfl, rfl, hB⟩ := hrel
        have H1 : HI B wr hb N R E T := HI.later HH.out hB
        have b6 := H1.rw'.cell (j := 5) (by omega)
        rw [HE5.out] at b6
        by_cases hlt2 : k < (T 1).length
        · have i1 : (k : Int) < ((T 1).length : Int) := by omega
          have i2 : (0 : Int) ≤ (k : Int) := by omega
          obtain ⟨l, hL1, hL2⟩ := H1.good 1 (by omega) (T 1)[k] (List.getElem_mem hlt2)
          have hsm := H1.small 1 (by omega) (T 1)[k] (List.getElem_mem hlt2)
          rw [hL2] at hsm
          have HL1 : Hid _ := hL1
          have HL2 : Hid _ := hL2
          clear hL1 hL2 H1
          go_wp2_with fail
          go_loopw [3, 7] (fun ok i wr => ∃ j : Nat, j ≤ l.length ∧ ok = .bool true ∧ i = .int .i64 j ∧ Below W.heap.size W wr) (fun _ i _ => l.length - (intOf i).toNat)
          case atStart => exact ⟨0, Nat.zero_le _, rfl, rfl, hB⟩
          case round =>
            clear b6 hB
            obtain ⟨j, hj', rfl, rfl, hB⟩ := hrel
            have H1 : HI B wr hb N R E T := HI.later HH.out hB
            have b6 := H1.rw'.cell (j := 5) (by omega)
            have b7 := H1.rw'.cell (j := 6) (by omega)
            rw [HE5.out] at b6
            rw [HE6.out] at b7
            obtain ⟨gT, cT', eT, hx1, d1⟩ := own_at (H1.rT 1 (by omega)) hlt2
            obtain ⟨gR, cR', eR, hx2, d2⟩ := own_at (H1.rR 1 (by omega)) hlt2
            have eT := HE5.out.symm.trans eT
            have eR := HE6.out.symm.trans eR
            rw [List.getElem_map] at d1 d2
            simp only [Value.slice.injEq, true_and] at eT eR
            obtain ⟨rfl, rfl⟩ := eT
            obtain ⟨rfl, rfl⟩ := eR
            obtain ⟨o1, o2⟩ := H1.own 1 (by omega) (T 1)[k] (List.getElem_mem hlt2)
            rw [HL1.out, HL2.out] at o1 o2
            obtain ⟨a1, x1, q1⟩ := own_val o1
            obtain ⟨a2, x2, q2⟩ := own_val o2
            rw [q1] at d1 o1
            rw [q2] at d2 o2
            by_cases hj : j < l.length
            · rcases own_form o1 with ⟨_, h0⟩ | ⟨g1, y1, r1⟩
              · omega
              rcases own_form o2 with ⟨_, h0⟩ | ⟨g2, y2, r2⟩
              · omega
              simp only [Value.slice.injEq, true_and] at r1 r2
              obtain ⟨rfl, rfl⟩ := r1
              obtain ⟨rfl, rfl⟩ := r2
              have ha := HV_at l j hj
              have m0 := (o1.cellAt (j * 2) (by unfold wd; omega)).trans ha.1
              have p0 := (o2.cellAt (j * 2) (by unfold wd; omega)).trans ha.1
              have m1 := (o1.cellAt (j * 2 + 1) (by unfold wd; omega)).trans ha.2
              have p1 := (o2.cellAt (j * 2 + 1) (by unfold wd; omega)).trans ha.2
              have j1 : (j : Int) < (l.length : Int) := by omega
              have j2 : (0 : Int) ≤ (j : Int) := by omega
              generalize l[j] = x at m0 p0 m1 p1
              clear ha o1 o2 H1 hx1 hx2 q1 q2
              go_wp2
              go_quiet (fail)
              go_wp2_with fail
              go_roundw
              case rel => exact ⟨j + 1, by omega, rfl, by go_num, hB.drewN _⟩
              case measure => simp [intOf]; omega
            · have j1 : ¬ (j : Int) < (l.length : Int) := by omega
              clear o1 o2 H1 hx1 hx2 q1 q2
              go_wp2_with fail
              go_roundw
              case rel => exact ⟨k + 1, by omega, rfl, by go_num, hB⟩
              case measure => simp [intOf]; omega
        · have i1 : ¬ (k : Int) < ((T 1).length : Int) := by omega
          clear H1
          go_wp2_with fail
          go_loopw [3, 8] (fun ok i wr => ∃ k : Nat, k ≤ (T 2).length ∧ ok = .bool true ∧ i = .int .i64 k ∧ Below W.heap.size W wr) (fun _ i _ => (T 2).length - (intOf i).toNat)
          case atStart => exact ⟨0, Nat.zero_le _, rfl, rfl, hB⟩
          case round =>
            clear hB hk hlt2 i1 b6
            obtain ⟨k, hk, rfl, rfl, hB⟩ := hrel
            have H1 : HI B wr hb N R E T := HI.later HH.out hB
            have b8 := H1.rw'.cell (j := 7) (by omega)
            rw [HE7.out] at b8
            by_cases hlt2 : k < (T 2).length
            · have i1 : (k : Int) < ((T 2).length : Int) := by omega
              have i2 : (0 : Int) ≤ (k : Int) := by omega
              obtain ⟨l, hL1, hL2⟩ := H1.good 2 (by omega) (T 2)[k] (List.getElem_mem hlt2)
              have hsm := H1.small 2 (by omega) (T 2)[k] (List.getElem_mem hlt2)
              rw [hL2] at hsm
              have HL1 : Hid _ := hL1
              have HL2 : Hid _ := hL2
              clear hL1 hL2 H1
              go_wp2_with fail
              go_loopw [3, 9] (fun ok i wr => ∃ j : Nat, j ≤ l.length ∧ ok = .bool true ∧ i = .int .i64 j ∧ Below W.heap.size W wr) (fun _ i _ => l.length - (intOf i).toNat)
              case atStart => exact ⟨0, Nat.zero_le _, rfl, rfl, hB⟩
              case round =>
                clear b8 hB
                obtain ⟨j, hj', rfl, rfl, hB⟩ := hrel
                have H1 : HI B wr hb N R E T := HI.later HH.out hB
                have b8 := H1.rw'.cell (j := 7) (by omega)
                have b9 := H1.rw'.cell (j := 8) (by omega)
                rw [HE7.out] at b8
                rw [HE8.out] at b9
                obtain ⟨gT, cT', eT, hx1, d1⟩ := own_at (H1.rT 2 (by omega)) hlt2
                obtain ⟨gR, cR', eR, hx2, d2⟩ := own_at (H1.rR 2 (by omega)) hlt2
                have eT := HE7.out.symm.trans eT
                have eR := HE8.out.symm.trans eR
                rw [List.getElem_map] at d1 d2
                simp only [Value.slice.injEq, true_and] at eT eR
                obtain ⟨rfl, rfl⟩ := eT
                obtain ⟨rfl, rfl⟩ := eR
                obtain ⟨o1, o2⟩ := H1.own 2 (by omega) (T 2)[k] (List.getElem_mem hlt2)
                rw [HL1.out, HL2.out] at o1 o2
                obtain ⟨a1, x1, q1⟩ := own_val o1
                obtain ⟨a2, x2, q2⟩ := own_val o2
                rw [q1] at d1 o1
                rw [q2] at d2 o2
                by_cases hj : j < l.length
                · rcases own_form o1 with ⟨_, h0⟩ | ⟨g1, y1, r1⟩
                  · omega
                  rcases own_form o2 with ⟨_, h0⟩ | ⟨g2, y2, r2⟩
                  · omega
                  simp only [Value.slice.injEq, true_and] at r1 r2
                  obtain ⟨rfl, rfl⟩ := r1
                  obtain ⟨rfl, rfl⟩ := r2
                  have ha := FV_at l j hj
                  have m0 := (o1.cellAt (j * 3) (by unfold wd; omega)).trans ha.1
                  have p0 := (o2.cellAt (j * 3) (by unfold wd; omega)).trans ha.1
                  have m1 := (o1.cellAt (j * 3 + 1) (by unfold wd; omega)).trans ha.2.1
                  have p1 := (o2.cellAt (j * 3 + 1) (by unfold wd; omega)).trans ha.2.1
                  have m2 := (o1.cellAt (j * 3 + 2) (by unfold wd; omega)).trans ha.2.2
                  have p2 := (o2.cellAt (j * 3 + 2) (by unfold wd; omega)).trans ha.2.2
                  have j1 : (j : Int) < (l.length : Int) := by omega
                  have j2 : (0 : Int) ≤ (j : Int) := by omega
                  generalize l[j] = x at m0 p0 m1 p1 m2 p2
                  clear ha o1 o2 H1 hx1 hx2 q1 q2
                  go_wp2
                  go_quiet (fail)
                  go_wp2_with fail
                  go_roundw
                  case rel => exact ⟨j + 1, by omega, rfl, by go_num, hB.drewN _⟩
                  case measure => simp [intOf]; omega
                · have j1 : ¬ (j : Int) < (l.length : Int) := by omega
                  clear o1 o2 H1 hx1 hx2 q1 q2
                  go_wp2_with fail
                  go_roundw
                  case rel => exact ⟨k + 1, by omega, rfl, by go_num, hB⟩
                  case measure => simp [intOf]; omega
            · have i1 : ¬ (k : Int) < ((T 2).length : Int) := by omega
              clear H1
              go_wp2
              go_ret
              exact ⟨rfl, hB⟩
end Go.Proofs.Ytepklbboejnecaa

/- What is held, of all three kinds: do the lists that are marked read as their marks. -/
namespace Go.Proofs.Ytepklbboejnecaa
open Go.RowKit Go.Shelf Sedge
attribute [local go_sem ↓] Go.wp_at_zero Go.wp_at_succ
attribute [local go_sem ↓] eqH eqF
attribute [local go_sem] guardH guardF

theorem own_at2K {w : World} {base : Nat} {e : TypeId} {v : Value} {E : List (Value × Int)} (h : w.ownsRow base e 2 v E.length (cellsE E)) {i : Nat} (hi : i < E.length) : ∃ g c, v = .slice (some ⟨g, 0, none⟩) E.length c ∧ w.cell? ⟨g, i * 2, none⟩ = some E[i].1 ∧ w.cell? ⟨g, i * 2 + 1, none⟩ = some (.int .i64 E[i].2) := by
  have hc := cellsE_at E i hi
  rcases h.2 with ⟨_, h0⟩ | ⟨g, cap, cur, rfl, _⟩
  · omega
  · exact ⟨g, cap, rfl, by rw [h.cellAt (i * 2) (by omega)]; exact hc.1, by rw [h.cellAt (i * 2 + 1) (by omega)]; exact hc.2⟩

set_option maxRecDepth 20000 in
set_option maxHeartbeats 8000000 in
/-- 'dry'. -/
theorem dryK_any (B : Nat) (W : World) (hb N : Nat) (R : List Value) (E : Nat → List (Value × Int)) (T : Nat → List It) (H : HI B W hb N R E T) :
    Calls Try.prog 46 #[.pointer (some ⟨hb, 0, none⟩)] W fun e w' => e = .returned (.bool true) ∧ Below W.heap.size W w' := by
  obtain ⟨a0, c0, e0⟩ : ∃ a c, row R 0 = .slice a (E 0).length c := own_val (H.rI 0 (by omega))
  obtain ⟨a1, c1, e1⟩ : ∃ a c, row R 1 = .slice a (E 1).length c := own_val (H.rI 1 (by omega))
  obtain ⟨a2, c2, e2⟩ : ∃ a c, row R 2 = .slice a (E 2).length c := own_val (H.rI 2 (by omega))
  have HH : Hid _ := H
  have HE0 : Hid _ := e0
  have HE1 : Hid _ := e1
  have HE2 : Hid _ := e2
  have nN := H.nN
  have n0 := H.nE 0 (by omega)
  have n1 := H.nE 1 (by omega)
  have n2 := H.nE 2 (by omega)
  have hB0 : Below W.heap.size W W := Below.refl _ _
  clear H e0 e1 e2
  go_enter Try.func46, Try.ntmps46
  go_wp2_with fail
  go_loopw [3] (fun i wr => ∃ k : Nat, k ≤ (E 0).length ∧ i = .int .i64 k ∧ Below W.heap.size W wr) (fun i _ => (E 0).length - (intOf i).toNat)
  case atStart => exact ⟨0, Nat.zero_le _, rfl, hB0⟩
  case round =>
    clear hB0
    obtain ⟨k, hk, rfl, hB⟩ := hrel
    have H1 : HI B wr hb N R E T := HI.later HH.out hB
    have b1 := H1.rw'.cell (j := 0) (by omega)
    rw [HE0.out] at b1
    by_cases hlt2 : k < (E 0).length
    · obtain ⟨gI, cI', eI, d1, d2⟩ := own_at2K (H1.rI 0 (by omega)) hlt2
      have eI := HE0.out.symm.trans eI
      simp only [Value.slice.injEq, true_and] at eI
      obtain ⟨rfl, rfl⟩ := eI
      obtain ⟨ad, n, c, q1, hn, hrd⟩ := H1.rd 0 (by omega) (E 0)[k] (List.getElem_mem hlt2)
      obtain ⟨m, hm⟩ : ∃ m, m = (E 0)[k].2 := ⟨_, rfl⟩
      rw [q1] at d1
      rw [← hm] at d2 hrd
      have i1 : (k : Int) < ((E 0).length : Int) := by omega
      have i2 : (0 : Int) ≤ (k : Int) := by omega
      have HRD : Hid _ := hrd
      clear H1 hm q1 hrd
      obtain ⟨w0, hw0⟩ : ∃ w0, w0 = wr := ⟨_, rfl⟩
      subst hw0
      have hbx : Blk (w0.alloc (Obj.cells #[.slice ad n c, .int .i64 m] 118)) w0.heap.size 118 [.slice ad n c, .int .i64 m] := Blk.new w0 _ _ rfl
      have hbb : Below w0.heap.size w0 (w0.alloc (Obj.cells #[.slice ad n c, .int .i64 m] 118)) := (Below.refl _ _).alloc (Nat.le_refl _) _
      go_wp2_with fail
      go_loopw [5] (fun i w2 => ∃ j : Nat, j ≤ n ∧ i = .int .i64 j ∧ Blk w2 w0.heap.size 118 [.slice ad n c, .int .i64 m] ∧ Below w0.heap.size w0 w2) (fun i _ => n - (intOf i).toNat)
      case atStart => exact ⟨0, Nat.zero_le _, rfl, hbx, hbb⟩
      case round =>
        clear hbx hbb b1 d1 d2
        obtain ⟨j, hj, rfl, hbx, hbb⟩ := hrel
        obtain ⟨x0, x1⟩ := cells2 hbx
        by_cases hjn : j < n
        · obtain ⟨b, o, rfl, hc⟩ := HRD.out j hjn
          have y0 : w0.cell? ⟨b, o + j, none⟩ = some (.int .i64 m) := by have h := hc 0 _ rfl; simpa [wd, Nat.add_assoc] using h
          have dc0 := (hbb.cell (cell_lt y0)).trans y0
          have i3 : (j : Int) < (n : Int) := by omega
          have i4 : (0 : Int) ≤ (j : Int) := by omega
          clear hc y0
          go_wp2
          go_quiet (fail)
          go_wp2_with fail
          go_roundw
          case rel => exact ⟨j + 1, by omega, by go_num, hbx, hbb.drewN _⟩
          case measure => simp [intOf]; omega
        · have i3 : ¬ (j : Int) < (n : Int) := by omega
          go_wp2
          go_roundw
          case rel => exact ⟨k + 1, by omega, by go_num, Below.later hB hbb⟩
          case measure => simp [intOf]; omega
    · have i1 : ¬ (k : Int) < ((E 0).length : Int) := by omega
      clear H1
      go_wp2_with fail
      go_loopw [6] (fun i wr => ∃ k : Nat, k ≤ (E 1).length ∧ i = .int .i64 k ∧ Below W.heap.size W wr) (fun i _ => (E 1).length - (intOf i).toNat)
      case atStart => exact ⟨0, Nat.zero_le _, rfl, hB⟩
      case round =>
        clear hB hk hlt2 i1 b1
        obtain ⟨k, hk, rfl, hB⟩ := hrel
        have H1 : HI B wr hb N R E T := HI.later HH.out hB
        have b1 := H1.rw'.cell (j := 1) (by omega)
        rw [HE1.out] at b1
        by_cases hlt2 : k < (E 1).length
        · obtain ⟨gI, cI', eI, d1, d2⟩ := own_at2K (H1.rI 1 (by omega)) hlt2
          have eI := HE1.out.symm.trans eI
          simp only [Value.slice.injEq, true_and] at eI
          obtain ⟨rfl, rfl⟩ := eI
          obtain ⟨ad, n, c, q1, hn, hrd⟩ := H1.rd 1 (by omega) (E 1)[k] (List.getElem_mem hlt2)
          obtain ⟨m, hm⟩ : ∃ m, m = (E 1)[k].2 := ⟨_, rfl⟩
          rw [q1] at d1
          rw [← hm] at d2 hrd
          have i1 : (k : Int) < ((E 1).length : Int) := by omega
          have i2 : (0 : Int) ≤ (k : Int) := by omega
          have HRD : Hid _ := hrd
          clear H1 hm q1 hrd
          obtain ⟨w0, hw0⟩ : ∃ w0, w0 = wr := ⟨_, rfl⟩
          subst hw0
          have hbx : Blk (w0.alloc (Obj.cells #[.slice ad n c, .int .i64 m] 120)) w0.heap.size 120 [.slice ad n c, .int .i64 m] := Blk.new w0 _ _ rfl
          have hbb : Below w0.heap.size w0 (w0.alloc (Obj.cells #[.slice ad n c, .int .i64 m] 120)) := (Below.refl _ _).alloc (Nat.le_refl _) _
          go_wp2_with fail
          go_loopw [8] (fun i w2 => ∃ j : Nat, j ≤ n ∧ i = .int .i64 j ∧ Blk w2 w0.heap.size 120 [.slice ad n c, .int .i64 m] ∧ Below w0.heap.size w0 w2) (fun i _ => n - (intOf i).toNat)
          case atStart => exact ⟨0, Nat.zero_le _, rfl, hbx, hbb⟩
          case round =>
            clear hbx hbb b1 d1 d2
            obtain ⟨j, hj, rfl, hbx, hbb⟩ := hrel
            obtain ⟨x0, x1⟩ := cells2 hbx
            by_cases hjn : j < n
            · obtain ⟨b, o, rfl, hc⟩ := HRD.out j hjn
              have y0 : w0.cell? ⟨b, o + j * 2, none⟩ = some (.int .i64 m) := by have h := hc 0 _ rfl; simpa [wd, Nat.add_assoc] using h
              have dc0 := (hbb.cell (cell_lt y0)).trans y0
              have y1 : w0.cell? ⟨b, o + j * 2 + 1, none⟩ = some (.int .i64 m) := by have h := hc 1 _ rfl; simpa [wd, Nat.add_assoc] using h
              have dc1 := (hbb.cell (cell_lt y1)).trans y1
              have i3 : (j : Int) < (n : Int) := by omega
              have i4 : (0 : Int) ≤ (j : Int) := by omega
              clear hc y0 y1
              go_wp2
              go_quiet (fail)
              go_wp2_with fail
              go_roundw
              case rel => exact ⟨j + 1, by omega, by go_num, hbx, hbb.drewN _⟩
              case measure => simp [intOf]; omega
            · have i3 : ¬ (j : Int) < (n : Int) := by omega
              go_wp2
              go_roundw
              case rel => exact ⟨k + 1, by omega, by go_num, Below.later hB hbb⟩
              case measure => simp [intOf]; omega
        · have i1 : ¬ (k : Int) < ((E 1).length : Int) := by omega
          clear H1
          go_wp2_with fail
          go_loopw [9] (fun i wr => ∃ k : Nat, k ≤ (E 2).length ∧ i = .int .i64 k ∧ Below W.heap.size W wr) (fun i _ => (E 2).length - (intOf i).toNat)
          case atStart => exact ⟨0, Nat.zero_le _, rfl, hB⟩
          case round =>
            clear hB hk hlt2 i1 b1
            obtain ⟨k, hk, rfl, hB⟩ := hrel
            have H1 : HI B wr hb N R E T := HI.later HH.out hB
            have b1 := H1.rw'.cell (j := 2) (by omega)
            rw [HE2.out] at b1
            by_cases hlt2 : k < (E 2).length
            · obtain ⟨gI, cI', eI, d1, d2⟩ := own_at2K (H1.rI 2 (by omega)) hlt2
              have eI := HE2.out.symm.trans eI
              simp only [Value.slice.injEq, true_and] at eI
              obtain ⟨rfl, rfl⟩ := eI
              obtain ⟨ad, n, c, q1, hn, hrd⟩ := H1.rd 2 (by omega) (E 2)[k] (List.getElem_mem hlt2)
              obtain ⟨m, hm⟩ : ∃ m, m = (E 2)[k].2 := ⟨_, rfl⟩
              rw [q1] at d1
              rw [← hm] at d2 hrd
              have i1 : (k : Int) < ((E 2).length : Int) := by omega
              have i2 : (0 : Int) ≤ (k : Int) := by omega
              have HRD : Hid _ := hrd
              clear H1 hm q1 hrd
              obtain ⟨w0, hw0⟩ : ∃ w0, w0 = wr := ⟨_, rfl⟩
              subst hw0
              have hbx : Blk (w0.alloc (Obj.cells #[.slice ad n c, .int .i64 m] 122)) w0.heap.size 122 [.slice ad n c, .int .i64 m] := Blk.new w0 _ _ rfl
              have hbb : Below w0.heap.size w0 (w0.alloc (Obj.cells #[.slice ad n c, .int .i64 m] 122)) := (Below.refl _ _).alloc (Nat.le_refl _) _
              go_wp2_with fail
              go_loopw [11] (fun i w2 => ∃ j : Nat, j ≤ n ∧ i = .int .i64 j ∧ Blk w2 w0.heap.size 122 [.slice ad n c, .int .i64 m] ∧ Below w0.heap.size w0 w2) (fun i _ => n - (intOf i).toNat)
              case atStart => exact ⟨0, Nat.zero_le _, rfl, hbx, hbb⟩
              case round =>
                clear hbx hbb b1 d1 d2
                obtain ⟨j, hj, rfl, hbx, hbb⟩ := hrel
                obtain ⟨x0, x1⟩ := cells2 hbx
                by_cases hjn : j < n
                · obtain ⟨b, o, rfl, hc⟩ := HRD.out j hjn
                  have y0 : w0.cell? ⟨b, o + j * 3, none⟩ = some (.int .i64 m) := by have h := hc 0 _ rfl; simpa [wd, Nat.add_assoc] using h
                  have dc0 := (hbb.cell (cell_lt y0)).trans y0
                  have y1 : w0.cell? ⟨b, o + j * 3 + 1, none⟩ = some (.int .i64 m) := by have h := hc 1 _ rfl; simpa [wd, Nat.add_assoc] using h
                  have dc1 := (hbb.cell (cell_lt y1)).trans y1
                  have y2 : w0.cell? ⟨b, o + j * 3 + 2, none⟩ = some (.int .u8 0) := by have h := hc 2 _ rfl; simpa [wd, Nat.add_assoc] using h
                  have dc2 := (hbb.cell (cell_lt y2)).trans y2
                  have i3 : (j : Int) < (n : Int) := by omega
                  have i4 : (0 : Int) ≤ (j : Int) := by omega
                  clear hc y0 y1 y2
                  go_wp2
                  go_quiet (fail)
                  go_wp2_with fail
                  go_roundw
                  case rel => exact ⟨j + 1, by omega, by go_num, hbx, hbb.drewN _⟩
                  case measure => simp [intOf]; omega
                · have i3 : ¬ (j : Int) < (n : Int) := by omega
                  go_wp2
                  go_roundw
                  case rel => exact ⟨k + 1, by omega, by go_num, Below.later hB hbb⟩
                  case measure => simp [intOf]; omega
            · have i1 : ¬ (k : Int) < ((E 2).length : Int) := by omega
              clear H1
              go_wp2
              go_ret
              exact ⟨rfl, hB⟩
end Go.Proofs.Ytepklbboejnecaa

/- What is held, of all three kinds: all lists that wait are marked. -/
namespace Go.Proofs.Ytepklbboejnecaa
open Go.RowKit Go.Shelf Sedge
attribute [local go_sem ↓] Go.wp_at_zero Go.wp_at_succ

/-- What holds while the lists are marked one by one. -/
structure SK (B hb : Nat) (T : Nat → List It) (W : World) (p : Nat → Nat) (N : Nat) (R : List Value) (E : Nat → List (Value × Int)) : Prop where
  rw' : RW B W hb N R
  rI : ∀ κ, κ < 3 → W.ownsRow B (hdT κ) 2 (row R κ) (E κ).length (cellsE (E κ))
  rT : ∀ κ, κ < 3 → W.ownsRow B (slT κ) 1 (row R (3 + 2 * κ)) (T κ).length ((T κ).map (·.v))
  own : ∀ κ, κ < 3 → ∀ t ∈ (T κ).drop (p κ), ∃ xs, W.ownsRow B (elT κ) (wd κ) t.v t.n xs
  small : ∀ κ, κ < 3 → ∀ t ∈ T κ, t.n ≤ 100000
  rd : ∀ κ, κ < 3 → ∀ e ∈ E κ, RdK κ W e.1 e.2
  lt : ∀ κ, κ < 3 → ∀ e ∈ E κ, ∀ g, e.1.ownBlock = some g → g < W.heap.size
  ct : ∀ κ, κ < 3 → ∀ t ∈ (T κ).drop (p κ), Clr hb R t.v
  cE : ∀ κ, κ < 3 → ∀ e ∈ E κ, Clr hb R e.1
  pw : ∀ κ, κ < 3 → (T κ).Pairwise fun t t' => Apart t.v t'.v
  pc : ∀ κ κ', κ < 3 → κ' < 3 → κ ≠ κ' → ∀ t ∈ T κ, ∀ t' ∈ T κ', Apart t.v t'.v
  te : ∀ κ κ', κ < 3 → κ' < 3 → ∀ t ∈ (T κ).drop (p κ), ∀ e ∈ E κ', Apart e.1 t.v
  nN : N ≤ 100000000
  nE : ∀ κ, κ < 3 → (E κ).length ≤ 4 * N

theorem RW.clear {B : Nat} {W : World} {hb N : Nat} {R : List Value} (h : RW B W hb N R) (j : Nat) : RW B (W.setCell ⟨hb, j + 1, none⟩ nl) hb N (R.set j nl) where
  base := h.base
  len := by rw [List.length_set]; exact h.len
  box := by have := Blk.set h.box (j + 1) nl; rwa [List.set_cons_succ] at this
  pR := pw_set h.pR fun i _ _ => apart_nl _
  oR := fun r hr => by
    rcases mem_set hr with rfl | ⟨i, hi, hi2, rfl⟩
    · intro e; cases e
    · exact h.oR _ (row_mem hi2)
  lR := fun r hr g hg => by
    rcases mem_set hr with rfl | ⟨i, hi, hi2, rfl⟩
    · cases hg
    · have := h.lR _ (row_mem hi2) g hg; simpa using this
theorem Clr.clear {hb : Nat} {R : List Value} {x : Value} (h : Clr hb R x) (j : Nat) : Clr hb (R.set j nl) x :=
  ⟨h.1, fun r hr => by
    rcases mem_set hr with rfl | ⟨i, hi, hi2, rfl⟩
    · exact apart_nl _
    · exact h.2 _ (row_mem hi2)⟩

section
variable {B hb : Nat} {T : Nat → List It} {W w' : World} {p : Nat → Nat} {N : Nat} {R : List Value} {E : Nat → List (Value × Int)}
theorem SK.start (h : HI B W hb N R E T) : SK B hb T W (fun _ => 0) N R E where
  rw' := h.rw'
  rI := h.rI
  rT := h.rT
  own := fun κ hκ t ht => ⟨_, (h.own κ hκ t ht).1⟩
  small := h.small
  rd := h.rd
  lt := h.lt
  ct := fun κ hκ t ht => (h.cT κ hκ t ht).1
  cE := h.cE
  pw := h.pw
  pc := h.pc
  te := h.te
  nN := h.nN
  nE := h.nE
theorem SK.pre (h : SK B hb T W p N R E) {κ : Nat} (hκ : κ < 3) (hi : p κ < (T κ).length) : ∃ xs, MP κ B W hb N R (E κ) (T κ)[p κ].v (T κ)[p κ].n xs := by
  have hd : (T κ)[p κ] ∈ (T κ).drop (p κ) := by rw [List.drop_eq_getElem_cons hi]; exact List.mem_cons_self
  obtain ⟨xs, hx⟩ := h.own κ hκ _ hd
  exact ⟨xs, h.rw', h.rI κ hκ, hx, h.rd κ hκ, h.lt κ hκ, h.ct κ hκ _ hd, h.cE κ hκ, h.te κ κ hκ hκ _ hd, by have := h.nE κ hκ; have := h.nN; omega, by have := h.small κ hκ _ (List.getElem_mem hi); omega, h.nN⟩
theorem SK.next (h : SK B hb T W p N R E) {κ : Nat} (hκ : κ < 3) (hi : p κ < (T κ).length) {m : Int} {R' : List Value} {g : Value} {G : List (Value × Int)} (hN : N + 1 ≤ 100000000) (hG : G.length ≤ 4)
    (k : MKK κ B W hb (N + 1) R (T κ)[p κ].v (T κ)[p κ].n m (E κ) w' R' g G 3) : SK B hb T w' (upd p κ (p κ + 1)) (N + 1) R' (upd E κ (E κ ++ G)) := by
  have hlen := h.rw'.len
  have hlen' := k.rw'.len
  have hd : (T κ)[p κ] ∈ (T κ).drop (p κ) := by rw [List.drop_eq_getElem_cons hi]; exact List.mem_cons_self
  have hct := h.ct κ hκ _ hd
  -- what is left is apart from what is marked
  have left : ∀ κ' t', κ' < 3 → t' ∈ (T κ').drop (upd p κ (p κ + 1) κ') → t' ∈ (T κ').drop (p κ') ∧ Apart (T κ)[p κ].v t'.v := fun κ' t' hκ' ht' => by
    by_cases e : κ' = κ
    · subst e
      rw [upd_same] at ht'
      refine ⟨by rw [List.drop_eq_getElem_cons hi]; exact List.mem_cons_of_mem _ ht', ?_⟩
      have := (h.pw κ' hκ').sublist (List.drop_sublist (p κ') (T κ'))
      rw [List.drop_eq_getElem_cons hi] at this
      exact (List.pairwise_cons.1 this).1 t' ht'
    · rw [upd_other _ _ e] at ht'
      exact ⟨ht', h.pc κ κ' hκ hκ' (fun q => e q.symm) _ (List.getElem_mem hi) t' (List.mem_of_mem_drop ht')⟩
  have hlt : ∀ κ' t', κ' < 3 → t' ∈ (T κ').drop (p κ') → ∀ b, t'.v.ownBlock = some b → b < W.heap.size := fun κ' t' hκ' ht' b hb => by
    obtain ⟨xs, hx⟩ := h.own κ' hκ' t' ht'
    exact own_lt hx b hb
  have fx : ∀ x, Clr hb R x → Apart x (T κ)[p κ].v → Free x [some hb, (row R κ).ownBlock, ((T κ)[p κ].v).ownBlock] := fun x hx hv => free_cons (free_of_off hx.1) (free_cons (free_of_apart (hx.2 _ (row_mem (by omega)))) (free_of_apart hv))
  have frow : ∀ i, i < 9 → i ≠ κ → Free (row R i) [some hb, (row R κ).ownBlock, ((T κ)[p κ].v).ownBlock] := fun i hi9 hne => free_cons (free_of_off (h.rw'.oR _ (row_mem (by omega)))) (free_cons (free_of_apart (pw_row h.rw'.pR (by omega) (by omega) hne)) (free_of_apart (hct.2 _ (row_mem (by omega))).symm))
  have clr : ∀ x, Clr hb R x → (∀ b, x.ownBlock = some b → b < W.heap.size) → Clr hb R' x := fun x hx hl => ⟨hx.1, fun r hr => by
    obtain ⟨i, hi', hir⟩ := List.getElem_of_mem hr
    have er : r = row R' i := by rw [← hir]; unfold row; rw [List.getD_eq_getElem?_getD, List.getElem?_eq_getElem hi']; rfl
    rw [er]
    by_cases e : i = κ
    · subst e
      intro b h1 h2
      rcases k.vIl b h2 with q | q
      · exact hx.2 _ (row_mem (by omega)) b h1 q
      · have := hl b h1; omega
    · rw [k.only i e]; exact hx.2 _ (row_mem (by omega))⟩
  have te' : ∀ κ' e, κ' < 3 → e ∈ E κ' → Apart e.1 (T κ)[p κ].v := fun κ' e hκ' he => h.te κ κ' hκ hκ' _ hd e he
  refine ⟨k.rw', ?_, ?_, ?_, h.small, ?_, ?_, ?_, ?_, h.pw, h.pc, ?_, hN, ?_⟩
  · intro κ' hκ'
    by_cases e : κ' = κ
    · subst e; rw [upd_same]; exact k.rI
    · rw [upd_other _ _ e, k.only κ' e]; exact own_fr (h.rI κ' hκ') k.fr (frow κ' (by omega) e)
  · intro κ' hκ'
    rw [k.only (3 + 2 * κ') (by omega)]
    exact own_fr (h.rT κ' hκ') k.fr (frow _ (by omega) (by omega))
  · intro κ' hκ' t ht
    obtain ⟨ht1, ha⟩ := left κ' t hκ' ht
    obtain ⟨xs, hx⟩ := h.own κ' hκ' t ht1
    exact ⟨xs, own_fr hx k.fr (fx _ (h.ct κ' hκ' t ht1) ha.symm)⟩
  · intro κ' hκ' e he
    by_cases q : κ' = κ
    · subst q; rw [upd_same] at he; exact k.rd e he
    · rw [upd_other _ _ q] at he; exact (h.rd κ' hκ' e he).fr k.fr (fx _ (h.cE κ' hκ' e he) (te' κ' e hκ' he))
  · intro κ' hκ' e he b hb'
    by_cases q : κ' = κ
    · subst q; rw [upd_same] at he; exact k.lt e he b hb'
    · rw [upd_other _ _ q] at he; exact Nat.lt_of_lt_of_le (h.lt κ' hκ' e he b hb') k.fr.1
  · intro κ' hκ' t ht
    obtain ⟨ht1, ha⟩ := left κ' t hκ' ht
    exact clr _ (h.ct κ' hκ' t ht1) (hlt κ' t hκ' ht1)
  · intro κ' hκ' e he
    by_cases q : κ' = κ
    · subst q; rw [upd_same] at he; exact k.cE e he
    · rw [upd_other _ _ q] at he; exact clr _ (h.cE κ' hκ' e he) (h.lt κ' hκ' e he)
  · intro κ1 κ2 h1 h2 t ht e he b b1 b2
    obtain ⟨ht1, ha⟩ := left κ1 t h1 ht
    by_cases q : κ2 = κ
    · subst q
      rw [upd_same] at he
      rcases List.mem_append.1 he with he | he
      · exact h.te κ1 κ2 h1 h2 t ht1 e he b b1 b2
      · rcases k.gl e he b b1 with q | q
        · exact ha b q b2
        · have := hlt κ1 t h1 ht1 b b2; omega
    · rw [upd_other _ _ q] at he; exact h.te κ1 κ2 h1 h2 t ht1 e he b b1 b2
  · intro κ' hκ'
    have := h.nE κ' hκ'
    by_cases q : κ' = κ
    · subst q; rw [upd_same, List.length_append]; omega
    · rw [upd_other _ _ q]; omega

/-- The box without what waited. -/
abbrev cleared (R : List Value) : List Value := (((((R.set 3 nl).set 4 nl).set 5 nl).set 6 nl).set 7 nl).set 8 nl
abbrev clearedW (W : World) (hb : Nat) : World := (((((W.setCell ⟨hb, 4, none⟩ nl).setCell ⟨hb, 5, none⟩ nl).setCell ⟨hb, 6, none⟩ nl).setCell ⟨hb, 7, none⟩ nl).setCell ⟨hb, 8, none⟩ nl).setCell ⟨hb, 9, none⟩ nl
/-- Nothing waits any more. -/
theorem SK.done (h : SK B hb T W p N R E) : HI B (clearedW W hb) hb N (cleared R) E (fun _ => []) := by
  have hlen := h.rw'.len
  have F : Fr W (clearedW W hb) [some hb] := ((((((Fr.set W hb 4 nl).trans (Fr.set _ hb 5 nl)).trans (Fr.set _ hb 6 nl)).trans (Fr.set _ hb 7 nl)).trans (Fr.set _ hb 8 nl)).trans (Fr.set _ hb 9 nl)).sub (fun r hr => by simpa using hr)
  have hr : ∀ κ, κ < 3 → row (cleared R) κ = row R κ := fun κ hκ => by
    unfold cleared
    rw [row_set_ne (by omega), row_set_ne (by omega), row_set_ne (by omega), row_set_ne (by omega), row_set_ne (by omega), row_set_ne (by omega)]
  have hz : ∀ κ, 3 ≤ κ → κ < 9 → row (cleared R) κ = nl := fun κ h3 h9 => by
    obtain ⟨r0, r1, r2, r3, r4, r5, r6, r7, r8, rfl⟩ : ∃ r0 r1 r2 r3 r4 r5 r6 r7 r8, R = [r0, r1, r2, r3, r4, r5, r6, r7, r8] := by
      match R, hlen with
      | [r0, r1, r2, r3, r4, r5, r6, r7, r8], _ => exact ⟨_, _, _, _, _, _, _, _, _, rfl⟩
    match κ, h3, h9 with
    | 3, _, _ => rfl
    | 4, _, _ => rfl
    | 5, _, _ => rfl
    | 6, _, _ => rfl
    | 7, _, _ => rfl
    | 8, _, _ => rfl
  refine ⟨((((((h.rw'.clear 3).clear 4).clear 5).clear 6).clear 7).clear 8), ?_, ?_, ?_, (fun κ _ t ht => by cases ht), (fun κ _ t ht => by cases ht), (fun κ _ t ht => by cases ht), ?_, ?_, (fun κ _ t ht => by cases ht), ?_, (fun κ _ => List.Pairwise.nil), (fun κ κ' _ _ _ t ht => by cases ht), (fun κ κ' _ _ t ht => by cases ht), h.nN, h.nE, fun κ _ => by simp⟩
  · intro κ hκ
    rw [hr κ hκ]; exact own_fr (h.rI κ hκ) F (free_of_off (h.rw'.oR _ (row_mem (by omega))))
  · intro κ hκ
    rw [hz (3 + 2 * κ) (by omega) (by omega)]; exact World.ownsRow_nil _ _ _ _
  · intro κ hκ
    rw [hz (4 + 2 * κ) (by omega) (by omega)]; exact World.ownsRow_nil _ _ _ _
  · exact fun κ hκ e he => (h.rd κ hκ e he).fr F (free_of_off (h.cE κ hκ e he).1)
  · exact fun κ hκ e he g hg => Nat.lt_of_lt_of_le (h.lt κ hκ e he g hg) F.1
  · exact fun κ hκ e he => ((((((h.cE κ hκ e he).clear 3).clear 4).clear 5).clear 6).clear 7).clear 8
end
end Go.Proofs.Ytepklbboejnecaa

/- What is held, of all three kinds: 'settles', walked. -/
namespace Go.Proofs.Ytepklbboejnecaa
open Go.RowKit Go.Shelf Sedge
attribute [local go_sem ↓] Go.wp_at_zero Go.wp_at_succ

theorem SK.pos {B hb : Nat} {T : Nat → List It} {W : World} {p p' : Nat → Nat} {N : Nat} {R : List Value} {E : Nat → List (Value × Int)} (h : SK B hb T W p N R E) (e : ∀ κ, κ < 3 → p' κ = p κ) : SK B hb T W p' N R E :=
  { h with
    own := fun κ hκ t ht => h.own κ hκ t (by rw [← e κ hκ]; exact ht)
    ct := fun κ hκ t ht => h.ct κ hκ t (by rw [← e κ hκ]; exact ht)
    te := fun κ κ' hκ hκ' t ht => h.te κ κ' hκ hκ' t (by rw [← e κ hκ]; exact ht) }
/-- How far one is, kind by kind. -/
def pos3 (a b c : Nat) : Nat → Nat
  | 0 => a
  | 1 => b
  | _ => c

set_option maxRecDepth 20000 in
set_option maxHeartbeats 8000000 in
/-- 'settles'. -/
theorem settlesK_any (B : Nat) (W : World) (hb N : Nat) (R : List Value) (E : Nat → List (Value × Int)) (T : Nat → List It) (H : HI B W hb N R E T) (hN : N + (T 0).length + (T 1).length + (T 2).length ≤ 100000000) :
    Calls Try.prog 15 #[.pointer (some ⟨hb, 0, none⟩)] W fun e w' => e = .returned (.bool true) ∧ ∃ R' E', HI B w' hb (N + (T 0).length + (T 1).length + (T 2).length) R' E' (fun _ => []) ∧ Below B W w' := by
  have HH : Hid _ := H
  have hsz : B ≤ W.heap.size := H.rw'.sz
  have n0 := H.nT 0 (by omega)
  have n1 := H.nT 1 (by omega)
  have n2 := H.nT 2 (by omega)
  clear H
  go_enter Try.func15, Try.ntmps15
  go_wp2_with fail
  refine (waitsK_any B W hb N R E T HH.out).mono ?_
  rintro e w1 ⟨rfl, hb1⟩
  have HB1 : Hid _ := hb1.mono hsz
  have HS1 : Hid _ := SK.pos (SK.start (HI.later HH.out hb1)) (p' := pos3 0 0 0) (fun κ hκ => by match κ, hκ with | 0, _ => rfl | 1, _ => rfl | 2, _ => rfl)
  clear hb1
  go_wp2_with fail
  go_loopw [4] (fun i wr => ∃ (k : Nat) (R' : List Value) (E' : Nat → List (Value × Int)), k ≤ (T 0).length ∧ i = .int .i64 k ∧ SK B hb T wr (pos3 k 0 0) (N + k) R' E' ∧ Below B W wr) (fun i _ => (T 0).length - (intOf i).toNat)
  case atStart => exact ⟨0, _, _, Nat.zero_le _, rfl, HS1.out, HB1.out⟩
  case round =>
    skip
    obtain ⟨k, R', E', hk, rfl, hS, hB⟩ := hrel
    obtain ⟨a4, x4, e4⟩ : ∃ a c, row R' 3 = .slice a (T 0).length c := own_val (hS.rT 0 (by omega))
    have c4 := hS.rw'.cell (j := 3) (by omega)
    rw [e4] at c4
    by_cases hlt : k < (T 0).length
    · obtain ⟨gT, cT', eT, hx1, d1⟩ := own_at (hS.rT 0 (by omega)) hlt
      have eT := e4.symm.trans eT
      rw [List.getElem_map] at d1
      simp only [Value.slice.injEq, true_and] at eT
      obtain ⟨rfl, rfl⟩ := eT
      obtain ⟨xs, hP⟩ := SK.pre (κ := 0) hS (by omega) hlt
      have C := markIntsK_any _ _ _ _ _ _ _ _ _ hP
      obtain ⟨ad1, n1', c1, e1⟩ := own_val3 hP.rv
      have HC : Hid _ := C
      have HS : Hid _ := hS
      have HB : Hid _ := hB
      have e1 : (T 0)[k].v = .slice ad1 n1' c1 := e1
      rw [e1] at d1
      have i1 : (k : Int) < ((T 0).length : Int) := by omega
      have i2 : (0 : Int) ≤ (k : Int) := by omega
      have HE1 : Hid _ := e1
      clear C hS hB hP e1 hx1 e4
      go_wp2_with fail
      rw [← HE1.out]
      refine Calls.mono HC.out ?_
      rintro e w2 ⟨rfl, m, R2, g2, G, hMK, hG⟩
      clear c4 d1
      go_wp2_with fail
      go_roundw
      case rel =>
        have hn := SK.next (κ := 0) HS.out (by omega) hlt (by omega) hG hMK
        refine ⟨k + 1, R2, upd E' 0 (E' 0 ++ G), by omega, by go_num, ?_, HB.out.trans hMK.blw⟩
        exact SK.pos hn (fun κ hκ => by match κ, hκ with | 0, _ => rfl | 1, _ => rfl | 2, _ => rfl)
      case measure => simp [intOf]; omega
    · have hkT : k = (T 0).length := by omega
      have i1 : ¬ (k : Int) < ((T 0).length : Int) := by omega
      have HS : Hid _ := hS
      have HB : Hid _ := hB
      have HK : Hid _ := hkT
      clear hS hB hkT e4
      go_wp2_with fail
      go_loopw [5] (fun i wr => ∃ (k : Nat) (R' : List Value) (E' : Nat → List (Value × Int)), k ≤ (T 1).length ∧ i = .int .i64 k ∧ SK B hb T wr (pos3 (T 0).length k 0) (N + (T 0).length + k) R' E' ∧ Below B W wr) (fun i _ => (T 1).length - (intOf i).toNat)
      case atStart => exact ⟨0, _, _, Nat.zero_le _, rfl, (by rw [← HK.out]; exact HS.out), HB.out⟩
      case round =>
        clear HS HB HK hlt hk i1 c4
        obtain ⟨k, R', E', hk, rfl, hS, hB⟩ := hrel
        obtain ⟨a6, x6, e6⟩ : ∃ a c, row R' 5 = .slice a (T 1).length c := own_val (hS.rT 1 (by omega))
        have c6 := hS.rw'.cell (j := 5) (by omega)
        rw [e6] at c6
        by_cases hlt : k < (T 1).length
        · obtain ⟨gT, cT', eT, hx1, d1⟩ := own_at (hS.rT 1 (by omega)) hlt
          have eT := e6.symm.trans eT
          rw [List.getElem_map] at d1
          simp only [Value.slice.injEq, true_and] at eT
          obtain ⟨rfl, rfl⟩ := eT
          obtain ⟨xs, hP⟩ := SK.pre (κ := 1) hS (by omega) hlt
          have C := markHits_any _ _ _ _ _ _ _ _ _ hP
          obtain ⟨ad1, n1', c1, e1⟩ := own_val3 hP.rv
          have HC : Hid _ := C
          have HS : Hid _ := hS
          have HB : Hid _ := hB
          have e1 : (T 1)[k].v = .slice ad1 n1' c1 := e1
          rw [e1] at d1
          have i1 : (k : Int) < ((T 1).length : Int) := by omega
          have i2 : (0 : Int) ≤ (k : Int) := by omega
          have HE1 : Hid _ := e1
          clear C hS hB hP e1 hx1 e6
          go_wp2_with fail
          rw [← HE1.out]
          refine Calls.mono HC.out ?_
          rintro e w2 ⟨rfl, m, R2, g2, G, hMK, hG⟩
          clear c6 d1
          go_wp2_with fail
          go_roundw
          case rel =>
            have hn := SK.next (κ := 1) HS.out (by omega) hlt (by omega) hG hMK
            refine ⟨k + 1, R2, upd E' 1 (E' 1 ++ G), by omega, by go_num, ?_, HB.out.trans hMK.blw⟩
            exact SK.pos hn (fun κ hκ => by match κ, hκ with | 0, _ => rfl | 1, _ => rfl | 2, _ => rfl)
          case measure => simp [intOf]; omega
        · have hkT : k = (T 1).length := by omega
          have i1 : ¬ (k : Int) < ((T 1).length : Int) := by omega
          have HS : Hid _ := hS
          have HB : Hid _ := hB
          have HK : Hid _ := hkT
          clear hS hB hkT e6
          go_wp2_with fail
          go_loopw [6] (fun i wr => ∃ (k : Nat) (R' : List Value) (E' : Nat → List (Value × Int)), k ≤ (T 2).length ∧ i = .int .i64 k ∧ SK B hb T wr (pos3 (T 0).length (T 1).length k) (N + (T 0).length + (T 1).length + k) R' E' ∧ Below B W wr) (fun i _ => (T 2).length - (intOf i).toNat)
          case atStart => exact ⟨0, _, _, Nat.zero_le _, rfl, (by rw [← HK.out]; exact HS.out), HB.out⟩
          case round =>
            clear HS HB HK hlt hk i1 c6
            obtain ⟨k, R', E', hk, rfl, hS, hB⟩ := hrel
            obtain ⟨a8, x8, e8⟩ : ∃ a c, row R' 7 = .slice a (T 2).length c := own_val (hS.rT 2 (by omega))
            have c8 := hS.rw'.cell (j := 7) (by omega)
            rw [e8] at c8
            by_cases hlt : k < (T 2).length
            · obtain ⟨gT, cT', eT, hx1, d1⟩ := own_at (hS.rT 2 (by omega)) hlt
              have eT := e8.symm.trans eT
              rw [List.getElem_map] at d1
              simp only [Value.slice.injEq, true_and] at eT
              obtain ⟨rfl, rfl⟩ := eT
              obtain ⟨xs, hP⟩ := SK.pre (κ := 2) hS (by omega) hlt
              have C := markFactors_any _ _ _ _ _ _ _ _ _ hP
              obtain ⟨ad1, n1', c1, e1⟩ := own_val3 hP.rv
              have HC : Hid _ := C
              have HS : Hid _ := hS
              have HB : Hid _ := hB
              have e1 : (T 2)[k].v = .slice ad1 n1' c1 := e1
              rw [e1] at d1
              have i1 : (k : Int) < ((T 2).length : Int) := by omega
              have i2 : (0 : Int) ≤ (k : Int) := by omega
              have HE1 : Hid _ := e1
              clear C hS hB hP e1 hx1 e8
              go_wp2_with fail
              rw [← HE1.out]
              refine Calls.mono HC.out ?_
              rintro e w2 ⟨rfl, m, R2, g2, G, hMK, hG⟩
              clear c8 d1
              go_wp2_with fail
              go_roundw
              case rel =>
                have hn := SK.next (κ := 2) HS.out (by omega) hlt (by omega) hG hMK
                refine ⟨k + 1, R2, upd E' 2 (E' 2 ++ G), by omega, by go_num, ?_, HB.out.trans hMK.blw⟩
                exact SK.pos hn (fun κ hκ => by match κ, hκ with | 0, _ => rfl | 1, _ => rfl | 2, _ => rfl)
              case measure => simp [intOf]; omega
            · have hkT : k = (T 2).length := by omega
              have i1 : ¬ (k : Int) < ((T 2).length : Int) := by omega
              have HS : Hid _ := hS
              have HB : Hid _ := hB
              have HK : Hid _ := hkT
              clear hS hB hkT e8
              have hr := SK.rw' HS.out
              have c4 := hr.cell (j := 3) (by omega)
              have c5 := hr.cell (j := 4) (by omega)
              have c6 := hr.cell (j := 5) (by omega)
              have c7 := hr.cell (j := 6) (by omega)
              have c9 := hr.cell (j := 8) (by omega)
              have f4 := Blk.free hr.box 4
              have f5 := Blk.free hr.box 5
              have f6 := Blk.free hr.box 6
              have f7 := Blk.free hr.box 7
              have f8 := Blk.free hr.box 8
              have f9 := Blk.free hr.box 9
              have hbs := hr.base
              have HD : Hid _ := SK.done HS.out
              clear hr
              go_wp2_with fail
              refine (dryK_any B _ hb _ _ E' _ HD.out).mono ?_
              rintro e w3 ⟨rfl, hb3⟩
              have HB6 : Hid _ := (((((HB.out.setCell (p := ⟨hb, 4, none⟩) hbs nl).setCell (p := ⟨hb, 5, none⟩) hbs nl).setCell (p := ⟨hb, 6, none⟩) hbs nl).setCell (p := ⟨hb, 7, none⟩) hbs nl).setCell (p := ⟨hb, 8, none⟩) hbs nl).setCell (p := ⟨hb, 9, none⟩) hbs nl
              have HB3 : Hid _ := hb3
              clear hb3 c4 c5 c6 c7 c8 c9 f4 f5 f6 f7 f8 f9
              go_wp2
              go_ret
              refine ⟨rfl, _, _, (by rw [← HK.out]; exact HI.later HD.out HB3.out), Below.trans HB6.out (Below.mono HB3.out ?_)⟩
              exact Nat.le_trans hsz HB6.out.size
end Go.Proofs.Ytepklbboejnecaa

/- What is held: a list of factors waits; Factors, held against the document's. -/
namespace Go.Proofs.Ytepklbboejnecaa
open Go.RowKit Go.Shelf Sedge
attribute [local go_sem ↓] Go.wp_at_zero Go.wp_at_succ

/-- 'append(nil, l...)' of a list of the call's own. -/
theorem wpList_cloneK (t e : TypeId) (z : Value) (size bytes : Nat) (hu : Try.prog.underlying t = some (.slice e)) (hinf : (Try.prog.info? e).map (fun i => (i.zero, i.size, i.bytes)) = some (some z, size, bytes)) (hzc : z.cells.size = size) (hsz : 0 < size) (hby : bytes ≤ 24)
    (w : World) {ops : Array Oper} {rest : List Oper} {o : Oper} {a : Act} {Q : Exit → Act → World → Prop} (hg : o.guard = none)
    (s x : Operand) (hop : o.op = Op.call { callee := Callee.builtin Builtin.append, args := #[s, x], argTypes := #[t, t] }) (hs : a.eval s = .slice none 0 0)
    (base2 : Nat) (vy : Value) (n : Nat) (ys : List Value) (hx : a.eval x = vy) (hy : w.ownsRow base2 e size vy n ys) (h1 : ∀ u ∈ ys, u.oneCell' = true) (hn : n ≤ 1000000)
    (hK : ∀ v' w', w'.ownsRow w.heap.size e size v' n ys → Below w.heap.size w w' → wpList Try.prog ops Q rest (a.put o.dst v') w') :
    wpList Try.prog ops Q (o :: rest) a w := by
  refine wpList_plain hg fun K hK' => ?_
  obtain ⟨i0, hi, hz0, hz1, hz2⟩ := info_parts hinf
  have hnil : w.ownsRow w.heap.size e size (.slice none 0 0) 0 [] := World.ownsRow_nil _ _ _ _
  rcases own_form hy with ⟨rfl, rfl⟩ | ⟨g, c, rfl⟩
  · have hrun := run_append_owned_none (P := Try.prog) (w := w) w.heap.size t o.type e i0 size hu hi (.slice none 0 0) 0 [] hnil
    have e0 : ys = [] := List.eq_nil_of_length_eq_zero (by rw [hy.1]; omega)
    subst e0
    unfold Oper.wp execOp
    simp only [hop, resolve, invoke, builtin, Sem.run_bind, Sem.run_pure, Result.andThen_ok, List.map_toArray, List.map_cons, List.map_nil, hs, hx, hrun]
    exact hK' _ _ (hK _ _ hnil (Below.refl _ _))
  · obtain ⟨v', w', hr, h2, h3, _⟩ := run_append_own_at (P := Try.prog) w w.heap.size t o.type e i0 z size bytes hu hi hz0 hz1 hz2 hzc hsz (.slice none 0 0) 0 [] hnil ⟨g, 0, none⟩ n c ys hy.1 (fun j u hj => by
      have ea : (⟨g, 0, none⟩ : Addr).add j = ⟨g, j, none⟩ := by unfold Addr.add; split <;> simp_all
      have hlt := (List.getElem?_eq_some_iff.1 hj).1
      rw [hy.1] at hlt
      rw [ea, hy.cellAt j hlt]; exact hj) h1 (by unfold maxLen; omega) (by have := Nat.mul_le_mul_left (0 + n) hby; omega) (Nat.le_refl _)
    unfold Oper.wp execOp
    simp only [hop, resolve, invoke, builtin, Sem.run_bind, Sem.run_pure, Result.andThen_ok, List.map_toArray, List.map_cons, List.map_nil, hs, hx, hr]
    refine hK' _ _ (hK v' w' (by simpa using h2) ((Below.refl _ w).grown h3 (Nat.le_refl _) (fun k e => by cases e)))
/-- 'append(s, x)' of lists. -/
theorem wpList_push_slK (t e : TypeId) (hu : Try.prog.underlying t = some (.slice e)) (hinf : (Try.prog.info? e).map (fun i => (i.zero, i.size, i.bytes)) = some (some (.slice none 0 0), 1, 24))
    (w : World) {ops : Array Oper} {rest : List Oper} {o : Oper} {a : Act} {Q : Exit → Act → World → Prop} (hg : o.guard = none)
    (s x : Operand) (hop : o.op = Op.call { callee := Callee.builtin Builtin.append, args := #[s, x], argTypes := #[t, t] })
    (base : Nat) (v : Value) (n : Nat) (xs : List Value) (hs : a.eval s = v) (hown : w.ownsRow base e 1 v n xs)
    (ad : Addr) (y : Value) (hx : a.eval x = .slice (some ad) 1 1) (hc : w.cell? ad = some y) (h1 : y.oneCell' = true) (hn : n ≤ 1000) (hbase : base ≤ w.heap.size)
    (hK : ∀ v' w', w'.ownsRow base e 1 v' (n + 1) (xs ++ [y]) → w.grownBy w' v.ownBlock → Lies w w' v v' → wpList Try.prog ops Q rest (a.put o.dst v') w') :
    wpList Try.prog ops Q (o :: rest) a w := by
  obtain ⟨i0, hi, hz0, hz1, hz2⟩ := info_parts hinf
  refine wpList_push_at w hg s x t hop e i0 (.slice none 0 0) 1 24 hu hi hz0 hz1 hz2 rfl (by decide) base v n xs hs hown ad 1 [y] hx rfl ?_ ?_ ?_ ?_ hbase hK
  · intro j u hj
    match j, hj with
    | 0, hj => simp at hj; subst hj; simpa [Addr.add] using hc
  · intro u hu; simp at hu; subst hu; exact h1
  · unfold maxLen; omega
  · omega
theorem Try.infoSF : (Try.prog.info? 61).map (fun i => (i.zero, i.size, i.bytes)) = some (some (.slice none 0 0), 1, 24) := by kernel_rfl
theorem FV_one (l : List (Int × Int × Nat)) : ∀ u ∈ FV l, u.oneCell' = true := fun u hu => by
  unfold FV at hu
  obtain ⟨p, _, hp⟩ := List.mem_flatMap.1 hu
  simp at hp
  rcases hp with rfl | rfl | rfl <;> rfl

set_option maxRecDepth 20000 in
set_option maxHeartbeats 4000000 in
/-- 'factors': one list more waits. -/
theorem factors_any (B : Nat) (W : World) (hb N : Nat) (R : List Value) (E : Nat → List (Value × Int)) (T : Nat → List It) (H : HI B W hb N R E T) (v : Value) (l : List (Int × Int × Nat)) (hv : W.ownsRow B 64 3 v l.length (FV l)) (hL : l.length ≤ 100000)
    (hc : Clr hb R v) (hct : ∀ κ, κ < 3 → ∀ t ∈ T κ, Apart t.v v) (hce : ∀ κ, κ < 3 → ∀ e ∈ E κ, Apart e.1 v) (hT : (T 2).length < 100) :
    Calls Try.prog 68 #[.pointer (some ⟨hb, 0, none⟩), v] W fun e w' => e = .returned (.tuple #[]) ∧ ∃ u R', HI B w' hb N R' E (upd T 2 (T 2 ++ [⟨v, u, l.length, FV l⟩])) ∧ Below B W w' := by
  obtain ⟨ad, cv, rfl⟩ := own_val hv
  obtain ⟨adT, cT, eT⟩ : ∃ a c, row R 7 = .slice a (T 2).length c := own_val (H.rT 2 (by omega))
  obtain ⟨adR, cR, eR⟩ : ∃ a c, row R 8 = .slice a (T 2).length c := own_val (H.rR 2 (by omega))
  have HH : Hid _ := H
  have hsz : B ≤ W.heap.size := H.rw'.sz
  have hlt := H.rw'.box.lt
  have hlen := H.rw'.len
  have HLEN : Hid _ := hlen
  have HV : Hid _ := hv
  have HC : Hid _ := hc
  have HCT : Hid _ := hct
  have HCE : Hid _ := hce
  have HET : Hid _ := eT
  have HER : Hid _ := eR
  obtain ⟨nT, hnT⟩ : ∃ n, n = (T 2).length := ⟨_, rfl⟩
  rw [← hnT] at HET HER hT
  have HNT : Hid _ := hnT
  clear H hv hc hct hce eT eR hlen hnT
  go_enter Try.func68, Try.ntmps68
  go_wp2_with (first
    | (at_builtin; refine wpList_cloneK 61 64 (.agg #[.int .i64 0, .int .i64 0, .int .u8 0]) 3 24 Try.underlying61 Try.infoFac rfl (by decide) (by decide) _ rfl (.tmp 5) (.tmp 6) rfl rfl B (.slice ad l.length cv) l.length (FV l) rfl HV.out (FV_one l) (by omega) ?_; intro u w1 hu hb1; have HH1 : Hid _ := HI.later HH.out hb1; have c4 := RW.cell (HI.rw' HH1.out) (j := 7) (by omega); have c5 := RW.cell (HI.rw' HH1.out) (j := 8) (by omega); rw [HET.out] at c4; rw [HER.out] at c5; have hs1 := hb1.size; obtain ⟨adu, cu, rfl⟩ := own_val hu; have HU : Hid _ := hu; have HRT1 : Hid (w1.ownsRow B 61 1 (.slice adT nT cT) nT ((T 2).map (·.v))) := (by have := HI.rT HH1.out 2 (by omega); rw [show row R (3 + 2 * 2) = .slice adT nT cT from HET.out, ← HNT.out] at this; exact this); have HRR1 : Hid (w1.ownsRow B 61 1 (.slice adR nT cR) nT ((T 2).map (·.u))) := (by have := HI.rR HH1.out 2 (by omega); rw [show row R (4 + 2 * 2) = .slice adR nT cR from HER.out, ← HNT.out] at this; exact this); clear hu)
    | (at_builtin; refine wpList_push_slK 28 61 Try.underlying28 Try.infoSF _ rfl (.tmp 12) (.tmp 14) rfl B (.slice adT nT cT) nT ((T 2).map (·.v)) rfl (World.ownsRow.alloc HRT1.out _) ⟨w1.heap.size, 0, none⟩ (.slice ad l.length cv) rfl (by simp) rfl (by omega) (by simp; omega) ?_; intro vT' w2 hT2 hg2 hl2; obtain ⟨adT2, cT2, rfl⟩ := own_val hT2; have hbx2 := Blk.fr (Blk.alloc (RW.box (HI.rw' HH1.out)) (Obj.cells #[.slice ad l.length cv] 61)) (Fr.of_grown hg2) (fun r hr => by simp at hr; subst hr; rw [← HET.out]; exact fun e => RW.oR (HI.rw' HH1.out) _ (row_mem (by have := HLEN.out; omega)) e.symm); have d4 := hbx2.cell (k := 8) (by simp [HLEN.out]); have d5 := hbx2.cell (k := 9) (by simp [HLEN.out]); have d5' : w2.cell? ⟨hb, 9, none⟩ = some (.slice adR nT cR) := (by rw [d5, ← HER.out]; have := HLEN.out; simp [row, List.getD_eq_getElem?_getD, this]); have f4 := Blk.free hbx2 8; have f5 := Blk.free hbx2 9; have HT2 : Hid _ := hT2; have HG2 : Hid _ := hg2; have HL2 : Hid _ := hl2; have HB2 : Hid _ := hbx2; have HR3 : Hid (World.ownsRow (w2.setCell ⟨hb, 8, none⟩ (.slice adT2 (nT + 1) cT2)) B 61 1 (.slice adR nT cR) nT ((T 2).map (·.u))) := own_fr (own_fr (World.ownsRow.alloc HRR1.out _) (Fr.of_grown hg2) (free_of_apart (by rw [← HET.out, ← HER.out]; exact pw_row (RW.pR (HI.rw' HH1.out)) (by have := HLEN.out; omega) (by have := HLEN.out; omega) (by omega)))) (Fr.set w2 hb 8 _) (free_of_off (by rw [← HER.out]; exact RW.oR (HI.rw' HH1.out) _ (row_mem (by have := HLEN.out; omega)))); have HCN : Hid (World.cell? ((w2.setCell ⟨hb, 8, none⟩ (.slice adT2 (nT + 1) cT2)).alloc (Obj.cells #[.slice adu l.length cu] 61)) ⟨w2.heap.size, 0, none⟩ = some (.slice adu l.length cu)) := (by have q := cell_new (w2.setCell ⟨hb, 8, none⟩ (.slice adT2 (nT + 1) cT2)) (.slice adu l.length cu) 61; rwa [World.size_setCell] at q); have hs2 := hg2.size; simp only [World.size_alloc] at hs2; clear hT2 hg2 hl2 hbx2 c4 c5 d5)
    | (at_builtin; refine wpList_push_slK 28 61 Try.underlying28 Try.infoSF _ rfl (.tmp 22) (.tmp 24) rfl B (.slice adR nT cR) nT ((T 2).map (·.u)) rfl (World.ownsRow.alloc HR3.out _) ⟨w2.heap.size, 0, none⟩ (.slice adu l.length cu) rfl HCN.out rfl (by omega) (by simp; omega) ?_; intro vR' w4 hR4 hg4 hl4; obtain ⟨adR4, cR4, rfl⟩ := own_val hR4; have hbx4 := Blk.fr (Blk.alloc (Blk.set HB2.out 8 (.slice adT2 (nT + 1) cT2)) (Obj.cells #[.slice adu l.length cu] 61)) (Fr.of_grown hg4) (fun r hr => by simp at hr; subst hr; rw [← HER.out]; exact fun e => RW.oR (HI.rw' HH1.out) _ (row_mem (by have := HLEN.out; omega)) e.symm); have e5 := hbx4.cell (k := 9) (by simp [HLEN.out]); have g5 := Blk.free hbx4 9; clear d4 d5' f4 f5)
    | fail)
  have F := HI.fresh HH.out (x := .slice adu l.length cu) (fun g hg => (World.ownsRow.lt HU.out g hg).1)
  have hu1 : w1.ownsRow B 64 3 (.slice adu l.length cu) l.length (FV l) := own_dn HU.out hsz
  have hT2 := HT2.out
  have hg2 := HG2.out
  have hl2 := HL2.out
  have hnt : nT = (T 2).length := HNT.out
  subst hnt
  rw [← HET.out] at hg2 hl2
  rw [← HER.out] at hg4 hl4
  have hm := HI.more (κ := 2) (by omega) HH1.out (n := l.length) (xs := FV l) ⟨l, rfl, rfl⟩ hL hT (own_fr HV.out (Fr.of_below hb1) (free_nil _)) hu1 HC.out F.1 HCT.out HCE.out hT2 hg2 hl2 hR4 hg4 hl4
  go_end0
  exact ⟨rfl, _, _, hm.1, (Below.mono hb1 hsz).trans hm.2⟩
end Go.Proofs.Ytepklbboejnecaa

/- What is held: Factors, held against the document's. -/
namespace Go.Proofs.Ytepklbboejnecaa
open Go.RowKit Go.Shelf Sedge
attribute [local go_sem ↓] Go.wp_at_zero Go.wp_at_succ

set_option maxRecDepth 20000 in
set_option maxHeartbeats 2000000 in
/-- 'sameFactors'. -/
theorem sameFactors_any (ax ay : Option Addr) (l : List (Int × Int × Nat)) (cx cy : Nat) (w : World) (hX : FacS w ax l) (hY : FacS w ay l) (hn : l.length ≤ 1000000) :
    Calls Try.prog 67 #[.slice ax l.length cx, .slice ay l.length cy] w fun e w' => e = .returned (.bool true) ∧ Below w.heap.size w w' := by
  have HX : Hid _ := hX
  have HY : Hid _ := hY
  clear hX hY
  go_enter Try.func67, Try.ntmps67
  go_wp2
  go_loopw [5] (fun i wr => ∃ k : Nat, k ≤ l.length ∧ i = .int .i64 k ∧ Below w.heap.size w wr) (fun i _ => l.length - (intOf i).toNat)
  case atStart => exact ⟨0, Nat.zero_le _, rfl, Below.refl _ _⟩
  case round =>
    obtain ⟨k, hk, rfl, hb⟩ := hrel
    by_cases hlt : k < l.length
    · obtain ⟨b, o1, rfl, c0, c1, c2⟩ := HX.out k hlt
      obtain ⟨b2, o2, rfl, e0, e1, e2⟩ := HY.out k hlt
      have i1 : (k : Int) < (l.length : Int) := by omega
      have i2 : (0 : Int) ≤ (k : Int) := by omega
      have d0 := (hb.cell (cell_lt c0)).trans c0
      have d1 := (hb.cell (cell_lt c1)).trans c1
      have d2 := (hb.cell (cell_lt c2)).trans c2
      have f0 := (hb.cell (cell_lt e0)).trans e0
      have f1 := (hb.cell (cell_lt e1)).trans e1
      have f2 := (hb.cell (cell_lt e2)).trans e2
      generalize l[k] = p at d0 d1 d2 f0 f1 f2
      clear c0 c1 c2 e0 e1 e2
      go_wp2
      go_quiet (fail)
      go_wp2_with fail
      go_roundw
      case rel => exact ⟨k + 1, by omega, by go_num, hb.drewN _⟩
      case measure => simp [intOf]; omega
    · have i1 : ¬ (k : Int) < (l.length : Int) := by omega
      go_wp2
      go_ret
      exact ⟨rfl, hb⟩

set_option maxRecDepth 20000 in
set_option maxHeartbeats 4000000 in
/-- 'h.pieces'. -/
theorem hpieces_any (B : Nat) (W : World) (hb N : Nat) (R : List Value) (E : Nat → List (Value × Int)) (T : Nat → List It) (H : HI B W hb N R E T) (hT : (T 2).length < 100) (s : ByteArray) :
    Calls Try.prog 33 #[.pointer (some ⟨hb, 0, none⟩), .string s] W fun e w' => e = .returned (.bool true) ∧ ∃ R' x, HI B w' hb N R' E (upd T 2 (T 2 ++ [x])) ∧ Below B W w' := by
  obtain ⟨f, hf⟩ := exists_facs (bl s)
  have HH : Hid _ := H
  have hsz : B ≤ W.heap.size := H.rw'.sz
  have C1 := fun W => Factors_tell s f hf W
  have C2 := fun W => refFactors_tell s f hf W
  have hL := facL_le hf
  generalize facL s f = L at C1 C2 hL
  generalize facE s = k at C1 C2
  have HC1 : Hid _ := C1
  have HC2 : Hid _ := C2
  clear H C1 C2 hf
  go_enter Try.func33, Try.ntmps33
  go_wp2_with fail
  refine Calls.mono (HC1.out _) ?_
  rintro e w1 ⟨v, rfl, hv, hb1⟩
  obtain ⟨ad, cv, rfl⟩ := own_val hv
  have HV : Hid _ := hv
  have HB1 : Hid _ := hb1
  clear hv hb1
  go_wp2_with fail
  refine Calls.mono (HC2.out _) ?_
  rintro e w2 ⟨v2, rfl, hown2, hb2⟩
  obtain ⟨ad2, c2, rfl, hS2⟩ := FacS.own hown2
  have hv2 := own_fr HV.out (Fr.of_below hb2) (free_nil _)
  obtain ⟨ad3, c3, e3, hS3⟩ := FacS.own hv2
  simp only [Value.slice.injEq, true_and] at e3
  obtain ⟨rfl, rfl⟩ := e3
  have HV2 : Hid _ := hv2
  have HB2 : Hid _ := hb2
  clear hb2 hv2 hown2
  go_wp2_with fail
  refine (sameFactors_any ad ad2 L cv c2 w2 hS3 hS2 (by omega)).mono ?_
  rintro e w3 ⟨rfl, hb3⟩
  have hB13 : Below w1.heap.size w1 w3 := Below.later HB2.out hb3
  have hB03 : Below W.heap.size W w3 := Below.later HB1.out hB13
  have hH3 := HI.later HH.out hB03
  have hF := HI.fresh HH.out (x := .slice ad L.length cv) (fun g hg => (World.ownsRow.lt HV.out g hg).1)
  have hv3 : w3.ownsRow B 64 3 (.slice ad L.length cv) L.length (FV L) := own_dn (own_fr HV2.out (Fr.of_below hb3) (free_nil _)) hsz
  have CI := factors_any B w3 hb N R E T hH3 (.slice ad L.length cv) L hv3 (by omega) hF.1 hF.2.1 hF.2.2 hT
  have HCI : Hid _ := CI
  have HB03 : Hid _ := hB03
  clear hb3 hB13 hB03 hH3 hF hv3 CI hS2 hS3
  go_wp2_with fail
  refine Calls.mono HCI.out ?_
  rintro e w4 ⟨rfl, u, R', hH4, hb4⟩
  go_wp2_with (first | (go_at_call 40; refine (num_any k _).mono ?_; rintro e w5 ⟨rfl, rfl⟩) | fail)
  go_ret
  exact ⟨rfl, R', _, hH4, (HB03.out.mono hsz).trans hb4⟩
end Go.Proofs.Ytepklbboejnecaa

/- What is held: laws for a list that is handed in. -/
namespace Go.Proofs.Ytepklbboejnecaa
open Go.RowKit Go.Shelf Sedge
attribute [local go_sem ↓] Go.wp_at_zero Go.wp_at_succ

/-- 'copy', whatever an element's size. -/
theorem run_copy_rowK {P : Program} (w : World) (dT sT ty elem : TypeId) (g o dLen dCap : Nat) (a : Addr) (sLen sCap size : Nat) (cur : Array Value) (t : TypeId) (cs : List Value)
    (hu : P.underlying dT = some (.slice elem)) (hs : (P.info? elem).map (·.size) = some size)
    (hg : w.heap[g]? = some (.cells cur t (0, 0))) (hn : cs.length = Nat.min sLen dLen * size)
    (hsrc : ∀ j v, cs[j]? = some v → w.cell? (a.add j) = some v) (hfit : o + cs.length ≤ cur.size) (h1 : ∀ v ∈ cs, v.oneCell' = true) :
    (Builtin.copy_ #[dT, sT] ty #[.slice (some ⟨g, o, none⟩) dLen dCap, .slice (some a) sLen sCap]).run P w =
      .ok (goInt (Nat.min sLen dLen)) (w.setRow g (cur.toList.take o ++ cs ++ cur.toList.drop (o + cs.length)).toArray) := by
  have hl := run_loadCells_list (P := P) w a cs hsrc
  have hst := run_storeCells_at P g o t cs 0 cur w hg (by simpa using hfit) h1
  cases hq : P.info? elem with
  | none => simp [hq] at hs
  | some i =>
    have hi : i.size = size := by simpa [hq] using hs
    simp [Builtin.copy_, run_underlying hu, Builtin.lenOf, Builtin.firstCells, sizeOf, typeInfo, hq, hi, ← hn, hl, hst]
/-- A copy into a row of the call's own. -/
theorem wpList_copyK (t e : TypeId) (size : Nat) (hu : Try.prog.underlying t = some (.slice e)) (hs : (Try.prog.info? e).map (·.size) = some size)
    (w : World) {ops : Array Oper} {rest : List Oper} {o : Oper} {a : Act} {Q : Exit → Act → World → Prop} (hgd : o.guard = none)
    (d s : Operand) (hop : o.op = Op.call { callee := Callee.builtin Builtin.copy, args := #[d, s], argTypes := #[t, t] })
    (base g n c : Nat) (xs : List Value) (hd : a.eval d = .slice (some ⟨g, 0, none⟩) n c) (hown : w.ownsRow base e size (.slice (some ⟨g, 0, none⟩) n c) n xs)
    (ad : Option Addr) (m sc : Nat) (cs : List Value) (hx : a.eval s = .slice ad m sc) (hm : m ≤ n) (hl : cs.length = m * size) (hnil : ad = none → m = 0 ∧ sc = 0)
    (hsrc : ∀ b, ad = some b → ∀ j v, cs[j]? = some v → w.cell? (b.add j) = some v) (h1 : ∀ v ∈ cs, v.oneCell' = true)
    (hK : ∀ w' r, w'.ownsRow base e size (.slice (some ⟨g, 0, none⟩) n c) n (cs ++ xs.drop cs.length) → w.grownBy w' (some g) → wpList Try.prog ops Q rest (a.put o.dst r) w') :
    wpList Try.prog ops Q (o :: rest) a w := by
  refine wpList_plain hgd fun K hK' => ?_
  cases ad with
  | none =>
    obtain ⟨rfl, rfl⟩ := hnil rfl
    have e0 : cs = [] := List.eq_nil_of_length_eq_zero (by rw [hl]; omega)
    subst e0
    have hrun := run_copy_nil (P := Try.prog) w t t o.type e ⟨g, 0, none⟩ n c hu (by rw [hs]; rfl)
    unfold Oper.wp execOp
    simp only [hop, resolve, invoke, builtin, Sem.run_bind, Sem.run_pure, Result.andThen_ok, List.map_toArray, List.map_cons, List.map_nil, hd, hx, hrun]
    exact hK' _ _ (hK _ _ (by simpa using hown) ⟨rfl, rfl, rfl, Nat.le_refl _, fun _ _ _ => rfl⟩)
  | some b =>
    rcases hown.2 with ⟨h, _⟩ | ⟨g', cap, cur, h, h2, h3, h4, h5, h6, h7⟩
    · cases h
    · simp only [Value.slice.injEq, Option.some.injEq, Addr.mk.injEq, and_true, true_and] at h
      obtain ⟨rfl, rfl⟩ := h
      have hle : cs.length ≤ n * size := by rw [hl]; exact Nat.mul_le_mul_right size hm
      have hle2 : n * size ≤ cur.size := by rw [h6]; exact Nat.mul_le_mul_right size h4
      have hrun := run_copy_rowK (P := Try.prog) w t t o.type e g 0 n c b m sc size cur e cs hu hs h3 (by rw [hl, Nat.min_eq_min, Nat.min_eq_left hm]) (hsrc b rfl) (by omega) h1
      unfold Oper.wp execOp
      simp only [hop, resolve, invoke, builtin, Sem.run_bind, Sem.run_pure, Result.andThen_ok, List.map_toArray, List.map_cons, List.map_nil, hd, hx, hrun]
      refine hK' _ _ (hK _ _ ⟨?_, .inr ⟨g, c, _, rfl, h2, setRow_heap w g cur _ e _ h3, h4, h5, ?_, ?_⟩⟩ ⟨rfl, rfl, rfl, by simp [World.setRow], fun k hk hr => setRow_other w g k _ (fun e => hr (by rw [e]))⟩)
      · rw [List.length_append, List.length_drop, hown.1]; omega
      · simp; omega
      · have hx7 : xs = cur.toList.take (n * size) := h7.symm
        rw [hx7, List.drop_take]
        simp only [List.take_zero, List.nil_append, Nat.zero_add]
        rw [List.take_append, List.take_of_length_le hle]

/-- A list in a block of its own is marked: what is held behind it. -/
theorem HI.marked {κ : Nat} (hκ : κ < 3) {B : Nat} {W w' : World} {hb N : Nat} {R R' : List Value} {E : Nat → List (Value × Int)} {T : Nat → List It} {v0 g : Value} {n0 : Nat} {m : Int} {G : List (Value × Int)}
    (h : HI B W hb N R E T) (hN : N + 1 ≤ 100000000) (hG : G.length ≤ 4) (k : MKK κ B W hb (N + 1) R v0 n0 m (E κ) w' R' g G 3) (cv : Clr hb R v0)
    (hT : ∀ κ', κ' < 3 → ∀ t ∈ T κ', Apart t.v v0 ∧ Apart t.u v0) (hE : ∀ κ', κ' < 3 → ∀ e ∈ E κ', Apart e.1 v0) : HI B w' hb (N + 1) R' (upd E κ (E κ ++ G)) T := by
  have hlen := h.rw'.len
  have hlen' := k.rw'.len
  have fx : ∀ x, Clr hb R x → Apart x v0 → Free x [some hb, (row R κ).ownBlock, v0.ownBlock] := fun x hx hv => free_cons (free_of_off hx.1) (free_cons (free_of_apart (hx.2 _ (row_mem (by omega)))) (free_of_apart hv))
  have frow : ∀ i, i < 9 → i ≠ κ → Free (row R i) [some hb, (row R κ).ownBlock, v0.ownBlock] := fun i hi9 hne => free_cons (free_of_off (h.rw'.oR _ (row_mem (by omega)))) (free_cons (free_of_apart (pw_row h.rw'.pR (by omega) (by omega) hne)) (free_of_apart (cv.2 _ (row_mem (by omega))).symm))
  have clr : ∀ x, Clr hb R x → (∀ b, x.ownBlock = some b → b < W.heap.size) → Clr hb R' x := fun x hx hl => ⟨hx.1, fun r hr => by
    obtain ⟨i, hi', hir⟩ := List.getElem_of_mem hr
    have er : r = row R' i := by rw [← hir]; unfold row; rw [List.getD_eq_getElem?_getD, List.getElem?_eq_getElem hi']; rfl
    rw [er]
    by_cases e : i = κ
    · subst e
      intro b h1 h2
      rcases k.vIl b h2 with q | q
      · exact hx.2 _ (row_mem (by omega)) b h1 q
      · have := hl b h1; omega
    · rw [k.only i e]; exact hx.2 _ (row_mem (by omega))⟩
  refine ⟨k.rw', ?_, ?_, ?_, ?_, h.good, h.small, ?_, ?_, ?_, ?_, h.pw, h.pc, ?_, hN, ?_, h.nT⟩
  · intro κ' hκ'
    by_cases e : κ' = κ
    · subst e; rw [upd_same]; exact k.rI
    · rw [upd_other _ _ e, k.only κ' e]; exact own_fr (h.rI κ' hκ') k.fr (frow κ' (by omega) e)
  · intro κ' hκ'
    rw [k.only (3 + 2 * κ') (by omega)]
    exact own_fr (h.rT κ' hκ') k.fr (frow _ (by omega) (by omega))
  · intro κ' hκ'
    rw [k.only (4 + 2 * κ') (by omega)]
    exact own_fr (h.rR κ' hκ') k.fr (frow _ (by omega) (by omega))
  · intro κ' hκ' t ht
    have o := h.own κ' hκ' t ht
    have c := h.cT κ' hκ' t ht
    have a := hT κ' hκ' t ht
    exact ⟨own_fr o.1 k.fr (fx _ c.1 a.1), own_fr o.2 k.fr (fx _ c.2 a.2)⟩
  · intro κ' hκ' e he
    by_cases q : κ' = κ
    · subst q; rw [upd_same] at he; exact k.rd e he
    · rw [upd_other _ _ q] at he; exact (h.rd κ' hκ' e he).fr k.fr (fx _ (h.cE κ' hκ' e he) (hE κ' hκ' e he))
  · intro κ' hκ' e he b hb'
    by_cases q : κ' = κ
    · subst q; rw [upd_same] at he; exact k.lt e he b hb'
    · rw [upd_other _ _ q] at he; exact Nat.lt_of_lt_of_le (h.lt κ' hκ' e he b hb') k.fr.1
  · intro κ' hκ' t ht
    have o := h.own κ' hκ' t ht
    have c := h.cT κ' hκ' t ht
    exact ⟨clr _ c.1 (own_lt o.1), clr _ c.2 (own_lt o.2)⟩
  · intro κ' hκ' e he
    by_cases q : κ' = κ
    · subst q; rw [upd_same] at he; exact k.cE e he
    · rw [upd_other _ _ q] at he; exact clr _ (h.cE κ' hκ' e he) (h.lt κ' hκ' e he)
  · intro κ1 κ2 h1 h2 t ht e he b b1 b2
    by_cases q : κ2 = κ
    · subst q
      rw [upd_same] at he
      rcases List.mem_append.1 he with he | he
      · exact h.te κ1 κ2 h1 h2 t ht e he b b1 b2
      · rcases k.gl e he b b1 with q | q
        · exact (hT κ1 h1 t ht).1 b b2 q
        · have := own_lt (h.own κ1 h1 t ht).1 b b2; omega
    · rw [upd_other _ _ q] at he; exact h.te κ1 κ2 h1 h2 t ht e he b b1 b2
  · intro κ' hκ'
    have := h.nE κ' hκ'
    by_cases q : κ' = κ
    · subst q; rw [upd_same, List.length_append]; omega
    · rw [upd_other _ _ q]; omega
/-- What marking asks of a list in a block that is new. -/
theorem HI.toMark {κ : Nat} (hκ : κ < 3) {B : Nat} {W w1 : World} {hb N : Nat} {R : List Value} {E : Nat → List (Value × Int)} {T : Nat → List It} {v : Value} {n : Nat} {xs : List Value}
    (h : HI B W hb N R E T) (hb1 : Below W.heap.size W w1) (hv : w1.ownsRow W.heap.size (elT κ) (wd κ) v n xs) (hn : n ≤ 5864062014700) :
    MP κ B w1 hb N R (E κ) v n xs ∧ Clr hb R v ∧ (∀ κ', κ' < 3 → ∀ t ∈ T κ', Apart t.v v ∧ Apart t.u v) ∧ (∀ κ', κ' < 3 → ∀ e ∈ E κ', Apart e.1 v) := by
  have hf := h.fresh (x := v) (fun g hg => (hv.lt g hg).1)
  have h1 := h.later hb1
  refine ⟨⟨h1.rw', h1.rI κ hκ, own_dn hv h.rw'.sz, h1.rd κ hκ, h1.lt κ hκ, hf.1, h1.cE κ hκ, hf.2.2 κ hκ, by have := h.nE κ hκ; have := h.nN; omega, hn, h.nN⟩, hf.1, fun κ' hκ' t ht => ⟨hf.2.1 κ' hκ' t ht, fun g g1 g2 => ?_⟩, hf.2.2⟩
  have := (hv.lt g g2).1
  have := own_lt (h.own κ' hκ' t ht).2 g g1
  omega
end Go.Proofs.Ytepklbboejnecaa

/- What is held: Join, held against the document's. -/
namespace Go.Proofs.Ytepklbboejnecaa
open Go.RowKit Go.Shelf Sedge
attribute [local go_sem ↓] Go.wp_at_zero Go.wp_at_succ
attribute [local go_sem ↓] eqF
attribute [local go_sem] guardF

/-- What stands behind a list that is handed in. -/
def fq : Int × Int × Nat := (-99, 0, 0)
theorem set_fac {A : List (Int × Int × Nat)} {rest : List Value} (p : Int × Int × Nat) (h : 3 ≤ rest.length) : (((FV A ++ rest).set (A.length * 3) (.int .i64 p.1)).set (A.length * 3 + 1) (.int .i64 p.2.1)).set (A.length * 3 + 2) (.int .u8 (p.2.2 : Nat)) = FV (A ++ [p]) ++ rest.drop 3 := by
  have hl := FV_length A
  rw [FV_append, List.append_assoc, List.set_append_right _ _ (by omega), List.set_append_right _ _ (by omega), List.set_append_right _ _ (by omega), hl]
  rw [show A.length * 3 - A.length * 3 = 0 by omega, show A.length * 3 + 1 - A.length * 3 = 1 by omega, show A.length * 3 + 2 - A.length * 3 = 2 by omega]
  match rest, h with
  | x :: y :: z :: r, _ => rfl
theorem FacS.pre {w : World} {ad : Option Addr} {a b : List (Int × Int × Nat)} (h : FacS w ad (a ++ b)) : FacS w ad a := fun k hk => by
  have := h k (by rw [List.length_append]; omega)
  rwa [List.getElem_append_left hk] at this
theorem eqNilF (a : Option Addr) (n c : Nat) (w : World) : (binOp .eql 61 (.slice a n c) (.slice none 0 0)).run Try.prog w = .ok (.bool a.isNone) w := Lib.run_eql_slice_nil w 61 64 a n c 0 0 Try.underlying61
theorem joinR_form (l : List (Int × Int × Nat)) : ∃ (s : ByteArray) (e a : Int), joinR l = .tuple #[.string s, .int .i64 e, .int .i64 a] := by
  unfold joinR joinV
  split
  · exact ⟨_, _, _, rfl⟩
  · split <;> exact ⟨_, _, _, rfl⟩
theorem fac_src {w : World} {ad : Option Addr} {l : List (Int × Int × Nat)} (h : FacS w ad l) : ∀ b, ad = some b → ∀ j v, (FV l)[j]? = some v → w.cell? (b.add j) = some v := by
  intro b hb j v hj
  have hlt := (List.getElem?_eq_some_iff.1 hj).1
  rw [FV_length] at hlt
  obtain ⟨q, r, hr, rfl⟩ : ∃ q r, r < 3 ∧ j = q * 3 + r := ⟨j / 3, j % 3, by omega, by omega⟩
  have hk : q < l.length := by omega
  obtain ⟨b', o', e, c0, c1, c2⟩ := h q hk
  rw [hb] at e
  simp only [Option.some.injEq] at e
  subst e
  have ea : (⟨b', o', none⟩ : Addr).add (q * 3 + r) = ⟨b', o' + q * 3 + r, none⟩ := by unfold Addr.add; split <;> simp_all [Nat.add_assoc]
  have ha := FV_at l q hk
  rw [ea, ← hj]
  match r, hr with
  | 0, _ => exact c0.trans ha.1.symm
  | 1, _ => exact c1.trans ha.2.1.symm
  | 2, _ => exact c2.trans ha.2.2.symm

/-- 'append(l, f)' inside a region that draws its order. -/
theorem step_push_fac (t e : TypeId) (hu : Try.prog.underlying t = some (.slice e)) (hinf : (Try.prog.info? e).map (fun i => (i.zero, i.size, i.bytes)) = some (some (.agg #[.int .i64 0, .int .i64 0, .int .u8 0]), 3, 24))
    {ops : Array Oper} {o : Oper} {a : Act} {w : World} {K : Act → World → Prop} {Q : Exit → Act → World → Prop} {E : Prop} (hg : o.guard = none) (d : Option Tmp) (hd : o.dst = d)
    (s x : Operand) (hop : o.op = Op.call { callee := Callee.builtin Builtin.append, args := #[s, x], argTypes := #[t, t] })
    (base : Nat) (v : Value) (l : List (Int × Int × Nat)) (hs : a.eval s = v) (hown : w.ownsRow base e 3 v l.length (FV l))
    (b : Nat) (p : Int × Int × Nat) (T : TypeId) (hx : a.eval x = .slice (some ⟨b, 0, none⟩) 1 1) (hc : Blk w b T [.int .i64 p.1, .int .i64 p.2.1, .int .u8 (p.2.2 : Nat)]) (hn : l.length ≤ 5864062014700) (hbase : base ≤ w.heap.size)
    (hK : ∀ v' w', w'.ownsRow base e 3 v' (l ++ [p]).length (FV (l ++ [p])) → Below base w w' → K (a.put d v') w') :
    if Region.wanted o (yielded ops a.tmps) = true then Oper.wp Try.prog o a w K Q else E := by
  subst hd
  have hw : Region.wanted o (yielded ops a.tmps) = true := by simp [Region.wanted, hg]
  rw [if_pos hw]
  obtain ⟨i0, hi, hz0, hz1, hz2⟩ := info_parts hinf
  obtain ⟨v', w', hr, h2, h3, _⟩ := run_push (P := Try.prog) w t o.type e i0 (.agg #[.int .i64 0, .int .i64 0, .int .u8 0]) 3 24 hu hi hz0 hz1 hz2 rfl (by decide) base v l.length (FV l) hown ⟨b, 0, none⟩ 1 [.int .i64 p.1, .int .i64 p.2.1, .int .u8 (p.2.2 : Nat)] rfl (by
    obtain ⟨q0, q1, q2⟩ := cells3 hc
    intro j u hj
    match j, hj with
    | 0, hj => simp at hj; subst hj; simpa [Addr.add] using q0
    | 1, hj => simp at hj; subst hj; simpa [Addr.add] using q1
    | 2, hj => simp at hj; subst hj; simpa [Addr.add] using q2) (by
    intro u hu
    simp at hu
    rcases hu with rfl | rfl | rfl <;> rfl) (by unfold maxLen; omega) (by omega) hbase
  unfold Oper.wp execOp
  simp only [hop, resolve, invoke, builtin, Sem.run_bind, Sem.run_pure, Result.andThen_ok, List.map_toArray, List.map_cons, List.map_nil, hs, hx, hr]
  refine hK v' w' ?_ ((Below.refl base w).grown h3 hbase (fun k e => (hown.lt k e).1))
  rw [FV_append, List.length_append]
  exact h2

set_option maxRecDepth 20000 in
set_option maxHeartbeats 8000000 in
/-- 'h.join'. -/
theorem hjoin_any (B : Nat) (W : World) (hb N : Nat) (R : List Value) (E : Nat → List (Value × Int)) (T : Nat → List It) (H : HI B W hb N R E T) (hN : N + 1 ≤ 100000000)
    (ad : Option Addr) (l : List (Int × Int × Nat)) (c : Nat) (hF : FacS W ad l) (hnil : ad = none → l = [] ∧ c = 0) (hlen : l.length ≤ 5864062014640) :
    Calls Try.prog 34 #[.pointer (some ⟨hb, 0, none⟩), .slice ad l.length c] W fun e w' => e = .returned (.bool true) ∧ ∃ R' E', HI B w' hb (N + 1) R' E' T ∧ Below B W w' := by
  have HH : Hid _ := H
  have HF : Hid _ := hF
  have HNIL : Hid _ := hnil
  have hsz : B ≤ W.heap.size := H.rw'.sz
  have v8 : IntKind.i64.wrap ((l.length : Int) + 8) = (l.length : Int) + 8 := by rw [IntKind.wrap_i64]; omega
  have hflen := FV_length l
  have HFL : Hid _ := hflen
  obtain ⟨i0, hi, hz0, hz1, hz2⟩ := info_parts Try.infoFac
  have HI0 : Hid _ := hi
  have HZ0 : Hid _ := hz0
  have HZ1 : Hid _ := hz1
  have HZ2 : Hid _ := hz2
  clear H hF hnil hflen hi hz0 hz1 hz2
  go_enter Try.func34, Try.ntmps34
  go_wp2_with (first
    | (at_make; refine wpList_make_full _ rfl (.tmp 23) (.tmp 23) 61 rfl W.heap.size 64 i0 (.agg #[.int .i64 0, .int .i64 0, .int .u8 0]) 3 Try.underlying61 HI0.out HZ0.out HZ1.out .i64 .i64 ((l.length : Int) + 8) ((l.length : Int) + 8) (l.length + 8) rfl rfl (by omega) (by omega) (by rw [HZ2.out]; omega) (by unfold maxLen; omega) (Nat.le_refl _) ?_; intro w1 hown0 hg1; obtain ⟨xs1, hown1⟩ : ∃ xs1, w1.ownsRow W.heap.size 64 3 (.slice (some ⟨W.heap.size, 0, none⟩) (l.length + 8) (l.length + 8)) (l.length + 8) xs1 := ⟨_, hown0⟩; have HO1 : Hid _ := hown1; clear hown0; have HB1 : Hid _ := (Below.refl W.heap.size W).grown hg1 (Nat.le_refl _) (fun k e => by cases e); have HF1 : Hid _ := FacS.later HF.out HB1.out; clear hown1 hg1)
    | (refine wpList_copyK 61 64 3 Try.underlying61 (by rw [HI0.out]; exact congrArg some HZ1.out) _ rfl (.tmp 25) (.tmp 26) rfl W.heap.size W.heap.size (l.length + 8) (l.length + 8) _ rfl HO1.out ad l.length c (FV l) rfl (by omega) HFL.out (fun h => by have := HNIL.out h; exact ⟨by rw [this.1]; rfl, this.2⟩) (fac_src HF1.out) (FV_one l) ?_; intro w2 r2 hown2 hg2; have HO2 : Hid _ := hown2; have HB2 : Hid _ := HB1.out.grown hg2 (by have := HB1.out.size; omega) (fun k e => by cases e; omega); clear hown2 hg2)
    | fail)
  have hrl : (xs1.drop (FV l).length).length = 24 := by
    have h1 := HO1.out.1
    have h2 := HFL.out
    rw [List.length_drop, h1, h2]; omega
  have ho2 := HO2.out
  have e0 : FV l = FV (l ++ List.replicate 0 fq) := by simp
  rw [e0] at ho2
  rw [← e0] at ho2
  generalize xs1.drop (FV l).length = rest at ho2 hrl
  have HO3 : Hid _ := ho2
  have HRL : Hid _ := hrl
  clear ho2 hrl e0 HO2 HO1 HF1
  go_loopw [7] (fun iv wr => ∃ (j : Nat) (rs : List Value), j ≤ 8 ∧ iv = .int .i64 ((l.length + j : Nat) : Int) ∧ rs.length = (8 - j) * 3 ∧ wr.ownsRow W.heap.size 64 3 (.slice (some ⟨W.heap.size, 0, none⟩) (l.length + 8) (l.length + 8)) (l.length + 8) (FV (l ++ List.replicate j fq) ++ rs) ∧ Below W.heap.size W wr) (fun iv _ => l.length + 8 - (intOf iv).toNat)
  case atStart => exact ⟨0, rest, by omega, rfl, by have := HRL.out; omega, by rw [show l ++ List.replicate 0 fq = l by simp]; exact HO3.out, HB2.out⟩
  case round =>
    clear HO3 HRL HB2 HB1
    obtain ⟨j, rs, hj, rfl, hrs, hown, hB⟩ := hrel
    have HRS : Hid _ := hrs
    have HO : Hid _ := hown
    by_cases hj8 : j < 8
    · have hal : (l ++ List.replicate j fq).length = l.length + j := by simp
      have hsf := set_fac (A := l ++ List.replicate j fq) (rest := rs) fq (by have := HRS.out; omega)
      rw [hal, List.append_assoc, ← List.replicate_succ'] at hsf
      have hml : (FV (l ++ List.replicate j fq) ++ rs).length = (l.length + 8) * 3 := hown.1
      obtain ⟨z0, d0⟩ : ∃ z, wr.cell? ⟨W.heap.size, (l.length + j) * 3, none⟩ = some z := ⟨_, (hown.cellAt ((l.length + j) * 3) (by omega)).trans (List.getElem?_eq_getElem (by omega))⟩
      obtain ⟨z1, d1⟩ : ∃ z, wr.cell? ⟨W.heap.size, (l.length + j) * 3 + 1, none⟩ = some z := ⟨_, (hown.cellAt ((l.length + j) * 3 + 1) (by omega)).trans (List.getElem?_eq_getElem (by omega))⟩
      obtain ⟨z2, d2⟩ : ∃ z, wr.cell? ⟨W.heap.size, (l.length + j) * 3 + 2, none⟩ = some z := ⟨_, (hown.cellAt ((l.length + j) * 3 + 2) (by omega)).trans (List.getElem?_eq_getElem (by omega))⟩
      have hf0 := hown.frozenAt ((l.length + j) * 3)
      have hf1 := hown.frozenAt ((l.length + j) * 3 + 1)
      have hf2 := hown.frozenAt ((l.length + j) * 3 + 2)
      have s1 := hown.stored ((l.length + j) * 3) (.int .i64 fq.1)
      have s2 := s1.1.stored ((l.length + j) * 3 + 1) (.int .i64 fq.2.1)
      have s3 := s2.1.stored ((l.length + j) * 3 + 2) (.int .u8 (fq.2.2 : Nat))
      rw [hsf] at s3
      have HS3 : Hid _ := s3.1
      have HB3 : Hid _ := ((hB.setCell (p := ⟨W.heap.size, (l.length + j) * 3, none⟩) (by simp) (.int .i64 (-99))).setCell (p := ⟨W.heap.size, (l.length + j) * 3 + 1, none⟩) (by simp) (.int .i64 0)).setCell (p := ⟨W.heap.size, (l.length + j) * 3 + 2, none⟩) (by simp) (.int .u8 0)
      obtain ⟨q, hq⟩ : ∃ q, q = l.length + j := ⟨_, rfl⟩
      rw [← hq] at d0 d1 d2 hf0 hf1 hf2 HS3 HB3 ⊢
      have HQ : Hid _ := hq
      have i1 : (q : Int) < (l.length : Int) + 8 := by omega
      have i2 : (0 : Int) ≤ (q : Int) := by omega
      have v1 : IntKind.i64.wrap ((q : Int) + 1) = (q : Int) + 1 := by rw [IntKind.wrap_i64]; omega
      clear s1 s2 s3 hown hml hsf hal hq hrs
      go_wp2
      go_roundw
      case rel => exact ⟨j + 1, rs.drop 3, by omega, congrArg (fun x : Int => Value.int .i64 x) (by have := HQ.out; omega), by rw [List.length_drop]; have := HRS.out; omega, HS3.out, HB3.out⟩
      case measure => have := HQ.out; simp [intOf]; omega
    · have hj9 : j = 8 := by omega
      subst hj9
      have hr0 : rs = [] := List.eq_nil_of_length_eq_zero (by have := HRS.out; omega)
      subst hr0
      rw [List.append_nil] at hown
      have hXl : (l ++ List.replicate 8 fq).length = l.length + 8 := by simp
      have hX2 := hown
      rw [← hXl] at hX2
      obtain ⟨adx, cx, ex, hFX⟩ := FacS.own hX2
      simp only [Value.slice.injEq] at ex
      obtain ⟨rfl, _, rfl⟩ := ex
      have HX : Hid _ := hown
      have HFX : Hid _ := hFX
      obtain ⟨w1, hw1⟩ : ∃ w1, w1 = wr := ⟨_, rfl⟩
      subst hw1
      have i1 : ¬ ((l.length + 8 : Nat) : Int) < (l.length : Int) + 8 := by omega
      have i2 : (0 : Int) ≤ (l.length : Int) := by omega
      have i3 : (l.length : Int) ≤ (l.length : Int) + 8 := by omega
      have i4 : (l.length : Int) ≤ ((l.length + 8 : Nat) : Int) := by omega
      clear hown hX2 hFX hXl HO HRS hrs hj hj8
      have hqn := eqNilF ad l.length c w1
      go_upto_if 43 with fail
      clear hqn
      go_cut [8] (fun iv wx => wx = w1 ∧ ∃ ad' c', iv = .slice ad' l.length c' ∧ FacS w1 ad' l)
      case first =>
        cases ad with
        | none =>
          have HL0 : Hid (l = []) := (HNIL.out rfl).1
          go_wp2
          go_meet
          exact ⟨rfl, none, 0, by rw [HL0.out]; rfl, fun k hk => by rw [HL0.out] at hk; simp at hk⟩
        | some a =>
          go_wp2
          go_meet
          exact ⟨rfl, _, _, rfl, FacS.pre HFX.out⟩
      case rest =>
      obtain ⟨hwc, ad2, c2, rfl, hF2⟩ := hcut
      subst hwc
      have HF2 : Hid _ := hF2
      clear hF2
      have HBC : Hid _ := hB
      have hszc := hB.size
      clear hB
      go_wp2_with fail
      go_loopw [9, 10] (fun rv iv wr => ∃ k : Nat, k ≤ l.length ∧ iv = .int .i64 k ∧ wr.ownsRow wc.heap.size 111 3 rv (l.take k).length (FV (l.take k)) ∧ Below wc.heap.size wc wr) (fun _ iv _ => l.length - (intOf iv).toNat)
      case atStart => exact ⟨0, Nat.zero_le _, rfl, World.ownsRow_nil _ _ _ _, Below.refl _ _⟩
      case round =>
        obtain ⟨k, hk, rfl, hown, hB⟩ := hrel
        have hB0 : Below W.heap.size W wr := Below.later HBC.out hB
        have hszr := hB.size
        obtain ⟨adr, cr, rfl⟩ := own_valB hown
        have htl : (l.take k).length = k := by rw [List.length_take]; omega
        have HTL : Hid _ := htl
        have HOR : Hid _ := hown
        clear htl hown
        by_cases hlt : k < l.length
        · obtain ⟨b, o, rfl, c0, c1, c2⟩ := HF.out k hlt
          have d0 := (hB0.cell (cell_lt c0)).trans c0
          have d1 := (hB0.cell (cell_lt c1)).trans c1
          have d2 := (hB0.cell (cell_lt c2)).trans c2
          have HTS : Hid (l.take (k + 1) = l.take k ++ [l[k]]) := by unfold Hid; rw [List.take_add_one, List.getElem?_eq_getElem hlt]; rfl
          generalize l[k] = p at d0 d1 d2 HTS
          have i1 : (k : Int) < (l.length : Int) := by omega
          have i5 : (0 : Int) ≤ (k : Int) := by omega
          have lb : b < W.heap.size := cell_lt c0
          have lbc : b < wc.heap.size := by omega
          have HOR1 : Hid _ := own_fr HOR.out (Fr.of_below ((Below.refl _ wr).drew)) (fun _ _ _ h => by cases h)
          generalize l.take k = A at HTS HTL HOR HOR1
          have HAl : Hid (A.length ≤ 5864062014700) := by have := HTL.out; unfold Hid; omega
          clear c0 c1 c2 HOR
          go_wp2_with fail
          go_region_held_law (fun w' => w'.cell? ⟨b, o + k * 3, none⟩ = some (.int .i64 p.1) ∧ w'.cell? ⟨b, o + k * 3 + 1, none⟩ = some (.int .i64 p.2.1) ∧ w'.cell? ⟨b, o + k * 3 + 2, none⟩ = some (.int .u8 (p.2.2 : Nat))) (go_keep)
            (first
              | (refine step_push_fac 107 111 Try.underlying107 Try.infoRFac rfl (some 67) rfl (.tmp 49) (.tmp 66) rfl wc.heap.size (.slice adr A.length cr) A rfl (World.ownsRow.alloc HOR1.out _) wr.heap.size p 111 rfl (Blk.new _ _ _ (by simp)) HAl.out (by simp; omega) ?_; intro v4 w4 q1 q2; have HQ1 : Hid _ := q1; have hQ2 : Below wc.heap.size wr w4 := ((Below.refl wc.heap.size wr).drew.alloc (by simp; omega) _).trans q2; have y0 := (hQ2.cell (p := ⟨b, o + k * 3, none⟩) lbc).trans d0; have y1 := (hQ2.cell (p := ⟨b, o + k * 3 + 1, none⟩) lbc).trans d1; have y2 := (hQ2.cell (p := ⟨b, o + k * 3 + 2, none⟩) lbc).trans d2; clear q1 q2))
          go_wp2_with fail
          go_roundw
          case rel => exact ⟨k + 1, by omega, by go_num, by rw [HTS.out]; exact HQ1.out, hB.trans hQ2⟩
          case measure => simp [intOf]; omega
        · have ek : k = l.length := by omega
          subst ek
          have i1 : ¬ (l.length : Int) < (l.length : Int) := by omega
          have hown := HOR.out
          rw [List.take_length] at hown ⊢
          obtain ⟨adr2, cr2, er, hFR⟩ := FacS.own hown
          simp only [Value.slice.injEq, true_and] at er
          obtain ⟨rfl, rfl⟩ := er
          obtain ⟨s0, e0, a0, hJ⟩ := joinR_form l
          have C1 := Join_any ad2 l c2 wr (FacS.later HF2.out (hB.mono (Nat.le_refl _)))
          have C2 := fun W' (h : FacS W' adr l) => refJoin_any adr l cr W' h
          rw [hJ] at C1
          simp only [hJ] at C2
          have HC1 : Hid _ := C1
          have HC2 : Hid _ := C2
          have HFR : Hid _ := hFR
          clear C1 C2 hJ hFR hown HOR HTL hk hlt
          go_wp2_with fail
          refine Calls.mono HC1.out ?_
          rintro e w5 ⟨rfl, hb5⟩
          have HC3 : Hid _ := HC2.out w5 (FacS.later HFR.out hb5)
          have hB5 := Below.later hB hb5
          clear hB hb5 hB0
          go_wp2_with fail
          refine Calls.mono HC3.out ?_
          rintro e w6 ⟨rfl, hb6⟩
          have hB6 := Below.later hB5 hb6
          have HB6 : Hid _ := hB6
          clear hB5 hb6 hB6 HC1 HC2 HC3
          go_wp2_with (first | (go_at_call 40; refine (num_any e0 _).mono ?_; rintro e w7 ⟨rfl, rfl⟩) | fail)
          go_loopw [17, 18] (fun sv iv wr => ∃ k : Nat, k ≤ l.length ∧ sv = .bool true ∧ iv = .int .i64 k ∧ Below wc.heap.size wc wr) (fun _ iv _ => l.length - (intOf iv).toNat)
          case atStart => exact ⟨0, Nat.zero_le _, rfl, rfl, HB6.out⟩
          case round =>
            obtain ⟨k, hk, rfl, rfl, hB⟩ := hrel
            have hB0 : Below W.heap.size W wr := Below.later HBC.out hB
            by_cases hlt : k < l.length
            · obtain ⟨b, o, rfl, c0, c1, c2⟩ := HF.out k hlt
              have d0 := (hB0.cell (cell_lt c0)).trans c0
              have d1 := (hB0.cell (cell_lt c1)).trans c1
              have d2 := (hB0.cell (cell_lt c2)).trans c2
              obtain ⟨b', o', e', x0, x1, x2⟩ := HFX.out k (by rw [List.length_append]; omega)
              simp only [Option.some.injEq, Addr.mk.injEq, and_true] at e'
              obtain ⟨rfl, rfl⟩ := e'
              rw [List.getElem_append_left hlt, Nat.zero_add] at x0 x1 x2
              have y0 := (hB.cell (cell_lt x0)).trans x0
              have y1 := (hB.cell (cell_lt x1)).trans x1
              have y2 := (hB.cell (cell_lt x2)).trans x2
              generalize l[k] = p at d0 d1 d2 y0 y1 y2
              have i6 : (k : Int) < (l.length : Int) := by omega
              have i7 : (0 : Int) ≤ (k : Int) := by omega
              have i8 : (k : Int) < (l.length : Int) + 8 := by omega
              have i9 : (k : Int) < ((l.length + 8 : Nat) : Int) := by omega
              clear c0 c1 c2 x0 x1 x2
              go_wp2
              go_quiet (fail)
              go_wp2_with fail
              go_roundw
              case rel => exact ⟨k + 1, by omega, rfl, by go_num, hB.drewN _⟩
              case measure => simp [intOf]; omega
            · have ek : k = l.length := by omega
              subst ek
              have HB7 : Hid _ := hB
              clear hB hB0 hk hlt
              go_wp2_with fail
              go_loopw [17, 19] (fun sv iv wr => ∃ j : Nat, j ≤ 8 ∧ sv = .bool true ∧ iv = .int .i64 ((l.length + j : Nat) : Int) ∧ Below wc.heap.size wc wr) (fun _ iv _ => l.length + 8 - (intOf iv).toNat)
              case atStart => exact ⟨0, Nat.zero_le _, rfl, rfl, HB7.out⟩
              case round =>
                obtain ⟨j, hj, rfl, rfl, hB⟩ := hrel
                have hB0 : Below W.heap.size W wr := Below.later HBC.out hB
                by_cases hj8 : j < 8
                · obtain ⟨b', o', e', x0, x1, x2⟩ := HFX.out (l.length + j) (by rw [List.length_append]; simp; omega)
                  simp only [Option.some.injEq, Addr.mk.injEq, and_true] at e'
                  obtain ⟨rfl, rfl⟩ := e'
                  rw [List.getElem_append_right (by omega), List.getElem_replicate, Nat.zero_add] at x0 x1 x2
                  have y0 := (hB.cell (cell_lt x0)).trans x0
                  have y1 := (hB.cell (cell_lt x1)).trans x1
                  have y2 := (hB.cell (cell_lt x2)).trans x2
                  obtain ⟨q, hq⟩ : ∃ q, q = l.length + j := ⟨_, rfl⟩
                  rw [← hq] at y0 y1 y2 ⊢
                  unfold fq at y0 y1 y2
                  have HQ : Hid _ := hq
                  have i6 : (q : Int) < (l.length : Int) + 8 := by omega
                  have i7 : (0 : Int) ≤ (q : Int) := by omega
                  have v1 : IntKind.i64.wrap ((q : Int) + 1) = (q : Int) + 1 := by rw [IntKind.wrap_i64]; omega
                  clear x0 x1 x2 hq
                  go_wp2
                  go_roundw
                  case rel => exact ⟨j + 1, by omega, rfl, congrArg (fun x : Int => Value.int .i64 x) (by have := HQ.out; omega), hB⟩
                  case measure => have := HQ.out; simp [intOf]; omega
                · have ej : j = 8 := by omega
                  subst ej
                  have i6 : ¬ ((l.length + 8 : Nat) : Int) < (l.length : Int) + 8 := by omega
                  have hXr := own_fr HX.out (Fr.of_below hB) (fun _ _ _ h => by cases h)
                  obtain ⟨hP, hcv, hTv, hEv⟩ := HI.toMark (κ := 2) (by omega) HH.out hB0 hXr (by omega)
                  have HM : Hid _ := markFactors_any B wr hb N R (E 2) _ (l.length + 8) _ hP
                  have HHr : Hid _ := HI.later HH.out hB0
                  have HCV : Hid _ := hcv
                  have HTV : Hid _ := hTv
                  have HEV : Hid _ := hEv
                  have HB0 : Hid _ := hB0
                  clear hXr hP hcv hTv hEv hB hB0
                  go_wp2_with fail
                  refine Calls.mono HM.out ?_
                  rintro e w8 ⟨rfl, m, R', g, G, hMK, hG⟩
                  go_wp2
                  go_ret
                  exact ⟨rfl, R', _, HI.marked (by omega) HHr.out hN hG hMK HCV.out HTV.out HEV.out, (Below.mono HB0.out hsz).trans hMK.blw⟩
end Go.Proofs.Ytepklbboejnecaa

/- Pieced. -/
namespace Go.Proofs.Ytepklbboejnecaa
open Go.RowKit Go.Shelf Sedge
attribute [local go_sem ↓] Go.wp_at_zero Go.wp_at_succ

/-- What is held where neither ints nor hits wait. -/
def HoldsF (B hb N k : Nat) (W : World) : Prop := ∃ R E T, HI B W hb N R E T ∧ (T 0).length = 0 ∧ (T 1).length = 0 ∧ (T 2).length = k
theorem HoldsF.later {B hb N k : Nat} {W W' : World} (H : HoldsF B hb N k W) (h : Below W.heap.size W W') : HoldsF B hb N k W' := by
  obtain ⟨R, E, T, h1, a, b, c⟩ := H
  exact ⟨R, E, T, HI.later h1 h, a, b, c⟩
theorem HoldsF.base {B hb N k : Nat} {W : World} (H : HoldsF B hb N k W) : B ≤ W.heap.size := by
  obtain ⟨R, E, T, h1, _⟩ := H
  exact h1.rw'.sz
/-- Nothing is held at first. -/
theorem HI.first (w : World) : HI w.heap.size (w.alloc (Obj.cells #[.int .i64 0, nl, nl, nl, nl, nl, nl, nl, nl, nl] 30)) w.heap.size 0 [nl, nl, nl, nl, nl, nl, nl, nl, nl] (fun _ => []) (fun _ => []) := by
  have hr : ∀ j, row [nl, nl, nl, nl, nl, nl, nl, nl, nl] j = nl := fun j => by
    unfold row
    match j with
    | 0 => rfl
    | 1 => rfl
    | 2 => rfl
    | 3 => rfl
    | 4 => rfl
    | 5 => rfl
    | 6 => rfl
    | 7 => rfl
    | 8 => rfl
    | _ + 9 => rfl
  have hm : ∀ r ∈ [nl, nl, nl, nl, nl, nl, nl, nl, nl], r = nl := fun r h => by simpa using h
  refine ⟨⟨Nat.le_refl _, rfl, Blk.new w _ _ rfl, ?_, ?_, ?_⟩, ?_, ?_, ?_, (fun κ _ t ht => by cases ht), (fun κ _ t ht => by cases ht), (fun κ _ t ht => by cases ht), (fun κ _ t ht => by cases ht), (fun κ _ t ht => by cases ht), (fun κ _ t ht => by cases ht), (fun κ _ t ht => by cases ht), (fun κ _ => List.Pairwise.nil), (fun κ κ' _ _ _ t ht => by cases ht), (fun κ κ' _ _ t ht => by cases ht), by omega, fun κ _ => by simp, fun κ _ => by simp⟩
  · rw [List.pairwise_iff_getElem]
    intro i j hi hj _
    rw [hm _ (List.getElem_mem hj)]; exact apart_nl _
  · intro r h e; rw [hm r h] at e; cases e
  · intro r h g e; rw [hm r h] at e; cases e
  · intro κ _; rw [hr]; exact World.ownsRow_nil _ _ _ _
  · intro κ _; rw [hr]; exact World.ownsRow_nil _ _ _ _
  · intro κ _; rw [hr]; exact World.ownsRow_nil _ _ _ _
theorem hpieces_holds (B hb N k : Nat) (W : World) (H : HoldsF B hb N k W) (hk : k < 100) (s : ByteArray) :
    Calls Try.prog 33 #[.pointer (some ⟨hb, 0, none⟩), .string s] W fun e w' => e = .returned (.bool true) ∧ HoldsF B hb N (k + 1) w' ∧ Below B W w' := by
  obtain ⟨R, E, T, h, a, b, c⟩ := H
  refine (hpieces_any B W hb N R E T h (by omega) s).mono ?_
  rintro e w' ⟨rfl, R', x, h', hb'⟩
  exact ⟨rfl, ⟨_, _, _, h', by rw [upd_other _ _ (by omega)]; exact a, by rw [upd_other _ _ (by omega)]; exact b, by rw [upd_same, List.length_append, c]; rfl⟩, hb'⟩
theorem hjoin_holds (B hb N k : Nat) (W : World) (H : HoldsF B hb N k W) (hN : N + 1 ≤ 100000000) (ad : Option Addr) (l : List (Int × Int × Nat)) (c : Nat) (hF : FacS W ad l) (hnil : ad = none → l = [] ∧ c = 0) (hlen : l.length ≤ 5864062014640) :
    Calls Try.prog 34 #[.pointer (some ⟨hb, 0, none⟩), .slice ad l.length c] W fun e w' => e = .returned (.bool true) ∧ HoldsF B hb (N + 1) k w' ∧ Below B W w' := by
  obtain ⟨R, E, T, h, a, b, c'⟩ := H
  refine (hjoin_any B W hb N R E T h hN ad l c hF hnil hlen).mono ?_
  rintro e w' ⟨rfl, R', E', h', hb'⟩
  exact ⟨rfl, ⟨_, _, _, h', a, b, c'⟩, hb'⟩
theorem settlesF_holds (B hb N k : Nat) (W : World) (H : HoldsF B hb N k W) (hk : N + k ≤ 1000) :
    Calls Try.prog 15 #[.pointer (some ⟨hb, 0, none⟩)] W fun e w' => e = .returned (.bool true) ∧ HoldsF B hb (N + k) 0 w' ∧ Below B W w' := by
  obtain ⟨R, E, T, h, a, b, c⟩ := H
  refine (settlesK_any B W hb N R E T h (by omega)).mono ?_
  rintro e w' ⟨rfl, R', E', h', hb'⟩
  rw [a, b, c] at h'
  exact ⟨rfl, ⟨_, _, _, h', rfl, rfl, rfl⟩, hb'⟩

set_option maxRecDepth 20000 in
set_option maxHeartbeats 4000000 in
theorem pieced_any (text : ByteArray) (ad : Option Addr) (l : List (Int × Int × Nat)) (c : Nat) (other : ByteArray) (w : World) (hF : FacS w ad l) (hnil : ad = none → l = [] ∧ c = 0) (hlen : l.length ≤ 5864062014640) :
    Calls Try.prog 11 #[.string text, .slice ad l.length c, .string other] w fun e w' => e = .returned (.bool true) ∧ Below w.heap.size w w' := by
  have h0 : HoldsF w.heap.size w.heap.size 0 0 (w.alloc (Obj.cells #[.int .i64 0, nl, nl, nl, nl, nl, nl, nl, nl, nl] 30)) := ⟨_, _, _, HI.first w, rfl, rfl, rfl⟩
  have b0 : Below w.heap.size w (w.alloc (Obj.cells #[.int .i64 0, nl, nl, nl, nl, nl, nl, nl, nl, nl] 30)) := (Below.refl _ _).alloc (Nat.le_refl _) _
  have HH0 : Hid _ := h0
  have HB0 : Hid _ := b0
  have HF : Hid _ := hF
  have HNIL : Hid _ := hnil
  clear h0 b0 hF hnil
  go_enter Try.func11, Try.ntmps11
  go_wp2_with fail
  refine (hpieces_holds _ _ (0) 0 _ HH0.out (by omega) text).mono ?_
  rintro e w1 ⟨rfl, H1, B1⟩
  have HH1 : Hid _ := H1
  have HB1 : Hid _ := HB0.out.trans B1
  clear HH0 HB0 H1 B1
  go_wp2_with fail
  refine (hjoin_holds _ _ (0) 1 _ HH1.out (by omega) ad l c (FacS.later HF.out HB1.out) HNIL.out hlen).mono ?_
  rintro e w2 ⟨rfl, H2, B2⟩
  have HH2 : Hid _ := H2
  have HB2 : Hid _ := HB1.out.trans B2
  clear HH1 HB1 H2 B2
  go_wp2_with fail
  refine (hpieces_holds _ _ (0 + 1) 1 _ HH2.out (by omega) other).mono ?_
  rintro e w3 ⟨rfl, H3, B3⟩
  have HH3 : Hid _ := H3
  have HB3 : Hid _ := HB2.out.trans B3
  clear HH2 HB2 H3 B3
  go_wp2_with fail
  refine (hjoin_holds _ _ (0 + 1) 2 _ HH3.out (by omega) none [] 0 (fun k hk => by simp at hk) (fun _ => ⟨rfl, rfl⟩) (by simp)).mono ?_
  rintro e w4 ⟨rfl, H4, B4⟩
  have HH4 : Hid _ := H4
  have HB4 : Hid _ := HB3.out.trans B4
  clear HH3 HB3 H4 B4
  go_wp2_with fail
  refine (hpieces_holds _ _ (0 + 1 + 1) 2 _ HH4.out (by omega) text).mono ?_
  rintro e w5 ⟨rfl, H5, B5⟩
  have HH5 : Hid _ := H5
  have HB5 : Hid _ := HB4.out.trans B5
  clear HH4 HB4 H5 B5
  go_wp2_with fail
  refine (hjoin_holds _ _ (0 + 1 + 1) 3 _ HH5.out (by omega) ad l c (FacS.later HF.out HB5.out) HNIL.out hlen).mono ?_
  rintro e w6 ⟨rfl, H6, B6⟩
  have HH6 : Hid _ := H6
  have HB6 : Hid _ := HB5.out.trans B6
  clear HH5 HB5 H6 B6
  go_wp2_with fail
  refine (hpieces_holds _ _ (0 + 1 + 1 + 1) 3 _ HH6.out (by omega) _).mono ?_
  rintro e w7 ⟨rfl, H7, B7⟩
  have HH7 : Hid _ := H7
  have HB7 : Hid _ := HB6.out.trans B7
  clear HH6 HB6 H7 B7
  go_wp2_with fail
  have bl7 : Below w7.heap.size w7 (w7.alloc (Obj.cells #[.int .i64 0, .int .i64 0, .int .u8 97, .int .i64 0, .int .i64 3, .int .u8 0] 64)) := (Below.refl _ _).alloc (Nat.le_refl _) _
  have fl7 : FacS (w7.alloc (Obj.cells #[.int .i64 0, .int .i64 0, .int .u8 97, .int .i64 0, .int .i64 3, .int .u8 0] 64)) (some ⟨w7.heap.size, 0, none⟩) [(0, 0, 97), (0, 3, 0)] := fun k hk => by
    have hx : Blk (w7.alloc (Obj.cells #[.int .i64 0, .int .i64 0, .int .u8 97, .int .i64 0, .int .i64 3, .int .u8 0] 64)) w7.heap.size 64 [.int .i64 0, .int .i64 0, .int .u8 97, .int .i64 0, .int .i64 3, .int .u8 0] := Blk.new w7 _ _ rfl
    match k, hk with
    | 0, _ => exact ⟨_, _, rfl, hx.cell (k := 0) (by simp), hx.cell (k := 1) (by simp), hx.cell (k := 2) (by simp)⟩
    | 1, _ => exact ⟨_, _, rfl, hx.cell (k := 3) (by simp), hx.cell (k := 4) (by simp), hx.cell (k := 5) (by simp)⟩
  have HBL : Hid _ := HB7.out.trans (bl7.mono (HoldsF.base HH7.out))
  refine (hjoin_holds _ _ (0 + 1 + 1 + 1) 4 _ (HoldsF.later HH7.out bl7) (by omega) (some ⟨w7.heap.size, 0, none⟩) [(0, 0, 97), (0, 3, 0)] 2 fl7 (fun h => by cases h) (by simp)).mono ?_
  rintro e w8 ⟨rfl, H8, B8⟩
  have HH8 : Hid _ := H8
  have HB8 : Hid _ := HBL.out.trans B8
  clear HH7 HB7 H8 B8 HBL bl7 fl7
  go_wp2_with fail
  refine (settlesF_holds _ _ (0 + 1 + 1 + 1 + 1) 4 _ HH8.out (by omega)).mono ?_
  rintro e w9 ⟨rfl, H9, B9⟩
  have HH9 : Hid _ := H9
  have HB9 : Hid _ := HB8.out.trans B9
  clear HH8 HB8 H9 B9
  go_wp2_with fail
  refine (hpieces_holds _ _ (0 + 1 + 1 + 1 + 1 + 4) 0 _ HH9.out (by omega) text).mono ?_
  rintro e w10 ⟨rfl, H10, B10⟩
  have HH10 : Hid _ := H10
  have HB10 : Hid _ := HB9.out.trans B10
  clear HH9 HB9 H10 B10
  go_wp2_with fail
  refine (settlesF_holds _ _ (0 + 1 + 1 + 1 + 1 + 4) 1 _ HH10.out (by omega)).mono ?_
  rintro e w11 ⟨rfl, H11, B11⟩
  have HH11 : Hid _ := H11
  have HB11 : Hid _ := HB10.out.trans B11
  clear HH10 HB10 H11 B11
  go_wp2
  go_ret
  exact ⟨rfl, HB11.out⟩
end Go.Proofs.Ytepklbboejnecaa
