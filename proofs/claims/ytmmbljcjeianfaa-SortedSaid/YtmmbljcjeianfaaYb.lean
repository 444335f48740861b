/- What is held: the lists that wait, the lists that are marked. -/
import Derived.Test.YtmmbljcjeianfaaYa
namespace Go.Proofs.Ytmmbljcjeianfaa
open Go.RowKit Go.Shelf Sedge
attribute [local go_sem ↓] Go.wp_at_zero Go.wp_at_succ

abbrev nl : Value := .slice none 0 0
/-- Two lists lie in blocks of their own. -/
def Apart (x y : Value) : Prop := ∀ g, x.ownBlock = some g → y.ownBlock ≠ some g
theorem Apart.symm {x y : Value} (h : Apart x y) : Apart y x := fun g h1 h2 => h g h2 h1
theorem apart_nl (x : Value) : Apart x nl := fun _ _ h => by cases h
/-- What lies apart from what holds the lists. -/
structure Clear (hb : Nat) (vI vT vR x : Value) : Prop where
  off : x.ownBlock ≠ some hb
  i : Apart x vI
  t : Apart x vT
  r : Apart x vR
/-- The marked lists, as cells. -/
def cellsE (E : List (Value × Int)) : List Value := E.flatMap fun e => [e.1, .int .i64 e.2]
theorem cellsE_length (E : List (Value × Int)) : (cellsE E).length = E.length * 2 := by
  induction E with
  | nil => rfl
  | cons e E ih => rw [cellsE, List.flatMap_cons, List.length_append]; rw [cellsE] at ih; rw [ih]; simp; omega
theorem cellsE_append (E F : List (Value × Int)) : cellsE (E ++ F) = cellsE E ++ cellsE F := by simp [cellsE]

/-- What is held, whole. -/
structure HInv (B : Nat) (W : World) (hb N : Nat) (vI vT vR : Value) (E : List (Value × Int)) (T : List (Value × Value × List Nat)) : Prop where
  base : B ≤ hb
  box : Blk W hb 30 [.int .i64 (N : Int), vI, nl, nl, vT, vR, nl, nl, nl, nl]
  rI : W.ownsRow B 117 2 vI E.length (cellsE E)
  rT : W.ownsRow B 36 1 vT T.length (T.map (·.1))
  rR : W.ownsRow B 36 1 vR T.length (T.map (·.2.1))
  own : ∀ t ∈ T, W.ownsRow B 3 1 t.1 t.2.2.length (IV t.2.2) ∧ W.ownsRow B 3 1 t.2.1 t.2.2.length (IV t.2.2)
  small : ∀ t ∈ T, t.2.2.length ≤ 100000
  rd : ∀ e ∈ E, Rd W e.1 e.2
  lt : ∀ e ∈ E, ∀ g, e.1.ownBlock = some g → g < W.heap.size
  oI : vI.ownBlock ≠ some hb
  oT : vT.ownBlock ≠ some hb
  oR : vR.ownBlock ≠ some hb
  aIT : Apart vI vT
  aIR : Apart vI vR
  aTR : Apart vT vR
  cT : ∀ t ∈ T, Clear hb vI vT vR t.1 ∧ Clear hb vI vT vR t.2.1
  cE : ∀ e ∈ E, Clear hb vI vT vR e.1
  pw : T.Pairwise fun t t' => Apart t.1 t'.1
  te : ∀ t ∈ T, ∀ e ∈ E, Apart e.1 t.1
  nN : N ≤ 1000
  nE : E.length ≤ 4 * N
  nT : T.length ≤ 100

section
variable {B : Nat} {W W' : World} {hb N : Nat} {vI vT vR : Value} {E : List (Value × Int)} {T : List (Value × Value × List Nat)}
theorem free_nil (x : Value) : Free x [] := fun _ _ _ h => by cases h
theorem HInv.later (h : HInv B W hb N vI vT vR E T) (k : Below W.heap.size W W') : HInv B W' hb N vI vT vR E T :=
  { h with
    box := h.box.later k
    rI := own_fr h.rI (Fr.of_below k) (free_nil _)
    rT := own_fr h.rT (Fr.of_below k) (free_nil _)
    rR := own_fr h.rR (Fr.of_below k) (free_nil _)
    own := fun t ht => ⟨own_fr (h.own t ht).1 (Fr.of_below k) (free_nil _), own_fr (h.own t ht).2 (Fr.of_below k) (free_nil _)⟩
    rd := fun e he => (h.rd e he).fr (Fr.of_below k) (free_nil _)
    lt := fun e he g hg => Nat.lt_of_lt_of_le (h.lt e he g hg) k.size }
/-- A list in a new block lies apart from all that is held. -/
theorem HInv.fresh (h : HInv B W hb N vI vT vR E T) {x : Value} (hx : ∀ g, x.ownBlock = some g → W.heap.size ≤ g) : Clear hb vI vT vR x ∧ (∀ t ∈ T, Apart t.1 x) ∧ (∀ e ∈ E, Apart e.1 x) where
  left := ⟨fun e => by have := hx _ e; have := h.box.lt; omega, fun g h1 h2 => by have := hx g h1; have := (h.rI.lt g h2).2; omega, fun g h1 h2 => by have := hx g h1; have := (h.rT.lt g h2).2; omega, fun g h1 h2 => by have := hx g h1; have := (h.rR.lt g h2).2; omega⟩
  right := ⟨fun t ht g h1 h2 => by have := hx g h2; have := ((h.own t ht).1.lt g h1).2; omega, fun e he g h1 h2 => by have := hx g h2; have := h.lt e he g h1; omega⟩
theorem HInv.cellAt (h : HInv B W hb N vI vT vR E T) : W.cell? ⟨hb, 0, none⟩ = some (.int .i64 (N : Int)) ∧ W.cell? ⟨hb, 1, none⟩ = some vI ∧ W.cell? ⟨hb, 2, none⟩ = some nl ∧ W.cell? ⟨hb, 3, none⟩ = some nl ∧ W.cell? ⟨hb, 4, none⟩ = some vT ∧ W.cell? ⟨hb, 5, none⟩ = some vR ∧ W.cell? ⟨hb, 6, none⟩ = some nl ∧ W.cell? ⟨hb, 7, none⟩ = some nl ∧ W.cell? ⟨hb, 8, none⟩ = some nl ∧ W.cell? ⟨hb, 9, none⟩ = some nl :=
  ⟨h.box.cell (k := 0) (by simp), h.box.cell (k := 1) (by simp), h.box.cell (k := 2) (by simp), h.box.cell (k := 3) (by simp), h.box.cell (k := 4) (by simp), h.box.cell (k := 5) (by simp), h.box.cell (k := 6) (by simp), h.box.cell (k := 7) (by simp), h.box.cell (k := 8) (by simp), h.box.cell (k := 9) (by simp)⟩
end

set_option maxHeartbeats 1000000 in
/-- 'sameInts'. -/
theorem sameInts_any (ax ay : Option Addr) (X Y : List Nat) (cx cy : Nat) (w : World) (hX : Sl w ax X) (hY : Sl w ay Y) (he : X = Y) (hn : X.length ≤ 1000000) :
    Calls Try.prog 38 #[.slice ax X.length cx, .slice ay Y.length cy] w fun e w' => e = .returned (.bool true) ∧ Below w.heap.size w w' := by
  subst he
  go_enter Try.func38, Try.ntmps38
  go_wp2
  go_loopw [5] (fun i wr => ∃ k : Nat, k ≤ X.length ∧ i = .int .i64 k ∧ Below w.heap.size w wr) (fun i _ => X.length - (intOf i).toNat)
  case atStart => exact ⟨0, Nat.zero_le _, rfl, Below.refl _ _⟩
  case round =>
    obtain ⟨k, hk, rfl, hb⟩ := hrel
    by_cases hlt : k < X.length
    · obtain ⟨b, o1, rfl, hc⟩ := hX k hlt
      obtain ⟨b2, o2, rfl, hc2⟩ := hY k hlt
      have i1 : (k : Int) < (X.length : Int) := by omega
      have i2 : (0 : Int) ≤ (k : Int) := by omega
      have d1 := (hb.cell (cell_lt hc)).trans hc
      have d2 := (hb.cell (cell_lt hc2)).trans hc2
      clear hc hc2
      go_wp2
      go_quiet (fail)
      go_wp2_with fail
      go_roundw
      case rel => exact ⟨k + 1, by omega, by go_num, hb.drewN _⟩
      case measure => simp [intOf]; omega
    · have i1 : ¬ (k : Int) < (X.length : Int) := by omega
      go_wp2
      go_ret
      exact ⟨rfl, hb⟩
end Go.Proofs.Ytmmbljcjeianfaa
