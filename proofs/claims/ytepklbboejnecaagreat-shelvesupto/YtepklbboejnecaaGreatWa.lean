/- How lists of numbers lie in memory, and the small functions of package ends: what each call returns. -/
import Derived.Test.YtepklbboejnecaaGreatRows
import Derived.Test.YtepklbboejnecaaGreatM
import Derived.WalkKit
import Derived.WalkSpells
import Derived.WalkLawsBesides
import Derived.Deep.QuietTactic
import Derived.BigQuiet
namespace Go.Proofs.YtepklbboejnecaaGreat
open Go.RowKit Sedge

/-- The numbers of a list lie one behind the other from an address on. -/
def Sl (w : World) (ad : Option Addr) (l : List Nat) : Prop :=
  ∀ k, k < l.length → ∃ b o, ad = some ⟨b, o, none⟩ ∧ w.cell? ⟨b, o + k, none⟩ = some (.int .i64 (num l k))

theorem cell_lt {w : World} {a : Addr} {v : Value} (h : w.cell? a = some v) : a.block < w.heap.size := by
  by_cases c : a.block < w.heap.size
  · exact c
  · have : w.heap[a.block]? = none := by simp; omega
    simp [World.cell?, this] at h
theorem Sl.later {w w' : World} {ad : Option Addr} {l : List Nat} (h : Sl w ad l) (hb : Below w.heap.size w w') : Sl w' ad l := by
  intro k hk
  obtain ⟨b, o, e, hc⟩ := h k hk
  exact ⟨b, o, e, by rw [hb.cell (cell_lt hc)]; exact hc⟩
theorem Sl.alloc {w : World} {ad : Option Addr} {l : List Nat} (h : Sl w ad l) (o : Obj) : Sl (w.alloc o) ad l :=
  h.later ((Below.refl _ _).alloc (Nat.le_refl _) _)


/-! ### Blocks -/

/-- Block g holds these values, all of one type; none is frozen. -/
def Blk (w : World) (g : Nat) (T : TypeId) (vs : List Value) : Prop := w.heap[g]? = some (.cells vs.toArray T (0, 0))
def IV (l : List Nat) : List Value := l.map fun x => Value.int .i64 (x : Nat)
/-- Block g is a row of numbers. -/
def Row (w : World) (g : Nat) (l : List Nat) : Prop := Blk w g 3 (IV l)

section
variable {w w' : World} {g : Nat} {T : TypeId} {vs : List Value} {l : List Nat}
theorem Blk.lt (h : Blk w g T vs) : g < w.heap.size := lt_of_block h
theorem Blk.cell (h : Blk w g T vs) {k : Nat} (hk : k < vs.length) : w.cell? ⟨g, k, none⟩ = some vs[k] := by
  rw [cell_of_row w g k _ _ _ h]; simp [hk]
theorem Blk.free (h : Blk w g T vs) (k : Nat) : w.frozen? ⟨g, k, none⟩ = false := frozen_of_row w g k _ _ h
theorem Blk.set (h : Blk w g T vs) (k : Nat) (v : Value) : Blk (w.setCell ⟨g, k, none⟩ v) g T (vs.set k v) := by
  unfold Blk
  rw [heap_setCell_same w g k _ _ v h]; simp
theorem Blk.other (h : Blk w g T vs) {a : Addr} (ha : g ≠ a.block) (v : Value) : Blk (w.setCell a v) g T vs := by
  unfold Blk; rw [heap_setCell_other w a g v ha]; exact h
theorem Blk.alloc (h : Blk w g T vs) (o : Obj) : Blk (w.alloc o) g T vs := by
  unfold Blk; rw [Below.heap_alloc _ _ _ h.lt]; exact h
theorem Blk.drew (h : Blk w g T vs) : Blk w.drew g T vs := h
theorem Blk.below {B : Nat} (h : Blk w g T vs) (hb : Below B w w') (hg : g < B) : Blk w' g T vs := by
  unfold Blk; rw [hb.block g hg]; exact h
theorem Blk.later (h : Blk w g T vs) (hb : Below w.heap.size w w') : Blk w' g T vs := h.below hb h.lt
theorem Row.cell (h : Row w g l) {k : Nat} (hk : k < l.length) : w.cell? ⟨g, k, none⟩ = some (.int .i64 (num l k)) := by
  rw [Blk.cell h (by simpa [IV] using hk)]; simp [IV, num_eq hk]
theorem Row.sl (h : Row w g l) : Sl w (some ⟨g, 0, none⟩) l := fun k hk => ⟨g, 0, rfl, by rw [Nat.zero_add]; exact h.cell hk⟩
theorem IV_set (l : List Nat) (k v : Nat) : (IV l).set k (.int .i64 v) = IV (l.set k v) := by simp [IV, List.map_set]
theorem Row.set (h : Row w g l) (k v : Nat) : Row (w.setCell ⟨g, k, none⟩ (.int .i64 v)) g (l.set k v) := by
  unfold Row; rw [← IV_set]; exact Blk.set h k _
theorem Row.own (h : Row w g l) {base : Nat} (hb : base ≤ g) (hl : l.length ≤ maxLen) : w.ownsRow base 3 1 (.slice (some ⟨g, 0, none⟩) l.length l.length) l.length (IV l) :=
  ⟨by simp [IV], .inr ⟨g, l.length, (IV l).toArray, rfl, hb, h, Nat.le_refl _, hl, by simp [IV], by rw [List.take_of_length_le (by simp [IV])]⟩⟩
end

/-- A list of n numbers by their places. -/
def tab (n : Nat) (f : Nat → Nat) : List Nat := (List.range n).map f
theorem tab_length (n : Nat) (f : Nat → Nat) : (tab n f).length = n := by simp [tab]
theorem tab_num {n : Nat} {f : Nat → Nat} {k : Nat} (h : k < n) : num (tab n f) k = f k := by simp [num, tab, List.getD, h]
theorem tab_congr {n : Nat} {f g : Nat → Nat} (h : ∀ k, k < n → f k = g k) : tab n f = tab n g := by
  unfold tab; exact List.map_congr_left fun x hx => h x (List.mem_range.1 hx)
theorem tab_set {n : Nat} {f g : Nat → Nat} {k v : Nat} (h : ∀ j, j < n → g j = if j = k then v else f j) : (tab n f).set k v = tab n g := by
  apply List.ext_getElem
  · simp [tab]
  · intro j h1 h2
    have hj : j < n := by simpa [tab] using h2
    simp only [tab, List.getElem_set, List.getElem_map, List.getElem_range, h j hj]
    by_cases c : j = k
    · subst c; simp
    · have c' : ¬ k = j := fun e => c e.symm
      simp [c, c']
theorem tab_zero (n : Nat) : List.replicate n 0 = tab n fun _ => 0 := by
  apply List.ext_getElem <;> simp [tab]
theorem tab_self (l : List Nat) : tab l.length (num l) = l := by
  apply List.ext_getElem
  · simp [tab]
  · intro j h1 h2; simp [tab, num, List.getD, h2]

/-- Rows that are filled place by place. -/
def fillTo (n : Nat) (f : Nat → Nat) (k : Nat) : List Nat := tab n fun j => if j < k then f j else 0
theorem fillTo_length (n : Nat) (f : Nat → Nat) (k : Nat) : (fillTo n f k).length = n := tab_length _ _
theorem fillTo_zero (n : Nat) (f : Nat → Nat) : fillTo n f 0 = tab n fun _ => 0 := by simp [fillTo]
theorem fillTo_succ {n : Nat} {f : Nat → Nat} {k v : Nat} (h : f k = v) : (fillTo n f k).set k v = fillTo n f (k + 1) := by
  unfold fillTo
  refine tab_set fun j _ => ?_
  by_cases c : j = k
  · subst c; simp [h]
  · by_cases d : j < k
    · simp [d, c, show j < k + 1 by omega]
    · simp [d, c, show ¬ j < k + 1 by omega]
theorem fillTo_all (n : Nat) (f : Nat → Nat) : fillTo n f n = tab n f := tab_congr fun k hk => by simp [hk]

theorem Tryz.infoInt : (Tryz.prog.info? 3).map (fun i => (i.zero, i.size, i.bytes)) = some (some (.int .i64 0), 1, 8) := by kernel_rfl

/-- 'make([]int, n)': a new block of zeros. -/
theorem wpList_make_row (w : World) {ops : Array Oper} {rest : List Oper} {o : Oper} {a : Act} {Q : Exit → Act → World → Prop}
    (hg : o.guard = none) (l c : Operand) (hop : o.op = Op.makeSlice 55 l c)
    (L C : Int) (n : Nat) (hl : a.eval l = .int .i64 L) (hc : a.eval c = .int .i64 C) (hL : L = (n : Int)) (hC : C = (n : Int)) (b3 : n ≤ 1000000)
    (hK : ∀ w', Row w' w.heap.size (tab n fun _ => 0) → w'.heap.size = w.heap.size + 1 → Below w.heap.size w w' → wpList Tryz.prog ops Q rest (a.put o.dst (.slice (some ⟨w.heap.size, 0, none⟩) n n)) w') :
    wpList Tryz.prog ops Q (o :: rest) a w := by
  obtain ⟨i0, hi, hz0, hz1, hz2⟩ := info_parts Tryz.infoInt
  refine wpList_plain hg fun K hK' => ?_
  have hr := run_make (P := Tryz.prog) w 55 3 i0 (.int .i64 0) Tryz.underlying55 hi hz0 .i64 .i64 n n (by omega) (Int.le_refl _) (by rw [hz2]; omega) (by omega)
  simp only [Int.toNat_natCast] at hr
  subst hL
  subst hC
  unfold Oper.wp
  simp [execOp, hop, hl, hc, hr, Result.andThen]
  refine hK' _ _ (hK _ ?_ (by simp) ((Below.refl _ _).alloc (Nat.le_refl _) _))
  unfold Row Blk
  rw [heap_alloc_new, hz1, ← tab_zero]
  have e : (madeCells (Value.int .i64 0).cells (n * 1)) = (IV (List.replicate n 0)).toArray := by
    apply Array.ext'
    have := toList_madeCells_one (.int .i64 0) n
    simpa [Value.cells, IV] using this
  rw [e]

/-- 'Row.class'. -/
theorem class_any (ad : Option Addr) (n c : Nat) (kinds : Int) (p : Int) (w : World) (_h0 : 0 ≤ p) (_h1 : p ≤ n) (_hn : n ≤ 100000) :
    Calls Tryz.prog 121 #[.agg #[.slice ad n c, .int .i64 kinds], .int .i64 p] w fun e w' => e = .returned (.int .i64 (((n : Int) - p) % 3)) ∧ Below w.heap.size w w' := by
  go_enter Tryz.func121, Tryz.ntmps121
  go_wp2
  go_ret
  exact ⟨rfl, (Below.refl _ _).alloc (Nat.le_refl _) _⟩

/-- One more than the number at a place; 0 behind the last one. -/
def at1 (l : List Nat) (p : Nat) : Nat := if p < l.length then num l p + 1 else 0

set_option maxHeartbeats 400000 in
/-- 'Row.at'. -/
theorem at_any (ad : Option Addr) (l : List Nat) (c : Nat) (kinds : Int) (p : Nat) (w : World) (hl : Sl w ad l) (_hv : num l p ≤ 1000000) :
    Calls Tryz.prog 136 #[.agg #[.slice ad l.length c, .int .i64 kinds], .int .i64 p] w fun e w' => e = .returned (.int .i64 (at1 l p)) ∧ Below w.heap.size w w' := by
  unfold at1
  by_cases hp : p < l.length
  · obtain ⟨b, o, rfl, hc⟩ := hl p hp
    rw [if_pos hp]
    have hlt := cell_lt hc
    go_enter Tryz.func136, Tryz.ntmps136
    go_wp2
    go_ret
    exact ⟨by simp, (Below.refl _ _).alloc (Nat.le_refl _) _⟩
  · rw [if_neg hp]
    go_enter Tryz.func136, Tryz.ntmps136
    go_wp2
    go_ret
    exact ⟨rfl, (Below.refl _ _).alloc (Nat.le_refl _) _⟩

set_option maxHeartbeats 400000 in
/-- 'upTo'. -/
theorem upTo_any (n : Nat) (w : World) (hn : n ≤ 1000000) :
    Calls Tryz.prog 77 #[.int .i64 n] w fun e w' => ∃ g, e = .returned (.slice (some ⟨g, 0, none⟩) n n) ∧ w.heap.size ≤ g ∧ Row w' g (List.range n) ∧ Below w.heap.size w w' := by
  go_enter Tryz.func77, Tryz.ntmps77
  go_wp2_with (first | (at_make; refine wpList_make_row _ rfl _ _ rfl _ _ n rfl rfl rfl rfl hn ?_; intro w1 hrow hsz hbel) | fail)
  go_loopw [9] (fun i wr => ∃ k : Nat, k ≤ n ∧ i = .int .i64 k ∧ Row wr w.heap.size (fillTo n id k) ∧ Below w.heap.size w wr) (fun i _ => n - (intOf i).toNat)
  case atStart => exact ⟨0, Nat.zero_le _, rfl, by rw [fillTo_zero]; exact hrow, hbel⟩
  case round =>
    obtain ⟨k, hk, rfl, hr, hb⟩ := hrel
    clear hrow hbel hsz
    by_cases hlt : k < n
    · have hc := hr.cell (k := k) (by rw [fillTo_length]; exact hlt)
      have hf := Blk.free hr k
      have hr' := hr.set k k
      rw [fillTo_succ (show id k = k from rfl)] at hr'
      have hb' := hb.setCell (p := ⟨w.heap.size, k, none⟩) (Nat.le_refl _) (.int .i64 k)
      clear hr hb
      go_wp2
      go_roundw
      case rel => exact ⟨k + 1, by omega, by go_num, hr', hb'⟩
      case measure => simp [intOf]; omega
    · have : k = n := by omega
      subst this
      go_wp2
      go_ret
      refine ⟨_, rfl, Nat.le_refl _, ?_, hb⟩
      rw [fillTo_all] at hr
      simpa [tab] using hr
end Go.Proofs.YtepklbboejnecaaGreat
