/- The document's own answer: ends sorted by halves. -/
import Derived.Test.YtepklbboejnecaaGreatWu
import Derived.Test.YtepklbboejnecaaGreatM
namespace Go.Proofs.YtepklbboejnecaaGreat
open Go.RowKit Go.Shelf Sedge
attribute [local go_sem ↓] Go.wp_at_zero Go.wp_at_succ

theorem less_map : ∀ (a b : List UInt8), Op.bytesLess a b = decide (a.map UInt8.toNat < b.map UInt8.toNat)
  | [], [] => by simp [Op.bytesLess]
  | [], y :: b => by simp [Op.bytesLess]
  | x :: a, [] => by simp [Op.bytesLess]
  | x :: a, y :: b => by
    have ih := less_map a b
    simp only [Op.bytesLess, List.map_cons, ih]
    rw [Bool.eq_iff_iff]
    simp only [Bool.or_eq_true, Bool.and_eq_true, decide_eq_true_eq, beq_iff_eq, cons_lt, UInt8.lt_iff_toNat_lt]
    constructor
    · rintro (h | ⟨h, k⟩)
      · exact .inl h
      · exact .inr ⟨by rw [h], k⟩
    · rintro (h | ⟨h, k⟩)
      · exact .inl h
      · exact .inr ⟨UInt8.toNat_inj.1 h, k⟩
/-- Go's '<' on two ends of a text is the order of ends. -/
theorem less_suf (s : ByteArray) (x y : Nat) : Op.bytesLess (s.extract x s.size).toList (s.extract y s.size).toList = decide ((bl s).drop x < (bl s).drop y) := by
  rw [ByteArray.toList_eq, ByteArray.toList_eq, less_map]
  show decide (bl (s.extract x s.size) < bl (s.extract y s.size)) = _
  rw [bl_extract, bl_extract]

theorem Sl.take {w : World} {b o m : Nat} {P : List Nat} (h : Sl w (some ⟨b, o, none⟩) P) : Sl w (some ⟨b, o, none⟩) (P.take m) := by
  intro k hk
  have hk' : k < P.length := by rw [List.length_take] at hk; omega
  obtain ⟨b', o', e, hc⟩ := h k hk'
  refine ⟨b', o', e, ?_⟩
  rw [hc, num_eq hk', num_eq hk, List.getElem_take]
theorem Sl.drop {w : World} {b o m : Nat} {P : List Nat} (h : Sl w (some ⟨b, o, none⟩) P) : Sl w (some ⟨b, o + m, none⟩) (P.drop m) := by
  intro k hk
  have hk' : m + k < P.length := by rw [List.length_drop] at hk; omega
  obtain ⟨b', o', e, hc⟩ := h (m + k) hk'
  simp only [Option.some.injEq, Addr.mk.injEq, and_true] at e
  obtain ⟨rfl, rfl⟩ := e
  refine ⟨b, o + m, rfl, ?_⟩
  rw [Nat.add_assoc, hc, num_eq hk', num_eq hk, List.getElem_drop]
theorem Sl.below {w w' : World} {ad : Option Addr} {l : List Nat} {B : Nat} (h : Sl w ad l) (hb : Below B w w') (hB : ∀ b o, ad = some ⟨b, o, none⟩ → b < B) : Sl w' ad l := by
  intro k hk
  obtain ⟨b, o, e, hc⟩ := h k hk
  exact ⟨b, o, e, by rw [hb.cell (hB b o e)]; exact hc⟩
theorem own_drewN {w : World} {base : Nat} {v : Value} {l : List Nat} (h : w.ownsRow base 3 1 v l.length (IV l)) (n : Nat) : (w.drewN n).ownsRow base 3 1 v l.length (IV l) := h
theorem cell_new (w : World) (v : Value) (T : TypeId) : (w.alloc (.cells #[v] T)).cell? ⟨w.heap.size, 0, none⟩ = some v := by
  rw [cell_of_row _ _ _ _ _ _ (heap_alloc_new w _)]; rfl
def lenOf : Value → Nat
  | .slice _ n _ => n
  | _ => 0

/-- What 'Ends' answers. -/
def EndsSaid (s : ByteArray) (P : List Nat) (w : World) (e : Ending) (w' : World) : Prop :=
  ∃ b o c R, e = .returned (.slice (some ⟨b, o, none⟩) R.length c) ∧ R.length ≤ c ∧ c ≤ 9223372036854775807 ∧ Sl w' (some ⟨b, o, none⟩) R ∧ b < w'.heap.size ∧ R.Pairwise (suf (bl s)) ∧ (∀ p, p ∈ R ↔ p ∈ P) ∧ R.length = P.length ∧ Below w.heap.size w w'

/-- 'append(s, t...)': a slice of numbers behind one of the call's own. -/
theorem wpList_pushAll (w : World) {ops : Array Oper} {rest : List Oper} {o : Oper} {a : Act} {Q : Exit → Act → World → Prop}
    (hg : o.guard = none) (s x : Operand) (hop : o.op = Op.call { callee := Callee.builtin Builtin.append, args := #[s, x], argTypes := #[55, 55] })
    (base : Nat) (v : Value) (xs : List Nat) (hs : a.eval s = v) (hown : w.ownsRow base 3 1 v xs.length (IV xs))
    (b off c : Nat) (ys : List Nat) (hx : a.eval x = .slice (some ⟨b, off, none⟩) ys.length c) (hys : Sl w (some ⟨b, off, none⟩) ys) (hlen : xs.length + ys.length ≤ 1000000) (hbase : base ≤ w.heap.size)
    (hK : ∀ v' w', w'.ownsRow base 3 1 v' (xs ++ ys).length (IV (xs ++ ys)) → Below base w w' → wpList Tryz.prog ops Q rest (a.put o.dst v') w') :
    wpList Tryz.prog ops Q (o :: rest) a w := by
  obtain ⟨i0, hi, hz0, hz1, hz2⟩ := info_parts Tryz.infoInt
  refine wpList_append_own _ hg s x 55 hop base 3 i0 (.int .i64 0) 1 8 Tryz.underlying55 hi hz0 hz1 hz2 rfl (by decide) v xs.length (IV xs) hs hown ⟨b, off, none⟩ ys.length c (IV ys) hx (by simp [IV]) ?_ ?_ ?_ ?_ hbase ?_
  · intro j u hj
    have hj' : j < ys.length := by have := (List.getElem?_eq_some_iff.1 hj).1; simpa [IV] using this
    obtain ⟨b', o', e, hc⟩ := hys j hj'
    simp only [Option.some.injEq, Addr.mk.injEq, and_true] at e
    obtain ⟨rfl, rfl⟩ := e
    rw [Addr.add_lit, hc]
    rw [← hj]; simp [IV, num, List.getD, hj']
  · intro u hu
    simp only [IV, List.mem_map] at hu
    obtain ⟨y, _, rfl⟩ := hu; rfl
  · unfold maxLen; omega
  · omega
  · intro v' w' h1 h2 _
    refine hK v' w' ?_ ((Below.refl base w).grown h2 hbase (fun k e => (hown.lt k e).1))
    have e : IV (xs ++ ys) = IV xs ++ IV ys := by simp [IV]
    rw [e, List.length_append]; exact h1

theorem ends_done {s : ByteArray} {P R : List Nat} {w w2 w4 : World} {v : Value} (h : R.Pairwise (suf (bl s)) ∧ (∀ p, p ∈ R ↔ p ∈ P) ∧ R.length = P.length) (hown : w4.ownsRow w2.heap.size 3 1 v R.length (IV R)) (hB : Below w.heap.size w w4) (h0 : 0 < P.length) : EndsSaid s P w (.returned v) w4 := by
  have hl := h.2.2
  rcases hown.2 with ⟨_, h2⟩ | ⟨g, cap, cur, h1, h2, h3, h4, h5, h6⟩
  · omega
  · obtain ⟨ad, c, e, hS⟩ := own_sl hown
    rw [h1] at e
    simp only [Value.slice.injEq, true_and] at e
    obtain ⟨rfl, rfl⟩ := e
    unfold maxLen at h5
    exact ⟨g, 0, cap, R, by rw [h1], h4, by omega, hS, lt_of_block h3, h.1, h.2.1, hl, hB⟩

end Go.Proofs.YtepklbboejnecaaGreat
