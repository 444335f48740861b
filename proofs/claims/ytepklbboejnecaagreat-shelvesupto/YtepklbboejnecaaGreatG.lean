/- Several texts as one. -/
import Derived.Test.YtepklbboejnecaaGreatWs
import Derived.Test.YtepklbboejnecaaGreatM
import Derived.Test.YtepklbboejnecaaGreatF
import Derived.Test.YtepklbboejnecaaGreatY
import Derived.Test.YtepklbboejnecaaGreatZa
/- Pieces: the nearest ends that begin earlier. -/
namespace Go.Proofs.YtepklbboejnecaaGreat
open Go.RowKit Go.Shelf Sedge
attribute [local go_sem ↓] Go.wp_at_zero Go.wp_at_succ

end Go.Proofs.YtepklbboejnecaaGreat

/- Pieces: the longest part that stood there before. -/
namespace Go.Proofs.YtepklbboejnecaaGreat
open Go.RowKit Go.Shelf Sedge
attribute [local go_sem ↓] Go.wp_at_zero Go.wp_at_succ

/-- How many ends are ahead of an end is its own place in order. -/
theorem rank_of {s : ByteArray} {o : List Nat} {p k : Nat} (hS : IsSA (bl s) o) (hp : p < s.size) (h : AheadOf s (s.extract p s.size) o k) : k < o.length ∧ num o k = p := by
  obtain ⟨a1, a2⟩ := hS.rank (p := p) (by rw [bl_length]; exact hp)
  generalize Sedge.rank o p = i at a1 a2
  have hpat : bl (s.extract p s.size) = (bl s).drop p := bl_extract s p
  obtain ⟨h1, h2, h3⟩ := h
  rw [hpat] at h2 h3
  have hki : k = i := by
    rcases Nat.lt_trichotomy k i with c | c | c
    · have := hS.lt c a1
      rw [a2] at this
      exact absurd this (h3 k (Nat.le_refl _) (by omega))
    · exact c
    · have := h2 i c
      rw [a2] at this
      exact absurd this (lt_irr _)
  subst hki
  exact ⟨a1, a2⟩

end Go.Proofs.YtepklbboejnecaaGreat

/- Pieces: a text's factors. -/
namespace Go.Proofs.YtepklbboejnecaaGreat
open Go.RowKit Go.Shelf Sedge
attribute [local go_sem ↓] Go.wp_at_zero Go.wp_at_succ

/-- Factors, as cells. -/
def FV (l : List (Int × Int × Nat)) : List Value := l.flatMap fun p => [.int .i64 p.1, .int .i64 p.2.1, .int .u8 (p.2.2 : Nat)]
theorem FV_length (l : List (Int × Int × Nat)) : (FV l).length = l.length * 3 := by
  induction l with
  | nil => rfl
  | cons e l ih => rw [FV, List.flatMap_cons, List.length_append]; rw [FV] at ih; rw [ih]; simp; omega
theorem FV_append (a b : List (Int × Int × Nat)) : FV (a ++ b) = FV a ++ FV b := by simp [FV]
/-- One factor, as a value. -/
abbrev fval (p : Int × Int × Nat) : Value := .agg #[.int .i64 p.1, .int .i64 p.2.1, .int .u8 (p.2.2 : Nat)]

theorem Tryz.infoFac : (Tryz.prog.info? 112).map (fun i => (i.zero, i.size, i.bytes)) = some (some (.agg #[.int .i64 0, .int .i64 0, .int .u8 0]), 3, 24) := by kernel_rfl
/-- 'append(l, f)'. -/
theorem wpList_push_fac (t e : TypeId) (hu : Tryz.prog.underlying t = some (.slice e)) (hinf : (Tryz.prog.info? e).map (fun i => (i.zero, i.size, i.bytes)) = some (some (.agg #[.int .i64 0, .int .i64 0, .int .u8 0]), 3, 24))
    (w : World) {ops : Array Oper} {rest : List Oper} {o : Oper} {a : Act} {Q : Exit → Act → World → Prop} (hg : o.guard = none)
    (s x : Operand) (hop : o.op = Op.call { callee := Callee.builtin Builtin.append, args := #[s, x], argTypes := #[t, t] })
    (base : Nat) (v : Value) (l : List (Int × Int × Nat)) (hs : a.eval s = v) (hown : w.ownsRow base e 3 v l.length (FV l))
    (b : Nat) (p : Int × Int × Nat) (T : TypeId) (hx : a.eval x = .slice (some ⟨b, 0, none⟩) 1 1) (hc : Blk w b T [.int .i64 p.1, .int .i64 p.2.1, .int .u8 (p.2.2 : Nat)]) (hn : l.length ≤ 2000000) (hbase : base ≤ w.heap.size)
    (hK : ∀ v' w', w'.ownsRow base e 3 v' (l ++ [p]).length (FV (l ++ [p])) → w.grownBy w' v.ownBlock → Lies w w' v v' → wpList Tryz.prog ops Q rest (a.put o.dst v') w') :
    wpList Tryz.prog ops Q (o :: rest) a w := by
  obtain ⟨i0, hi, hz0, hz1, hz2⟩ := info_parts hinf
  refine wpList_push_at w hg s x t hop e i0 (.agg #[.int .i64 0, .int .i64 0, .int .u8 0]) 3 24 hu hi hz0 hz1 hz2 rfl (by decide) base v l.length (FV l) hs hown ⟨b, 0, none⟩ 1 [.int .i64 p.1, .int .i64 p.2.1, .int .u8 (p.2.2 : Nat)] hx rfl ?_ ?_ ?_ ?_ hbase ?_
  · obtain ⟨q0, q1, q2⟩ := cells3 hc
    intro j u hj
    match j, hj with
    | 0, hj => simp at hj; subst hj; simpa [Addr.add] using q0
    | 1, hj => simp at hj; subst hj; simpa [Addr.add] using q1
    | 2, hj => simp at hj; subst hj; simpa [Addr.add] using q2
  · intro u hu
    simp at hu
    rcases hu with rfl | rfl | rfl <;> rfl
  · unfold maxLen; omega
  · omega
  · intro v' w' q1 q2 q3
    refine hK v' w' ?_ q2 q3
    rw [FV_append, List.length_append]
    exact q1

/-- A text's factors, as the program tells them. -/
def facI (s : ByteArray) (l : List (Int × Int × Nat)) : Prop := ∃ f, IsFacs (bl s) f ∧ l = f.map asInts
/-- What Of and Factors told. -/
def TellF (e : TypeId) (l : List (Int × Int × Nat)) (w : World) (v : Value) (w' : World) : Prop := w'.ownsRow w.heap.size e 3 v l.length (FV l) ∧ Below w.heap.size w w'

theorem own_dn {w : World} {base base' n k : Nat} {e : TypeId} {v : Value} {xs : List Value} (h : w.ownsRow base e k v n xs) (hb : base' ≤ base) : w.ownsRow base' e k v n xs := by
  refine ⟨h.1, ?_⟩
  rcases h.2 with h' | ⟨g, cap, cur, h1, h2, h3⟩
  · exact .inl h'
  · exact .inr ⟨g, cap, cur, h1, by omega, h3⟩

end Go.Proofs.YtepklbboejnecaaGreat

/- Pieces: factors put together. -/
namespace Go.Proofs.YtepklbboejnecaaGreat
open Go.RowKit Go.Shelf Sedge
attribute [local go_sem ↓] Go.wp_at_zero Go.wp_at_succ

/-- A list of factors that is read. -/
def FacS (w : World) (ad : Option Addr) (l : List (Int × Int × Nat)) : Prop := ∀ k (h : k < l.length), ∃ b o, ad = some ⟨b, o, none⟩ ∧ w.cell? ⟨b, o + k * 3, none⟩ = some (.int .i64 l[k].1) ∧ w.cell? ⟨b, o + k * 3 + 1, none⟩ = some (.int .i64 l[k].2.1) ∧ w.cell? ⟨b, o + k * 3 + 2, none⟩ = some (.int .u8 (l[k].2.2 : Nat))
theorem FacS.later {w w' : World} {ad : Option Addr} {l : List (Int × Int × Nat)} (h : FacS w ad l) (hb : Below w.heap.size w w') : FacS w' ad l := fun k hk => by
  obtain ⟨b, o, e, h1, h2, h3⟩ := h k hk
  exact ⟨b, o, e, (hb.cell (cell_lt h1)).trans h1, (hb.cell (cell_lt h2)).trans h2, (hb.cell (cell_lt h3)).trans h3⟩
theorem FV_at : ∀ (l : List (Int × Int × Nat)) (i : Nat) (h : i < l.length), (FV l)[i * 3]? = some (.int .i64 l[i].1) ∧ (FV l)[i * 3 + 1]? = some (.int .i64 l[i].2.1) ∧ (FV l)[i * 3 + 2]? = some (.int .u8 (l[i].2.2 : Nat))
  | e :: l, 0, _ => ⟨rfl, rfl, rfl⟩
  | e :: l, i + 1, h => by
    have ih := FV_at l i (by simpa using h)
    rw [show (i + 1) * 3 = i * 3 + 3 by omega]
    exact ih
theorem FacS.own {w : World} {base : Nat} {e : TypeId} {v : Value} {l : List (Int × Int × Nat)} (h : w.ownsRow base e 3 v l.length (FV l)) : ∃ ad c, v = .slice ad l.length c ∧ FacS w ad l := by
  rcases h.2 with ⟨rfl, h0⟩ | ⟨g, cap, cur, rfl, _⟩
  · exact ⟨none, 0, by rw [h0], fun k hk => by omega⟩
  · refine ⟨_, _, rfl, fun k hk => ⟨g, 0, rfl, ?_, ?_, ?_⟩⟩
    · rw [Nat.zero_add, h.cellAt (k * 3) (by omega)]; exact (FV_at l k hk).1
    · rw [Nat.zero_add, h.cellAt (k * 3 + 1) (by omega)]; exact (FV_at l k hk).2.1
    · rw [Nat.zero_add, h.cellAt (k * 3 + 2) (by omega)]; exact (FV_at l k hk).2.2

/-- 'append(b, x)' of a byte, told by blocks. -/
theorem wpList_pushB2 (w : World) {ops : Array Oper} {rest : List Oper} {o : Oper} {a : Act} {Q : Exit → Act → World → Prop} (hg : o.guard = none)
    (s x : Operand) (hop : o.op = Op.call { callee := Callee.builtin Builtin.append, args := #[s, x], argTypes := #[172, 172] })
    (base : Nat) (v : Value) (xs : List Nat) (hs : a.eval s = v) (hown : w.ownsRow base 5 1 v xs.length (UV xs))
    (ad : Addr) (y : Nat) (hx : a.eval x = .slice (some ad) 1 1) (hc : w.cell? ad = some (.int .u8 y)) (hn : xs.length ≤ 1000000) (hbase : base ≤ w.heap.size)
    (hK : ∀ v' w', w'.ownsRow base 5 1 v' (xs ++ [y]).length (UV (xs ++ [y])) → w.grownBy w' v.ownBlock → Lies w w' v v' → wpList Tryz.prog ops Q rest (a.put o.dst v') w') :
    wpList Tryz.prog ops Q (o :: rest) a w := by
  obtain ⟨i0, hi, hz0, hz1, hz2⟩ := info_parts Tryz.infoByte
  refine wpList_push_at w hg s x 172 hop 5 i0 (.int .u8 0) 1 1 Tryz.underlying172 hi hz0 hz1 hz2 rfl (by decide) base v xs.length _ hs hown ad 1 [.int .u8 y] hx rfl ?_ ?_ ?_ ?_ hbase ?_
  · intro j u hj
    match j, hj with
    | 0, hj => simp at hj; subst hj; simpa [Addr.add] using hc
  · intro u hu; simp at hu; subst hu; rfl
  · unfold maxLen; omega
  · omega
  · intro v' w' q1 q2 q3
    refine hK v' w' ?_ q2 q3
    have e : UV (xs ++ [y]) = UV xs ++ [.int .u8 y] := by simp [UV]
    rw [e, List.length_append]; exact q1
theorem ownB_cell {w : World} {base : Nat} {v : Value} {l : List Nat} (h : w.ownsRow base 5 1 v l.length (UV l)) {i : Nat} (hi : i < l.length) : ∃ g c, v = .slice (some ⟨g, 0, none⟩) l.length c ∧ w.cell? ⟨g, i, none⟩ = some (.int .u8 (num l i : Nat)) := by
  rcases h.2 with ⟨_, h0⟩ | ⟨g, cap, cur, rfl, _⟩
  · omega
  · refine ⟨g, cap, rfl, ?_⟩
    rw [h.cellAt i (by omega)]
    simp [UV, num, hi]
theorem own_valB {w : World} {base n : Nat} {e : TypeId} {s : Nat} {v : Value} {xs : List Value} (h : w.ownsRow base e s v n xs) : ∃ ad c, v = .slice ad n c := by
  rcases h.2 with ⟨rfl, rfl⟩ | ⟨g, cap, cur, rfl, _⟩
  · exact ⟨none, 0, rfl⟩
  · exact ⟨_, _, rfl⟩

theorem off_liesG {w w' : World} {v v' : Value} {hb : Nat} (h : v.ownBlock ≠ some hb) (hx : hb < w.heap.size) (k : Lies w w' v v') : v'.ownBlock ≠ some hb := by
  intro h2
  rcases k with k | k
  · rw [k] at h2; exact h h2
  · have := k.1 hb h2; omega

/-- What Join tells of no more than 1000 factors. -/
def joinV (l : List (Int × Int × Nat)) : Value := match joinAll l with
  | .ok s => .tuple #[.string (ofL s.1), .int .i64 0, .int .i64 0]
  | .error e => .tuple #[.string ⟨#[]⟩, .int .i64 e.1, .int .i64 e.2]
theorem joinV_ok {l : List (Int × Int × Nat)} {s : List Nat × Nat} (h : joinAll l = .ok s) : joinV l = .tuple #[.string (ofL s.1), .int .i64 0, .int .i64 0] := by unfold joinV; rw [h]
theorem joinV_error {l : List (Int × Int × Nat)} {e : Int × Nat} (h : joinAll l = .error e) : joinV l = .tuple #[.string ⟨#[]⟩, .int .i64 e.1, .int .i64 e.2] := by unfold joinV; rw [h]
theorem joinAll_next {l : List (Int × Int × Nat)} {k : Nat} (hk : k < l.length) : joinAll (l.take (k + 1)) = joinStep (joinAll (l.take k)) l[k] := by
  rw [List.take_add_one, List.getElem?_eq_getElem hk]
  exact joinAll_snoc _ _

/-- What Join tells. -/
def joinR (l : List (Int × Int × Nat)) : Value := if 1000 < l.length then .tuple #[.string ⟨#[]⟩, .int .i64 6, .int .i64 0] else joinV l
end Go.Proofs.YtepklbboejnecaaGreat
