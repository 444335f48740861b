/- Together: the small ones. -/
import Derived.Test.YtepklbboejnecaaGreatJj
import Derived.Test.YtepklbboejnecaaGreatF
namespace Go.Proofs.YtepklbboejnecaaGreat
open Go.RowKit Go.Shelf Sedge
attribute [local go_sem ↓] Go.wp_at_zero Go.wp_at_succ

set_option maxHeartbeats 1000000 in
/-- 'short', at 60 bytes. -/
theorem short60_any (s : ByteArray) (w : World) : Calls Tryz.prog 12 #[.string s, .int .i64 60] w fun e w' => (∃ t : ByteArray, t.size ≤ 60 ∧ e = .returned (.string t)) ∧ w' = w := by
  by_cases h : s.size ≤ 60
  · have i1 : (s.size : Int) ≤ 60 := by omega
    go_enter Tryz.func12, Tryz.ntmps12
    go_wp2
    go_ret
    exact ⟨⟨s, h, rfl⟩, rfl⟩
  · have i1 : (60 : Int) < (s.size : Int) := by omega
    have i2 : (60 : Int) ≤ (s.size : Int) := by omega
    go_enter Tryz.func12, Tryz.ntmps12
    go_wp2
    go_ret
    exact ⟨⟨s.extract 0 60, by simp; omega, rfl⟩, rfl⟩
theorem lcp_of_take {a b : List Nat} {k : Nat} (ha : k ≤ a.length) (hb : k ≤ b.length) (h : a.take k = b.take k) : k ≤ lcp a b := by
  rw [lcp_eq_iff]
  refine ⟨ha, hb, fun j hj => ?_⟩
  have e : ∀ l : List Nat, num (l.take k) j = num l j := fun l => by simp [num, List.getD, hj]
  rw [← e a, h, e b]
/-- Does a text have a part, the empty one too? -/
def hv (t r : ByteArray) : Bool := decide (r.size = 0) || hasB (bl t) (bl r)
theorem has_all (t r : ByteArray) (w : World) (ht : t.size ≤ 1000) (hr : r.size ≤ 1000) :
    Calls Tryz.prog 18 #[.string t, .string r] w fun e w' => e = .returned (.bool (hv t r)) ∧ Below w.heap.size w w' := by
  have key : ∀ p, p + r.size ≤ t.size → (t.extract p (p + r.size) = r ↔ ((bl t).drop p).take r.size = bl r) := fun p hp => by
    rw [← bl_extract2]; exact ⟨fun e => by rw [e], fun e => bl_inj e⟩
  cases h : hv t r with
  | true =>
    unfold hv at h
    have : ∃ p, p + r.size ≤ t.size ∧ t.extract p (p + r.size) = r := by
      by_cases h0 : r.size = 0
      · have e := empty_of_size h0
        refine ⟨0, by omega, ?_⟩
        rw [(key 0 (by omega))]
        subst e; rfl
      · rw [decide_eq_false h0, Bool.false_or] at h
        obtain ⟨p, hp, hl, e⟩ := hasB_at h
        rw [bl_length, bl_length] at hl
        rw [bl_length] at e
        exact ⟨p, hl, (key p hl).2 e⟩
    obtain ⟨p, hp, e⟩ := this
    exact has_any t r p w ht hp e.symm
  | false =>
    unfold hv at h
    rw [Bool.or_eq_false_iff] at h
    have h0 := of_decide_eq_false h.1
    refine (hasnt_any t r w ht hr fun p hp e => ?_).mono (by rintro e w' ⟨rfl, rfl⟩; exact ⟨rfl, Below.refl _ _⟩)
    have e := (key p hp).1 e
    have : hasB (bl t) (bl r) = true := by
      refine hasB_iff.2 ⟨p, by rw [bl_length]; omega, ?_⟩
      have hl : (bl r).length = r.size := bl_length r
      refine lcp_of_take (by rw [List.length_drop, bl_length, bl_length]; omega) (Nat.le_refl _) ?_
      rw [List.take_length, hl]; exact e
    rw [this] at h; cases h.2
/-- So many have it. -/
theorem wide_many {ts : List ByteArray} {m : Nat} {r : ByteArray} (h : WideIs (ts.map bl) m (bl r)) (hm : m ≤ ts.length) : m ≤ ts.countP fun t => hv t r := by
  rcases h.has with h0 | h0
  · have e : r.size = 0 := by rw [← bl_length, h0]; rfl
    have : (ts.countP fun t => hv t r) = ts.length := by
      rw [List.countP_eq_length]
      intro t _
      simp [hv, e]
    omega
  · unfold holdN at h0
    rw [List.countP_map] at h0
    refine Nat.le_trans h0 (List.countP_mono_left fun t _ q => ?_)
    simp only [Function.comp] at q
    unfold hv
    rw [q, Bool.or_true]
/-- Of two texts: as long as what they share. -/
theorem wide_two {x y r : List Nat} {n A B : Nat} (h : WideIs [x, y] 2 r) (k : SharedIs x y n A B) : r.length = n := by
  have two : ∀ q, 2 ≤ holdN [x, y] q ↔ hasB x q = true ∧ hasB y q = true := fun q => by
    unfold holdN
    rw [List.countP_cons, List.countP_cons, List.countP_nil]
    cases hasB x q <;> cases hasB y q <;> simp
  have le1 : r.length ≤ n := by
    rcases h.has with e | e
    · rw [e]; exact Nat.zero_le _
    · obtain ⟨h1, h2⟩ := (two r).1 e
      obtain ⟨p, p1, p2, p3⟩ := hasB_at h1
      obtain ⟨q, q1, q2, q3⟩ := hasB_at h2
      have := k.most p q p1 q1
      have h3 : r.length ≤ lcp (x.drop p) (y.drop q) := lcp_of_take (by rw [List.length_drop]; omega) (by rw [List.length_drop]; omega) (by rw [p3, q3])
      omega
  by_cases h0 : n = 0
  · omega
  · have hA := k.inA (by omega)
    have hB := k.inB (by omega)
    have his := k.is (by omega)
    have h1 := lcp_le_left (x.drop A) (y.drop B)
    have h2 := lcp_le_right (x.drop A) (y.drop B)
    rw [List.length_drop] at h1 h2
    have hl : ((x.drop A).take n).length = n := by rw [List.length_take, List.length_drop]; omega
    have e2 := take_of_lcp _ _ _ his
    have hx : hasB x ((x.drop A).take n) = true := hasB_iff.2 ⟨A, hA, by
      rw [hl]; exact lcp_of_take (by rw [List.length_drop]; omega) (by rw [hl]; exact Nat.le_refl _) (by rw [List.take_take, Nat.min_self])⟩
    have hy : hasB y ((x.drop A).take n) = true := hasB_iff.2 ⟨B, hB, by
      rw [hl]; exact lcp_of_take (by rw [List.length_drop]; omega) (by rw [hl]; exact Nat.le_refl _) (by rw [List.take_take, Nat.min_self, e2])⟩
    have hw := h.most _ (fun q => by rw [q] at hl; simp at hl; omega) ((two _).2 ⟨hx, hy⟩)
    unfold WE at hw
    rw [hl] at hw
    omega

/-- Strings in a slice that came in; strings of one's own. -/
def SS (w : World) (ad : Option Addr) (l : List ByteArray) : Prop := ∀ k (h : k < l.length), ∃ b o, ad = some ⟨b, o, none⟩ ∧ w.cell? ⟨b, o + k, none⟩ = some (.string l[k])
def SV (l : List ByteArray) : List Value := l.map Value.string
theorem own_str {w : World} {base : Nat} {v : Value} {l : List ByteArray} (h : w.ownsRow base 9 1 v l.length (SV l)) {i : Nat} (hi : i < l.length) : ∃ g c, v = .slice (some ⟨g, 0, none⟩) l.length c ∧ w.cell? ⟨g, i, none⟩ = some (.string l[i]) := by
  rcases h.2 with ⟨_, h0⟩ | ⟨g, cap, cur, rfl, _⟩
  · omega
  · refine ⟨g, cap, rfl, ?_⟩
    rw [h.cellAt i (by omega)]
    simp [SV, hi]
theorem Tryz.infoStr : (Tryz.prog.info? 9).map (fun i => (i.zero, i.size, i.bytes)) = some (some (.string ⟨#[]⟩), 1, 16) := by kernel_rfl
theorem wpList_pushS (w : World) {ops : Array Oper} {rest : List Oper} {o : Oper} {a : Act} {Q : Exit → Act → World → Prop} (hg : o.guard = none)
    (s x : Operand) (hop : o.op = Op.call { callee := Callee.builtin Builtin.append, args := #[s, x], argTypes := #[46, 46] })
    (base : Nat) (v : Value) (l : List ByteArray) (hs : a.eval s = v) (hown : w.ownsRow base 9 1 v l.length (SV l))
    (ad : Addr) (y : ByteArray) (hx : a.eval x = .slice (some ad) 1 1) (hc : w.cell? ad = some (.string y)) (hn : l.length ≤ 1000) (hbase : base ≤ w.heap.size)
    (hK : ∀ v' w', w'.ownsRow base 9 1 v' (l ++ [y]).length (SV (l ++ [y])) → w.grownBy w' v.ownBlock → wpList Tryz.prog ops Q rest (a.put o.dst v') w') :
    wpList Tryz.prog ops Q (o :: rest) a w := by
  obtain ⟨i0, hi, hz0, hz1, hz2⟩ := info_parts Tryz.infoStr
  refine wpList_push_at w hg s x 46 hop 9 i0 (.string ⟨#[]⟩) 1 16 Tryz.underlying46 hi hz0 hz1 hz2 rfl (by decide) base v l.length (SV l) hs hown ad 1 [.string y] hx rfl ?_ ?_ ?_ ?_ hbase ?_
  · intro j u hj
    match j, hj with
    | 0, hj => simp at hj; subst hj; simpa [Addr.add] using hc
  · intro u hu; simp at hu; subst hu; rfl
  · unfold maxLen; omega
  · omega
  · intro v' w' q1 q2 _
    refine hK v' w' ?_ q2
    rw [List.length_append]
    simpa [SV] using q1
theorem guardHJ : Tryz.prog.eqGuardType Tryz.prog.depth 59 = false := by kernel_rfl
theorem eqHJ (a b c d : Int) (w : World) : (Op.equalIn 10000 59 (.agg #[.int .i64 a, .int .i64 b]) (.agg #[.int .i64 c, .int .i64 d])).run Tryz.prog w = .ok (a == c && b == d) w := by
  have hS : Tryz.prog.underlying 59 = some (.struct (Tryz.prog.fieldsOf 59)) := by kernel_rfl
  have hp : Tryz.prog.stoodInHeld 59 = false := by kernel_rfl
  rw [show (10000 : Nat) = 9999 + 1 from rfl, run_equalIn_agg w 9999 59 _ _ hS hp]
  simp only [Program.fieldsOf, Tryz.underlying59]
  go_simp
  by_cases h1 : a = c <;> by_cases h2 : b = d <;> simp [h1, h2]
theorem hits_at {pat : ByteArray} {bs : List Vol} {i j : Nat} (hi : i < bs.length) (hj : j < (hits1 pat bs[i]).length) : (hitsL pat bs)[(hitsL pat (bs.take i)).length + j]? = some (hits1 pat bs[i])[j] := by
  have e : hitsL pat bs = hitsL pat (bs.take i) ++ hits1 pat bs[i] ++ hitsL pat (bs.drop (i + 1)) := by
    rw [← hitsL_succ hi]
    unfold hitsL
    rw [← List.flatMap_append, List.take_append_drop]
  rw [e, List.append_assoc, List.getElem?_append_right (by omega), Nat.add_sub_cancel_left, List.getElem?_append_left hj, List.getElem?_eq_getElem hj]
end Go.Proofs.YtepklbboejnecaaGreat
