/- Turning: the rows that follow; the marked ends. -/
import Derived.Test.YtepklbboejnecaaZa
import Derived.Laws.AppendOwnNone
namespace Go.Proofs.Ytepklbboejnecaa
open Go.RowKit Go.Shelf Sedge
attribute [local go_sem ↓] Go.wp_at_zero Go.wp_at_succ

/-- 'append(s, t...)' of two lists of the call's own, as one operation. -/
theorem wp_pushTwo {o : Oper} {a : Act} {w : World} {K : Act → World → Prop} {Q : Exit → Act → World → Prop}
    (s x : Operand) (hop : o.op = Op.call { callee := Callee.builtin Builtin.append, args := #[s, x], argTypes := #[36, 36] })
    (base : Nat) (v : Value) (xs : List Nat) (hs : a.eval s = v) (hown : w.ownsRow base 3 1 v xs.length (IV xs))
    (base2 : Nat) (vy : Value) (ys : List Nat) (hx : a.eval x = vy) (hy : w.ownsRow base2 3 1 vy ys.length (IV ys)) (hlen : xs.length + ys.length ≤ 1000000) (hbase : base ≤ w.heap.size)
    (hK : ∀ v' w', w'.ownsRow base 3 1 v' (xs ++ ys).length (IV (xs ++ ys)) → Below base w w' → K (a.put o.dst v') w') :
    o.wp Try.prog a w K Q := by
  obtain ⟨i0, hi, hz0, hz1, hz2⟩ := info_parts Try.infoInt
  obtain ⟨ad, c, e, hS⟩ := own_sl hy
  cases ad with
  | none =>
    have h0 : ys = [] := by
      match ys, hS with
      | [], _ => rfl
      | y :: ys, hS => obtain ⟨b, o, e, _⟩ := hS 0 (by simp); cases e
    subst h0
    have e0 : vy = .slice none 0 0 := by
      rcases hy.2 with ⟨h1, _⟩ | ⟨g, cap, cur, h1, _⟩
      · exact h1
      · rw [h1] at e; simp at e
    have hrun := run_append_owned_none (P := Try.prog) (w := w) base 36 o.type 3 i0 1 Try.underlying36 hi v xs.length (IV xs) hown
    have := hK v w (by simpa using hown) (Below.refl _ _)
    unfold Oper.wp execOp
    simp only [hop, resolve, invoke, builtin, Sem.run_bind, Sem.run_pure, Result.andThen_ok, List.map_toArray, List.map_cons, List.map_nil, hs, hx, e0, hrun]
    exact this
  | some ad =>
    have had : ∃ b off, ad = ⟨b, off, none⟩ := by
      rcases hy.2 with ⟨h1, _⟩ | ⟨g, cap, cur, h1, _⟩
      · rw [h1] at e; simp at e
      · rw [h1] at e; simp at e; exact ⟨g, 0, e.1.symm⟩
    obtain ⟨b, off, rfl⟩ := had
    refine wp_append_own w s x 36 hop base 3 i0 (.int .i64 0) 1 8 Try.underlying36 hi hz0 hz1 hz2 rfl (by decide) v xs.length (IV xs) hs hown ⟨b, off, none⟩ ys.length c (IV ys) (hx.trans e) (by simp [IV]) ?_ ?_ ?_ ?_ hbase ?_
    · intro j u hj
      have hj' : j < ys.length := by have := (List.getElem?_eq_some_iff.1 hj).1; simpa [IV] using this
      obtain ⟨b', o', e, hc⟩ := hS j hj'
      simp only [Option.some.injEq, Addr.mk.injEq, and_true] at e
      obtain ⟨rfl, rfl⟩ := e
      rw [Addr.add_lit, hc]
      rw [← hj]; simp [IV, num, List.getD, hj']
    · intro u hu
      simp only [IV, List.mem_map] at hu
      obtain ⟨y, _, rfl⟩ := hu; rfl
    · unfold maxLen; omega
    · omega
    · intro v' w' h1 h2 _
      refine hK v' w' ?_ ((Below.refl base w).grown h2 hbase (fun k e => (hown.lt k e).1))
      have e : IV (xs ++ ys) = IV xs ++ IV ys := by simp [IV]
      rw [e, List.length_append]; exact h1
theorem wpList_pushTwo (w : World) {ops : Array Oper} {rest : List Oper} {o : Oper} {a : Act} {Q : Exit → Act → World → Prop} (hg : o.guard = none)
    (s x : Operand) (hop : o.op = Op.call { callee := Callee.builtin Builtin.append, args := #[s, x], argTypes := #[36, 36] })
    (base : Nat) (v : Value) (xs : List Nat) (hs : a.eval s = v) (hown : w.ownsRow base 3 1 v xs.length (IV xs))
    (base2 : Nat) (vy : Value) (ys : List Nat) (hx : a.eval x = vy) (hy : w.ownsRow base2 3 1 vy ys.length (IV ys)) (hlen : xs.length + ys.length ≤ 1000000) (hbase : base ≤ w.heap.size)
    (hK : ∀ v' w', w'.ownsRow base 3 1 v' (xs ++ ys).length (IV (xs ++ ys)) → Below base w w' → wpList Try.prog ops Q rest (a.put o.dst v') w') :
    wpList Try.prog ops Q (o :: rest) a w :=
  wpList_plain hg fun _ hK' => wp_pushTwo s x hop base v xs hs hown base2 vy ys hx hy hlen hbase fun v' w' h1 h2 => hK' _ _ (hK v' w' h1 h2)

/-- What the closure asks of the world. -/
structure Foll (s : ByteArray) (r b1 b2 : Nat) (W : World) : Prop where
  str : Blk W b1 9 [.string s]
  row : Blk W b2 3 [.int .i64 (r : Int)]
theorem Foll.later {s : ByteArray} {r b1 b2 : Nat} {w w' : World} (H : Foll s r b1 b2 w) (hb : Below w.heap.size w w') : Foll s r b1 b2 w' := ⟨H.str.later hb, H.row.later hb⟩

set_option maxHeartbeats 1000000 in
theorem tells_ahead (s : ByteArray) (r b1 b2 : Nat) (hs : s.size ≤ 1000000) (hr : r ≤ s.size) :
    Tells 135 #[] #[.pointer (some ⟨b1, 0, none⟩), .pointer (some ⟨b2, 0, none⟩)] (Foll s r b1 b2) (ah (bl s) r) (s.size + 1) where
  enter := enters_of Try.func135 (by kernel_rfl) rfl
  keep w w' H hb := H.later hb
  run p w H hp := by
    have hx1 := cell1 H.str
    have hx2 := cell1 H.row
    clear H
    go_enter Try.func135, Try.ntmps135
    go_wp2_with fail
    refine (ahead_any s r p _ hs hr (by omega)).mono ?_
    rintro e w2 ⟨rfl, rfl⟩
    go_wp2
    go_ret
    exact ⟨rfl, Below.refl _ _⟩

set_option maxHeartbeats 2000000 in
/-- 'following'. -/
theorem following_any (s : ByteArray) (r : Nat) (w : World) (hs : s.size ≤ 100000) (hr : r ≤ s.size) :
    Calls Try.prog 103 #[.string s, .int .i64 r] w fun e w' => ∃ g, e = .returned (.slice (some ⟨g, 0, none⟩) (s.size + 1) (s.size + 1)) ∧ w.heap.size ≤ g ∧ Row w' g (Fo (bl s) r) ∧ Below w.heap.size w w' := by
  have hmf : ∀ (fn : Fn) (first cap : Array Value) (w : World), (Instr.makeFunc fn first cap).run Try.prog w = .ok (.func fn first cap) w := fun _ _ _ _ => rfl
  have hb0 : Below w.heap.size w ((w.alloc (Obj.cells #[.string s] 9)).alloc (Obj.cells #[.int .i64 (r : Int)] 3)) := ((Below.refl _ _).alloc (Nat.le_refl _) _).alloc (by simp) _
  have hF : Foll s r w.heap.size (w.heap.size + 1) ((w.alloc (Obj.cells #[.string s] 9)).alloc (Obj.cells #[.int .i64 (r : Int)] 3)) := ⟨Blk.alloc (Blk.new w _ _ rfl) _, Blk.new _ _ _ (by simp)⟩
  have v1 : IntKind.i64.wrap ((s.size : Int) + 1) = ((s.size + 1 : Nat) : Int) := by rw [IntKind.wrap_i64]; omega
  have CD := fun (W : World) (g : Nat) (hrw : Row W g (List.range (s.size + 1))) hI => deal_any _ #[] _ _ _ _ (tells_ahead s r w.heap.size (w.heap.size + 1) (by omega) hr) (some ⟨g, 0, none⟩) (List.range (s.size + 1)) (s.size + 1) 257 W (Row.sl hrw) (fun k hk => by rw [num_eq hk]; simpa using hk) (fun p _ => ah_lt (fun q => bl_lt s q) p) hI (by rw [List.length_range]; omega) (by omega)
  rw [List.length_range, show (((257 : Nat)) : Int) = 257 from rfl] at CD
  have HD : Hid _ := CD
  have CU := fun W => upTo_any (s.size + 1) W (by omega)
  rw [show (((s.size + 1 : Nat)) : Int) = (s.size : Int) + 1 by omega] at CU
  have HU : Hid _ := CU
  clear CU
  clear CD
  go_enter Try.func103, Try.ntmps103
  go_wp2_with fail
  refine Calls.mono (HU.out _) ?_
  rintro e w2 ⟨g2, rfl, hg2, hr2, hb2⟩
  have hF2 := hF.later hb2
  have hB2 := Below.later hb0 hb2
  clear hF hb0 hb2
  go_wp2_with fail
  refine Calls.mono (HD.out w2 g2 hr2 hF2) ?_
  rintro e w3 ⟨g3, rfl, hg3, hr3, hb3⟩
  have hB3 := Below.later hB2 hb3
  have hs2 := hB2.size
  go_wp2
  go_ret
  refine ⟨g3, rfl, by omega, ?_, hB3⟩
  unfold Fo
  rw [bl_length]
  exact hr3

set_option maxRecDepth 20000 in
set_option maxHeartbeats 2000000 in
/-- 'marked'. -/
theorem marked_any (s : ByteArray) (o : List Nat) (ho : IsSA (bl s) o) (w : World) (hs : s.size ≤ 100000) :
    Calls Try.prog 102 #[.string s] w fun e w' => ∃ v, e = .returned v ∧ w'.ownsRow w.heap.size 3 1 v (s.size :: o).length (IV (s.size :: o)) ∧ Below w.heap.size w w' := by
  have CI := fun (W : World) (g1 : Nat) (hr1 : Row W g1 (bl s)) => inducing_any (bl s).length (bl s) rfl (some ⟨g1, 0, none⟩) s.size 256 W (Row.sl hr1) (fun p _ => bl_lt s p) (by omega) (by rw [bl_length]; omega)
  rw [bl_length, show (((256 : Nat)) : Int) = 256 from rfl] at CI
  have HCI : Hid _ := CI
  have HO : Hid _ := ho
  have hol := IsSA.length ho
  rw [bl_length] at hol
  have HOL : Hid _ := hol
  have hown0 : (w.alloc (Obj.cells #[.int .i64 (s.size : Int)] 3)).ownsRow w.heap.size 3 1 (.slice (some ⟨w.heap.size, 0, none⟩) 1 1) [s.size].length (IV [s.size]) := World.ownsRow_lit w #[.int .i64 (s.size : Int)] 1 (Nat.le_refl _) (by unfold maxLen; omega) rfl
  have HW0 : Hid _ := hown0
  clear CI ho hol hown0
  go_enter Try.func102, Try.ntmps102
  go_wp2_with fail
  refine (endsOf_any s _ (by omega)).mono ?_
  rintro e w2 ⟨g2, rfl, hg2, hr2, hb2⟩
  have hB2 := Below.later ((Below.refl w.heap.size w).alloc (Nat.le_refl _) (Obj.cells #[.int .i64 (s.size : Int)] 3)) hb2
  have HW2 : Hid _ := own_later HW0.out hb2
  clear hb2 HW0
  go_wp2_with fail
  refine Calls.mono (HCI.out w2 g2 hr2) ?_
  rintro e w3 ⟨v3, o3, rfl, hown3, hsa3, hb3⟩
  have he := IsSA.unique hsa3 HO.out
  subst he
  have HW3 : Hid _ := own_later HW2.out hb3
  have HV3 : Hid _ := hown3
  have hB3 := Below.later hB2 hb3
  have hs3 := hB3.size
  obtain ⟨ad3, c3, rfl⟩ : ∃ ad c, v3 = .slice ad o3.length c := by
    obtain ⟨ad, c, e, _⟩ := own_sl hown3
    exact ⟨ad, c, e⟩
  clear hb3 hsa3 hown3 HW2 hr2
  go_wp2_with (first | (at_builtin; refine wpList_pushTwo _ rfl (.tmp 5) (.tmp 8) rfl w.heap.size _ [s.size] rfl HW3.out w2.heap.size _ o3 rfl HV3.out (by have := HOL.out; simp; omega) hs3 ?_; intro v4 w4 hown4 hb4) | fail)
  go_ret
  exact ⟨v4, rfl, hown4, hB3.trans hb4⟩
end Go.Proofs.Ytepklbboejnecaa
