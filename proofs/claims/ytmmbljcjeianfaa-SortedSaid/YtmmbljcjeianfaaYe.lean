/- What is held: a list is marked. -/
import Derived.Test.YtmmbljcjeianfaaYd
namespace Go.Proofs.Ytmmbljcjeianfaa
open Go.RowKit Go.Shelf Sedge
attribute [local go_sem ↓] Go.wp_at_zero Go.wp_at_succ

theorem Try.infoHeld : (Try.prog.info? 117).map (fun i => (i.zero, i.size, i.bytes)) = some (some (.agg #[.slice none 0 0, .int .i64 0]), 2, 32) := by kernel_rfl
/-- 'append(h, HeldInts{..})'. -/
theorem wpList_push_held (w : World) {ops : Array Oper} {rest : List Oper} {o : Oper} {a : Act} {Q : Exit → Act → World → Prop} (hg : o.guard = none)
    (s x : Operand) (hop : o.op = Op.call { callee := Callee.builtin Builtin.append, args := #[s, x], argTypes := #[23, 23] })
    (base : Nat) (v : Value) (E : List (Value × Int)) (hs : a.eval s = v) (hown : w.ownsRow base 117 2 v E.length (cellsE E))
    (b : Nat) (y : Value) (m : Int) (hx : a.eval x = .slice (some ⟨b, 0, none⟩) 1 1) (hc : Blk w b 117 [y, .int .i64 m]) (h1 : y.oneCell' = true) (hn : E.length ≤ 10000) (hbase : base ≤ w.heap.size)
    (hK : ∀ v' w', w'.ownsRow base 117 2 v' (E ++ [(y, m)]).length (cellsE (E ++ [(y, m)])) → w.grownBy w' v.ownBlock → Lies w w' v v' → wpList Try.prog ops Q rest (a.put o.dst v') w') :
    wpList Try.prog ops Q (o :: rest) a w := by
  obtain ⟨i0, hi, hz0, hz1, hz2⟩ := info_parts Try.infoHeld
  refine wpList_push_at w hg s x 23 hop 117 i0 (.agg #[.slice none 0 0, .int .i64 0]) 2 32 Try.underlying23 hi hz0 hz1 hz2 rfl (by decide) base v E.length (cellsE E) hs hown ⟨b, 0, none⟩ 1 [y, .int .i64 m] hx rfl ?_ ?_ ?_ ?_ hbase ?_
  · obtain ⟨q0, q1⟩ := cells2 hc
    intro j u hj
    match j, hj with
    | 0, hj => simp at hj; subst hj; simpa [Addr.add] using q0
    | 1, hj => simp at hj; subst hj; simpa [Addr.add] using q1
  · intro u hu
    simp at hu
    rcases hu with rfl | rfl
    · exact h1
    · rfl
  · unfold maxLen; omega
  · omega
  · intro v' w' q1 q2 q3
    refine hK v' w' ?_ q2 q3
    rw [cellsE_append, List.length_append]
    exact q1
/-- 'append(l, m)'. -/
theorem wpList_push_mark (w : World) {ops : Array Oper} {rest : List Oper} {o : Oper} {a : Act} {Q : Exit → Act → World → Prop} (hg : o.guard = none)
    (s x : Operand) (hop : o.op = Op.call { callee := Callee.builtin Builtin.append, args := #[s, x], argTypes := #[36, 36] })
    (base : Nat) (v : Value) (n : Nat) (m : Int) (hs : a.eval s = v) (hown : w.ownsRow base 3 1 v n (List.replicate n (.int .i64 m)))
    (ad : Addr) (hx : a.eval x = .slice (some ad) 1 1) (hc : w.cell? ad = some (.int .i64 m)) (hn : n ≤ 1000000) (hbase : base ≤ w.heap.size)
    (hK : ∀ v' w', w'.ownsRow base 3 1 v' (n + 1) (List.replicate (n + 1) (.int .i64 m)) → w.grownBy w' v.ownBlock → Lies w w' v v' → wpList Try.prog ops Q rest (a.put o.dst v') w') :
    wpList Try.prog ops Q (o :: rest) a w := by
  obtain ⟨i0, hi, hz0, hz1, hz2⟩ := info_parts Try.infoInt
  refine wpList_push_at w hg s x 36 hop 3 i0 (.int .i64 0) 1 8 Try.underlying36 hi hz0 hz1 hz2 rfl (by decide) base v n _ hs hown ad 1 [.int .i64 m] hx rfl ?_ ?_ ?_ ?_ hbase ?_
  · intro j u hj
    match j, hj with
    | 0, hj => simp at hj; subst hj; simpa [Addr.add] using hc
  · intro u hu; simp at hu; subst hu; rfl
  · unfold maxLen; omega
  · omega
  · intro v' w' q1 q2 q3
    refine hK v' w' ?_ q2 q3
    rw [List.replicate_succ']
    exact q1

theorem Fr.sub {w w' : World} {a b : List (Option Nat)} (h : Fr w w' a) (s : ∀ r ∈ a, r ∈ b) : Fr w w' b := ⟨h.1, fun k hk hr => h.2 k hk fun r hr' => hr r (s r hr')⟩

/-- A list's marking, so far: g: the list with so many marks behind it; G: what was kept of it. -/
structure MK (B : Nat) (W0 : World) (hb N : Nat) (vI0 vT vR v0 : Value) (n0 : Nat) (m : Int) (E : List (Value × Int)) (W : World) (vI g : Value) (G : List (Value × Int)) (t : Nat) : Prop where
  base : B ≤ hb
  box : Blk W hb 30 [.int .i64 (N : Int), vI, nl, nl, vT, vR, nl, nl, nl, nl]
  rI : W.ownsRow B 117 2 vI (E ++ G).length (cellsE (E ++ G))
  rg : W.ownsRow B 3 1 g (n0 + t) (List.replicate (n0 + t) (.int .i64 m))
  rd : ∀ e ∈ E ++ G, Rd W e.1 e.2
  lt : ∀ e ∈ E ++ G, ∀ k, e.1.ownBlock = some k → k < W.heap.size
  gG : ∀ e ∈ G, e.2 = m ∧ (e.1 = nl ∨ ∃ k n' c, e.1 = .slice (some ⟨k, 0, none⟩) n' c ∧ n' ≤ n0 + t)
  gl : ∀ e ∈ G, ∀ k, e.1.ownBlock = some k → v0.ownBlock = some k ∨ W0.heap.size ≤ k
  g0 : ∀ k, g.ownBlock = some k → v0.ownBlock = some k ∨ W0.heap.size ≤ k
  vIl : ∀ k, vI.ownBlock = some k → vI0.ownBlock = some k ∨ W0.heap.size ≤ k
  oI : vI.ownBlock ≠ some hb
  og : g.ownBlock ≠ some hb
  oE : ∀ e ∈ E ++ G, e.1.ownBlock ≠ some hb
  aIg : Apart vI g
  aEI : ∀ e ∈ E ++ G, Apart e.1 vI
  aEg : ∀ e ∈ E, Apart e.1 g
  fr : Fr W0 W [some hb, vI0.ownBlock, v0.ownBlock]
  blw : Below B W0 W
  nG : G.length ≤ t + 1
  nE : E.length ≤ 9000
  nn : n0 ≤ 100000

section
variable {B : Nat} {W0 : World} {hb N : Nat} {vI0 vT vR v0 : Value} {n0 : Nat} {m : Int} {E : List (Value × Int)} {W w2 : World} {vI g : Value} {G : List (Value × Int)} {t : Nat}
/-- What is kept of a list is one more. -/
theorem MK.keep (h : MK B W0 hb N vI0 vT vR v0 n0 m E W vI g G t) {o : Obj} {vI' : Value} (ht : t ≤ 10)
    (q1 : w2.ownsRow B 117 2 vI' (E ++ G ++ [(g, m)]).length (cellsE (E ++ G ++ [(g, m)]))) (q2 : (W.alloc o).grownBy w2 vI.ownBlock) (q3 : Lies (W.alloc o) w2 vI vI') (hsz : B ≤ W.heap.size) :
    Blk w2 hb 30 [.int .i64 (N : Int), vI, nl, nl, vT, vR, nl, nl, nl, nl] ∧
    (w2.setCell ⟨hb, 1, none⟩ vI').ownsRow B 117 2 vI' (E ++ (G ++ [(g, m)])).length (cellsE (E ++ (G ++ [(g, m)]))) ∧
    (w2.setCell ⟨hb, 1, none⟩ vI').ownsRow B 3 1 g (n0 + t) (List.replicate (n0 + t) (.int .i64 m)) ∧
    (∀ e ∈ E ++ (G ++ [(g, m)]), Rd (w2.setCell ⟨hb, 1, none⟩ vI') e.1 e.2 ∧ Apart e.1 vI' ∧ e.1.ownBlock ≠ some hb ∧ ∀ k, e.1.ownBlock = some k → k < (w2.setCell ⟨hb, 1, none⟩ vI').heap.size) ∧
    vI'.ownBlock ≠ some hb ∧ Apart vI' g ∧ (∀ k, vI'.ownBlock = some k → vI0.ownBlock = some k ∨ W0.heap.size ≤ k) ∧
    Fr W0 (w2.setCell ⟨hb, 1, none⟩ vI') [some hb, vI0.ownBlock, v0.ownBlock] ∧ Below B W0 (w2.setCell ⟨hb, 1, none⟩ vI') := by
  have z0 := h.fr.1
  have z1 : W.heap.size ≤ (W.alloc o).heap.size := by rw [World.size_alloc]; omega
  have z2 := q2.size
  have hbl := h.box.lt
  have F2 : Fr W w2 [vI.ownBlock] := (Fr.alloc W o).trans (Fr.of_grown q2)
  have F3 : Fr W (w2.setCell ⟨hb, 1, none⟩ vI') [vI.ownBlock, some hb] := F2.trans (Fr.set w2 hb 1 vI')
  have oI' := off_lies h.oI (by omega) q3
  have lie : ∀ x, Apart x vI → (∀ k, x.ownBlock = some k → k < W.heap.size) → Apart x vI' := fun x hx hl => hx.lies (fun k hk => by have := hl k hk; omega) q3
  have agl := own_lt h.rg
  have b2 := Blk.fr h.box F2 (fun r hr => by simp at hr; subst hr; exact fun e => h.oI e.symm)
  refine ⟨b2, ?_, ?_, ?_, oI', (lie g h.aIg.symm agl).symm, ?_, ?_, ?_⟩
  · rw [← List.append_assoc]
    exact own_fr q1 (Fr.set w2 hb 1 vI') (free_of_off oI')
  · exact own_fr h.rg F3 (free_cons (free_of_apart h.aIg.symm) (free_of_off h.og))
  · intro e he
    rw [← List.append_assoc] at he
    rcases List.mem_append.1 he with he | he
    · exact ⟨(h.rd e he).fr F3 (free_cons (free_of_apart (h.aEI e he)) (free_of_off (h.oE e he))), lie _ (h.aEI e he) (h.lt e he), h.oE e he, fun k hk => by have := h.lt e he k hk; have := F3.1; omega⟩
    · simp at he; subst he
      exact ⟨(rd_own h.rg (by have := h.nn; omega)).fr F3 (free_cons (free_of_apart h.aIg.symm) (free_of_off h.og)), lie _ h.aIg.symm agl, h.og, fun k hk => by have := agl k hk; have := F3.1; omega⟩
  · intro k hk
    rcases q3 with q3 | q3
    · rw [q3] at hk; exact h.vIl k hk
    · right; have := q3.1 k hk; omega
  · refine ⟨Nat.le_trans h.fr.1 F3.1, fun k hk hr => (F3.2 k (by omega) fun r hr' e => ?_).trans (h.fr.2 k hk hr)⟩
    simp only [List.mem_cons, List.not_mem_nil, or_false] at hr'
    rcases hr' with rfl | rfl
    · rcases h.vIl k e.symm with q | q
      · exact hr _ (by simp) q.symm
      · omega
    · exact hr _ (by simp) e
  · exact ((h.blw.alloc (by omega) _).grown q2 (by omega) (fun k hk => (h.rI.lt k hk).1)).setCell (p := ⟨hb, 1, none⟩) h.base _

theorem MK.kept (h : MK B W0 hb N vI0 vT vR v0 n0 m E W vI g G t) {o : Obj} {vI' : Value} (ht : t ≤ 10) (hG : G.length ≤ t)
    (q1 : w2.ownsRow B 117 2 vI' (E ++ G ++ [(g, m)]).length (cellsE (E ++ G ++ [(g, m)]))) (q2 : (W.alloc o).grownBy w2 vI.ownBlock) (q3 : Lies (W.alloc o) w2 vI vI') (hsz : B ≤ W.heap.size) :
    MK B W0 hb N vI0 vT vR v0 n0 m E (w2.setCell ⟨hb, 1, none⟩ vI') vI' g (G ++ [(g, m)]) t := by
  obtain ⟨k1, k2, k3, k4, k5, k6, k7, k8, k9⟩ := h.keep ht q1 q2 q3 hsz
  refine { h with box := Blk.set k1 1 vI', rI := k2, rg := k3, rd := fun e he => (k4 e he).1, lt := fun e he => (k4 e he).2.2.2, gG := ?_, gl := ?_, vIl := k7, oI := k5, oE := fun e he => (k4 e he).2.2.1, aIg := k6, aEI := fun e he => (k4 e he).2.1, fr := k8, blw := k9, nG := by simp; omega }
  · intro e he
    rcases List.mem_append.1 he with he | he
    · exact h.gG e he
    · simp at he; subst he
      refine ⟨rfl, ?_⟩
      rcases own_form h.rg with ⟨q, _⟩ | ⟨k, c, q⟩
      · exact .inl q
      · exact .inr ⟨k, _, c, q, Nat.le_refl _⟩
  · intro e he
    rcases List.mem_append.1 he with he | he
    · exact h.gl e he
    · simp at he; subst he; exact h.g0

/-- One mark more behind the list. -/
theorem MK.grow (h : MK B W0 hb N vI0 vT vR v0 n0 m E W vI g G t) {o : Obj} {g' : Value} (ht : t ≤ 10)
    (q1 : w2.ownsRow B 3 1 g' (n0 + t + 1) (List.replicate (n0 + t + 1) (.int .i64 m))) (q2 : (W.alloc o).grownBy w2 g.ownBlock) (q3 : Lies (W.alloc o) w2 g g') (hsz : B ≤ W.heap.size) :
    MK B W0 hb N vI0 vT vR v0 n0 m E w2 vI g' G (t + 1) := by
  have z0 := h.fr.1
  have z1 : W.heap.size ≤ (W.alloc o).heap.size := by rw [World.size_alloc]; omega
  have z2 := q2.size
  have hbl := h.box.lt
  have F2 : Fr W w2 [g.ownBlock] := (Fr.alloc W o).trans (Fr.of_grown q2)
  have hGm : ∀ e ∈ G, Rd w2 e.1 e.2 := fun e he => by
    have hm := h.gG e he
    have he' : e ∈ E ++ G := List.mem_append.2 (Or.inr he)
    rcases q3 with q3 | q3
    · rcases hm.2 with hn | ⟨k, n', c, hk, hn'⟩
      · rw [hm.1, hn]; exact rd_shorter (n := 0) q1 (by omega) (by have := h.nn; omega) (.inl rfl)
      · by_cases hb' : g.ownBlock = some k
        · rw [hm.1]
          exact rd_shorter (n := n') q1 (by omega) (by have := h.nn; omega) (.inr ⟨k, c, hk, by rw [q3]; exact hb'⟩)
        · refine (h.rd e he').fr F2 fun j hj r hr er => ?_
          rw [hk] at hj
          simp only [Value.ownBlock, Option.some.injEq] at hj
          simp at hr; subst hr; subst hj; exact hb' er.symm
    · exact (h.rd e he').fr ((Fr.alloc W o).trans (Fr.of_grown q3.2)) (fun j hj r hr er => by simp at hr; subst hr; cases er)
  have lieg : ∀ x, Apart x g → (∀ k, x.ownBlock = some k → k < W.heap.size) → Apart x g' := fun x hx hl => hx.lies (fun k hk => by have := hl k hk; omega) q3
  refine { h with box := ?_, rI := ?_, rg := q1, rd := ?_, lt := ?_, gG := ?_, g0 := ?_, og := off_lies h.og (by omega) q3, aIg := lieg _ h.aIg (own_lt h.rI), aEg := ?_, fr := ?_, blw := ?_, nG := by have := h.nG; omega }
  · exact Blk.fr h.box F2 (fun r hr => by simp at hr; subst hr; exact fun e => h.og e.symm)
  · exact own_fr h.rI F2 (free_of_apart h.aIg)
  · intro e he
    rcases List.mem_append.1 he with he | he
    · exact (h.rd e (List.mem_append.2 (Or.inl he))).fr F2 (free_of_apart (h.aEg e he))
    · exact hGm e he
  · exact fun e he k hk => by have := h.lt e he k hk; omega
  · intro e he
    refine ⟨(h.gG e he).1, ?_⟩
    rcases (h.gG e he).2 with q | ⟨k, n', c, hk, hn'⟩
    · exact .inl q
    · exact .inr ⟨k, n', c, hk, by omega⟩
  · intro k hk
    rcases q3 with q3 | q3
    · rw [q3] at hk; exact h.g0 k hk
    · right; have := q3.1 k hk; omega
  · exact fun e he => lieg _ (h.aEg e he) (h.lt e (List.mem_append.2 (Or.inl he)))
  · refine ⟨Nat.le_trans h.fr.1 F2.1, fun k hk hr => (F2.2 k (by omega) fun r hr' e => ?_).trans (h.fr.2 k hk hr)⟩
    simp at hr'
    subst hr'
    rcases h.g0 k e.symm with q | q
    · exact hr _ (by simp) q.symm
    · omega
  · exact (h.blw.alloc (by omega) _).grown q2 (by omega) (fun k hk => (h.rg.lt k hk).1)
end
end Go.Proofs.Ytmmbljcjeianfaa
