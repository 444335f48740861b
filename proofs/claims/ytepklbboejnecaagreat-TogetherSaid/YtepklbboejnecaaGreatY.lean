/- Several texts as one. -/
import Derived.Test.YtepklbboejnecaaGreatX
import Derived.Maps.AppendAt
import Derived.Deep.DeepAppendRoom
import Derived.ArgAppend
/- What is held: lists in blocks of their own, and what leaves them as they are. -/
namespace Go.Proofs.YtepklbboejnecaaGreat
open Go.RowKit Go.Shelf Sedge
attribute [local go_sem ↓] Go.wp_at_zero Go.wp_at_succ

/-- What may differ: the blocks that are named, and new ones. -/
def Fr (w w' : World) (bs : List (Option Nat)) : Prop := w.heap.size ≤ w'.heap.size ∧ ∀ k, k < w.heap.size → (∀ r ∈ bs, some k ≠ r) → w'.heap[k]? = w.heap[k]?
theorem Fr.trans {a b c : World} {x y : List (Option Nat)} (h : Fr a b x) (k : Fr b c y) : Fr a c (x ++ y) :=
  ⟨Nat.le_trans h.1 k.1, fun i hi hr => by
    rw [k.2 i (Nat.lt_of_lt_of_le hi h.1) (fun r hr' => hr r (List.mem_append.2 (Or.inr hr'))), h.2 i hi (fun r hr' => hr r (List.mem_append.2 (Or.inl hr')))]⟩
theorem Fr.of_grown {w w' : World} {r : Option Nat} (h : w.grownBy w' r) : Fr w w' [r] := ⟨h.size, fun k hk hr => h.block k hk (hr r (by simp))⟩
theorem Fr.of_below {w w' : World} (h : Below w.heap.size w w') : Fr w w' [] := ⟨h.size, fun k hk _ => h.block k hk⟩
theorem Fr.alloc (w : World) (o : Obj) : Fr w (w.alloc o) [] := Fr.of_below ((Below.refl _ _).alloc (Nat.le_refl _) _)
theorem Fr.drewN (w : World) (n : Nat) : Fr w (w.drewN n) [] := Fr.of_below ((Below.refl _ _).drewN n)
theorem Fr.set (w : World) (g k : Nat) (v : Value) : Fr w (w.setCell ⟨g, k, none⟩ v) [some g] :=
  ⟨by simp, fun i _ hr => by
    have h1 : i ≠ g := fun e => hr (some g) (by simp) (by rw [e])
    exact heap_setCell_other w _ i v h1⟩
/-- A value's block is none of these. -/
def Free (x : Value) (bs : List (Option Nat)) : Prop := ∀ g, x.ownBlock = some g → ∀ r ∈ bs, some g ≠ r
theorem own_fr {w w' : World} {base : Nat} {e : TypeId} {s n : Nat} {v : Value} {xs : List Value} {bs : List (Option Nat)} (h : w.ownsRow base e s v n xs) (k : Fr w w' bs) (f : Free v bs) : w'.ownsRow base e s v n xs := by
  refine ⟨h.1, ?_⟩
  rcases h.2 with h' | ⟨g, cap, cur, rfl, h2, h3, h4⟩
  · exact .inl h'
  · exact .inr ⟨g, cap, cur, rfl, h2, by rw [k.2 g (lt_of_block h3) (f g rfl)]; exact h3, h4⟩
theorem Blk.fr {w w' : World} {g : Nat} {T : TypeId} {vs : List Value} {bs : List (Option Nat)} (h : Blk w g T vs) (k : Fr w w' bs) (f : ∀ r ∈ bs, some g ≠ r) : Blk w' g T vs := by
  unfold Blk; rw [k.2 g h.lt f]; exact h

/-- A list that reads as a mark at all its places. -/
def Rd (w : World) (v : Value) (m : Int) : Prop := ∃ ad n c, v = .slice ad n c ∧ n ≤ 1000000 ∧ ∀ k, k < n → ∃ b o, ad = some ⟨b, o, none⟩ ∧ w.cell? ⟨b, o + k, none⟩ = some (.int .i64 m)
theorem Rd.fr {w w' : World} {v : Value} {m : Int} {bs : List (Option Nat)} (h : Rd w v m) (k : Fr w w' bs) (f : Free v bs) : Rd w' v m := by
  obtain ⟨ad, n, c, rfl, hn, h⟩ := h
  refine ⟨ad, n, c, rfl, hn, fun i hi => ?_⟩
  obtain ⟨b, o, rfl, hc⟩ := h i hi
  exact ⟨b, o, rfl, by rw [World.cell?_of_block (k.2 b (World.block_lt_of_cell? w _ hc) (f b rfl))]; exact hc⟩
theorem rd_own {w : World} {base n : Nat} {v : Value} {m : Int} (h : w.ownsRow base 3 1 v n (List.replicate n (.int .i64 m))) (hn : n ≤ 1000000) : Rd w v m := by
  rcases h.2 with ⟨rfl, rfl⟩ | ⟨g, cap, cur, rfl, h2, h3, h4, h5, h6, h7⟩
  · exact ⟨none, 0, 0, rfl, by omega, fun k hk => by omega⟩
  · refine ⟨some ⟨g, 0, none⟩, n, cap, rfl, hn, fun k hk => ⟨g, 0, rfl, ?_⟩⟩
    rw [cell_of_row w g _ _ _ _ h3, Nat.zero_add]
    have e : cur[k]? = (cur.toList.take (n * 1))[k]? := by rw [List.getElem?_take, if_pos (by omega)]; simp
    rw [e, h7]; simp [hk]
/-- Of a longer list in the same block. -/
theorem rd_shorter {w : World} {base n n' : Nat} {v v' : Value} {m : Int} (h : w.ownsRow base 3 1 v' n' (List.replicate n' (.int .i64 m))) (hn : n ≤ n') (hn' : n' ≤ 1000000) (hv : v = .slice none 0 0 ∨ ∃ g c, v = .slice (some ⟨g, 0, none⟩) n c ∧ v'.ownBlock = some g) : Rd w v m := by
  rcases hv with rfl | ⟨g, c, rfl, hb⟩
  · exact ⟨none, 0, 0, rfl, by omega, fun k hk => by omega⟩
  · rcases h.2 with ⟨rfl, rfl⟩ | ⟨g', cap, cur, rfl, h2, h3, h4, h5, h6, h7⟩
    · cases hb
    · simp only [Value.ownBlock, Option.some.injEq] at hb
      subst hb
      refine ⟨some ⟨g', 0, none⟩, n, c, rfl, by omega, fun k hk => ⟨g', 0, rfl, ?_⟩⟩
      rw [cell_of_row w g' _ _ _ _ h3, Nat.zero_add]
      have e : cur[k]? = (cur.toList.take (n' * 1))[k]? := by rw [List.getElem?_take, if_pos (by omega)]; simp
      rw [e, h7]; simp [show k < n' by omega]
theorem own_form {w : World} {base n : Nat} {e : TypeId} {s : Nat} {v : Value} {xs : List Value} (h : w.ownsRow base e s v n xs) : (v = .slice none 0 0 ∧ n = 0) ∨ ∃ g c, v = .slice (some ⟨g, 0, none⟩) n c := by
  rcases h.2 with h' | ⟨g, cap, cur, h1, _⟩
  · exact .inl h'
  · exact .inr ⟨g, cap, h1⟩

/-- Where a list lies behind an append: where it lay, or in a new block, and then all else is as it was. -/
def Lies (w w' : World) (v v' : Value) : Prop := v'.ownBlock = v.ownBlock ∨ ((∀ g, v'.ownBlock = some g → w.heap.size ≤ g) ∧ w.grownBy w' none)

theorem run_push {P : Program} (w : World) (t ty e : TypeId) (i : TypeInfo) (z : Value) (size bytes : Nat) (ht : P.underlying t = some (.slice e)) (hi : P.info? e = some i) (hz : i.zero = some z)
    (hsize : i.size = size) (hby : i.bytes = bytes) (hzs : z.cells.size = size) (hsz : 0 < size) (base : Nat)
    (v : Value) (n : Nat) (xs : List Value) (hown : w.ownsRow base e size v n xs)
    (a : Addr) (c : Nat) (news : List Value) (hl : news.length = 1 * size) (hnews : ∀ j u, news[j]? = some u → w.cell? (a.add j) = some u) (h1 : ∀ u ∈ news, u.oneCell' = true)
    (h63 : n + 1 ≤ maxLen) (hbytes : (n + 1) * bytes ≤ 140737488355328) (hbase : base ≤ w.heap.size) :
    ∃ v' w', (Builtin.append_ #[t, t] ty #[v, .slice (some a) 1 c]).run P w = .ok v' w' ∧ w'.ownsRow base e size v' (n + 1) (xs ++ news) ∧ w.grownBy w' v.ownBlock ∧ Lies w w' v v' := by
  rcases hown.2 with ⟨rfl, rfl⟩ | ⟨g, cap, cur, rfl, hb, hg, hnc, hcm, hcs, htk⟩
  · obtain ⟨v', w', h2, h3, h4, h5, h6⟩ := run_append_own_at (P := P) w base t ty e i z size bytes ht hi hz hsize hby hzs hsz _ _ xs hown a 1 c news hl hnews h1 h63 hbytes hbase
    refine ⟨v', w', h2, h3, h4, .inr ⟨fun g hg => ?_, h4⟩⟩
    rcases h6 with h6 | h6
    · rw [h6] at hg; cases hg
    · rw [h6] at hg; simp at hg; omega
  · by_cases hr : n + 1 ≤ cap
    · obtain ⟨w', h2, h3, h4⟩ := run_append_own_spare (P := P) w base t ty e i size ht hi hsize g n cap xs hown a 1 c news hl hnews h1 hr
      exact ⟨_, w', h2, h3, h4, .inl rfl⟩
    · obtain ⟨v', w', h2, h3, h4⟩ := run_append_arg_grows (P := P) w t ty e i z size bytes ht hi hz hsize hby hzs hsz ⟨g, 0, none⟩ n cap xs hown.1 (hown.cells rfl) a 1 c news hl hnews (by omega) h63 hbytes
      refine ⟨v', w', h2, ⟨h3.1, ?_⟩, ⟨h4.os, h4.tape, h4.output, h4.size, fun k hk _ => h4.block k hk (by simp)⟩, .inr ⟨fun g hg => (h3.lt g hg).1, h4⟩⟩
      rcases h3.2 with hh | ⟨g2, cap2, cur2, q1, q2, q3⟩
      · exact .inl hh
      · exact .inr ⟨g2, cap2, cur2, q1, by omega, q3⟩

theorem wpList_push_at {P : Program} (w : World) {ops : Array Oper} {rest : List Oper} {o : Oper} {a : Act} {Q : Exit → Act → World → Prop} (hgd : o.guard = none) (s x : Operand) (t : TypeId)
    (ho : o.op = .call { callee := .builtin .append, args := #[s, x], argTypes := #[t, t] })
    (e : TypeId) (i : TypeInfo) (z : Value) (size bytes : Nat) (ht : P.underlying t = some (.slice e)) (hi : P.info? e = some i) (hz : i.zero = some z)
    (hsize : i.size = size) (hby : i.bytes = bytes) (hzs : z.cells.size = size) (hsz : 0 < size) (base : Nat)
    (v : Value) (n : Nat) (xs : List Value) (hs : a.eval s = v) (hown : w.ownsRow base e size v n xs)
    (ad : Addr) (c : Nat) (news : List Value) (hx : a.eval x = .slice (some ad) 1 c) (hl : news.length = 1 * size) (hnews : ∀ j u, news[j]? = some u → w.cell? (ad.add j) = some u) (h1 : ∀ u ∈ news, u.oneCell' = true)
    (h63 : n + 1 ≤ maxLen) (hbytes : (n + 1) * bytes ≤ 140737488355328) (hbase : base ≤ w.heap.size)
    (h : ∀ v' w', w'.ownsRow base e size v' (n + 1) (xs ++ news) → w.grownBy w' v.ownBlock → Lies w w' v v' → wpList P ops Q rest (a.put o.dst v') w') :
    wpList P ops Q (o :: rest) a w := by
  refine wpList_plain hgd fun K hK => ?_
  obtain ⟨v', w', hr, h2, h3, h4⟩ := run_push (P := P) w t o.type e i z size bytes ht hi hz hsize hby hzs hsz base v n xs hown ad c news hl hnews h1 h63 hbytes hbase
  unfold Oper.wp execOp
  simp only [ho, resolve, invoke, builtin, Sem.run_bind, Sem.run_pure, Result.andThen_ok, List.map_toArray, List.map_cons, List.map_nil, hs, hx, hr]
  exact hK _ _ (h v' w' h2 h3 h4)
end Go.Proofs.YtepklbboejnecaaGreat

/- What is held: the lists that wait, the lists that are marked. -/
namespace Go.Proofs.YtepklbboejnecaaGreat
open Go.RowKit Go.Shelf Sedge
attribute [local go_sem ↓] Go.wp_at_zero Go.wp_at_succ

abbrev nl : Value := .slice none 0 0
/-- Two lists lie in blocks of their own. -/
def Apart (x y : Value) : Prop := ∀ g, x.ownBlock = some g → y.ownBlock ≠ some g
theorem Apart.symm {x y : Value} (h : Apart x y) : Apart y x := fun g h1 h2 => h g h2 h1
theorem apart_nl (x : Value) : Apart x nl := fun _ _ h => by cases h
/-- What lies apart from what holds the lists. -/
structure Clear (hb : Nat) (vI vT vR x : Value) : Prop where
  off : x.ownBlock ≠ some hb
  i : Apart x vI
  t : Apart x vT
  r : Apart x vR
/-- The marked lists, as cells. -/
def cellsE (E : List (Value × Int)) : List Value := E.flatMap fun e => [e.1, .int .i64 e.2]
theorem cellsE_length (E : List (Value × Int)) : (cellsE E).length = E.length * 2 := by
  induction E with
  | nil => rfl
  | cons e E ih => rw [cellsE, List.flatMap_cons, List.length_append]; rw [cellsE] at ih; rw [ih]; simp; omega
theorem cellsE_append (E F : List (Value × Int)) : cellsE (E ++ F) = cellsE E ++ cellsE F := by simp [cellsE]

/-- What is held, whole. -/
structure HInv (B : Nat) (W : World) (hb N : Nat) (vI vT vR : Value) (E : List (Value × Int)) (T : List (Value × Value × List Nat)) : Prop where
  base : B ≤ hb
  box : Blk W hb 33 [.int .i64 (N : Int), vI, nl, nl, vT, vR, nl, nl, nl, nl]
  rI : W.ownsRow B 114 2 vI E.length (cellsE E)
  rT : W.ownsRow B 55 1 vT T.length (T.map (·.1))
  rR : W.ownsRow B 55 1 vR T.length (T.map (·.2.1))
  own : ∀ t ∈ T, W.ownsRow B 3 1 t.1 t.2.2.length (IV t.2.2) ∧ W.ownsRow B 3 1 t.2.1 t.2.2.length (IV t.2.2)
  small : ∀ t ∈ T, t.2.2.length ≤ 100000
  rd : ∀ e ∈ E, Rd W e.1 e.2
  lt : ∀ e ∈ E, ∀ g, e.1.ownBlock = some g → g < W.heap.size
  oI : vI.ownBlock ≠ some hb
  oT : vT.ownBlock ≠ some hb
  oR : vR.ownBlock ≠ some hb
  aIT : Apart vI vT
  aIR : Apart vI vR
  aTR : Apart vT vR
  cT : ∀ t ∈ T, Clear hb vI vT vR t.1 ∧ Clear hb vI vT vR t.2.1
  cE : ∀ e ∈ E, Clear hb vI vT vR e.1
  pw : T.Pairwise fun t t' => Apart t.1 t'.1
  te : ∀ t ∈ T, ∀ e ∈ E, Apart e.1 t.1
  nN : N ≤ 1000
  nE : E.length ≤ 4 * N
  nT : T.length ≤ 100

section
variable {B : Nat} {W W' : World} {hb N : Nat} {vI vT vR : Value} {E : List (Value × Int)} {T : List (Value × Value × List Nat)}
theorem free_nil (x : Value) : Free x [] := fun _ _ _ h => by cases h
theorem HInv.later (h : HInv B W hb N vI vT vR E T) (k : Below W.heap.size W W') : HInv B W' hb N vI vT vR E T :=
  { h with
    box := h.box.later k
    rI := own_fr h.rI (Fr.of_below k) (free_nil _)
    rT := own_fr h.rT (Fr.of_below k) (free_nil _)
    rR := own_fr h.rR (Fr.of_below k) (free_nil _)
    own := fun t ht => ⟨own_fr (h.own t ht).1 (Fr.of_below k) (free_nil _), own_fr (h.own t ht).2 (Fr.of_below k) (free_nil _)⟩
    rd := fun e he => (h.rd e he).fr (Fr.of_below k) (free_nil _)
    lt := fun e he g hg => Nat.lt_of_lt_of_le (h.lt e he g hg) k.size }
/-- A list in a new block lies apart from all that is held. -/
theorem HInv.fresh (h : HInv B W hb N vI vT vR E T) {x : Value} (hx : ∀ g, x.ownBlock = some g → W.heap.size ≤ g) : Clear hb vI vT vR x ∧ (∀ t ∈ T, Apart t.1 x) ∧ (∀ e ∈ E, Apart e.1 x) where
  left := ⟨fun e => by have := hx _ e; have := h.box.lt; omega, fun g h1 h2 => by have := hx g h1; have := (h.rI.lt g h2).2; omega, fun g h1 h2 => by have := hx g h1; have := (h.rT.lt g h2).2; omega, fun g h1 h2 => by have := hx g h1; have := (h.rR.lt g h2).2; omega⟩
  right := ⟨fun t ht g h1 h2 => by have := hx g h2; have := ((h.own t ht).1.lt g h1).2; omega, fun e he g h1 h2 => by have := hx g h2; have := h.lt e he g h1; omega⟩
theorem HInv.cellAt (h : HInv B W hb N vI vT vR E T) : W.cell? ⟨hb, 0, none⟩ = some (.int .i64 (N : Int)) ∧ W.cell? ⟨hb, 1, none⟩ = some vI ∧ W.cell? ⟨hb, 2, none⟩ = some nl ∧ W.cell? ⟨hb, 3, none⟩ = some nl ∧ W.cell? ⟨hb, 4, none⟩ = some vT ∧ W.cell? ⟨hb, 5, none⟩ = some vR ∧ W.cell? ⟨hb, 6, none⟩ = some nl ∧ W.cell? ⟨hb, 7, none⟩ = some nl ∧ W.cell? ⟨hb, 8, none⟩ = some nl ∧ W.cell? ⟨hb, 9, none⟩ = some nl :=
  ⟨h.box.cell (k := 0) (by simp), h.box.cell (k := 1) (by simp), h.box.cell (k := 2) (by simp), h.box.cell (k := 3) (by simp), h.box.cell (k := 4) (by simp), h.box.cell (k := 5) (by simp), h.box.cell (k := 6) (by simp), h.box.cell (k := 7) (by simp), h.box.cell (k := 8) (by simp), h.box.cell (k := 9) (by simp)⟩
end

set_option maxHeartbeats 1000000 in
/-- 'sameInts'. -/
theorem sameInts_any (ax ay : Option Addr) (X Y : List Nat) (cx cy : Nat) (w : World) (hX : Sl w ax X) (hY : Sl w ay Y) (he : X = Y) (hn : X.length ≤ 1000000) :
    Calls Tryz.prog 30 #[.slice ax X.length cx, .slice ay Y.length cy] w fun e w' => e = .returned (.bool true) ∧ Below w.heap.size w w' := by
  subst he
  go_enter Tryz.func30, Tryz.ntmps30
  go_wp2
  go_loopw [5] (fun i wr => ∃ k : Nat, k ≤ X.length ∧ i = .int .i64 k ∧ Below w.heap.size w wr) (fun i _ => X.length - (intOf i).toNat)
  case atStart => exact ⟨0, Nat.zero_le _, rfl, Below.refl _ _⟩
  case round =>
    obtain ⟨k, hk, rfl, hb⟩ := hrel
    by_cases hlt : k < X.length
    · obtain ⟨b, o1, rfl, hc⟩ := hX k hlt
      obtain ⟨b2, o2, rfl, hc2⟩ := hY k hlt
      have i1 : (k : Int) < (X.length : Int) := by omega
      have i2 : (0 : Int) ≤ (k : Int) := by omega
      have d1 := (hb.cell (cell_lt hc)).trans hc
      have d2 := (hb.cell (cell_lt hc2)).trans hc2
      clear hc hc2
      go_wp2
      go_quiet (fail)
      go_wp2_with fail
      go_roundw
      case rel => exact ⟨k + 1, by omega, by go_num, hb.drewN _⟩
      case measure => simp [intOf]; omega
    · have i1 : ¬ (k : Int) < (X.length : Int) := by omega
      go_wp2
      go_ret
      exact ⟨rfl, hb⟩
end Go.Proofs.YtepklbboejnecaaGreat

/- What is held: a list that waits. -/
namespace Go.Proofs.YtepklbboejnecaaGreat
open Go.RowKit Go.Shelf Sedge
attribute [local go_sem ↓] Go.wp_at_zero Go.wp_at_succ

theorem wpList_pushOwn (w : World) {ops : Array Oper} {rest : List Oper} {o : Oper} {a : Act} {Q : Exit → Act → World → Prop} (hg : o.guard = none)
    (s x : Operand) (hop : o.op = Op.call { callee := Callee.builtin Builtin.append, args := #[s, x], argTypes := #[55, 55] })
    (base : Nat) (v : Value) (xs : List Nat) (hs : a.eval s = v) (hown : w.ownsRow base 3 1 v xs.length (IV xs))
    (base2 : Nat) (vy : Value) (ys : List Nat) (hx : a.eval x = vy) (hy : w.ownsRow base2 3 1 vy ys.length (IV ys)) (hlen : xs.length + ys.length ≤ 1000000) (hbase : base ≤ w.heap.size)
    (hK : ∀ v' w', w'.ownsRow base 3 1 v' (xs ++ ys).length (IV (xs ++ ys)) → Below base w w' → wpList Tryz.prog ops Q rest (a.put o.dst v') w') :
    wpList Tryz.prog ops Q (o :: rest) a w :=
  wpList_plain hg fun _ hK' => wp_pushOwn s x hop base v xs hs hown base2 vy ys hx hy hlen hbase fun v' w' h1 h2 => hK' _ _ (hK v' w' h1 h2)

theorem Tryz.infoSl : (Tryz.prog.info? 55).map (fun i => (i.zero, i.size, i.bytes)) = some (some (.slice none 0 0), 1, 24) := by kernel_rfl
/-- 'append(s, x)' of lists. -/
theorem wpList_push_sl (w : World) {ops : Array Oper} {rest : List Oper} {o : Oper} {a : Act} {Q : Exit → Act → World → Prop} (hg : o.guard = none)
    (s x : Operand) (hop : o.op = Op.call { callee := Callee.builtin Builtin.append, args := #[s, x], argTypes := #[29, 29] })
    (base : Nat) (v : Value) (n : Nat) (xs : List Value) (hs : a.eval s = v) (hown : w.ownsRow base 55 1 v n xs)
    (ad : Addr) (y : Value) (hx : a.eval x = .slice (some ad) 1 1) (hc : w.cell? ad = some y) (h1 : y.oneCell' = true) (hn : n ≤ 1000) (hbase : base ≤ w.heap.size)
    (hK : ∀ v' w', w'.ownsRow base 55 1 v' (n + 1) (xs ++ [y]) → w.grownBy w' v.ownBlock → Lies w w' v v' → wpList Tryz.prog ops Q rest (a.put o.dst v') w') :
    wpList Tryz.prog ops Q (o :: rest) a w := by
  obtain ⟨i0, hi, hz0, hz1, hz2⟩ := info_parts Tryz.infoSl
  refine wpList_push_at w hg s x 29 hop 55 i0 (.slice none 0 0) 1 24 Tryz.underlying29 hi hz0 hz1 hz2 rfl (by decide) base v n xs hs hown ad 1 [y] hx rfl ?_ ?_ ?_ ?_ hbase hK
  · intro j u hj
    match j, hj with
    | 0, hj => simp at hj; subst hj; simpa [Addr.add] using hc
  · intro u hu; simp at hu; subst hu; exact h1
  · unfold maxLen; omega
  · omega

theorem own_slice {w : World} {base n : Nat} {e : TypeId} {s : Nat} {v : Value} {xs : List Value} (h : w.ownsRow base e s v n xs) : v.oneCell' = true := by
  rcases h.2 with ⟨rfl, _⟩ | ⟨g, cap, cur, rfl, _⟩ <;> rfl
theorem Apart.lies {w w' : World} {x v v' : Value} (h : Apart x v) (hx : ∀ g, x.ownBlock = some g → g < w.heap.size) (k : Lies w w' v v') : Apart x v' := by
  intro g h1 h2
  rcases k with k | k
  · rw [k] at h2; exact h g h1 h2
  · have := k.1 g h2; have := hx g h1; omega
theorem off_lies {w w' : World} {v v' : Value} {hb : Nat} (h : v.ownBlock ≠ some hb) (hx : hb < w.heap.size) (k : Lies w w' v v') : v'.ownBlock ≠ some hb := by
  intro h2
  rcases k with k | k
  · rw [k] at h2; exact h h2
  · have := k.1 hb h2; omega

theorem own_val {w : World} {base n : Nat} {e : TypeId} {s : Nat} {v : Value} {xs : List Value} (h : w.ownsRow base e s v n xs) : ∃ ad c, v = .slice ad n c := by
  rcases h.2 with ⟨rfl, rfl⟩ | ⟨g, cap, cur, rfl, _⟩
  · exact ⟨none, 0, rfl⟩
  · exact ⟨_, _, rfl⟩
theorem free_of_apart {x y : Value} (h : Apart x y) : Free x [y.ownBlock] := fun g hg r hr e => by
  simp at hr; subst hr; exact h g hg e.symm
theorem free_of_off {x : Value} {hb : Nat} (h : x.ownBlock ≠ some hb) : Free x [some hb] := fun g hg r hr e => by
  simp at hr; subst hr; simp at e; subst e; exact h hg

theorem own_lt {w : World} {base n : Nat} {e : TypeId} {s : Nat} {v : Value} {xs : List Value} (h : w.ownsRow base e s v n xs) : ∀ g, v.ownBlock = some g → g < w.heap.size := fun g hg => (h.lt g hg).2
theorem free_cons {x : Value} {r : Option Nat} {bs : List (Option Nat)} (h1 : Free x [r]) (h2 : Free x bs) : Free x (r :: bs) := fun g hg q hq => by
  rcases List.mem_cons.1 hq with rfl | hq
  · exact h1 g hg _ (by simp)
  · exact h2 g hg q hq
/-- One list more waits: what is held behind it. -/
theorem HInv.more {B : Nat} {w1 w2 w4 : World} {hb N : Nat} {vI vT vR vT2 vR4 v u : Value} {E : List (Value × Int)} {T : List (Value × Value × List Nat)} {L : List Nat} {o1 o2 : Obj}
    (H : HInv B w1 hb N vI vT vR E T) (hL : L.length ≤ 100000) (hT : T.length < 100)
    (ov : w1.ownsRow B 3 1 v L.length (IV L)) (ou : w1.ownsRow B 3 1 u L.length (IV L)) (cv : Clear hb vI vT vR v) (cu : Clear hb vI vT vR u) (hct : ∀ t ∈ T, Apart t.1 v) (hce : ∀ e ∈ E, Apart e.1 v)
    (hT2 : w2.ownsRow B 55 1 vT2 (T.length + 1) (T.map (·.1) ++ [v])) (hg2 : (w1.alloc o1).grownBy w2 vT.ownBlock) (hl2 : Lies (w1.alloc o1) w2 vT vT2)
    (hR4 : w4.ownsRow B 55 1 vR4 (T.length + 1) (T.map (·.2.1) ++ [u])) (hg4 : ((w2.setCell ⟨hb, 4, none⟩ vT2).alloc o2).grownBy w4 vR.ownBlock) (hl4 : Lies ((w2.setCell ⟨hb, 4, none⟩ vT2).alloc o2) w4 vR vR4) :
    HInv B (w4.setCell ⟨hb, 5, none⟩ vR4) hb N vI vT2 vR4 E (T ++ [(v, u, L)]) := by
  have z1 : w1.heap.size ≤ (w1.alloc o1).heap.size := by rw [World.size_alloc]; omega
  have z2 := hg2.size
  have z3 : w2.heap.size ≤ ((w2.setCell ⟨hb, 4, none⟩ vT2).alloc o2).heap.size := by rw [World.size_alloc, World.size_setCell]; omega
  have z4 := hg4.size
  have F12 : Fr w1 w2 [vT.ownBlock] := (Fr.alloc w1 o1).trans (Fr.of_grown hg2)
  have F25 : Fr w2 (w4.setCell ⟨hb, 5, none⟩ vR4) [some hb, vR.ownBlock, some hb] := (((Fr.set w2 hb 4 vT2).trans (Fr.alloc _ o2)).trans (Fr.of_grown hg4)).trans (Fr.set w4 hb 5 vR4)
  have F15 : Fr w1 (w4.setCell ⟨hb, 5, none⟩ vR4) [vT.ownBlock, some hb, vR.ownBlock, some hb] := F12.trans F25
  have F45 := Fr.set w4 hb 5 vR4
  have fr : ∀ x, Clear hb vI vT vR x → Free x [vT.ownBlock, some hb, vR.ownBlock, some hb] := fun x hx => free_cons (free_of_apart hx.t) (free_cons (free_of_off hx.off) (free_cons (free_of_apart hx.r) (free_of_off hx.off)))
  have cl : ∀ x, Clear hb vI vT vR x → (∀ g, x.ownBlock = some g → g < w1.heap.size) → Clear hb vI vT2 vR4 x := fun x hx hlt => ⟨hx.off, hx.i, hx.t.lies (fun g hg => by have := hlt g hg; omega) hl2, hx.r.lies (fun g hg => by have := hlt g hg; omega) hl4⟩
  have hbl := H.box.lt
  have oT2 : vT2.ownBlock ≠ some hb := off_lies H.oT (by omega) hl2
  have oR4 : vR4.ownBlock ≠ some hb := off_lies H.oR (by omega) hl4
  have aT2R : Apart vT2 vR := (H.aTR.symm.lies (fun g hg => by have := own_lt H.rR g hg; omega) hl2).symm
  have hlen : (T ++ [(v, u, L)]).length = T.length + 1 := by simp
  have hIc : Clear hb vI vT vR vI → True := fun _ => trivial
  refine ⟨H.base, ?_, ?_, ?_, ?_, ?_, ?_, ?_, ?_, H.oI, oT2, oR4, ?_, ?_, ?_, ?_, ?_, ?_, ?_, H.nN, H.nE, by rw [hlen]; omega⟩
  · have b1 := Blk.fr H.box F12 (fun r hr => by simp at hr; subst hr; exact fun e => H.oT e.symm)
    have b2 := Blk.alloc (Blk.set b1 4 vT2) o2
    have b3 := Blk.fr b2 (Fr.of_grown hg4) (fun r hr => by simp at hr; subst hr; exact fun e => H.oR e.symm)
    exact Blk.set b3 5 vR4
  · exact own_fr H.rI F15 (free_cons (free_of_apart H.aIT) (free_cons (free_of_off H.oI) (free_cons (free_of_apart H.aIR) (free_of_off H.oI))))
  · rw [hlen, List.map_append]
    exact own_fr hT2 F25 (free_cons (free_of_off oT2) (free_cons (free_of_apart aT2R) (free_of_off oT2)))
  · rw [hlen, List.map_append]
    exact own_fr hR4 F45 (free_of_off oR4)
  · intro t ht
    rcases List.mem_append.1 ht with ht | ht
    · exact ⟨own_fr (H.own t ht).1 F15 (fr _ (H.cT t ht).1), own_fr (H.own t ht).2 F15 (fr _ (H.cT t ht).2)⟩
    · simp at ht; subst ht
      exact ⟨own_fr ov F15 (fr _ cv), own_fr ou F15 (fr _ cu)⟩
  · intro t ht
    rcases List.mem_append.1 ht with ht | ht
    · exact H.small t ht
    · simp at ht; subst ht; exact hL
  · exact fun e he => (H.rd e he).fr F15 (fr _ (H.cE e he))
  · exact fun e he g hg => Nat.lt_of_lt_of_le (H.lt e he g hg) F15.1
  · exact H.aIT.lies (fun g hg => by have := own_lt H.rI g hg; omega) hl2
  · exact H.aIR.lies (fun g hg => by have := own_lt H.rI g hg; omega) hl4
  · exact aT2R.lies (fun g hg => by have := own_lt hT2 g hg; omega) hl4
  · intro t ht
    rcases List.mem_append.1 ht with ht | ht
    · exact ⟨cl _ (H.cT t ht).1 (own_lt (H.own t ht).1), cl _ (H.cT t ht).2 (own_lt (H.own t ht).2)⟩
    · simp at ht; subst ht
      exact ⟨cl _ cv (own_lt ov), cl _ cu (own_lt ou)⟩
  · exact fun e he => cl _ (H.cE e he) (H.lt e he)
  · rw [List.pairwise_append]
    refine ⟨H.pw, by simp, fun t ht t' ht' => ?_⟩
    simp at ht'; subst ht'; exact hct t ht
  · intro t ht e he
    rcases List.mem_append.1 ht with ht | ht
    · exact H.te t ht e he
    · simp at ht; subst ht; exact hce e he

set_option maxRecDepth 20000 in
set_option maxHeartbeats 4000000 in
/-- 'ints': one list more waits. -/
theorem ints_any (B : Nat) (W : World) (hb N : Nat) (vI vT vR : Value) (E : List (Value × Int)) (T : List (Value × Value × List Nat)) (H : HInv B W hb N vI vT vR E T) (v : Value) (L : List Nat) (hv : W.ownsRow B 3 1 v L.length (IV L)) (hL : L.length ≤ 100000)
    (hc : Clear hb vI vT vR v) (hct : ∀ t ∈ T, Apart t.1 v) (hce : ∀ e ∈ E, Apart e.1 v) (hT : T.length < 100) :
    Calls Tryz.prog 31 #[.pointer (some ⟨hb, 0, none⟩), v] W fun e w' => e = .returned (.tuple #[]) ∧ ∃ u vT' vR', HInv B w' hb N vI vT' vR' E (T ++ [(v, u, L)]) ∧ Below B W w' := by
  obtain ⟨ad, cv, rfl⟩ := own_val hv
  obtain ⟨adT, cT, rfl⟩ := own_val H.rT
  obtain ⟨adR, cR, rfl⟩ := own_val H.rR
  have HH : Hid _ := H
  have hsz : B ≤ W.heap.size := by have := H.base; have := H.box.lt; omega
  have hlt := H.box.lt
  have HV : Hid _ := hv
  have HC : Hid _ := hc
  have HCT : Hid _ := hct
  have HCE : Hid _ := hce
  clear H hv hc hct hce
  go_enter Tryz.func31, Tryz.ntmps31
  go_wp2_with (first
    | (at_builtin; refine wpList_pushOwn _ rfl (.tmp 5) (.tmp 6) rfl W.heap.size _ [] rfl (World.ownsRow_nil _ _ _ _) B (.slice ad L.length cv) L rfl HV.out (by simp; omega) (Nat.le_refl _) ?_; intro u w1 hu hb1; rw [List.nil_append] at hu; have HH1 : Hid _ := HH.out.later hb1; obtain ⟨_, _, _, _, c4, c5, _⟩ := HH1.out.cellAt; have hs1 := hb1.size; obtain ⟨adu, cu, rfl⟩ := own_val hu; have HU : Hid _ := hu; clear hu)
    | (at_builtin; refine wpList_push_sl _ rfl (.tmp 12) (.tmp 14) rfl B (.slice adT T.length cT) T.length (T.map (·.1)) rfl (HH1.out.rT.alloc _) ⟨w1.heap.size, 0, none⟩ (.slice ad L.length cv) rfl (by simp) rfl (by omega) (by simp; omega) ?_; intro vT' w2 hT2 hg2 hl2; obtain ⟨adT2, cT2, rfl⟩ := own_val hT2; have hbx2 := Blk.fr (HH1.out.box.alloc (Obj.cells #[.slice ad L.length cv] 55)) (Fr.of_grown hg2) (fun r hr => by simp at hr; subst hr; exact fun e => HH1.out.oT e.symm); have d4 := hbx2.cell (k := 4) (by simp); have d5 := hbx2.cell (k := 5) (by simp); have f4 := Blk.free hbx2 4; have f5 := Blk.free hbx2 5; have HT2 : Hid _ := hT2; have HG2 : Hid _ := hg2; have HL2 : Hid _ := hl2; have HB2 : Hid (Blk w2 hb 33 [.int .i64 (N : Int), vI, nl, nl, .slice adT T.length cT, .slice adR T.length cR, nl, nl, nl, nl]) := hbx2; have HR3 : Hid (World.ownsRow (w2.setCell ⟨hb, 4, none⟩ (.slice adT2 (T.length + 1) cT2)) B 55 1 (.slice adR T.length cR) T.length (T.map (·.2.1))) := own_fr (own_fr (HH1.out.rR.alloc _) (Fr.of_grown hg2) (free_of_apart HH1.out.aTR.symm)) (Fr.set w2 hb 4 _) (free_of_off HH1.out.oR); have HCN : Hid (World.cell? ((w2.setCell ⟨hb, 4, none⟩ (.slice adT2 (T.length + 1) cT2)).alloc (Obj.cells #[.slice adu L.length cu] 55)) ⟨w2.heap.size, 0, none⟩ = some (.slice adu L.length cu)) := (by have q := cell_new (w2.setCell ⟨hb, 4, none⟩ (.slice adT2 (T.length + 1) cT2)) (.slice adu L.length cu) 55; rwa [World.size_setCell] at q); have hs2 := hg2.size; simp only [World.size_alloc] at hs2; clear hT2 hg2 hl2 hbx2 c4 c5)
    | (at_builtin; refine wpList_push_sl _ rfl (.tmp 22) (.tmp 24) rfl B (.slice adR T.length cR) T.length (T.map (·.2.1)) rfl (HR3.out.alloc _) ⟨w2.heap.size, 0, none⟩ (.slice adu L.length cu) rfl HCN.out rfl (by omega) (by simp; omega) ?_; intro vR' w4 hR4 hg4 hl4; obtain ⟨adR4, cR4, rfl⟩ := own_val hR4; have hbx4 := Blk.fr (Blk.alloc (Blk.set HB2.out 4 (.slice adT2 (T.length + 1) cT2)) (Obj.cells #[.slice adu L.length cu] 55)) (Fr.of_grown hg4) (fun r hr => by simp at hr; subst hr; exact fun e => HH1.out.oR e.symm); have e5 := hbx4.cell (k := 5) (by simp); have g5 := Blk.free hbx4 5; clear d4 d5 f4 f5)
    | fail)
  have F := HH.out.fresh (x := .slice adu L.length cu) (fun g hg => (World.ownsRow.lt HU.out g hg).1)
  have hu1 : w1.ownsRow B 3 1 (.slice adu L.length cu) L.length (IV L) := own_mono HU.out hsz
  have hm := HInv.more HH1.out hL hT (own_fr HV.out (Fr.of_below hb1) (free_nil _)) hu1 HC.out F.1 HCT.out HCE.out HT2.out HG2.out HL2.out hR4 hg4 hl4
  have hB2 : Below B W w2 := ((Below.refl B W).trans (hb1.mono hsz)).alloc (by omega) _ |>.grown HG2.out (by simp; omega) (fun k hk => (HH1.out.rT.lt k hk).1)
  have hB5 : Below B W (w4.setCell ⟨hb, 5, none⟩ (.slice adR4 (T.length + 1) cR4)) := (((hB2.setCell (p := ⟨hb, 4, none⟩) HH1.out.base _).alloc (by simp; omega) _).grown hg4 (by simp; omega) (fun k hk => (HH1.out.rR.lt k hk).1)).setCell (p := ⟨hb, 5, none⟩) HH1.out.base _
  go_end0
  exact ⟨rfl, _, _, _, hm, hB5⟩
end Go.Proofs.YtepklbboejnecaaGreat
