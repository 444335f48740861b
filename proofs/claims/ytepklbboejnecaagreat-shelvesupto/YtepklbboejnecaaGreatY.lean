/- Several texts as one. -/
import Derived.Test.YtepklbboejnecaaGreatX
import Derived.Maps.AppendAt
import Derived.Deep.DeepAppendRoom
import Derived.ArgAppend
/- What is held: lists in blocks of their own, and what leaves them as they are. -/
namespace Go.Proofs.YtepklbboejnecaaGreat
open Go.RowKit Go.Shelf Sedge
attribute [local go_sem ↓] Go.wp_at_zero Go.wp_at_succ

/-- What may differ: the blocks that are named, and new ones. -/
def Fr (w w' : World) (bs : List (Option Nat)) : Prop := w.heap.size ≤ w'.heap.size ∧ ∀ k, k < w.heap.size → (∀ r ∈ bs, some k ≠ r) → w'.heap[k]? = w.heap[k]?
theorem Fr.trans {a b c : World} {x y : List (Option Nat)} (h : Fr a b x) (k : Fr b c y) : Fr a c (x ++ y) :=
  ⟨Nat.le_trans h.1 k.1, fun i hi hr => by
    rw [k.2 i (Nat.lt_of_lt_of_le hi h.1) (fun r hr' => hr r (List.mem_append.2 (Or.inr hr'))), h.2 i hi (fun r hr' => hr r (List.mem_append.2 (Or.inl hr')))]⟩
theorem Fr.of_grown {w w' : World} {r : Option Nat} (h : w.grownBy w' r) : Fr w w' [r] := ⟨h.size, fun k hk hr => h.block k hk (hr r (by simp))⟩
theorem Fr.of_below {w w' : World} (h : Below w.heap.size w w') : Fr w w' [] := ⟨h.size, fun k hk _ => h.block k hk⟩
theorem Fr.alloc (w : World) (o : Obj) : Fr w (w.alloc o) [] := Fr.of_below ((Below.refl _ _).alloc (Nat.le_refl _) _)
theorem Fr.drewN (w : World) (n : Nat) : Fr w (w.drewN n) [] := Fr.of_below ((Below.refl _ _).drewN n)
theorem Fr.set (w : World) (g k : Nat) (v : Value) : Fr w (w.setCell ⟨g, k, none⟩ v) [some g] :=
  ⟨by simp, fun i _ hr => by
    have h1 : i ≠ g := fun e => hr (some g) (by simp) (by rw [e])
    exact heap_setCell_other w _ i v h1⟩
/-- A value's block is none of these. -/
def Free (x : Value) (bs : List (Option Nat)) : Prop := ∀ g, x.ownBlock = some g → ∀ r ∈ bs, some g ≠ r
theorem own_fr {w w' : World} {base : Nat} {e : TypeId} {s n : Nat} {v : Value} {xs : List Value} {bs : List (Option Nat)} (h : w.ownsRow base e s v n xs) (k : Fr w w' bs) (f : Free v bs) : w'.ownsRow base e s v n xs := by
  refine ⟨h.1, ?_⟩
  rcases h.2 with h' | ⟨g, cap, cur, rfl, h2, h3, h4⟩
  · exact .inl h'
  · exact .inr ⟨g, cap, cur, rfl, h2, by rw [k.2 g (lt_of_block h3) (f g rfl)]; exact h3, h4⟩
theorem Blk.fr {w w' : World} {g : Nat} {T : TypeId} {vs : List Value} {bs : List (Option Nat)} (h : Blk w g T vs) (k : Fr w w' bs) (f : ∀ r ∈ bs, some g ≠ r) : Blk w' g T vs := by
  unfold Blk; rw [k.2 g h.lt f]; exact h

/-- A list that reads as a mark at all its places. -/
def Rd (w : World) (v : Value) (m : Int) : Prop := ∃ ad n c, v = .slice ad n c ∧ n ≤ 1000000 ∧ ∀ k, k < n → ∃ b o, ad = some ⟨b, o, none⟩ ∧ w.cell? ⟨b, o + k, none⟩ = some (.int .i64 m)
theorem Rd.fr {w w' : World} {v : Value} {m : Int} {bs : List (Option Nat)} (h : Rd w v m) (k : Fr w w' bs) (f : Free v bs) : Rd w' v m := by
  obtain ⟨ad, n, c, rfl, hn, h⟩ := h
  refine ⟨ad, n, c, rfl, hn, fun i hi => ?_⟩
  obtain ⟨b, o, rfl, hc⟩ := h i hi
  exact ⟨b, o, rfl, by rw [World.cell?_of_block (k.2 b (World.block_lt_of_cell? w _ hc) (f b rfl))]; exact hc⟩
theorem rd_own {w : World} {base n : Nat} {v : Value} {m : Int} (h : w.ownsRow base 3 1 v n (List.replicate n (.int .i64 m))) (hn : n ≤ 1000000) : Rd w v m := by
  rcases h.2 with ⟨rfl, rfl⟩ | ⟨g, cap, cur, rfl, h2, h3, h4, h5, h6, h7⟩
  · exact ⟨none, 0, 0, rfl, by omega, fun k hk => by omega⟩
  · refine ⟨some ⟨g, 0, none⟩, n, cap, rfl, hn, fun k hk => ⟨g, 0, rfl, ?_⟩⟩
    rw [cell_of_row w g _ _ _ _ h3, Nat.zero_add]
    have e : cur[k]? = (cur.toList.take (n * 1))[k]? := by rw [List.getElem?_take, if_pos (by omega)]; simp
    rw [e, h7]; simp [hk]
/-- Of a longer list in the same block. -/
theorem rd_shorter {w : World} {base n n' : Nat} {v v' : Value} {m : Int} (h : w.ownsRow base 3 1 v' n' (List.replicate n' (.int .i64 m))) (hn : n ≤ n') (hn' : n' ≤ 1000000) (hv : v = .slice none 0 0 ∨ ∃ g c, v = .slice (some ⟨g, 0, none⟩) n c ∧ v'.ownBlock = some g) : Rd w v m := by
  rcases hv with rfl | ⟨g, c, rfl, hb⟩
  · exact ⟨none, 0, 0, rfl, by omega, fun k hk => by omega⟩
  · rcases h.2 with ⟨rfl, rfl⟩ | ⟨g', cap, cur, rfl, h2, h3, h4, h5, h6, h7⟩
    · cases hb
    · simp only [Value.ownBlock, Option.some.injEq] at hb
      subst hb
      refine ⟨some ⟨g', 0, none⟩, n, c, rfl, by omega, fun k hk => ⟨g', 0, rfl, ?_⟩⟩
      rw [cell_of_row w g' _ _ _ _ h3, Nat.zero_add]
      have e : cur[k]? = (cur.toList.take (n' * 1))[k]? := by rw [List.getElem?_take, if_pos (by omega)]; simp
      rw [e, h7]; simp [show k < n' by omega]
theorem own_form {w : World} {base n : Nat} {e : TypeId} {s : Nat} {v : Value} {xs : List Value} (h : w.ownsRow base e s v n xs) : (v = .slice none 0 0 ∧ n = 0) ∨ ∃ g c, v = .slice (some ⟨g, 0, none⟩) n c := by
  rcases h.2 with h' | ⟨g, cap, cur, h1, _⟩
  · exact .inl h'
  · exact .inr ⟨g, cap, h1⟩

/-- Where a list lies behind an append: where it lay, or in a new block, and then all else is as it was. -/
def Lies (w w' : World) (v v' : Value) : Prop := v'.ownBlock = v.ownBlock ∨ ((∀ g, v'.ownBlock = some g → w.heap.size ≤ g) ∧ w.grownBy w' none)

theorem run_push {P : Program} (w : World) (t ty e : TypeId) (i : TypeInfo) (z : Value) (size bytes : Nat) (ht : P.underlying t = some (.slice e)) (hi : P.info? e = some i) (hz : i.zero = some z)
    (hsize : i.size = size) (hby : i.bytes = bytes) (hzs : z.cells.size = size) (hsz : 0 < size) (base : Nat)
    (v : Value) (n : Nat) (xs : List Value) (hown : w.ownsRow base e size v n xs)
    (a : Addr) (c : Nat) (news : List Value) (hl : news.length = 1 * size) (hnews : ∀ j u, news[j]? = some u → w.cell? (a.add j) = some u) (h1 : ∀ u ∈ news, u.oneCell' = true)
    (h63 : n + 1 ≤ maxLen) (hbytes : (n + 1) * bytes ≤ 140737488355328) (hbase : base ≤ w.heap.size) :
    ∃ v' w', (Builtin.append_ #[t, t] ty #[v, .slice (some a) 1 c]).run P w = .ok v' w' ∧ w'.ownsRow base e size v' (n + 1) (xs ++ news) ∧ w.grownBy w' v.ownBlock ∧ Lies w w' v v' := by
  rcases hown.2 with ⟨rfl, rfl⟩ | ⟨g, cap, cur, rfl, hb, hg, hnc, hcm, hcs, htk⟩
  · obtain ⟨v', w', h2, h3, h4, h5, h6⟩ := run_append_own_at (P := P) w base t ty e i z size bytes ht hi hz hsize hby hzs hsz _ _ xs hown a 1 c news hl hnews h1 h63 hbytes hbase
    refine ⟨v', w', h2, h3, h4, .inr ⟨fun g hg => ?_, h4⟩⟩
    rcases h6 with h6 | h6
    · rw [h6] at hg; cases hg
    · rw [h6] at hg; simp at hg; omega
  · by_cases hr : n + 1 ≤ cap
    · obtain ⟨w', h2, h3, h4⟩ := run_append_own_spare (P := P) w base t ty e i size ht hi hsize g n cap xs hown a 1 c news hl hnews h1 hr
      exact ⟨_, w', h2, h3, h4, .inl rfl⟩
    · obtain ⟨v', w', h2, h3, h4⟩ := run_append_arg_grows (P := P) w t ty e i z size bytes ht hi hz hsize hby hzs hsz ⟨g, 0, none⟩ n cap xs hown.1 (hown.cells rfl) a 1 c news hl hnews (by omega) h63 hbytes
      refine ⟨v', w', h2, ⟨h3.1, ?_⟩, ⟨h4.os, h4.tape, h4.output, h4.size, fun k hk _ => h4.block k hk (by simp)⟩, .inr ⟨fun g hg => (h3.lt g hg).1, h4⟩⟩
      rcases h3.2 with hh | ⟨g2, cap2, cur2, q1, q2, q3⟩
      · exact .inl hh
      · exact .inr ⟨g2, cap2, cur2, q1, by omega, q3⟩

theorem wpList_push_at {P : Program} (w : World) {ops : Array Oper} {rest : List Oper} {o : Oper} {a : Act} {Q : Exit → Act → World → Prop} (hgd : o.guard = none) (s x : Operand) (t : TypeId)
    (ho : o.op = .call { callee := .builtin .append, args := #[s, x], argTypes := #[t, t] })
    (e : TypeId) (i : TypeInfo) (z : Value) (size bytes : Nat) (ht : P.underlying t = some (.slice e)) (hi : P.info? e = some i) (hz : i.zero = some z)
    (hsize : i.size = size) (hby : i.bytes = bytes) (hzs : z.cells.size = size) (hsz : 0 < size) (base : Nat)
    (v : Value) (n : Nat) (xs : List Value) (hs : a.eval s = v) (hown : w.ownsRow base e size v n xs)
    (ad : Addr) (c : Nat) (news : List Value) (hx : a.eval x = .slice (some ad) 1 c) (hl : news.length = 1 * size) (hnews : ∀ j u, news[j]? = some u → w.cell? (ad.add j) = some u) (h1 : ∀ u ∈ news, u.oneCell' = true)
    (h63 : n + 1 ≤ maxLen) (hbytes : (n + 1) * bytes ≤ 140737488355328) (hbase : base ≤ w.heap.size)
    (h : ∀ v' w', w'.ownsRow base e size v' (n + 1) (xs ++ news) → w.grownBy w' v.ownBlock → Lies w w' v v' → wpList P ops Q rest (a.put o.dst v') w') :
    wpList P ops Q (o :: rest) a w := by
  refine wpList_plain hgd fun K hK => ?_
  obtain ⟨v', w', hr, h2, h3, h4⟩ := run_push (P := P) w t o.type e i z size bytes ht hi hz hsize hby hzs hsz base v n xs hown ad c news hl hnews h1 h63 hbytes hbase
  unfold Oper.wp execOp
  simp only [ho, resolve, invoke, builtin, Sem.run_bind, Sem.run_pure, Result.andThen_ok, List.map_toArray, List.map_cons, List.map_nil, hs, hx, hr]
  exact hK _ _ (h v' w' h2 h3 h4)
end Go.Proofs.YtepklbboejnecaaGreat

/- What is held: the lists that wait, the lists that are marked. -/
namespace Go.Proofs.YtepklbboejnecaaGreat
open Go.RowKit Go.Shelf Sedge
attribute [local go_sem ↓] Go.wp_at_zero Go.wp_at_succ

abbrev nl : Value := .slice none 0 0
/-- Two lists lie in blocks of their own. -/
def Apart (x y : Value) : Prop := ∀ g, x.ownBlock = some g → y.ownBlock ≠ some g
theorem Apart.symm {x y : Value} (h : Apart x y) : Apart y x := fun g h1 h2 => h g h2 h1
theorem apart_nl (x : Value) : Apart x nl := fun _ _ h => by cases h
/-- What lies apart from what holds the lists. -/
structure Clear (hb : Nat) (vI vT vR x : Value) : Prop where
  off : x.ownBlock ≠ some hb
  i : Apart x vI
  t : Apart x vT
  r : Apart x vR
/-- The marked lists, as cells. -/
def cellsE (E : List (Value × Int)) : List Value := E.flatMap fun e => [e.1, .int .i64 e.2]
theorem cellsE_length (E : List (Value × Int)) : (cellsE E).length = E.length * 2 := by
  induction E with
  | nil => rfl
  | cons e E ih => rw [cellsE, List.flatMap_cons, List.length_append]; rw [cellsE] at ih; rw [ih]; simp; omega
theorem cellsE_append (E F : List (Value × Int)) : cellsE (E ++ F) = cellsE E ++ cellsE F := by simp [cellsE]

/-- What is held, whole. -/
structure HInv (B : Nat) (W : World) (hb N : Nat) (vI vT vR : Value) (E : List (Value × Int)) (T : List (Value × Value × List Nat)) : Prop where
  base : B ≤ hb
  box : Blk W hb 33 [.int .i64 (N : Int), vI, nl, nl, vT, vR, nl, nl, nl, nl]
  rI : W.ownsRow B 114 2 vI E.length (cellsE E)
  rT : W.ownsRow B 55 1 vT T.length (T.map (·.1))
  rR : W.ownsRow B 55 1 vR T.length (T.map (·.2.1))
  own : ∀ t ∈ T, W.ownsRow B 3 1 t.1 t.2.2.length (IV t.2.2) ∧ W.ownsRow B 3 1 t.2.1 t.2.2.length (IV t.2.2)
  small : ∀ t ∈ T, t.2.2.length ≤ 100000
  rd : ∀ e ∈ E, Rd W e.1 e.2
  lt : ∀ e ∈ E, ∀ g, e.1.ownBlock = some g → g < W.heap.size
  oI : vI.ownBlock ≠ some hb
  oT : vT.ownBlock ≠ some hb
  oR : vR.ownBlock ≠ some hb
  aIT : Apart vI vT
  aIR : Apart vI vR
  aTR : Apart vT vR
  cT : ∀ t ∈ T, Clear hb vI vT vR t.1 ∧ Clear hb vI vT vR t.2.1
  cE : ∀ e ∈ E, Clear hb vI vT vR e.1
  pw : T.Pairwise fun t t' => Apart t.1 t'.1
  te : ∀ t ∈ T, ∀ e ∈ E, Apart e.1 t.1
  nN : N ≤ 1000
  nE : E.length ≤ 4 * N
  nT : T.length ≤ 100

section
variable {B : Nat} {W W' : World} {hb N : Nat} {vI vT vR : Value} {E : List (Value × Int)} {T : List (Value × Value × List Nat)}
theorem free_nil (x : Value) : Free x [] := fun _ _ _ h => by cases h
theorem HInv.later (h : HInv B W hb N vI vT vR E T) (k : Below W.heap.size W W') : HInv B W' hb N vI vT vR E T :=
  { h with
    box := h.box.later k
    rI := own_fr h.rI (Fr.of_below k) (free_nil _)
    rT := own_fr h.rT (Fr.of_below k) (free_nil _)
    rR := own_fr h.rR (Fr.of_below k) (free_nil _)
    own := fun t ht => ⟨own_fr (h.own t ht).1 (Fr.of_below k) (free_nil _), own_fr (h.own t ht).2 (Fr.of_below k) (free_nil _)⟩
    rd := fun e he => (h.rd e he).fr (Fr.of_below k) (free_nil _)
    lt := fun e he g hg => Nat.lt_of_lt_of_le (h.lt e he g hg) k.size }
/-- A list in a new block lies apart from all that is held. -/
theorem HInv.fresh (h : HInv B W hb N vI vT vR E T) {x : Value} (hx : ∀ g, x.ownBlock = some g → W.heap.size ≤ g) : Clear hb vI vT vR x ∧ (∀ t ∈ T, Apart t.1 x) ∧ (∀ e ∈ E, Apart e.1 x) where
  left := ⟨fun e => by have := hx _ e; have := h.box.lt; omega, fun g h1 h2 => by have := hx g h1; have := (h.rI.lt g h2).2; omega, fun g h1 h2 => by have := hx g h1; have := (h.rT.lt g h2).2; omega, fun g h1 h2 => by have := hx g h1; have := (h.rR.lt g h2).2; omega⟩
  right := ⟨fun t ht g h1 h2 => by have := hx g h2; have := ((h.own t ht).1.lt g h1).2; omega, fun e he g h1 h2 => by have := hx g h2; have := h.lt e he g h1; omega⟩
theorem HInv.cellAt (h : HInv B W hb N vI vT vR E T) : W.cell? ⟨hb, 0, none⟩ = some (.int .i64 (N : Int)) ∧ W.cell? ⟨hb, 1, none⟩ = some vI ∧ W.cell? ⟨hb, 2, none⟩ = some nl ∧ W.cell? ⟨hb, 3, none⟩ = some nl ∧ W.cell? ⟨hb, 4, none⟩ = some vT ∧ W.cell? ⟨hb, 5, none⟩ = some vR ∧ W.cell? ⟨hb, 6, none⟩ = some nl ∧ W.cell? ⟨hb, 7, none⟩ = some nl ∧ W.cell? ⟨hb, 8, none⟩ = some nl ∧ W.cell? ⟨hb, 9, none⟩ = some nl :=
  ⟨h.box.cell (k := 0) (by simp), h.box.cell (k := 1) (by simp), h.box.cell (k := 2) (by simp), h.box.cell (k := 3) (by simp), h.box.cell (k := 4) (by simp), h.box.cell (k := 5) (by simp), h.box.cell (k := 6) (by simp), h.box.cell (k := 7) (by simp), h.box.cell (k := 8) (by simp), h.box.cell (k := 9) (by simp)⟩
end

set_option maxHeartbeats 1000000 in
/-- 'sameInts'. -/
theorem sameInts_any (ax ay : Option Addr) (X Y : List Nat) (cx cy : Nat) (w : World) (hX : Sl w ax X) (hY : Sl w ay Y) (he : X = Y) (hn : X.length ≤ 1000000) :
    Calls Tryz.prog 30 #[.slice ax X.length cx, .slice ay Y.length cy] w fun e w' => e = .returned (.bool true) ∧ Below w.heap.size w w' := by
  subst he
  go_enter Tryz.func30, Tryz.ntmps30
  go_wp2
  go_loopw [5] (fun i wr => ∃ k : Nat, k ≤ X.length ∧ i = .int .i64 k ∧ Below w.heap.size w wr) (fun i _ => X.length - (intOf i).toNat)
  case atStart => exact ⟨0, Nat.zero_le _, rfl, Below.refl _ _⟩
  case round =>
    obtain ⟨k, hk, rfl, hb⟩ := hrel
    by_cases hlt : k < X.length
    · obtain ⟨b, o1, rfl, hc⟩ := hX k hlt
      obtain ⟨b2, o2, rfl, hc2⟩ := hY k hlt
      have i1 : (k : Int) < (X.length : Int) := by omega
      have i2 : (0 : Int) ≤ (k : Int) := by omega
      have d1 := (hb.cell (cell_lt hc)).trans hc
      have d2 := (hb.cell (cell_lt hc2)).trans hc2
      clear hc hc2
      go_wp2
      go_quiet (fail)
      go_wp2_with fail
      go_roundw
      case rel => exact ⟨k + 1, by omega, by go_num, hb.drewN _⟩
      case measure => simp [intOf]; omega
    · have i1 : ¬ (k : Int) < (X.length : Int) := by omega
      go_wp2
      go_ret
      exact ⟨rfl, hb⟩
end Go.Proofs.YtepklbboejnecaaGreat

/- What is held: a list that waits. -/
namespace Go.Proofs.YtepklbboejnecaaGreat
open Go.RowKit Go.Shelf Sedge
attribute [local go_sem ↓] Go.wp_at_zero Go.wp_at_succ

theorem wpList_pushOwn (w : World) {ops : Array Oper} {rest : List Oper} {o : Oper} {a : Act} {Q : Exit → Act → World → Prop} (hg : o.guard = none)
    (s x : Operand) (hop : o.op = Op.call { callee := Callee.builtin Builtin.append, args := #[s, x], argTypes := #[55, 55] })
    (base : Nat) (v : Value) (xs : List Nat) (hs : a.eval s = v) (hown : w.ownsRow base 3 1 v xs.length (IV xs))
    (base2 : Nat) (vy : Value) (ys : List Nat) (hx : a.eval x = vy) (hy : w.ownsRow base2 3 1 vy ys.length (IV ys)) (hlen : xs.length + ys.length ≤ 1000000) (hbase : base ≤ w.heap.size)
    (hK : ∀ v' w', w'.ownsRow base 3 1 v' (xs ++ ys).length (IV (xs ++ ys)) → Below base w w' → wpList Tryz.prog ops Q rest (a.put o.dst v') w') :
    wpList Tryz.prog ops Q (o :: rest) a w :=
  wpList_plain hg fun _ hK' => wp_pushOwn s x hop base v xs hs hown base2 vy ys hx hy hlen hbase fun v' w' h1 h2 => hK' _ _ (hK v' w' h1 h2)

theorem Tryz.infoSl : (Tryz.prog.info? 55).map (fun i => (i.zero, i.size, i.bytes)) = some (some (.slice none 0 0), 1, 24) := by kernel_rfl
/-- 'append(s, x)' of lists. -/
theorem wpList_push_sl (w : World) {ops : Array Oper} {rest : List Oper} {o : Oper} {a : Act} {Q : Exit → Act → World → Prop} (hg : o.guard = none)
    (s x : Operand) (hop : o.op = Op.call { callee := Callee.builtin Builtin.append, args := #[s, x], argTypes := #[29, 29] })
    (base : Nat) (v : Value) (n : Nat) (xs : List Value) (hs : a.eval s = v) (hown : w.ownsRow base 55 1 v n xs)
    (ad : Addr) (y : Value) (hx : a.eval x = .slice (some ad) 1 1) (hc : w.cell? ad = some y) (h1 : y.oneCell' = true) (hn : n ≤ 1000) (hbase : base ≤ w.heap.size)
    (hK : ∀ v' w', w'.ownsRow base 55 1 v' (n + 1) (xs ++ [y]) → w.grownBy w' v.ownBlock → Lies w w' v v' → wpList Tryz.prog ops Q rest (a.put o.dst v') w') :
    wpList Tryz.prog ops Q (o :: rest) a w := by
  obtain ⟨i0, hi, hz0, hz1, hz2⟩ := info_parts Tryz.infoSl
  refine wpList_push_at w hg s x 29 hop 55 i0 (.slice none 0 0) 1 24 Tryz.underlying29 hi hz0 hz1 hz2 rfl (by decide) base v n xs hs hown ad 1 [y] hx rfl ?_ ?_ ?_ ?_ hbase hK
  · intro j u hj
    match j, hj with
    | 0, hj => simp at hj; subst hj; simpa [Addr.add] using hc
  · intro u hu; simp at hu; subst hu; exact h1
  · unfold maxLen; omega
  · omega

theorem own_slice {w : World} {base n : Nat} {e : TypeId} {s : Nat} {v : Value} {xs : List Value} (h : w.ownsRow base e s v n xs) : v.oneCell' = true := by
  rcases h.2 with ⟨rfl, _⟩ | ⟨g, cap, cur, rfl, _⟩ <;> rfl
theorem Apart.lies {w w' : World} {x v v' : Value} (h : Apart x v) (hx : ∀ g, x.ownBlock = some g → g < w.heap.size) (k : Lies w w' v v') : Apart x v' := by
  intro g h1 h2
  rcases k with k | k
  · rw [k] at h2; exact h g h1 h2
  · have := k.1 g h2; have := hx g h1; omega
theorem off_lies {w w' : World} {v v' : Value} {hb : Nat} (h : v.ownBlock ≠ some hb) (hx : hb < w.heap.size) (k : Lies w w' v v') : v'.ownBlock ≠ some hb := by
  intro h2
  rcases k with k | k
  · rw [k] at h2; exact h h2
  · have := k.1 hb h2; omega

theorem own_val {w : World} {base n : Nat} {e : TypeId} {s : Nat} {v : Value} {xs : List Value} (h : w.ownsRow base e s v n xs) : ∃ ad c, v = .slice ad n c := by
  rcases h.2 with ⟨rfl, rfl⟩ | ⟨g, cap, cur, rfl, _⟩
  · exact ⟨none, 0, rfl⟩
  · exact ⟨_, _, rfl⟩
theorem free_of_apart {x y : Value} (h : Apart x y) : Free x [y.ownBlock] := fun g hg r hr e => by
  simp at hr; subst hr; exact h g hg e.symm
theorem free_of_off {x : Value} {hb : Nat} (h : x.ownBlock ≠ some hb) : Free x [some hb] := fun g hg r hr e => by
  simp at hr; subst hr; simp at e; subst e; exact h hg

theorem own_lt {w : World} {base n : Nat} {e : TypeId} {s : Nat} {v : Value} {xs : List Value} (h : w.ownsRow base e s v n xs) : ∀ g, v.ownBlock = some g → g < w.heap.size := fun g hg => (h.lt g hg).2
theorem free_cons {x : Value} {r : Option Nat} {bs : List (Option Nat)} (h1 : Free x [r]) (h2 : Free x bs) : Free x (r :: bs) := fun g hg q hq => by
  rcases List.mem_cons.1 hq with rfl | hq
  · exact h1 g hg _ (by simp)
  · exact h2 g hg q hq
/-- One list more waits: what is held behind it. -/
theorem HInv.more {B : Nat} {w1 w2 w4 : World} {hb N : Nat} {vI vT vR vT2 vR4 v u : Value} {E : List (Value × Int)} {T : List (Value × Value × List Nat)} {L : List Nat} {o1 o2 : Obj}
    (H : HInv B w1 hb N vI vT vR E T) (hL : L.length ≤ 100000) (hT : T.length < 100)
    (ov : w1.ownsRow B 3 1 v L.length (IV L)) (ou : w1.ownsRow B 3 1 u L.length (IV L)) (cv : Clear hb vI vT vR v) (cu : Clear hb vI vT vR u) (hct : ∀ t ∈ T, Apart t.1 v) (hce : ∀ e ∈ E, Apart e.1 v)
    (hT2 : w2.ownsRow B 55 1 vT2 (T.length + 1) (T.map (·.1) ++ [v])) (hg2 : (w1.alloc o1).grownBy w2 vT.ownBlock) (hl2 : Lies (w1.alloc o1) w2 vT vT2)
    (hR4 : w4.ownsRow B 55 1 vR4 (T.length + 1) (T.map (·.2.1) ++ [u])) (hg4 : ((w2.setCell ⟨hb, 4, none⟩ vT2).alloc o2).grownBy w4 vR.ownBlock) (hl4 : Lies ((w2.setCell ⟨hb, 4, none⟩ vT2).alloc o2) w4 vR vR4) :
    HInv B (w4.setCell ⟨hb, 5, none⟩ vR4) hb N vI vT2 vR4 E (T ++ [(v, u, L)]) := by
  have z1 : w1.heap.size ≤ (w1.alloc o1).heap.size := by rw [World.size_alloc]; omega
  have z2 := hg2.size
  have z3 : w2.heap.size ≤ ((w2.setCell ⟨hb, 4, none⟩ vT2).alloc o2).heap.size := by rw [World.size_alloc, World.size_setCell]; omega
  have z4 := hg4.size
  have F12 : Fr w1 w2 [vT.ownBlock] := (Fr.alloc w1 o1).trans (Fr.of_grown hg2)
  have F25 : Fr w2 (w4.setCell ⟨hb, 5, none⟩ vR4) [some hb, vR.ownBlock, some hb] := (((Fr.set w2 hb 4 vT2).trans (Fr.alloc _ o2)).trans (Fr.of_grown hg4)).trans (Fr.set w4 hb 5 vR4)
  have F15 : Fr w1 (w4.setCell ⟨hb, 5, none⟩ vR4) [vT.ownBlock, some hb, vR.ownBlock, some hb] := F12.trans F25
  have F45 := Fr.set w4 hb 5 vR4
  have fr : ∀ x, Clear hb vI vT vR x → Free x [vT.ownBlock, some hb, vR.ownBlock, some hb] := fun x hx => free_cons (free_of_apart hx.t) (free_cons (free_of_off hx.off) (free_cons (free_of_apart hx.r) (free_of_off hx.off)))
  have cl : ∀ x, Clear hb vI vT vR x → (∀ g, x.ownBlock = some g → g < w1.heap.size) → Clear hb vI vT2 vR4 x := fun x hx hlt => ⟨hx.off, hx.i, hx.t.lies (fun g hg => by have := hlt g hg; omega) hl2, hx.r.lies (fun g hg => by have := hlt g hg; omega) hl4⟩
  have hbl := H.box.lt
  have oT2 : vT2.ownBlock ≠ some hb := off_lies H.oT (by omega) hl2
  have oR4 : vR4.ownBlock ≠ some hb := off_lies H.oR (by omega) hl4
  have aT2R : Apart vT2 vR := (H.aTR.symm.lies (fun g hg => by have := own_lt H.rR g hg; omega) hl2).symm
  have hlen : (T ++ [(v, u, L)]).length = T.length + 1 := by simp
  have hIc : Clear hb vI vT vR vI → True := fun _ => trivial
  refine ⟨H.base, ?_, ?_, ?_, ?_, ?_, ?_, ?_, ?_, H.oI, oT2, oR4, ?_, ?_, ?_, ?_, ?_, ?_, ?_, H.nN, H.nE, by rw [hlen]; omega⟩
  · have b1 := Blk.fr H.box F12 (fun r hr => by simp at hr; subst hr; exact fun e => H.oT e.symm)
    have b2 := Blk.alloc (Blk.set b1 4 vT2) o2
    have b3 := Blk.fr b2 (Fr.of_grown hg4) (fun r hr => by simp at hr; subst hr; exact fun e => H.oR e.symm)
    exact Blk.set b3 5 vR4
  · exact own_fr H.rI F15 (free_cons (free_of_apart H.aIT) (free_cons (free_of_off H.oI) (free_cons (free_of_apart H.aIR) (free_of_off H.oI))))
  · rw [hlen, List.map_append]
    exact own_fr hT2 F25 (free_cons (free_of_off oT2) (free_cons (free_of_apart aT2R) (free_of_off oT2)))
  · rw [hlen, List.map_append]
    exact own_fr hR4 F45 (free_of_off oR4)
  · intro t ht
    rcases List.mem_append.1 ht with ht | ht
    · exact ⟨own_fr (H.own t ht).1 F15 (fr _ (H.cT t ht).1), own_fr (H.own t ht).2 F15 (fr _ (H.cT t ht).2)⟩
    · simp at ht; subst ht
      exact ⟨own_fr ov F15 (fr _ cv), own_fr ou F15 (fr _ cu)⟩
  · intro t ht
    rcases List.mem_append.1 ht with ht | ht
    · exact H.small t ht
    · simp at ht; subst ht; exact hL
  · exact fun e he => (H.rd e he).fr F15 (fr _ (H.cE e he))
  · exact fun e he g hg => Nat.lt_of_lt_of_le (H.lt e he g hg) F15.1
  · exact H.aIT.lies (fun g hg => by have := own_lt H.rI g hg; omega) hl2
  · exact H.aIR.lies (fun g hg => by have := own_lt H.rI g hg; omega) hl4
  · exact aT2R.lies (fun g hg => by have := own_lt hT2 g hg; omega) hl4
  · intro t ht
    rcases List.mem_append.1 ht with ht | ht
    · exact ⟨cl _ (H.cT t ht).1 (own_lt (H.own t ht).1), cl _ (H.cT t ht).2 (own_lt (H.own t ht).2)⟩
    · simp at ht; subst ht
      exact ⟨cl _ cv (own_lt ov), cl _ cu (own_lt ou)⟩
  · exact fun e he => cl _ (H.cE e he) (H.lt e he)
  · rw [List.pairwise_append]
    refine ⟨H.pw, by simp, fun t ht t' ht' => ?_⟩
    simp at ht'; subst ht'; exact hct t ht
  · intro t ht e he
    rcases List.mem_append.1 ht with ht | ht
    · exact H.te t ht e he
    · simp at ht; subst ht; exact hce e he

set_option maxRecDepth 20000 in
set_option maxHeartbeats 4000000 in
/-- 'ints': one list more waits. -/
theorem ints_any (B : Nat) (W : World) (hb N : Nat) (vI vT vR : Value) (E : List (Value × Int)) (T : List (Value × Value × List Nat)) (H : HInv B W hb N vI vT vR E T) (v : Value) (L : List Nat) (hv : W.ownsRow B 3 1 v L.length (IV L)) (hL : L.length ≤ 100000)
    (hc : Clear hb vI vT vR v) (hct : ∀ t ∈ T, Apart t.1 v) (hce : ∀ e ∈ E, Apart e.1 v) (hT : T.length < 100) :
    Calls Tryz.prog 31 #[.pointer (some ⟨hb, 0, none⟩), v] W fun e w' => e = .returned (.tuple #[]) ∧ ∃ u vT' vR', HInv B w' hb N vI vT' vR' E (T ++ [(v, u, L)]) ∧ Below B W w' := by
  obtain ⟨ad, cv, rfl⟩ := own_val hv
  obtain ⟨adT, cT, rfl⟩ := own_val H.rT
  obtain ⟨adR, cR, rfl⟩ := own_val H.rR
  have HH : Hid _ := H
  have hsz : B ≤ W.heap.size := by have := H.base; have := H.box.lt; omega
  have hlt := H.box.lt
  have HV : Hid _ := hv
  have HC : Hid _ := hc
  have HCT : Hid _ := hct
  have HCE : Hid _ := hce
  clear H hv hc hct hce
  go_enter Tryz.func31, Tryz.ntmps31
  go_wp2_with (first
    | (at_builtin; refine wpList_pushOwn _ rfl (.tmp 5) (.tmp 6) rfl W.heap.size _ [] rfl (World.ownsRow_nil _ _ _ _) B (.slice ad L.length cv) L rfl HV.out (by simp; omega) (Nat.le_refl _) ?_; intro u w1 hu hb1; rw [List.nil_append] at hu; have HH1 : Hid _ := HH.out.later hb1; obtain ⟨_, _, _, _, c4, c5, _⟩ := HH1.out.cellAt; have hs1 := hb1.size; obtain ⟨adu, cu, rfl⟩ := own_val hu; have HU : Hid _ := hu; clear hu)
    | (at_builtin; refine wpList_push_sl _ rfl (.tmp 12) (.tmp 14) rfl B (.slice adT T.length cT) T.length (T.map (·.1)) rfl (HH1.out.rT.alloc _) ⟨w1.heap.size, 0, none⟩ (.slice ad L.length cv) rfl (by simp) rfl (by omega) (by simp; omega) ?_; intro vT' w2 hT2 hg2 hl2; obtain ⟨adT2, cT2, rfl⟩ := own_val hT2; have hbx2 := Blk.fr (HH1.out.box.alloc (Obj.cells #[.slice ad L.length cv] 55)) (Fr.of_grown hg2) (fun r hr => by simp at hr; subst hr; exact fun e => HH1.out.oT e.symm); have d4 := hbx2.cell (k := 4) (by simp); have d5 := hbx2.cell (k := 5) (by simp); have f4 := Blk.free hbx2 4; have f5 := Blk.free hbx2 5; have HT2 : Hid _ := hT2; have HG2 : Hid _ := hg2; have HL2 : Hid _ := hl2; have HB2 : Hid (Blk w2 hb 33 [.int .i64 (N : Int), vI, nl, nl, .slice adT T.length cT, .slice adR T.length cR, nl, nl, nl, nl]) := hbx2; have HR3 : Hid (World.ownsRow (w2.setCell ⟨hb, 4, none⟩ (.slice adT2 (T.length + 1) cT2)) B 55 1 (.slice adR T.length cR) T.length (T.map (·.2.1))) := own_fr (own_fr (HH1.out.rR.alloc _) (Fr.of_grown hg2) (free_of_apart HH1.out.aTR.symm)) (Fr.set w2 hb 4 _) (free_of_off HH1.out.oR); have HCN : Hid (World.cell? ((w2.setCell ⟨hb, 4, none⟩ (.slice adT2 (T.length + 1) cT2)).alloc (Obj.cells #[.slice adu L.length cu] 55)) ⟨w2.heap.size, 0, none⟩ = some (.slice adu L.length cu)) := (by have q := cell_new (w2.setCell ⟨hb, 4, none⟩ (.slice adT2 (T.length + 1) cT2)) (.slice adu L.length cu) 55; rwa [World.size_setCell] at q); have hs2 := hg2.size; simp only [World.size_alloc] at hs2; clear hT2 hg2 hl2 hbx2 c4 c5)
    | (at_builtin; refine wpList_push_sl _ rfl (.tmp 22) (.tmp 24) rfl B (.slice adR T.length cR) T.length (T.map (·.2.1)) rfl (HR3.out.alloc _) ⟨w2.heap.size, 0, none⟩ (.slice adu L.length cu) rfl HCN.out rfl (by omega) (by simp; omega) ?_; intro vR' w4 hR4 hg4 hl4; obtain ⟨adR4, cR4, rfl⟩ := own_val hR4; have hbx4 := Blk.fr (Blk.alloc (Blk.set HB2.out 4 (.slice adT2 (T.length + 1) cT2)) (Obj.cells #[.slice adu L.length cu] 55)) (Fr.of_grown hg4) (fun r hr => by simp at hr; subst hr; exact fun e => HH1.out.oR e.symm); have e5 := hbx4.cell (k := 5) (by simp); have g5 := Blk.free hbx4 5; clear d4 d5 f4 f5)
    | fail)
  have F := HH.out.fresh (x := .slice adu L.length cu) (fun g hg => (World.ownsRow.lt HU.out g hg).1)
  have hu1 : w1.ownsRow B 3 1 (.slice adu L.length cu) L.length (IV L) := own_mono HU.out hsz
  have hm := HInv.more HH1.out hL hT (own_fr HV.out (Fr.of_below hb1) (free_nil _)) hu1 HC.out F.1 HCT.out HCE.out HT2.out HG2.out HL2.out hR4 hg4 hl4
  have hB2 : Below B W w2 := ((Below.refl B W).trans (hb1.mono hsz)).alloc (by omega) _ |>.grown HG2.out (by simp; omega) (fun k hk => (HH1.out.rT.lt k hk).1)
  have hB5 : Below B W (w4.setCell ⟨hb, 5, none⟩ (.slice adR4 (T.length + 1) cR4)) := (((hB2.setCell (p := ⟨hb, 4, none⟩) HH1.out.base _).alloc (by simp; omega) _).grown hg4 (by simp; omega) (fun k hk => (HH1.out.rR.lt k hk).1)).setCell (p := ⟨hb, 5, none⟩) HH1.out.base _
  go_end0
  exact ⟨rfl, _, _, _, hm, hB5⟩
end Go.Proofs.YtepklbboejnecaaGreat

/- What is held: do the lists that wait read as they came; do the others read as their marks. -/
namespace Go.Proofs.YtepklbboejnecaaGreat
open Go.RowKit Go.Shelf Sedge
attribute [local go_sem ↓] Go.wp_at_zero Go.wp_at_succ

theorem own_at {w : World} {base n : Nat} {e : TypeId} {v : Value} {xs : List Value} (h : w.ownsRow base e 1 v n xs) {i : Nat} (hi : i < n) : ∃ g c, v = .slice (some ⟨g, 0, none⟩) n c ∧ ∃ hx : i < xs.length, w.cell? ⟨g, i, none⟩ = some xs[i] := by
  have hl := h.1
  rcases h.2 with ⟨_, h0⟩ | ⟨g, cap, cur, rfl, _⟩
  · omega
  · refine ⟨g, cap, rfl, by omega, ?_⟩
    rw [h.cellAt i (by omega), List.getElem?_eq_getElem (by omega)]

set_option maxRecDepth 20000 in
set_option maxHeartbeats 4000000 in
/-- 'waits'. -/
theorem waits_any (B : Nat) (W : World) (hb N : Nat) (vI vT vR : Value) (E : List (Value × Int)) (T : List (Value × Value × List Nat)) (H : HInv B W hb N vI vT vR E T) :
    Calls Tryz.prog 33 #[.pointer (some ⟨hb, 0, none⟩)] W fun e w' => e = .returned (.bool true) ∧ Below W.heap.size W w' := by
  obtain ⟨adT, cT, rfl⟩ := own_val H.rT
  obtain ⟨adR, cR, rfl⟩ := own_val H.rR
  have HH : Hid _ := H
  have hlt := H.box.lt
  clear H
  go_enter Tryz.func33, Tryz.ntmps33
  go_wp2_with fail
  go_loopw [3, 4] (fun ok i wr => ∃ k : Nat, k ≤ T.length ∧ ok = .bool true ∧ i = .int .i64 k ∧ Below W.heap.size W wr) (fun _ i _ => T.length - (intOf i).toNat)
  case atStart => exact ⟨0, Nat.zero_le _, rfl, rfl, Below.refl _ _⟩
  case round =>
    obtain ⟨k, hk, rfl, rfl, hB⟩ := hrel
    have H1 : HInv B wr hb N vI (.slice adT T.length cT) (.slice adR T.length cR) E T := HInv.later HH.out hB
    have nT := H1.nT
    obtain ⟨c0, c1, c2, c3, c4, c5, c6, c7, c8, c9⟩ := H1.cellAt
    by_cases hlt2 : k < T.length
    · obtain ⟨gT, cT', eT, hx1, d1⟩ := own_at H1.rT hlt2
      obtain ⟨gR, cR', eR, hx2, d2⟩ := own_at H1.rR hlt2
      rw [List.getElem_map] at d1 d2
      simp only [Value.slice.injEq, true_and] at eT eR
      obtain ⟨rfl, rfl⟩ := eT
      obtain ⟨rfl, rfl⟩ := eR
      obtain ⟨o1, o2⟩ := H1.own T[k] (List.getElem_mem hlt2)
      have hsm := H1.small T[k] (List.getElem_mem hlt2)
      obtain ⟨a1, x1, e1, s1⟩ := own_sl o1
      obtain ⟨a2, x2, e2, s2⟩ := own_sl o2
      obtain ⟨L, hL⟩ : ∃ L, L = T[k].2.2 := ⟨_, rfl⟩
      rw [← hL] at e1 e2 s1 s2 hsm
      rw [e1] at d1
      rw [e2] at d2
      have A5 : Below wr.heap.size wr wr.drew := (Below.refl _ _).drew
      have HA5 : Hid _ := A5
      have i1 : (k : Int) < (T.length : Int) := by omega
      have i2 : (0 : Int) ≤ (k : Int) := by omega
      have lb : hb < wr.heap.size := H1.box.lt
      have lT := cell_lt d1
      have lR := cell_lt d2
      clear A5 o1 o2 e1 e2 hL H1
      go_wp2_with fail
      go_region_held3 (fun w' => w'.cell? ⟨hb, 4, none⟩ = some (.slice (some ⟨gT, 0, none⟩) T.length cT) ∧ w'.cell? ⟨hb, 5, none⟩ = some (.slice (some ⟨gR, 0, none⟩) T.length cR) ∧ w'.cell? ⟨gT, k, none⟩ = some (.slice a1 L.length x1) ∧ w'.cell? ⟨gR, k, none⟩ = some (.slice a2 L.length x2)) (go_keep)
        (first
          | (go_at_call 30; refine (sameInts_any a1 a2 L L x1 x2 _ (s1.later HA5.out) (s2.later HA5.out) rfl (by omega)).mono ?_; rintro e w2 ⟨rfl, hb2⟩; have hB2 := Below.later HA5.out hb2; have e4 := (hB2.cell (p := ⟨hb, 4, none⟩) lb).trans c4; have e5 := (hB2.cell (p := ⟨hb, 5, none⟩) lb).trans c5; have e6 := (hB2.cell lT).trans d1; have e7 := (hB2.cell lR).trans d2))
      clear c0 c1 c2 c3 c4 c5 c6 c7 c8 c9 d1 d2 e4 e5 e6 e7
      go_wp2
      go_roundw
      case rel => exact ⟨k + 1, by omega, rfl, by go_num, Below.later hB hB2⟩
      case measure => simp [intOf]; omega
    · have i1 : ¬ (k : Int) < (T.length : Int) := by omega
      have HB : Hid _ := hB
      go_wp2_with fail
      go_loopw [3, 6] (fun ok i w2 => ok = .bool true ∧ i = .int .i64 0 ∧ w2 = wr) (fun _ _ _ => 0)
      case atStart => exact ⟨rfl, rfl, rfl⟩
      case round =>
        obtain ⟨rfl, rfl, rfl⟩ := hrel
        go_wp2_with fail
        go_loopw [3, 8] (fun ok i w2 => ok = .bool true ∧ i = .int .i64 0 ∧ w2 = wr) (fun _ _ _ => 0)
        case atStart => exact ⟨rfl, rfl, rfl⟩
        case round =>
          obtain ⟨rfl, rfl, rfl⟩ := hrel
          go_wp2
          go_ret
          exact ⟨rfl, HB.out⟩

theorem cellsE_at : ∀ (E : List (Value × Int)) (i : Nat) (h : i < E.length), (cellsE E)[i * 2]? = some E[i].1 ∧ (cellsE E)[i * 2 + 1]? = some (.int .i64 E[i].2)
  | e :: E, 0, _ => ⟨rfl, rfl⟩
  | e :: E, i + 1, h => by
    have ih := cellsE_at E i (by simpa using h)
    have e1 : (i + 1) * 2 = i * 2 + 2 := by omega
    rw [e1]
    exact ih
theorem own_at2 {w : World} {base : Nat} {v : Value} {E : List (Value × Int)} (h : w.ownsRow base 114 2 v E.length (cellsE E)) {i : Nat} (hi : i < E.length) : ∃ g c, v = .slice (some ⟨g, 0, none⟩) E.length c ∧ w.cell? ⟨g, i * 2, none⟩ = some E[i].1 ∧ w.cell? ⟨g, i * 2 + 1, none⟩ = some (.int .i64 E[i].2) := by
  have hc := cellsE_at E i hi
  rcases h.2 with ⟨_, h0⟩ | ⟨g, cap, cur, rfl, _⟩
  · omega
  · exact ⟨g, cap, rfl, by rw [h.cellAt (i * 2) (by omega)]; exact hc.1, by rw [h.cellAt (i * 2 + 1) (by omega)]; exact hc.2⟩

set_option maxRecDepth 20000 in
set_option maxHeartbeats 4000000 in
/-- 'dry'. -/
theorem dry_any (B : Nat) (W : World) (hb N : Nat) (vI vT vR : Value) (E : List (Value × Int)) (T : List (Value × Value × List Nat)) (H : HInv B W hb N vI vT vR E T) :
    Calls Tryz.prog 34 #[.pointer (some ⟨hb, 0, none⟩)] W fun e w' => e = .returned (.bool true) ∧ Below W.heap.size W w' := by
  obtain ⟨adI, cI, rfl⟩ := own_val H.rI
  have HH : Hid _ := H
  have hlt := H.box.lt
  clear H
  go_enter Tryz.func34, Tryz.ntmps34
  go_wp2_with fail
  go_loopw [3] (fun i wr => ∃ k : Nat, k ≤ E.length ∧ i = .int .i64 k ∧ Below W.heap.size W wr) (fun i _ => E.length - (intOf i).toNat)
  case atStart => exact ⟨0, Nat.zero_le _, rfl, Below.refl _ _⟩
  case round =>
    obtain ⟨k, hk, rfl, hB⟩ := hrel
    have H1 : HInv B wr hb N (.slice adI E.length cI) vT vR E T := HInv.later HH.out hB
    have nE := H1.nE
    have nN := H1.nN
    obtain ⟨c0, c1, c2, c3, c4, c5, c6, c7, c8, c9⟩ := H1.cellAt
    by_cases hlt2 : k < E.length
    · obtain ⟨gI, cI', eI, d1, d2⟩ := own_at2 H1.rI hlt2
      simp only [Value.slice.injEq, true_and] at eI
      obtain ⟨rfl, rfl⟩ := eI
      obtain ⟨ad, n, c, e1, hn, hrd⟩ := H1.rd E[k] (List.getElem_mem hlt2)
      obtain ⟨m, hm⟩ : ∃ m, m = E[k].2 := ⟨_, rfl⟩
      rw [e1] at d1
      rw [← hm] at d2 hrd
      have i1 : (k : Int) < (E.length : Int) := by omega
      have i2 : (0 : Int) ≤ (k : Int) := by omega
      have HB : Hid _ := hB
      clear H1 hm e1 hB
      have hbx : Blk (wr.alloc (Obj.cells #[.slice ad n c, .int .i64 m] 114)) wr.heap.size 114 [.slice ad n c, .int .i64 m] := Blk.new wr _ _ rfl
      have hbb : Below wr.heap.size wr (wr.alloc (Obj.cells #[.slice ad n c, .int .i64 m] 114)) := (Below.refl _ _).alloc (Nat.le_refl _) _
      go_wp2_with fail
      go_loopw [5] (fun i w2 => ∃ j : Nat, j ≤ n ∧ i = .int .i64 j ∧ Blk w2 wr.heap.size 114 [.slice ad n c, .int .i64 m] ∧ Below wr.heap.size wr w2) (fun i _ => n - (intOf i).toNat)
      case atStart => exact ⟨0, Nat.zero_le _, rfl, hbx, hbb⟩
      case round =>
        clear hbx hbb c0 c1 c2 c3 c4 c5 c6 c7 c8 c9 d1 d2
        obtain ⟨j, hj, rfl, hbx, hbb⟩ := hrel
        obtain ⟨x0, x1⟩ := cells2 hbx
        by_cases hjn : j < n
        · obtain ⟨b, o, rfl, hc⟩ := hrd j hjn
          have dc := (hbb.cell (cell_lt hc)).trans hc
          have i3 : (j : Int) < (n : Int) := by omega
          have i4 : (0 : Int) ≤ (j : Int) := by omega
          clear hc
          go_wp2
          go_quiet (fail)
          go_wp2_with fail
          go_roundw
          case rel => exact ⟨j + 1, by omega, by go_num, hbx, hbb.drewN _⟩
          case measure => simp [intOf]; omega
        · have i3 : ¬ (j : Int) < (n : Int) := by omega
          go_wp2
          go_roundw
          case rel => exact ⟨k + 1, by omega, by go_num, Below.later HB.out hbb⟩
          case measure => simp [intOf]; omega
    · have i1 : ¬ (k : Int) < (E.length : Int) := by omega
      have HB : Hid _ := hB
      go_wp2_with fail
      go_loopw [6] (fun i w2 => i = .int .i64 0 ∧ w2 = wr) (fun _ _ => 0)
      case atStart => exact ⟨rfl, rfl⟩
      case round =>
        obtain ⟨rfl, rfl⟩ := hrel
        go_wp2_with fail
        go_loopw [9] (fun i w2 => i = .int .i64 0 ∧ w2 = wr) (fun _ _ => 0)
        case atStart => exact ⟨rfl, rfl⟩
        case round =>
          obtain ⟨rfl, rfl⟩ := hrel
          go_wp2
          go_ret
          exact ⟨rfl, HB.out⟩
end Go.Proofs.YtepklbboejnecaaGreat

/- What is held: a list is marked. -/
namespace Go.Proofs.YtepklbboejnecaaGreat
open Go.RowKit Go.Shelf Sedge
attribute [local go_sem ↓] Go.wp_at_zero Go.wp_at_succ

theorem Tryz.infoHeld : (Tryz.prog.info? 114).map (fun i => (i.zero, i.size, i.bytes)) = some (some (.agg #[.slice none 0 0, .int .i64 0]), 2, 32) := by kernel_rfl
/-- 'append(h, HeldInts{..})'. -/
theorem wpList_push_held (w : World) {ops : Array Oper} {rest : List Oper} {o : Oper} {a : Act} {Q : Exit → Act → World → Prop} (hg : o.guard = none)
    (s x : Operand) (hop : o.op = Op.call { callee := Callee.builtin Builtin.append, args := #[s, x], argTypes := #[26, 26] })
    (base : Nat) (v : Value) (E : List (Value × Int)) (hs : a.eval s = v) (hown : w.ownsRow base 114 2 v E.length (cellsE E))
    (b : Nat) (y : Value) (m : Int) (hx : a.eval x = .slice (some ⟨b, 0, none⟩) 1 1) (hc : Blk w b 114 [y, .int .i64 m]) (h1 : y.oneCell' = true) (hn : E.length ≤ 10000) (hbase : base ≤ w.heap.size)
    (hK : ∀ v' w', w'.ownsRow base 114 2 v' (E ++ [(y, m)]).length (cellsE (E ++ [(y, m)])) → w.grownBy w' v.ownBlock → Lies w w' v v' → wpList Tryz.prog ops Q rest (a.put o.dst v') w') :
    wpList Tryz.prog ops Q (o :: rest) a w := by
  obtain ⟨i0, hi, hz0, hz1, hz2⟩ := info_parts Tryz.infoHeld
  refine wpList_push_at w hg s x 26 hop 114 i0 (.agg #[.slice none 0 0, .int .i64 0]) 2 32 Tryz.underlying26 hi hz0 hz1 hz2 rfl (by decide) base v E.length (cellsE E) hs hown ⟨b, 0, none⟩ 1 [y, .int .i64 m] hx rfl ?_ ?_ ?_ ?_ hbase ?_
  · obtain ⟨q0, q1⟩ := cells2 hc
    intro j u hj
    match j, hj with
    | 0, hj => simp at hj; subst hj; simpa [Addr.add] using q0
    | 1, hj => simp at hj; subst hj; simpa [Addr.add] using q1
  · intro u hu
    simp at hu
    rcases hu with rfl | rfl
    · exact h1
    · rfl
  · unfold maxLen; omega
  · omega
  · intro v' w' q1 q2 q3
    refine hK v' w' ?_ q2 q3
    rw [cellsE_append, List.length_append]
    exact q1
/-- 'append(l, m)'. -/
theorem wpList_push_mark (w : World) {ops : Array Oper} {rest : List Oper} {o : Oper} {a : Act} {Q : Exit → Act → World → Prop} (hg : o.guard = none)
    (s x : Operand) (hop : o.op = Op.call { callee := Callee.builtin Builtin.append, args := #[s, x], argTypes := #[55, 55] })
    (base : Nat) (v : Value) (n : Nat) (m : Int) (hs : a.eval s = v) (hown : w.ownsRow base 3 1 v n (List.replicate n (.int .i64 m)))
    (ad : Addr) (hx : a.eval x = .slice (some ad) 1 1) (hc : w.cell? ad = some (.int .i64 m)) (hn : n ≤ 1000000) (hbase : base ≤ w.heap.size)
    (hK : ∀ v' w', w'.ownsRow base 3 1 v' (n + 1) (List.replicate (n + 1) (.int .i64 m)) → w.grownBy w' v.ownBlock → Lies w w' v v' → wpList Tryz.prog ops Q rest (a.put o.dst v') w') :
    wpList Tryz.prog ops Q (o :: rest) a w := by
  obtain ⟨i0, hi, hz0, hz1, hz2⟩ := info_parts Tryz.infoInt
  refine wpList_push_at w hg s x 55 hop 3 i0 (.int .i64 0) 1 8 Tryz.underlying55 hi hz0 hz1 hz2 rfl (by decide) base v n _ hs hown ad 1 [.int .i64 m] hx rfl ?_ ?_ ?_ ?_ hbase ?_
  · intro j u hj
    match j, hj with
    | 0, hj => simp at hj; subst hj; simpa [Addr.add] using hc
  · intro u hu; simp at hu; subst hu; rfl
  · unfold maxLen; omega
  · omega
  · intro v' w' q1 q2 q3
    refine hK v' w' ?_ q2 q3
    rw [List.replicate_succ']
    exact q1

theorem Fr.sub {w w' : World} {a b : List (Option Nat)} (h : Fr w w' a) (s : ∀ r ∈ a, r ∈ b) : Fr w w' b := ⟨h.1, fun k hk hr => h.2 k hk fun r hr' => hr r (s r hr')⟩

/-- A list's marking, so far: g: the list with so many marks behind it; G: what was kept of it. -/
structure MK (B : Nat) (W0 : World) (hb N : Nat) (vI0 vT vR v0 : Value) (n0 : Nat) (m : Int) (E : List (Value × Int)) (W : World) (vI g : Value) (G : List (Value × Int)) (t : Nat) : Prop where
  base : B ≤ hb
  box : Blk W hb 33 [.int .i64 (N : Int), vI, nl, nl, vT, vR, nl, nl, nl, nl]
  rI : W.ownsRow B 114 2 vI (E ++ G).length (cellsE (E ++ G))
  rg : W.ownsRow B 3 1 g (n0 + t) (List.replicate (n0 + t) (.int .i64 m))
  rd : ∀ e ∈ E ++ G, Rd W e.1 e.2
  lt : ∀ e ∈ E ++ G, ∀ k, e.1.ownBlock = some k → k < W.heap.size
  gG : ∀ e ∈ G, e.2 = m ∧ (e.1 = nl ∨ ∃ k n' c, e.1 = .slice (some ⟨k, 0, none⟩) n' c ∧ n' ≤ n0 + t)
  gl : ∀ e ∈ G, ∀ k, e.1.ownBlock = some k → v0.ownBlock = some k ∨ W0.heap.size ≤ k
  g0 : ∀ k, g.ownBlock = some k → v0.ownBlock = some k ∨ W0.heap.size ≤ k
  vIl : ∀ k, vI.ownBlock = some k → vI0.ownBlock = some k ∨ W0.heap.size ≤ k
  oI : vI.ownBlock ≠ some hb
  og : g.ownBlock ≠ some hb
  oE : ∀ e ∈ E ++ G, e.1.ownBlock ≠ some hb
  aIg : Apart vI g
  aEI : ∀ e ∈ E ++ G, Apart e.1 vI
  aEg : ∀ e ∈ E, Apart e.1 g
  fr : Fr W0 W [some hb, vI0.ownBlock, v0.ownBlock]
  blw : Below B W0 W
  nG : G.length ≤ t + 1
  nE : E.length ≤ 9000
  nn : n0 ≤ 100000

section
variable {B : Nat} {W0 : World} {hb N : Nat} {vI0 vT vR v0 : Value} {n0 : Nat} {m : Int} {E : List (Value × Int)} {W w2 : World} {vI g : Value} {G : List (Value × Int)} {t : Nat}
/-- What is kept of a list is one more. -/
theorem MK.keep (h : MK B W0 hb N vI0 vT vR v0 n0 m E W vI g G t) {o : Obj} {vI' : Value} (ht : t ≤ 10)
    (q1 : w2.ownsRow B 114 2 vI' (E ++ G ++ [(g, m)]).length (cellsE (E ++ G ++ [(g, m)]))) (q2 : (W.alloc o).grownBy w2 vI.ownBlock) (q3 : Lies (W.alloc o) w2 vI vI') (hsz : B ≤ W.heap.size) :
    Blk w2 hb 33 [.int .i64 (N : Int), vI, nl, nl, vT, vR, nl, nl, nl, nl] ∧
    (w2.setCell ⟨hb, 1, none⟩ vI').ownsRow B 114 2 vI' (E ++ (G ++ [(g, m)])).length (cellsE (E ++ (G ++ [(g, m)]))) ∧
    (w2.setCell ⟨hb, 1, none⟩ vI').ownsRow B 3 1 g (n0 + t) (List.replicate (n0 + t) (.int .i64 m)) ∧
    (∀ e ∈ E ++ (G ++ [(g, m)]), Rd (w2.setCell ⟨hb, 1, none⟩ vI') e.1 e.2 ∧ Apart e.1 vI' ∧ e.1.ownBlock ≠ some hb ∧ ∀ k, e.1.ownBlock = some k → k < (w2.setCell ⟨hb, 1, none⟩ vI').heap.size) ∧
    vI'.ownBlock ≠ some hb ∧ Apart vI' g ∧ (∀ k, vI'.ownBlock = some k → vI0.ownBlock = some k ∨ W0.heap.size ≤ k) ∧
    Fr W0 (w2.setCell ⟨hb, 1, none⟩ vI') [some hb, vI0.ownBlock, v0.ownBlock] ∧ Below B W0 (w2.setCell ⟨hb, 1, none⟩ vI') := by
  have z0 := h.fr.1
  have z1 : W.heap.size ≤ (W.alloc o).heap.size := by rw [World.size_alloc]; omega
  have z2 := q2.size
  have hbl := h.box.lt
  have F2 : Fr W w2 [vI.ownBlock] := (Fr.alloc W o).trans (Fr.of_grown q2)
  have F3 : Fr W (w2.setCell ⟨hb, 1, none⟩ vI') [vI.ownBlock, some hb] := F2.trans (Fr.set w2 hb 1 vI')
  have oI' := off_lies h.oI (by omega) q3
  have lie : ∀ x, Apart x vI → (∀ k, x.ownBlock = some k → k < W.heap.size) → Apart x vI' := fun x hx hl => hx.lies (fun k hk => by have := hl k hk; omega) q3
  have agl := own_lt h.rg
  have b2 := Blk.fr h.box F2 (fun r hr => by simp at hr; subst hr; exact fun e => h.oI e.symm)
  refine ⟨b2, ?_, ?_, ?_, oI', (lie g h.aIg.symm agl).symm, ?_, ?_, ?_⟩
  · rw [← List.append_assoc]
    exact own_fr q1 (Fr.set w2 hb 1 vI') (free_of_off oI')
  · exact own_fr h.rg F3 (free_cons (free_of_apart h.aIg.symm) (free_of_off h.og))
  · intro e he
    rw [← List.append_assoc] at he
    rcases List.mem_append.1 he with he | he
    · exact ⟨(h.rd e he).fr F3 (free_cons (free_of_apart (h.aEI e he)) (free_of_off (h.oE e he))), lie _ (h.aEI e he) (h.lt e he), h.oE e he, fun k hk => by have := h.lt e he k hk; have := F3.1; omega⟩
    · simp at he; subst he
      exact ⟨(rd_own h.rg (by have := h.nn; omega)).fr F3 (free_cons (free_of_apart h.aIg.symm) (free_of_off h.og)), lie _ h.aIg.symm agl, h.og, fun k hk => by have := agl k hk; have := F3.1; omega⟩
  · intro k hk
    rcases q3 with q3 | q3
    · rw [q3] at hk; exact h.vIl k hk
    · right; have := q3.1 k hk; omega
  · refine ⟨Nat.le_trans h.fr.1 F3.1, fun k hk hr => (F3.2 k (by omega) fun r hr' e => ?_).trans (h.fr.2 k hk hr)⟩
    simp only [List.mem_cons, List.not_mem_nil, or_false] at hr'
    rcases hr' with rfl | rfl
    · rcases h.vIl k e.symm with q | q
      · exact hr _ (by simp) q.symm
      · omega
    · exact hr _ (by simp) e
  · exact ((h.blw.alloc (by omega) _).grown q2 (by omega) (fun k hk => (h.rI.lt k hk).1)).setCell (p := ⟨hb, 1, none⟩) h.base _

theorem MK.kept (h : MK B W0 hb N vI0 vT vR v0 n0 m E W vI g G t) {o : Obj} {vI' : Value} (ht : t ≤ 10) (hG : G.length ≤ t)
    (q1 : w2.ownsRow B 114 2 vI' (E ++ G ++ [(g, m)]).length (cellsE (E ++ G ++ [(g, m)]))) (q2 : (W.alloc o).grownBy w2 vI.ownBlock) (q3 : Lies (W.alloc o) w2 vI vI') (hsz : B ≤ W.heap.size) :
    MK B W0 hb N vI0 vT vR v0 n0 m E (w2.setCell ⟨hb, 1, none⟩ vI') vI' g (G ++ [(g, m)]) t := by
  obtain ⟨k1, k2, k3, k4, k5, k6, k7, k8, k9⟩ := h.keep ht q1 q2 q3 hsz
  refine { h with box := Blk.set k1 1 vI', rI := k2, rg := k3, rd := fun e he => (k4 e he).1, lt := fun e he => (k4 e he).2.2.2, gG := ?_, gl := ?_, vIl := k7, oI := k5, oE := fun e he => (k4 e he).2.2.1, aIg := k6, aEI := fun e he => (k4 e he).2.1, fr := k8, blw := k9, nG := by simp; omega }
  · intro e he
    rcases List.mem_append.1 he with he | he
    · exact h.gG e he
    · simp at he; subst he
      refine ⟨rfl, ?_⟩
      rcases own_form h.rg with ⟨q, _⟩ | ⟨k, c, q⟩
      · exact .inl q
      · exact .inr ⟨k, _, c, q, Nat.le_refl _⟩
  · intro e he
    rcases List.mem_append.1 he with he | he
    · exact h.gl e he
    · simp at he; subst he; exact h.g0

/-- One mark more behind the list. -/
theorem MK.grow (h : MK B W0 hb N vI0 vT vR v0 n0 m E W vI g G t) {o : Obj} {g' : Value} (ht : t ≤ 10)
    (q1 : w2.ownsRow B 3 1 g' (n0 + t + 1) (List.replicate (n0 + t + 1) (.int .i64 m))) (q2 : (W.alloc o).grownBy w2 g.ownBlock) (q3 : Lies (W.alloc o) w2 g g') (hsz : B ≤ W.heap.size) :
    MK B W0 hb N vI0 vT vR v0 n0 m E w2 vI g' G (t + 1) := by
  have z0 := h.fr.1
  have z1 : W.heap.size ≤ (W.alloc o).heap.size := by rw [World.size_alloc]; omega
  have z2 := q2.size
  have hbl := h.box.lt
  have F2 : Fr W w2 [g.ownBlock] := (Fr.alloc W o).trans (Fr.of_grown q2)
  have hGm : ∀ e ∈ G, Rd w2 e.1 e.2 := fun e he => by
    have hm := h.gG e he
    have he' : e ∈ E ++ G := List.mem_append.2 (Or.inr he)
    rcases q3 with q3 | q3
    · rcases hm.2 with hn | ⟨k, n', c, hk, hn'⟩
      · rw [hm.1, hn]; exact rd_shorter (n := 0) q1 (by omega) (by have := h.nn; omega) (.inl rfl)
      · by_cases hb' : g.ownBlock = some k
        · rw [hm.1]
          exact rd_shorter (n := n') q1 (by omega) (by have := h.nn; omega) (.inr ⟨k, c, hk, by rw [q3]; exact hb'⟩)
        · refine (h.rd e he').fr F2 fun j hj r hr er => ?_
          rw [hk] at hj
          simp only [Value.ownBlock, Option.some.injEq] at hj
          simp at hr; subst hr; subst hj; exact hb' er.symm
    · exact (h.rd e he').fr ((Fr.alloc W o).trans (Fr.of_grown q3.2)) (fun j hj r hr er => by simp at hr; subst hr; cases er)
  have lieg : ∀ x, Apart x g → (∀ k, x.ownBlock = some k → k < W.heap.size) → Apart x g' := fun x hx hl => hx.lies (fun k hk => by have := hl k hk; omega) q3
  refine { h with box := ?_, rI := ?_, rg := q1, rd := ?_, lt := ?_, gG := ?_, g0 := ?_, og := off_lies h.og (by omega) q3, aIg := lieg _ h.aIg (own_lt h.rI), aEg := ?_, fr := ?_, blw := ?_, nG := by have := h.nG; omega }
  · exact Blk.fr h.box F2 (fun r hr => by simp at hr; subst hr; exact fun e => h.og e.symm)
  · exact own_fr h.rI F2 (free_of_apart h.aIg)
  · intro e he
    rcases List.mem_append.1 he with he | he
    · exact (h.rd e (List.mem_append.2 (Or.inl he))).fr F2 (free_of_apart (h.aEg e he))
    · exact hGm e he
  · exact fun e he k hk => by have := h.lt e he k hk; omega
  · intro e he
    refine ⟨(h.gG e he).1, ?_⟩
    rcases (h.gG e he).2 with q | ⟨k, n', c, hk, hn'⟩
    · exact .inl q
    · exact .inr ⟨k, n', c, hk, by omega⟩
  · intro k hk
    rcases q3 with q3 | q3
    · rw [q3] at hk; exact h.g0 k hk
    · right; have := q3.1 k hk; omega
  · exact fun e he => lieg _ (h.aEg e he) (h.lt e (List.mem_append.2 (Or.inl he)))
  · refine ⟨Nat.le_trans h.fr.1 F2.1, fun k hk hr => (F2.2 k (by omega) fun r hr' e => ?_).trans (h.fr.2 k hk hr)⟩
    simp at hr'
    subst hr'
    rcases h.g0 k e.symm with q | q
    · exact hr _ (by simp) q.symm
    · omega
  · exact (h.blw.alloc (by omega) _).grown q2 (by omega) (fun k hk => (h.rg.lt k hk).1)
end
end Go.Proofs.YtepklbboejnecaaGreat

/- What is held: a list is marked: the walk. -/
namespace Go.Proofs.YtepklbboejnecaaGreat
open Go.RowKit Go.Shelf Sedge
attribute [local go_sem ↓] Go.wp_at_zero Go.wp_at_succ

/-- What marking asks. -/
structure MPre (B : Nat) (W : World) (hb N : Nat) (vI vT vR : Value) (E : List (Value × Int)) (v : Value) (n : Nat) (xs : List Value) : Prop where
  base : B ≤ hb
  box : Blk W hb 33 [.int .i64 (N : Int), vI, nl, nl, vT, vR, nl, nl, nl, nl]
  rI : W.ownsRow B 114 2 vI E.length (cellsE E)
  rv : W.ownsRow B 3 1 v n xs
  rd : ∀ e ∈ E, Rd W e.1 e.2
  lt : ∀ e ∈ E, ∀ k, e.1.ownBlock = some k → k < W.heap.size
  oI : vI.ownBlock ≠ some hb
  ov : v.ownBlock ≠ some hb
  oE : ∀ e ∈ E, e.1.ownBlock ≠ some hb
  aIv : Apart vI v
  aEI : ∀ e ∈ E, Apart e.1 vI
  aEv : ∀ e ∈ E, Apart e.1 v
  nE : E.length ≤ 9000
  nn : n ≤ 100000
  nN : N ≤ 1000

theorem own_val3 {w : World} {base n : Nat} {e : TypeId} {s : Nat} {v : Value} {xs : List Value} (h : w.ownsRow base e s v n xs) : ∃ ad n c, v = .slice ad n c := by
  obtain ⟨ad, c, h⟩ := own_val h
  exact ⟨ad, _, c, h⟩
theorem set_marks {k n : Nat} {u : Value} {xs : List Value} (hx : xs.length = n) (hk : k < n) : (List.replicate k u ++ xs.drop k).set k u = List.replicate (k + 1) u ++ xs.drop (k + 1) := by
  rw [List.set_append, if_neg (by simp), List.length_replicate, Nat.sub_self, List.drop_eq_getElem_cons (by omega), List.set_cons_zero, List.replicate_succ', List.append_assoc]
  rfl

/-- All its places are marked: the marking's start. -/
theorem MPre.start {B : Nat} {W wr : World} {hb N : Nat} {vI vT vR v : Value} {E : List (Value × Int)} {n : Nat} {xs : List Value} {m : Int} (h : MPre B W hb N vI vT vR E v n xs)
    (q1 : wr.ownsRow B 3 1 v n (List.replicate n (.int .i64 m))) (q2 : Fr (W.setCell ⟨hb, 0, none⟩ (.int .i64 ((N : Int) + 1))) wr [v.ownBlock]) (q3 : Below B (W.setCell ⟨hb, 0, none⟩ (.int .i64 ((N : Int) + 1))) wr) :
    MK B W hb (N + 1) vI vT vR v n m E wr vI v [] 0 := by
  have F : Fr W wr [some hb, v.ownBlock] := (Fr.set W hb 0 _).trans q2
  have fE : ∀ e ∈ E, Free e.1 [some hb, v.ownBlock] := fun e he => free_cons (free_of_off (h.oE e he)) (free_of_apart (h.aEv e he))
  refine ⟨h.base, ?_, ?_, q1, ?_, ?_, (fun e he => by cases he), (fun e he => by cases he), fun k hk => .inl hk, fun k hk => .inl hk, h.oI, h.ov, ?_, h.aIv, ?_, h.aEv, ?_, ?_, by simp, h.nE, h.nn⟩
  · exact Blk.fr (Blk.set h.box 0 (.int .i64 ((N : Int) + 1))) q2 (fun r hr => by simp at hr; subst hr; exact fun e => h.ov e.symm)
  · rw [List.append_nil]
    exact own_fr h.rI F (free_cons (free_of_off h.oI) (free_of_apart h.aIv))
  · rw [List.append_nil]; exact fun e he => (h.rd e he).fr F (fE e he)
  · rw [List.append_nil]; exact fun e he k hk => by have := h.lt e he k hk; have := F.1; omega
  · rw [List.append_nil]; exact h.oE
  · rw [List.append_nil]; exact h.aEI
  · exact F.sub fun r hr => by simp at hr ⊢; rcases hr with hr | hr <;> simp [hr]
  · exact ((Below.refl B W).setCell (p := ⟨hb, 0, none⟩) h.base _).trans q3

set_option maxRecDepth 20000 in
set_option maxHeartbeats 4000000 in
/-- 'markInts'. -/
theorem markInts_any (B : Nat) (W : World) (hb N : Nat) (vI vT vR : Value) (E : List (Value × Int)) (v : Value) (n : Nat) (xs : List Value) (H : MPre B W hb N vI vT vR E v n xs) :
    Calls Tryz.prog 35 #[.pointer (some ⟨hb, 0, none⟩), v] W fun e w' => e = .returned (.tuple #[]) ∧ ∃ m vI' g G, MK B W hb (N + 1) vI vT vR v n m E w' vI' g G 3 ∧ G.length ≤ 4 := by
  obtain ⟨ad, cv, rfl⟩ := own_val H.rv
  have HH : Hid _ := H
  have c0 : W.cell? ⟨hb, 0, none⟩ = some (.int .i64 (N : Int)) := H.box.cell (k := 0) (by simp)
  have f0 := Blk.free H.box 0
  have hsz : B ≤ W.heap.size := by have := H.base; have := H.box.lt; omega
  have nN := H.nN
  have nn := H.nn
  have v1 : IntKind.i64.wrap ((N : Int) + 1) = (N : Int) + 1 := by rw [IntKind.wrap_i64]; omega
  have v2 : IntKind.i64.wrap (-1000 - ((N : Int) + 1)) = -1000 - ((N : Int) + 1) := by rw [IntKind.wrap_i64]; omega
  clear H
  go_enter Tryz.func35, Tryz.ntmps35
  go_wp2_with fail
  clear v2
  generalize (-1000 : Int) - ((N : Int) + 1) = m
  go_loopw [5] (fun i wr => ∃ k : Nat, k ≤ n ∧ i = .int .i64 k ∧ wr.ownsRow B 3 1 (.slice ad n cv) n (List.replicate k (.int .i64 m) ++ xs.drop k) ∧ Fr (W.setCell ⟨hb, 0, none⟩ (.int .i64 ((N : Int) + 1))) wr [Value.ownBlock (.slice ad n cv)] ∧ Below B (W.setCell ⟨hb, 0, none⟩ (.int .i64 ((N : Int) + 1))) wr) (fun i _ => n - (intOf i).toNat)
  case atStart =>
    refine ⟨0, Nat.zero_le _, rfl, ?_, ⟨Nat.le_refl _, fun _ _ _ => rfl⟩, Below.refl _ _⟩
    exact own_fr (MPre.rv HH.out) (Fr.set W hb 0 _) (free_of_off (MPre.ov HH.out))
  case round =>
    clear c0 f0 v1
    obtain ⟨k, hk, rfl, hown, hF, hB⟩ := hrel
    have hxl : xs.length = n := by have := (MPre.rv HH.out).1; omega
    have HXL : Hid _ := hxl
    clear hxl
    by_cases hlt : k < n
    · obtain ⟨g, c', e1, hx1, hc⟩ := own_at hown hlt
      simp only [Value.slice.injEq, true_and] at e1
      obtain ⟨rfl, rfl⟩ := e1
      have hf := hown.frozenAt k
      have hst := hown.stored k (.int .i64 m)
      rw [set_marks HXL.out hlt] at hst
      have HST : Hid _ := hst
      have HF : Hid _ := hF
      have i1 : (k : Int) < (n : Int) := by omega
      have i2 : (0 : Int) ≤ (k : Int) := by omega
      have hg := (hown.lt g rfl).1
      clear hst hF hown
      go_wp2
      go_roundw
      case rel =>
        refine ⟨k + 1, by omega, by go_num, HST.out.1, (Fr.trans HF.out (Fr.of_grown HST.out.2)).sub (fun r hr => by simpa [Value.ownBlock] using hr), hB.setCell (p := ⟨g, k, none⟩) hg _⟩
      case measure => simp [intOf]; omega
    · have hkn : k = n := by omega
      subst hkn
      rw [List.drop_of_length_le (Nat.le_of_eq HXL.out), List.append_nil] at hown
      have hMK := MPre.start HH.out hown hF hB
      have i1 : ¬ (k : Int) < (k : Int) := by omega
      clear hown hF hB
      go_wp2_with fail
      go_loopw [6, 7] (fun g i wr => ∃ (t : Nat) (vI' : Value) (G : List (Value × Int)), t ≤ 3 ∧ i = .int .i64 t ∧ MK B W hb (N + 1) vI vT vR (.slice ad k cv) k m E wr vI' g G t ∧ G.length ≤ t) (fun _ i _ => 3 - (intOf i).toNat)
      case atStart => exact ⟨0, vI, [], by omega, rfl, hMK, by simp⟩
      case round =>
        clear hMK
        obtain ⟨t, vI', G, ht, rfl, hM, hG⟩ := hrel
        obtain ⟨adI, nI, cI, rfl⟩ := own_val3 hM.rI
        obtain ⟨adg, cg, rfl⟩ := own_val hM.rg
        have c1 : wr.cell? ⟨hb, 1, none⟩ = some (.slice adI nI cI) := hM.box.cell (k := 1) (by simp)
        have HM : Hid _ := hM
        have hszr : B ≤ wr.heap.size := Nat.le_trans hsz hM.fr.1
        have nE := hM.nE
        have hEG : (E ++ G).length ≤ 10000 := by rw [List.length_append]; omega
        clear hM
        by_cases ht3 : t < 3
        · have i3 : (t : Int) < 3 := by omega
          go_wp2_with (first
            | (at_builtin; refine wpList_push_held _ rfl (.tmp 40) (.tmp 44) rfl B (.slice adI nI cI) (E ++ G) rfl ((MK.rI HM.out).alloc _) wr.heap.size (.slice adg (k + t) cg) m rfl (Blk.new wr _ _ rfl) rfl hEG (by simp; omega) ?_; intro vI2 w2 q1 q2 q3; obtain ⟨adI2, nI2, cI2, rfl⟩ := own_val3 q1; have HK : Hid _ := MK.kept HM.out (by omega) hG q1 q2 q3 hszr; have hbx2 := (MK.keep HM.out (by omega) q1 q2 q3 hszr).1; have d1 := hbx2.cell (k := 1) (by simp); have f1 := Blk.free hbx2 1; have HCN : Hid (World.cell? ((w2.setCell ⟨hb, 1, none⟩ (.slice adI2 nI2 cI2)).alloc (Obj.cells #[.int .i64 m] 3)) ⟨w2.heap.size, 0, none⟩ = some (.int .i64 m)) := (by have q := cell_new (w2.setCell ⟨hb, 1, none⟩ (.slice adI2 nI2 cI2)) (.int .i64 m) 3; rwa [World.size_setCell] at q); have hs2 := q2.size; simp only [World.size_alloc] at hs2; clear q1 q2 q3 hbx2 c1)
            | (at_builtin; refine wpList_push_mark _ rfl (.tmp 48) (.tmp 50) rfl B (.slice adg (k + t) cg) (k + t) m rfl ((MK.rg HK.out).alloc _) ⟨w2.heap.size, 0, none⟩ rfl HCN.out (by omega) (by simp; omega) ?_; intro g2 w3 r1 r2 r3; have HM3 : Hid _ := MK.grow HK.out (by omega) r1 r2 r3 (by simp; omega); clear r1 r2 r3)
            | fail)
          go_roundw
          case rel => exact ⟨t + 1, _, _, by omega, by go_num, HM3.out, by rw [List.length_append]; simp; omega⟩
          case measure => simp [intOf]; omega
        · have ht' : t = 3 := by omega
          subst ht'
          have i3 : ¬ ((3 : Nat) : Int) < 3 := by omega
          go_wp2_with (first
            | (at_builtin; refine wpList_push_held _ rfl (.tmp 56) (.tmp 60) rfl B (.slice adI nI cI) (E ++ G) rfl ((MK.rI HM.out).alloc _) wr.heap.size (.slice adg (k + 3) cg) m rfl (Blk.new wr _ _ rfl) rfl hEG (by simp; omega) ?_; intro vI2 w2 q1 q2 q3; obtain ⟨adI2, nI2, cI2, rfl⟩ := own_val3 q1; have HK : Hid _ := MK.kept HM.out (by omega) hG q1 q2 q3 hszr; have hbx2 := (MK.keep HM.out (by omega) q1 q2 q3 hszr).1; have d1 := hbx2.cell (k := 1) (by simp); have f1 := Blk.free hbx2 1; have HCN : Hid (World.cell? ((w2.setCell ⟨hb, 1, none⟩ (.slice adI2 nI2 cI2)).alloc (Obj.cells #[.int .i64 m] 3)) ⟨w2.heap.size, 0, none⟩ = some (.int .i64 m)) := (by have q := cell_new (w2.setCell ⟨hb, 1, none⟩ (.slice adI2 nI2 cI2)) (.int .i64 m) 3; rwa [World.size_setCell] at q); have hs2 := q2.size; simp only [World.size_alloc] at hs2; clear q1 q2 q3 hbx2 c1)
            | fail)
          go_end0
          exact ⟨rfl, m, _, _, _, HK.out, by rw [List.length_append]; simp; omega⟩
end Go.Proofs.YtepklbboejnecaaGreat
