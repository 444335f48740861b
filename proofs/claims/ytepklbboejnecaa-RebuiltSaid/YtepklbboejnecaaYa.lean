/- What is held: lists in blocks of their own, and what leaves them as they are. -/
import Derived.Test.YtepklbboejnecaaXs
import Derived.Test.YtepklbboejnecaaXm
import Derived.Maps.AppendAt
import Derived.Deep.DeepAppendRoom
import Derived.ArgAppend
namespace Go.Proofs.Ytepklbboejnecaa
open Go.RowKit Go.Shelf Sedge
attribute [local go_sem ↓] Go.wp_at_zero Go.wp_at_succ

/-- What may differ: the blocks that are named, and new ones. -/
def Fr (w w' : World) (bs : List (Option Nat)) : Prop := w.heap.size ≤ w'.heap.size ∧ ∀ k, k < w.heap.size → (∀ r ∈ bs, some k ≠ r) → w'.heap[k]? = w.heap[k]?
theorem Fr.trans {a b c : World} {x y : List (Option Nat)} (h : Fr a b x) (k : Fr b c y) : Fr a c (x ++ y) :=
  ⟨Nat.le_trans h.1 k.1, fun i hi hr => by
    rw [k.2 i (Nat.lt_of_lt_of_le hi h.1) (fun r hr' => hr r (List.mem_append.2 (Or.inr hr'))), h.2 i hi (fun r hr' => hr r (List.mem_append.2 (Or.inl hr')))]⟩
theorem Fr.of_grown {w w' : World} {r : Option Nat} (h : w.grownBy w' r) : Fr w w' [r] := ⟨h.size, fun k hk hr => h.block k hk (hr r (by simp))⟩
theorem Fr.of_below {w w' : World} (h : Below w.heap.size w w') : Fr w w' [] := ⟨h.size, fun k hk _ => h.block k hk⟩
theorem Fr.alloc (w : World) (o : Obj) : Fr w (w.alloc o) [] := Fr.of_below ((Below.refl _ _).alloc (Nat.le_refl _) _)
theorem Fr.drewN (w : World) (n : Nat) : Fr w (w.drewN n) [] := Fr.of_below ((Below.refl _ _).drewN n)
theorem Fr.set (w : World) (g k : Nat) (v : Value) : Fr w (w.setCell ⟨g, k, none⟩ v) [some g] :=
  ⟨by simp, fun i _ hr => by
    have h1 : i ≠ g := fun e => hr (some g) (by simp) (by rw [e])
    exact heap_setCell_other w _ i v h1⟩
/-- A value's block is none of these. -/
def Free (x : Value) (bs : List (Option Nat)) : Prop := ∀ g, x.ownBlock = some g → ∀ r ∈ bs, some g ≠ r
theorem own_fr {w w' : World} {base : Nat} {e : TypeId} {s n : Nat} {v : Value} {xs : List Value} {bs : List (Option Nat)} (h : w.ownsRow base e s v n xs) (k : Fr w w' bs) (f : Free v bs) : w'.ownsRow base e s v n xs := by
  refine ⟨h.1, ?_⟩
  rcases h.2 with h' | ⟨g, cap, cur, rfl, h2, h3, h4⟩
  · exact .inl h'
  · exact .inr ⟨g, cap, cur, rfl, h2, by rw [k.2 g (lt_of_block h3) (f g rfl)]; exact h3, h4⟩
theorem Blk.fr {w w' : World} {g : Nat} {T : TypeId} {vs : List Value} {bs : List (Option Nat)} (h : Blk w g T vs) (k : Fr w w' bs) (f : ∀ r ∈ bs, some g ≠ r) : Blk w' g T vs := by
  unfold Blk; rw [k.2 g h.lt f]; exact h

/-- A list that reads as a mark at all its places. -/
def Rd (w : World) (v : Value) (m : Int) : Prop := ∃ ad n c, v = .slice ad n c ∧ n ≤ 1000000 ∧ ∀ k, k < n → ∃ b o, ad = some ⟨b, o, none⟩ ∧ w.cell? ⟨b, o + k, none⟩ = some (.int .i64 m)
theorem Rd.fr {w w' : World} {v : Value} {m : Int} {bs : List (Option Nat)} (h : Rd w v m) (k : Fr w w' bs) (f : Free v bs) : Rd w' v m := by
  obtain ⟨ad, n, c, rfl, hn, h⟩ := h
  refine ⟨ad, n, c, rfl, hn, fun i hi => ?_⟩
  obtain ⟨b, o, rfl, hc⟩ := h i hi
  exact ⟨b, o, rfl, by rw [World.cell?_of_block (k.2 b (World.block_lt_of_cell? w _ hc) (f b rfl))]; exact hc⟩
theorem rd_own {w : World} {base n : Nat} {v : Value} {m : Int} (h : w.ownsRow base 3 1 v n (List.replicate n (.int .i64 m))) (hn : n ≤ 1000000) : Rd w v m := by
  rcases h.2 with ⟨rfl, rfl⟩ | ⟨g, cap, cur, rfl, h2, h3, h4, h5, h6, h7⟩
  · exact ⟨none, 0, 0, rfl, by omega, fun k hk => by omega⟩
  · refine ⟨some ⟨g, 0, none⟩, n, cap, rfl, hn, fun k hk => ⟨g, 0, rfl, ?_⟩⟩
    rw [cell_of_row w g _ _ _ _ h3, Nat.zero_add]
    have e : cur[k]? = (cur.toList.take (n * 1))[k]? := by rw [List.getElem?_take, if_pos (by omega)]; simp
    rw [e, h7]; simp [hk]
/-- Of a longer list in the same block. -/
theorem rd_shorter {w : World} {base n n' : Nat} {v v' : Value} {m : Int} (h : w.ownsRow base 3 1 v' n' (List.replicate n' (.int .i64 m))) (hn : n ≤ n') (hn' : n' ≤ 1000000) (hv : v = .slice none 0 0 ∨ ∃ g c, v = .slice (some ⟨g, 0, none⟩) n c ∧ v'.ownBlock = some g) : Rd w v m := by
  rcases hv with rfl | ⟨g, c, rfl, hb⟩
  · exact ⟨none, 0, 0, rfl, by omega, fun k hk => by omega⟩
  · rcases h.2 with ⟨rfl, rfl⟩ | ⟨g', cap, cur, rfl, h2, h3, h4, h5, h6, h7⟩
    · cases hb
    · simp only [Value.ownBlock, Option.some.injEq] at hb
      subst hb
      refine ⟨some ⟨g', 0, none⟩, n, c, rfl, by omega, fun k hk => ⟨g', 0, rfl, ?_⟩⟩
      rw [cell_of_row w g' _ _ _ _ h3, Nat.zero_add]
      have e : cur[k]? = (cur.toList.take (n' * 1))[k]? := by rw [List.getElem?_take, if_pos (by omega)]; simp
      rw [e, h7]; simp [show k < n' by omega]
theorem own_form {w : World} {base n : Nat} {e : TypeId} {s : Nat} {v : Value} {xs : List Value} (h : w.ownsRow base e s v n xs) : (v = .slice none 0 0 ∧ n = 0) ∨ ∃ g c, v = .slice (some ⟨g, 0, none⟩) n c := by
  rcases h.2 with h' | ⟨g, cap, cur, h1, _⟩
  · exact .inl h'
  · exact .inr ⟨g, cap, h1⟩

/-- Where a list lies behind an append: where it lay, or in a new block, and then all else is as it was. -/
def Lies (w w' : World) (v v' : Value) : Prop := v'.ownBlock = v.ownBlock ∨ ((∀ g, v'.ownBlock = some g → w.heap.size ≤ g) ∧ w.grownBy w' none)

theorem run_push {P : Program} (w : World) (t ty e : TypeId) (i : TypeInfo) (z : Value) (size bytes : Nat) (ht : P.underlying t = some (.slice e)) (hi : P.info? e = some i) (hz : i.zero = some z)
    (hsize : i.size = size) (hby : i.bytes = bytes) (hzs : z.cells.size = size) (hsz : 0 < size) (base : Nat)
    (v : Value) (n : Nat) (xs : List Value) (hown : w.ownsRow base e size v n xs)
    (a : Addr) (c : Nat) (news : List Value) (hl : news.length = 1 * size) (hnews : ∀ j u, news[j]? = some u → w.cell? (a.add j) = some u) (h1 : ∀ u ∈ news, u.oneCell' = true)
    (h63 : n + 1 ≤ maxLen) (hbytes : (n + 1) * bytes ≤ 140737488355328) (hbase : base ≤ w.heap.size) :
    ∃ v' w', (Builtin.append_ #[t, t] ty #[v, .slice (some a) 1 c]).run P w = .ok v' w' ∧ w'.ownsRow base e size v' (n + 1) (xs ++ news) ∧ w.grownBy w' v.ownBlock ∧ Lies w w' v v' := by
  rcases hown.2 with ⟨rfl, rfl⟩ | ⟨g, cap, cur, rfl, hb, hg, hnc, hcm, hcs, htk⟩
  · obtain ⟨v', w', h2, h3, h4, h5, h6⟩ := run_append_own_at (P := P) w base t ty e i z size bytes ht hi hz hsize hby hzs hsz _ _ xs hown a 1 c news hl hnews h1 h63 hbytes hbase
    refine ⟨v', w', h2, h3, h4, .inr ⟨fun g hg => ?_, h4⟩⟩
    rcases h6 with h6 | h6
    · rw [h6] at hg; cases hg
    · rw [h6] at hg; simp at hg; omega
  · by_cases hr : n + 1 ≤ cap
    · obtain ⟨w', h2, h3, h4⟩ := run_append_own_spare (P := P) w base t ty e i size ht hi hsize g n cap xs hown a 1 c news hl hnews h1 hr
      exact ⟨_, w', h2, h3, h4, .inl rfl⟩
    · obtain ⟨v', w', h2, h3, h4⟩ := run_append_arg_grows (P := P) w t ty e i z size bytes ht hi hz hsize hby hzs hsz ⟨g, 0, none⟩ n cap xs hown.1 (hown.cells rfl) a 1 c news hl hnews (by omega) h63 hbytes
      refine ⟨v', w', h2, ⟨h3.1, ?_⟩, ⟨h4.os, h4.tape, h4.output, h4.size, fun k hk _ => h4.block k hk (by simp)⟩, .inr ⟨fun g hg => (h3.lt g hg).1, h4⟩⟩
      rcases h3.2 with hh | ⟨g2, cap2, cur2, q1, q2, q3⟩
      · exact .inl hh
      · exact .inr ⟨g2, cap2, cur2, q1, by omega, q3⟩

theorem wpList_push_at {P : Program} (w : World) {ops : Array Oper} {rest : List Oper} {o : Oper} {a : Act} {Q : Exit → Act → World → Prop} (hgd : o.guard = none) (s x : Operand) (t : TypeId)
    (ho : o.op = .call { callee := .builtin .append, args := #[s, x], argTypes := #[t, t] })
    (e : TypeId) (i : TypeInfo) (z : Value) (size bytes : Nat) (ht : P.underlying t = some (.slice e)) (hi : P.info? e = some i) (hz : i.zero = some z)
    (hsize : i.size = size) (hby : i.bytes = bytes) (hzs : z.cells.size = size) (hsz : 0 < size) (base : Nat)
    (v : Value) (n : Nat) (xs : List Value) (hs : a.eval s = v) (hown : w.ownsRow base e size v n xs)
    (ad : Addr) (c : Nat) (news : List Value) (hx : a.eval x = .slice (some ad) 1 c) (hl : news.length = 1 * size) (hnews : ∀ j u, news[j]? = some u → w.cell? (ad.add j) = some u) (h1 : ∀ u ∈ news, u.oneCell' = true)
    (h63 : n + 1 ≤ maxLen) (hbytes : (n + 1) * bytes ≤ 140737488355328) (hbase : base ≤ w.heap.size)
    (h : ∀ v' w', w'.ownsRow base e size v' (n + 1) (xs ++ news) → w.grownBy w' v.ownBlock → Lies w w' v v' → wpList P ops Q rest (a.put o.dst v') w') :
    wpList P ops Q (o :: rest) a w := by
  refine wpList_plain hgd fun K hK => ?_
  obtain ⟨v', w', hr, h2, h3, h4⟩ := run_push (P := P) w t o.type e i z size bytes ht hi hz hsize hby hzs hsz base v n xs hown ad c news hl hnews h1 h63 hbytes hbase
  unfold Oper.wp execOp
  simp only [ho, resolve, invoke, builtin, Sem.run_bind, Sem.run_pure, Result.andThen_ok, List.map_toArray, List.map_cons, List.map_nil, hs, hx, hr]
  exact hK _ _ (h v' w' h2 h3 h4)
end Go.Proofs.Ytepklbboejnecaa
