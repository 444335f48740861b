/- Turning: bytes in memory; what stands ahead of a row. -/
import Derived.Test.YtepklbboejnecaaGreatM
import Derived.Test.YtepklbboejnecaaGreatX
import Derived.Laws.BytesArg
namespace Go.Proofs.YtepklbboejnecaaGreat
open Go.RowKit Go.Shelf Sedge
attribute [local go_sem ↓] Go.wp_at_zero Go.wp_at_succ

/-- A text, of its bytes as numbers. -/
def ofL (l : List Nat) : ByteArray := ⟨(l.map UInt8.ofNat).toArray⟩
theorem bl_ofL {l : List Nat} (h : ∀ x ∈ l, x < 256) : bl (ofL l) = l := by
  unfold bl ofL
  simp only [List.map_map]
  conv => rhs; rw [← List.map_id l]
  refine List.map_congr_left fun x hx => ?_
  simp [Nat.mod_eq_of_lt (h x hx)]
theorem ofL_size (l : List Nat) : (ofL l).size = l.length := by simp [ofL, ByteArray.size]
theorem ofL_bl (s : ByteArray) : ofL (bl s) = s := by
  have h : ∀ x ∈ bl s, x < 256 := fun x hx => by
    unfold bl at hx; obtain ⟨a, _, rfl⟩ := List.mem_map.1 hx; exact a.toNat_lt
  exact bl_inj (bl_ofL h)
theorem bl_mem_lt (s : ByteArray) : ∀ x ∈ bl s, x < 256 := fun x hx => by
  unfold bl at hx; obtain ⟨a, _, rfl⟩ := List.mem_map.1 hx; exact a.toNat_lt
/-- Bytes as cells. -/
def UV (l : List Nat) : List Value := l.map fun x => Value.int .u8 (x : Nat)
theorem convert_own {w : World} {base : Nat} {v : Value} {l : List Nat} (h : w.ownsRow base 5 1 v l.length (UV l)) : (convert 172 9 v).run Tryz.prog w = .ok (.string (ofL l)) w := by
  rcases h.2 with ⟨rfl, h0⟩ | ⟨g, cap, cur, rfl, h2, h3, h4, h5, h6, h7⟩
  · have e : l = [] := List.eq_nil_of_length_eq_zero h0
    subst e
    rw [run_convert_bytes_nil w 172 5 Tryz.underlying172 Tryz.underlying5 0 0 9 Tryz.underlying9]
    rfl
  · have := run_convert_bytes_arg (P := Tryz.prog) w 172 5 Tryz.underlying172 Tryz.underlying5 g 0 l.length cap (l.map fun x : Nat => (x : Int)) (by simp) (fun i hi => by
      rw [Nat.zero_add, cell_of_row w g _ _ _ _ h3]
      have e : cur[i]? = (cur.toList.take (l.length * 1))[i]? := by rw [List.getElem?_take, if_pos (by omega)]; simp
      rw [e, h7]; simp [UV, List.getD, hi]) 9 Tryz.underlying9
    rw [this]
    simp only [strOfNums, ofL, List.map_map]
    rfl
theorem run_make_capB (n : Nat) (hn : n ≤ 1000000) (w : World) : ∃ o : Obj, (Instr.makeSlice 172 (.int .i64 0) (.int .i64 (n : Int))).run Tryz.prog w = .ok (.slice (some ⟨w.heap.size, 0, none⟩) 0 n) (w.alloc o) ∧ (w.alloc o).ownsRow w.heap.size 5 1 (.slice (some ⟨w.heap.size, 0, none⟩) 0 n) ([] : List Nat).length (UV []) := by
  obtain ⟨i0, hi, hz0, hz1, hz2⟩ := info_parts Tryz.infoByte
  have hr := run_make (P := Tryz.prog) w 172 5 i0 (.int .u8 0) Tryz.underlying172 hi hz0 .i64 .i64 0 n (by omega) (by omega) (by rw [hz2]; omega) (by omega)
  simp only [Int.toNat_natCast] at hr
  refine ⟨_, hr, ?_⟩
  exact World.ownsRow_made w _ n (Nat.le_refl _) (by unfold maxLen; omega) (by rw [size_madeCells, hz1])
/-- 'append(b, x)' of a byte. -/
theorem wpList_pushB (w : World) {ops : Array Oper} {rest : List Oper} {o : Oper} {a : Act} {Q : Exit → Act → World → Prop}
    (hg : o.guard = none) (s x : Operand) (hop : o.op = Op.call { callee := Callee.builtin Builtin.append, args := #[s, x], argTypes := #[172, 172] })
    (base : Nat) (v : Value) (xs : List Nat) (hs : a.eval s = v) (hown : w.ownsRow base 5 1 v xs.length (UV xs))
    (ad : Addr) (y : Nat) (hx : a.eval x = .slice (some ad) 1 1) (hc : w.cell? ad = some (.int .u8 y)) (hlen : xs.length < 1000000) (hbase : base ≤ w.heap.size)
    (hK : ∀ v' w', w'.ownsRow base 5 1 v' (xs ++ [y]).length (UV (xs ++ [y])) → Below base w w' → wpList Tryz.prog ops Q rest (a.put o.dst v') w') :
    wpList Tryz.prog ops Q (o :: rest) a w := by
  obtain ⟨i0, hi, hz0, hz1, hz2⟩ := info_parts Tryz.infoByte
  refine wpList_append_own _ hg s x 172 hop base 5 i0 (.int .u8 0) 1 1 Tryz.underlying172 hi hz0 hz1 hz2 rfl (by decide) v xs.length (UV xs) hs hown ad 1 1 [.int .u8 y] hx rfl ?_ ?_ ?_ ?_ hbase ?_
  · intro j u hj
    match j, hj with
    | 0, hj => simp at hj; subst hj; simpa [Addr.add] using hc
  · intro u hu; simp at hu; subst hu; rfl
  · unfold maxLen; omega
  · omega
  · intro v' w' h1 h2 _
    refine hK v' w' ?_ ((Below.refl base w).grown h2 hbase (fun k e => (hown.lt k e).1))
    have e : UV (xs ++ [y]) = UV xs ++ [.int .u8 y] := by simp [UV]
    rw [e, List.length_append]; exact h1
theorem ownB_later {w w' : World} {base : Nat} {v : Value} {l : List Nat} (h : w.ownsRow base 5 1 v l.length (UV l)) (hb : Below w.heap.size w w') : w'.ownsRow base 5 1 v l.length (UV l) := by
  refine ⟨h.1, ?_⟩
  rcases h.2 with h' | ⟨g, cap, cur, h1, h2, h3, h4⟩
  · exact .inl h'
  · exact .inr ⟨g, cap, cur, h1, h2, by rw [hb.block g (lt_of_block h3)]; exact h3, h4⟩

end Go.Proofs.YtepklbboejnecaaGreat
