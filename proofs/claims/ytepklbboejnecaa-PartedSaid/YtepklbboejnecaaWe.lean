/- Slopes: the small functions of a sloped row. -/
import Derived.Test.YtepklbboejnecaaWd
import Derived.Deep.RegionHeld3
import Derived.Deep.DrawnRows
namespace Go.RowKit
theorem Below.drewN {B : Nat} {a w : World} (h : Below B a w) (n : Nat) : Below B a (w.drewN n) := h.trans ⟨rfl, rfl, rfl, Nat.le_refl _, fun _ _ => rfl⟩
end Go.RowKit
namespace Go.Proofs.Ytepklbboejnecaa
open Go.RowKit Sedge
attribute [local go_sem ↓] Go.wp_at_zero Go.wp_at_succ


/-- The slopes of a row, as a list. -/
def slopes (l : List Nat) : List Nat := tab l.length (slope l)
theorem slopes_length (l : List Nat) : (slopes l).length = l.length := tab_length _ _
theorem slopes_num {l : List Nat} {p : Nat} (h : p < l.length) : num (slopes l) p = slope l p := tab_num h

/-- A row with its slopes, as it is handed over. -/
abbrev slv (ad ad' : Option Addr) (n c c' : Nat) (kinds : Int) : Value := .agg #[.slice ad n c, .int .i64 kinds, .slice ad' n c']

set_option maxHeartbeats 400000 in
/-- 'bucket'. -/
theorem bucket_any (ad ad' : Option Addr) (l : List Nat) (c c' : Nat) (kinds : Int) (p : Nat) (w : World) (hl : Sl w ad l) (hs : Sl w ad' (slopes l)) (hp : p < l.length) (_hv : num l p ≤ 1000000) :
    Calls Try.prog 117 #[slv ad ad' l.length c c' kinds, .int .i64 p] w fun e w' => e = .returned (.int .i64 (buck l p)) ∧ Below w.heap.size w w' := by
  obtain ⟨b, o, rfl, hc⟩ := hl p hp
  obtain ⟨b', o', rfl, hc'⟩ := hs p (by rw [slopes_length]; exact hp)
  rw [slopes_num hp] at hc'
  have hlt := cell_lt hc
  have hlt' := cell_lt hc'
  have hsl := slope_le l p
  have i1 : (0 : Int) ≤ (p : Int) := by omega
  have i2 : (p : Int) < (l.length : Int) := by omega
  have hb : ((buck l p : Nat) : Int) = (num l p : Int) * 2 + (slope l p : Int) := by unfold buck; omega
  unfold slv
  go_enter Try.func117, Try.ntmps117
  go_wp2
  go_quiet (fail)
  go_wp2
  go_ret
  exact ⟨by simp [hb], ((Below.refl _ _).alloc (Nat.le_refl _) _).drewN _⟩

theorem isSt_first (l : List Nat) : isSt l 0 = false := by simp [isSt]

set_option maxHeartbeats 400000 in
/-- 'isStart'. -/
theorem isStart_any (ad ad' : Option Addr) (l : List Nat) (c c' : Nat) (kinds : Int) (p : Nat) (w : World) (hs : Sl w ad' (slopes l)) (hp : p < l.length) (_hn : l.length ≤ 1000000) :
    Calls Try.prog 116 #[slv ad ad' l.length c c' kinds, .int .i64 p] w fun e w' => e = .returned (.bool (isSt l p)) ∧ Below w.heap.size w w' := by
  unfold slv
  by_cases h0 : p = 0
  · subst h0
    rw [isSt_first, Int.natCast_zero]
    go_enter Try.func116, Try.ntmps116
    go_wp2
    go_ret
    exact ⟨rfl, (Below.refl _ _).alloc (Nat.le_refl _) _⟩
  · obtain ⟨b', o', rfl, hc'⟩ := hs p (by rw [slopes_length]; exact hp)
    rw [slopes_num hp] at hc'
    obtain ⟨b2, o2, e2, hc2⟩ := hs (p - 1) (by rw [slopes_length]; omega)
    simp only [Option.some.injEq, Addr.mk.injEq, and_true] at e2
    obtain ⟨rfl, rfl⟩ := e2
    rw [slopes_num (by omega)] at hc2
    have hlt' := cell_lt hc'
    have hpos : (0 : Int) < (p : Int) := by omega
    have hsl := slope_le l p
    have hsl2 := slope_le l (p - 1)
    by_cases h1 : slope l p = 0
    · rw [h1, Int.natCast_zero] at hc'
      by_cases h2 : slope l (p - 1) = 1
      · have hi : isSt l p = true := by simp [isSt, h1, h2, show 0 < p by omega]
        rw [h2, Int.natCast_one] at hc2
        clear h1 h2
        go_enter Try.func116, Try.ntmps116
        go_wp2
        go_ret
        exact ⟨by simp, (Below.refl _ _).alloc (Nat.le_refl _) _⟩
      · have h2' : slope l (p - 1) = 0 := by omega
        have hi : isSt l p = false := by simp [isSt, h2]
        rw [h2', Int.natCast_zero] at hc2
        clear h1 h2 h2'
        go_enter Try.func116, Try.ntmps116
        go_wp2
        go_ret
        exact ⟨by simp, (Below.refl _ _).alloc (Nat.le_refl _) _⟩
    · have h1' : slope l p = 1 := by omega
      have hi : isSt l p = false := by simp [isSt, h1]
      rw [h1', Int.natCast_one] at hc'
      clear h1 h1'
      go_enter Try.func116, Try.ntmps116
      go_wp2
      go_ret
      exact ⟨rfl, (Below.refl _ _).alloc (Nat.le_refl _) _⟩

/-- 'append(s, x)' of one number to a slice of the call's own. -/
theorem wpList_push (w : World) {ops : Array Oper} {rest : List Oper} {o : Oper} {a : Act} {Q : Exit → Act → World → Prop}
    (hg : o.guard = none) (s x : Operand) (hop : o.op = Op.call { callee := Callee.builtin Builtin.append, args := #[s, x], argTypes := #[36, 36] })
    (base : Nat) (v : Value) (xs : List Nat) (hs : a.eval s = v) (hown : w.ownsRow base 3 1 v xs.length (IV xs))
    (ad : Addr) (y : Nat) (hx : a.eval x = .slice (some ad) 1 1) (hc : w.cell? ad = some (.int .i64 y)) (hlen : xs.length < 1000000) (hbase : base ≤ w.heap.size)
    (hK : ∀ v' w', w'.ownsRow base 3 1 v' (xs ++ [y]).length (IV (xs ++ [y])) → Below base w w' → wpList Try.prog ops Q rest (a.put o.dst v') w') :
    wpList Try.prog ops Q (o :: rest) a w := by
  obtain ⟨i0, hi, hz0, hz1, hz2⟩ := info_parts Try.infoInt
  refine wpList_append_own _ hg s x 36 hop base 3 i0 (.int .i64 0) 1 8 Try.underlying36 hi hz0 hz1 hz2 rfl (by decide) v xs.length (IV xs) hs hown ad 1 1 [.int .i64 y] hx rfl ?_ ?_ ?_ ?_ hbase ?_
  · intro j u hj
    match j, hj with
    | 0, hj => simp at hj; subst hj; simpa [Addr.add] using hc
  · intro u hu; simp at hu; subst hu; rfl
  · unfold maxLen; omega
  · omega
  · intro v' w' h1 h2 _
    refine hK v' w' ?_ ((Below.refl base w).grown h2 hbase (fun k e => (hown.lt k e).1))
    have e : IV (xs ++ [y]) = IV xs ++ [.int .i64 y] := by simp [IV]
    rw [e, List.length_append]; exact h1

theorem own_later {w w' : World} {base : Nat} {v : Value} {l : List Nat} (h : w.ownsRow base 3 1 v l.length (IV l)) (hb : Below w.heap.size w w') : w'.ownsRow base 3 1 v l.length (IV l) := by
  refine ⟨h.1, ?_⟩
  rcases h.2 with h' | ⟨g, cap, cur, h1, h2, h3, h4⟩
  · exact .inl h'
  · exact .inr ⟨g, cap, cur, h1, h2, by rw [hb.block g (lt_of_block h3)]; exact h3, h4⟩
theorem own_mono {w : World} {base base' : Nat} {v : Value} {l : List Nat} (h : w.ownsRow base 3 1 v l.length (IV l)) (hb : base' ≤ base) : w.ownsRow base' 3 1 v l.length (IV l) := by
  refine ⟨h.1, ?_⟩
  rcases h.2 with h' | ⟨g, cap, cur, h1, h2, h3⟩
  · exact .inl h'
  · exact .inr ⟨g, cap, cur, h1, by omega, h3⟩
/-- What is owned can be read. -/
theorem own_sl {w : World} {base : Nat} {v : Value} {l : List Nat} (h : w.ownsRow base 3 1 v l.length (IV l)) : ∃ ad c, v = .slice ad l.length c ∧ Sl w ad l := by
  rcases h.2 with ⟨h1, h2⟩ | ⟨g, cap, cur, h1, h2, h3, h4, h5, h6, h7⟩
  · exact ⟨none, 0, by rw [h1, h2], fun k hk => by omega⟩
  · refine ⟨some ⟨g, 0, none⟩, cap, h1, fun k hk => ⟨g, 0, rfl, ?_⟩⟩
    rw [cell_of_row w g _ _ _ _ h3, Nat.zero_add]
    have e : cur[k]? = (cur.toList.take (l.length * 1))[k]? := by rw [List.getElem?_take, if_pos (by omega)]; simp
    rw [e, h7]; simp [IV, num, List.getD, hk]

set_option maxHeartbeats 400000 in
/-- 'onlyStarts'. -/
theorem onlyStarts_any (ad ad' ad2 : Option Addr) (l o : List Nat) (c c' c2 : Nat) (kinds : Int) (w : World) (hs : Sl w ad' (slopes l)) (ho : Sl w ad2 o) (hM : ∀ k, k < o.length → num o k < l.length) (hn : l.length ≤ 1000000) (hno : o.length ≤ 1000000) :
    Calls Try.prog 83 #[slv ad ad' l.length c c' kinds, .slice ad2 o.length c2] w fun e w' =>
      ∃ v, e = .returned v ∧ w'.ownsRow w.heap.size 3 1 v (o.filter (isSt l)).length (IV (o.filter (isSt l))) ∧ Below w.heap.size w w' := by
  obtain ⟨i0, hi, hz0, hz1, hz2⟩ := info_parts Try.infoInt
  unfold slv
  go_enter Try.func83, Try.ntmps83
  go_wp2
  go_loopw [5, 10] (fun v i wr => ∃ k : Nat, k ≤ o.length ∧ i = .int .i64 k ∧ wr.ownsRow (w.heap.size + 1) 3 1 v ((o.take k).filter (isSt l)).length (IV ((o.take k).filter (isSt l))) ∧ Blk wr w.heap.size 131 [.slice ad l.length c, .int .i64 kinds, .slice ad' l.length c'] ∧ Below w.heap.size w wr) (fun _ i _ => o.length - (intOf i).toNat)
  case atStart => exact ⟨0, Nat.zero_le _, rfl, World.ownsRow_nil _ _ _ _, by unfold Blk; rw [heap_alloc_new], (Below.refl _ _).alloc (Nat.le_refl _) _⟩
  case round =>
    obtain ⟨k, hk, rfl, hown, hbx, hb⟩ := hrel
    by_cases hlt : k < o.length
    · obtain ⟨b, o1, rfl, hc⟩ := ho k hlt
      have hc' := (hb.cell (cell_lt hc)).trans hc
      have hx0 := Blk.cell hbx (k := 0) (by simp)
      have hx1 := Blk.cell hbx (k := 1) (by simp)
      have hx2 := Blk.cell hbx (k := 2) (by simp)
      simp only [List.getElem_cons_zero, List.getElem_cons_succ] at hx0 hx1 hx2
      have hMk := hM k hlt
      go_wp2_with fail
      refine (isStart_any ad ad' l c c' kinds (num o k) wr (hs.later hb) hMk hn).mono ?_
      rintro e w2 ⟨rfl, hb2⟩
      have hown2 := own_later hown hb2
      have hbx2 := hbx.later hb2
      have hb3 := Below.later hb hb2
      have hts : (o.take (k + 1)).filter (isSt l) = if isSt l (num o k) then (o.take k).filter (isSt l) ++ [num o k] else (o.take k).filter (isSt l) := by
        rw [take_num hlt, List.filter_append]
        by_cases e : isSt l (num o k) = true
        · simp [e]
        · simp [e]
      have hlen : ((o.take k).filter (isSt l)).length < 1000000 := by have := List.length_filter_le (isSt l) (o.take k); rw [List.length_take] at this; omega
      have hsz : w.heap.size + 1 ≤ w2.heap.size := by have := hbx2.lt; omega
      have HTS : Hid ((o.take (k + 1)).filter (isSt l) = if isSt l (num o k) then (o.take k).filter (isSt l) ++ [num o k] else (o.take k).filter (isSt l)) := hts
      clear hown hbx hb hb2 hx0 hx1 hx2 hc hc' hts
      by_cases hst : isSt l (num o k) = true
      · go_wp2_with (first | (at_builtin; refine wpList_push _ rfl _ _ rfl (w.heap.size + 1) _ _ rfl (hown2.alloc _) ⟨w2.heap.size, 0, none⟩ (num o k) rfl (by simp) hlen (by simp; omega) ?_; intro v' w3 hown3 hb4) | fail)
        go_roundw
        case rel =>
          have hts := HTS.out
          rw [if_pos hst] at hts
          refine ⟨k + 1, by omega, by go_num, by rw [hts]; exact hown3, (hbx2.alloc _).below hb4 (by omega), ?_⟩
          exact (hb3.alloc hb3.size _).trans (hb4.mono (by omega))
        case measure => simp [intOf]; omega
      · have hst' : isSt l (num o k) = false := by simpa using hst
        go_wp2
        go_roundw
        case rel =>
          have hts := HTS.out
          rw [if_neg hst] at hts
          exact ⟨k + 1, by omega, by go_num, by rw [hts]; exact hown2, hbx2, hb3⟩
        case measure => simp [intOf]; omega
    · have : k = o.length := by omega
      subst this
      rw [List.take_length] at hown
      go_wp2
      go_ret
      exact ⟨_, rfl, own_mono hown (by omega), hb⟩
end Go.Proofs.Ytepklbboejnecaa
