/- Parts: cloning a text; the table of a text; how many parts there are, and which is the n-th. -/
import Derived.Test.YtepklbboejnecaaWr
import Derived.Lib.Strings
import Derived.Lib.BufferWrite
import Derived.Lib.UnsafeStr
namespace Go.Proofs.Ytepklbboejnecaa
open Go.RowKit Go.Shelf Sedge
attribute [local go_sem ↓] Go.wp_at_zero Go.wp_at_succ

theorem Try.infoByte : (Try.prog.info? 5).map (fun i => (i.zero, i.size, i.bytes)) = some (some (.int .u8 0), 1, 1) := by kernel_rfl

set_option maxHeartbeats 4000000 in
set_option maxRecDepth 100000 in
/-- stringslite.Clone: the same bytes. -/
theorem sclone_any (s : ByteArray) (w : World) (hs : s.size ≤ 1000000) : Calls Try.prog 129 #[.string s] w fun e w' => e = .returned (.string s) ∧ Below w.heap.size w w' := by
  by_cases h0 : s.size = 0
  · have e : s = ⟨#[]⟩ := ByteArray.ext (Array.eq_empty_of_size_eq_zero h0)
    subst e
    go_enter Try.func129, Try.ntmps129
    go_wp2
    go_ret
    exact ⟨rfl, Below.refl _ _⟩
  · obtain ⟨i0, hi, hz0, hz1, hz2⟩ := info_parts Try.infoByte
    have hone : (Try.prog.info? 5).map (·.size) = some 1 := by rw [hi]; simp [hz1]
    have hcells : Try.prog.cellsOf 5 = 1 := by kernel_rfl
    obtain ⟨M, hM⟩ : ∃ M, M = madeCells (Value.int .u8 0).cells (s.size * i0.size) := ⟨_, rfl⟩
    have hMs : M.size = s.size := by rw [hM, size_madeCells, hz1]; simp
    have hmk : ∀ W : World, (Instr.makeSlice 139 (.int .i64 (s.size : Int)) (.int .i64 (s.size : Int))).run Try.prog W = .ok (.slice (some ⟨W.heap.size, 0, none⟩) s.size s.size) (W.alloc (.cells M 5)) := fun W => by
      have h := run_make (P := Try.prog) W 139 5 i0 (.int .u8 0) Try.underlying139 hi hz0 .i64 .i64 (s.size : Int) (s.size : Int) (by omega) (by omega) (by rw [hz2]; omega) (by omega)
      simp only [Int.toNat_natCast] at h
      rw [← hM] at h
      exact h
    have hcp := Lib.run_copy_row_string (P := Try.prog) (w.alloc (.cells M 5)) 139 9 3 5 w.heap.size 0 s.size s.size s M 5 Try.underlying139 hone (heap_alloc_new w _) (Nat.le_refl _) (by omega)
    obtain ⟨Y, hY⟩ : ∃ Y, Y = (M.toList.take 0 ++ Lib.byteCells s.data.toList ++ M.toList.drop (0 + s.size)).toArray := ⟨_, rfl⟩
    rw [← hY] at hcp
    have hYl : Y.toList = Lib.byteCells s.data.toList := by
      rw [hY, List.toList_toArray, List.take_zero, List.nil_append, List.drop_of_length_le (by rw [Array.length_toList]; omega), List.append_nil]
    have hYs : Y.size = s.size := by rw [← Array.length_toList, hYl, Lib.byteCells_length, ← Lib.size_eq]
    have hgY : ((w.alloc (.cells M 5)).setRow w.heap.size Y).heap[w.heap.size]? = some (.cells Y 5 (0, 0)) := setRow_heap _ _ M _ 5 (0, 0) (heap_alloc_new w _)
    have hUS := Lib.run_unsafeString_row (P := Try.prog) ((w.alloc (.cells M 5)).setRow w.heap.size Y) 170 3 9 5 Try.underlying170 hcells w.heap.size Y.size (by unfold World.shape?; rw [hgY]) s.data.toList (fun e => h0 (by rw [Lib.size_eq, e]; rfl)) (by rw [← Lib.size_eq]; omega) (by rw [← Lib.size_eq]; omega)
      (fun j x hx => Lib.cells_of_row hgY Y.size j _ (by rw [List.take_of_length_le (by rw [Array.length_toList]; exact Nat.le_refl _), hYl]; simp [Lib.byteCells, hx]))
    rw [← Lib.size_eq] at hUS
    have hne : ((s.size : Int) == 0) = false := by rw [beq_eq_false_iff_ne]; omega
    clear hY hM
    go_enter Try.func129, Try.ntmps129
    go_wp2
    go_ret
    have hb1 : Below w.heap.size w (w.alloc (.cells M 5)) := (Below.refl _ w).alloc (Nat.le_refl _) _
    have hb2 : Below w.heap.size (w.alloc (.cells M 5)) ((w.alloc (.cells M 5)).setRow w.heap.size Y) := ⟨rfl, rfl, rfl, by simp, fun k hk => setRow_other _ _ _ _ (by omega)⟩
    exact ⟨rfl, Lib.below_freeze (hb1.trans hb2) (p := ⟨w.heap.size, 0, none⟩) (Nat.le_refl _) _⟩

set_option maxHeartbeats 400000 in
/-- strings.Clone. -/
theorem clone_any (s : ByteArray) (w : World) (hs : s.size ≤ 1000000) : Calls Try.prog 94 #[.string s] w fun e w' => e = .returned (.string s) ∧ Below w.heap.size w w' := by
  go_enter Try.func94, Try.ntmps94
  go_wp2_with fail
  refine (sclone_any s w hs).mono ?_
  rintro e w1 ⟨rfl, hb⟩
  go_wp2
  go_ret
  exact ⟨rfl, hb⟩

/-- A text's table, as it is handed over. -/
abbrev tv (s : ByteArray) (ad ad' : Option Addr) (n c c' : Nat) : Value := .agg #[.string s, .slice ad n c, .slice ad' n c']

/-- What a table holds. -/
structure Tab (w : World) (s : ByteArray) (ad ad' : Option Addr) (o : List Nat) : Prop where
  ord : Sl w ad o
  com : Sl w ad' (tab o.length (cm (bl s) o))
  sa : IsSA (bl s) o
theorem Tab.later {w w' : World} {s : ByteArray} {ad ad' : Option Addr} {o : List Nat} (h : Tab w s ad ad' o) (hb : Below w.heap.size w w') : Tab w' s ad ad' o := ⟨h.ord.later hb, h.com.later hb, h.sa⟩

set_option maxHeartbeats 1000000 in
/-- 'brings'. -/
theorem brings_any (s : ByteArray) (ad ad' : Option Addr) (o : List Nat) (c c' : Nat) (i : Nat) (w : World) (hs : s.size ≤ 1000000) (h : Tab w s ad ad' o) (hi : i < o.length) :
    Calls Try.prog 93 #[tv s ad ad' o.length c c', .int .i64 i] w fun e w' => e = .returned (.int .i64 (brings (bl s) o i)) ∧ Below w.heap.size w w' := by
  obtain ⟨b, o1, rfl, hc⟩ := h.ord i hi
  obtain ⟨b', o1', rfl, hc'⟩ := h.com i (by rw [tab_length]; exact hi)
  rw [tab_num hi] at hc'
  have hlt : b < w.heap.size := cell_lt hc
  have hlt' : b' < w.heap.size := cell_lt hc'
  have hnl := h.sa.num_lt hi
  rw [bl_length] at hnl
  have hcl := cm_le (bl s) o i
  rw [bl_length] at hcl
  have HB : Hid (((brings (bl s) o i : Nat) : Int) = (s.size : Int) - num o i - cm (bl s) o i) := by
    unfold Hid; rw [brings_int (by rw [bl_length]; omega), bl_length]
  have i2 : (i : Int) < (o.length : Int) := by omega
  have i3 : (0 : Int) ≤ (i : Int) := by omega
  clear h
  go_enter Try.func93, Try.ntmps93
  go_wp2
  go_quiet (fail)
  go_wp2
  go_ret
  exact ⟨by rw [HB.out]; rfl, ((Below.refl _ _).alloc (Nat.le_refl _) _).drewN _⟩

set_option maxHeartbeats 1000000 in
/-- 'Count'. -/
theorem count_any (s : ByteArray) (ad ad' : Option Addr) (o : List Nat) (c c' : Nat) (w : World) (hs : s.size ≤ 1000000) (h : Tab w s ad ad' o) :
    Calls Try.prog 55 #[tv s ad ad' o.length c c'] w fun e w' => e = .returned (.int .i64 (many (bl s) o o.length)) ∧ Below w.heap.size w w' := by
  have hlen := h.sa.length
  rw [bl_length] at hlen
  have hon : o.length ≤ 1000000 := by omega
  have hmany : ∀ k, k ≤ o.length → many (bl s) o k ≤ 1000000000000 := fun k hk => by
    have h1 := many_le (bl s) o k
    rw [bl_length] at h1
    have h2 := Nat.mul_le_mul (show k ≤ 1000000 by omega) hs
    omega
  clear hlen
  go_enter Try.func55, Try.ntmps55
  go_wp2
  go_loopw [3, 8] (fun t i wr => ∃ k : Nat, k ≤ o.length ∧ i = .int .i64 k ∧ t = .int .i64 (many (bl s) o k) ∧ Blk wr w.heap.size 91 [.string s, .slice ad o.length c, .slice ad' o.length c'] ∧ Below w.heap.size w wr) (fun _ i _ => o.length - (intOf i).toNat)
  case atStart => exact ⟨0, Nat.zero_le _, rfl, rfl, Blk.new w _ _ rfl, (Below.refl _ _).alloc (Nat.le_refl _) _⟩
  case round =>
    obtain ⟨k, hk, rfl, rfl, hbx, hb⟩ := hrel
    obtain ⟨hx0, hx1, hx2⟩ := cells3 hbx
    by_cases hlt : k < o.length
    · have hm1 := hmany k hk
      have hm2 := hmany (k + 1) hlt
      have HM : Hid (many (bl s) o (k + 1) = many (bl s) o k + brings (bl s) o k) := rfl
      have hm3 : many (bl s) o k + brings (bl s) o k ≤ 1000000000000 := hm2
      clear hm2
      go_wp2_with fail
      refine (brings_any s ad ad' o c c' k wr hs (h.later hb) hlt).mono ?_
      rintro e w2 ⟨rfl, hb2⟩
      have hbx2 := hbx.later hb2
      have hb3 := Below.later hb hb2
      clear hbx hb hb2 hx0 hx1 hx2
      go_wp2
      go_roundw
      case rel => exact ⟨k + 1, by omega, by go_num, by rw [HM.out]; go_num, hbx2, hb3⟩
      case measure => simp [intOf]; omega
    · have : k = o.length := by omega
      subst this
      go_wp2
      go_ret
      exact ⟨rfl, hb⟩
end Go.Proofs.Ytepklbboejnecaa
