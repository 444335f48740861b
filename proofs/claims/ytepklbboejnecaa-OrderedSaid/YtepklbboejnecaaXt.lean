/- Ordered. -/
import Derived.Test.YtepklbboejnecaaXs
import Derived.Test.YtepklbboejnecaaXl
import Derived.Test.YtepklbboejnecaaXd
namespace Go.Proofs.Ytepklbboejnecaa
open Go.RowKit Go.Shelf Sedge
attribute [local go_sem ↓] Go.wp_at_zero Go.wp_at_succ

theorem not_app_lt : ∀ (a b : List Nat), ¬ a ++ b < a
  | [], b => List.not_lt_nil b
  | x :: a, b => fun h => by
    rw [List.cons_append, List.cons_lt_cons_iff] at h
    rcases h with h | ⟨_, h⟩
    · omega
    · exact not_app_lt a b h
/-- Where two neighbours part. -/
theorem parts_at {l : List Nat} {p q : Nat} (hp : p < l.length) (hq : q < l.length) (h : suf l p q) :
    q + lcp (l.drop q) (l.drop p) < l.length ∧ p + lcp (l.drop q) (l.drop p) ≤ l.length ∧ (l.drop p).take (lcp (l.drop q) (l.drop p)) = (l.drop q).take (lcp (l.drop q) (l.drop p)) ∧ (p + lcp (l.drop q) (l.drop p) < l.length → num l (p + lcp (l.drop q) (l.drop p)) < num l (q + lcp (l.drop q) (l.drop p))) := by
  have h1 := lcp_le_left (l.drop q) (l.drop p)
  have h2 := lcp_le_right (l.drop q) (l.drop p)
  have h3 := (take_of_lcp (l.drop q) (l.drop p) _ (Nat.le_refl _)).symm
  have h4 := (lcp_eq_iff (l.drop q) (l.drop p) (lcp (l.drop q) (l.drop p))).1 (Nat.le_refl _)
  have h5 := lcp_eq_iff (l.drop q) (l.drop p) (lcp (l.drop q) (l.drop p) + 1)
  generalize lcp (l.drop q) (l.drop p) = m at *
  rw [List.length_drop] at h1 h2
  have nd : ∀ a j, a + j < l.length → num (l.drop a) j = num l (a + j) := fun a j hj => by
    rw [num_eq (by rw [List.length_drop]; omega), num_eq hj, List.getElem_drop]
  have hqm : q + m < l.length := by
    by_cases c : q + m < l.length
    · exact c
    · have e : (l.drop q).take m = l.drop q := List.take_of_length_le (by rw [List.length_drop]; omega)
      rw [e] at h3
      unfold suf at h
      rw [← h3] at h
      have := not_app_lt ((l.drop p).take m) ((l.drop p).drop m)
      rw [List.take_append_drop] at this
      exact absurd h this
  refine ⟨hqm, by omega, h3, fun hpm => ?_⟩
  have := (lt_at m (X := l.drop p) (Y := l.drop q) (by rw [List.length_drop]; omega) (by rw [List.length_drop]; omega) (fun j hj => (h4.2.2 j hj).symm)).1 h
  rw [nd p m hpm, nd q m hqm] at this
  rcases this with c | ⟨c, _⟩
  · exact c
  · exfalso
    have := h5.2 ⟨by rw [List.length_drop]; omega, by rw [List.length_drop]; omega, fun j hj => by
      by_cases e : j = m
      · rw [e, nd p m hpm, nd q m hqm, c]
      · exact h4.2.2 j (by omega)⟩
    omega

theorem not_mem_take {o : List Nat} (hnd : o.Nodup) {k : Nat} (hk : k < o.length) : num o k ∉ o.take k := by
  have := hnd.sublist (List.take_sublist (k + 1) o)
  rw [take_num hk, List.nodup_append] at this
  exact fun h => this.2.2 _ h _ (by simp) rfl

theorem idx_str (s : ByteArray) (p m : Nat) (h : p + m < s.size) : ∀ w, (Instr.index 9 (.string s) (.int .i64 ((p : Int) + (m : Int)))).run Try.prog w = .ok (.int .u8 ((s[p + m].toNat : Nat) : Int)) w := fun w => by
  have e : (p : Int) + (m : Int) = ((p + m : Nat) : Int) := by omega
  rw [e, run_index_string _ _ _ _ _ Try.underlying9, dif_pos ⟨by omega, by omega⟩]
  simp only [Int.toNat_natCast]

/-- A row of truth values. -/
def BV (n : Nat) (f : Nat → Bool) : List Value := (List.range n).map fun p => .bool (f p)
theorem BV_length (n : Nat) (f : Nat → Bool) : (BV n f).length = n := by simp [BV]
theorem BV_set {n k : Nat} {f : Nat → Bool} : (BV n f).set k (.bool true) = BV n fun p => if p = k then true else f p := by
  apply List.ext_getElem?
  intro i
  by_cases hi : i < n
  · by_cases e : k = i
    · subst e; simp [BV, hi]
    · rw [List.getElem?_set_ne e]
      simp [BV, hi]
      exact fun h => absurd h.symm e
  · rw [List.getElem?_eq_none (by rw [List.length_set, BV_length]; omega), List.getElem?_eq_none (by rw [BV_length]; omega)]
theorem Try.infoBool : (Try.prog.info? 4).map (fun i => (i.zero, i.size, i.bytes)) = some (some (.bool false), 1, 1) := by kernel_rfl
theorem run_make_bool (n : Nat) (hn : n ≤ 1000000) (w : World) : (Instr.makeSlice 41 (.int .i64 (n : Int)) (.int .i64 (n : Int))).run Try.prog w = .ok (.slice (some ⟨w.heap.size, 0, none⟩) n n) (w.alloc (.cells (BV n fun _ => false).toArray 4)) := by
  obtain ⟨i0, hi, hz0, hz1, hz2⟩ := info_parts Try.infoBool
  have hr := run_make (P := Try.prog) w 41 4 i0 (.bool false) Try.underlying41 hi hz0 .i64 .i64 n n (by omega) (Int.le_refl _) (by rw [hz2]; omega) (by omega)
  simp only [Int.toNat_natCast] at hr
  rw [hr]
  have e : (madeCells (Value.bool false).cells (n * i0.size)) = (BV n fun _ => false).toArray := by
    rw [hz1]
    apply Array.ext'
    have := toList_madeCells_one (.bool false) n
    simp only [Value.cells, Nat.mul_one] at this ⊢
    rw [this]
    simp [BV, List.map_const']
  rw [e]

set_option maxRecDepth 100000 in
set_option maxHeartbeats 8000000 in
theorem ordered_of (raw : ByteArray) (w : World) (s : ByteArray) (hcut : cutTo raw = s) (hs : s.size ≤ 1000) (o : List Nat) (ho : IsSA (bl s) o) :
    Calls Try.prog 5 #[.string raw] w fun e w' => e = .returned (.bool true) ∧ Below w.heap.size w w' := by
  have HC : Hid (cutTo raw = s) := hcut
  have HO : Hid _ := ho
  have hmk := run_make_bool s.size (by omega)
  have HMK : Hid _ := hmk
  clear hcut ho hmk
  go_enter Try.func5, Try.ntmps5
  go_wp2_with fail
  refine (short_any raw w).mono ?_
  rintro e w0 ⟨rfl, rfl⟩
  rw [HC.out]
  go_wp2_with fail
  refine (awake_any _).mono ?_
  rintro e w1 ⟨rfl, b1⟩
  go_wp2_with fail
  refine (sort0_any s _ hs).mono ?_
  rintro e w2 ⟨v2, o2, rfl, hw2, hsa2, b2⟩
  have e2 := IsSA.unique hsa2 HO.out
  subst e2
  obtain ⟨a2, c2, rfl, hS2⟩ := own_sl hw2
  have b02 := Below.later b1 b2
  clear b1 b2 hsa2 hw2
  go_wp2_with fail
  refine (sort1_any s _ hs).mono ?_
  rintro e w3 ⟨v3, o3, rfl, hw3, hsa3, b3⟩
  have e3 := IsSA.unique hsa3 HO.out
  subst e3
  obtain ⟨a3, c3, rfl, hS3⟩ := own_sl hw3
  have hS23 := hS2.later b3
  have b03 := Below.later b02 b3
  clear b02 b3 hsa3 hw3 hS2
  go_wp2_with fail
  refine (sort2_any s _ hs).mono ?_
  rintro e w4 ⟨v4, o4, rfl, hw4, hsa4, b4⟩
  have e4 := IsSA.unique hsa4 HO.out
  subst e4
  obtain ⟨a4, c4, rfl, hS4⟩ := own_sl hw4
  have hS24 := hS23.later b4
  have hS34 := hS3.later b4
  have b04 := Below.later b03 b4
  clear b03 b4 hsa4 hw4 hS23 hS3
  go_wp2_with fail
  refine (Common_any s _ hs o4 HO.out).mono ?_
  rintro e w5 ⟨v5, rfl, hw5, b5⟩
  have hw5' : w5.ownsRow w4.heap.size 3 1 v5 (tab o4.length (cm (bl s) o4)).length (IV (tab o4.length (cm (bl s) o4))) := by rw [tab_length]; exact hw5
  obtain ⟨a5, c5, rfl, hS5⟩ := own_sl hw5'
  rw [tab_length]
  have hS25 := hS24.later b5
  have hS35 := hS34.later b5
  have hS45 := hS4.later b5
  have b05 := Below.later b04 b5
  have hol : o4.length = s.size := by have := IsSA.length HO.out; rwa [bl_length] at this
  have HOL : Hid _ := hol
  rw [hol]
  have hmk := HMK.out
  clear b04 b5 hS24 hS34 hS4 hw5 hw5' hol HC
  go_wp2_with fail
  go_loopw [15] (fun i wr => ∃ k : Nat, k ≤ s.size ∧ i = .int .i64 k ∧ Blk wr w5.heap.size 4 (BV s.size fun p => decide (p ∈ o4.take k)) ∧ Below w5.heap.size w5 wr) (fun i _ => s.size - (intOf i).toNat)
  case atStart => exact ⟨0, Nat.zero_le _, rfl, by simpa using Blk.new w5 (BV s.size fun _ => false) 4 rfl, (Below.refl _ _).alloc (Nat.le_refl _) _⟩
  case round =>
    obtain ⟨k, hk, rfl, hB, hb⟩ := hrel
    clear hmk
    by_cases hlt : k < s.size
    · have hko : k < o4.length := by rw [HOL.out]; exact hlt
      obtain ⟨q2, p2, rfl, hc2⟩ := hS25 k hko
      obtain ⟨q3, p3, rfl, hc3⟩ := hS35 k hko
      obtain ⟨q4, p4, rfl, hc4⟩ := hS45 k hko
      obtain ⟨q5, p5, rfl, hc5⟩ := hS5 k (by rw [tab_length]; exact hko)
      rw [tab_num hko] at hc5
      have l2 := cell_lt hc2
      have l5 := cell_lt hc5
      have n2 : ¬ w5.heap.size = q2 := by dsimp only at l2; omega
      have n2' : ¬ q2 = w5.heap.size := by dsimp only at l2; omega
      have n5 : ¬ w5.heap.size = q5 := by dsimp only at l5; omega
      have n5' : ¬ q5 = w5.heap.size := by dsimp only at l5; omega
      have d2 := (hb.cell l2).trans hc2
      have d3 := (hb.cell (cell_lt hc3)).trans hc3
      have d4 := (hb.cell (cell_lt hc4)).trans hc4
      have d5 := (hb.cell (cell_lt hc5)).trans hc5
      have hq : num o4 k < s.size := by have := (HO.out.2 _).1 (num_mem hko); rwa [bl_length] at this
      have hns : num o4 k ∉ o4.take k := not_mem_take (IsSA.nodup HO.out) hko
      have hcs : wr.cell? ⟨w5.heap.size, num o4 k, none⟩ = some (.bool false) := by
        rw [hB.cell (by rw [BV_length]; exact hq)]
        simp [BV, hns]
      have hfs := hB.free (num o4 k)
      have hBn : Blk (wr.setCell ⟨w5.heap.size, num o4 k, none⟩ (.bool true)) w5.heap.size 4 (BV s.size fun p => decide (p ∈ o4.take (k + 1))) := by
        have := hB.set (num o4 k) (.bool true)
        rw [BV_set] at this
        have e : (fun p => if p = num o4 k then true else decide (p ∈ o4.take k)) = fun p => decide (p ∈ o4.take (k + 1)) := by
          funext p
          have := mem_take_succ (p := p) hko
          by_cases e1 : p = num o4 k
          · rw [if_pos e1, decide_eq_true (this.2 (Or.inr e1))]
          · rw [if_neg e1]
            exact decide_eq_decide.2 ⟨fun h => this.2 (Or.inl h), fun h => (this.1 h).resolve_right e1⟩
        rwa [e] at this
      have hbn : Below w5.heap.size w5 (wr.setCell ⟨w5.heap.size, num o4 k, none⟩ (.bool true)) := hb.setCell (p := ⟨w5.heap.size, num o4 k, none⟩) (Nat.le_refl _) _
      have i1 : (k : Int) < (s.size : Int) := by omega
      have i2 : (0 : Int) ≤ (k : Int) := by omega
      have i3 : decide ((num o4 k : Int) < 0) = false := by simp
      have i4 : decide ((s.size : Int) ≤ (num o4 k : Int)) = false := by simp; omega
      have i5 : (num o4 k : Int) < (s.size : Int) := by omega
      have i6 : (0 : Int) ≤ (num o4 k : Int) := by omega
      have i7 : decide ((cm (bl s) o4 k : Int) < 0) = false := by simp
      have HBN : Hid (∀ N, Blk ((wr.drewN N).setCell ⟨w5.heap.size, num o4 k, none⟩ (.bool true)) w5.heap.size 4 (BV s.size fun p => decide (p ∈ o4.take (k + 1)))) := fun N => hBn
      have HbN : Hid (∀ N, Below w5.heap.size w5 ((wr.drewN N).setCell ⟨w5.heap.size, num o4 k, none⟩ (.bool true))) := fun N => (hb.drewN N).setCell (p := ⟨w5.heap.size, num o4 k, none⟩) (Nat.le_refl _) _
      clear hc2 hc3 hc4 hc5 hB hBn hbn hns
      by_cases h0 : k = 0
      · have hcm : cm (bl s) o4 k = 0 := by rw [h0]; rfl
        rw [hcm] at d5
        have hk0 : ((k : Int) == 0) = true := by rw [h0]; rfl
        clear hcm i7 h0
        go_wp2
        go_quiet (fail)
        go_wp2_with fail
        go_roundw
        case rel => exact ⟨k + 1, by omega, by go_num, HBN.out _, HbN.out _⟩
        case measure => simp [intOf]; omega
      · have hk1 : k - 1 < o4.length := by omega
        obtain ⟨q6, p6, e6, hc6⟩ := hS25 (k - 1) hk1
        simp only [Option.some.injEq, Addr.mk.injEq, and_true] at e6
        obtain ⟨rfl, rfl⟩ := e6
        have d6 := (hb.cell (cell_lt hc6)).trans hc6
        have hp : num o4 (k - 1) < s.size := by have := (HO.out.2 _).1 (num_mem hk1); rwa [bl_length] at this
        have hsuf : suf (bl s) (num o4 (k - 1)) (num o4 k) := IsSA.lt HO.out (by omega) hko
        have PA := parts_at (by rw [bl_length]; exact hp) (by rw [bl_length]; exact hq) hsuf
        have ecm : lcp ((bl s).drop (num o4 k)) ((bl s).drop (num o4 (k - 1))) = cm (bl s) o4 k := by unfold cm; rw [if_neg h0]
        rw [ecm, bl_length] at PA
        obtain ⟨m, hm⟩ : ∃ m, m = cm (bl s) o4 k := ⟨_, rfl⟩
        obtain ⟨p, hpe⟩ : ∃ p, p = num o4 (k - 1) := ⟨_, rfl⟩
        rw [← hm] at PA i7 d5
        rw [← hpe] at PA d6 hp
        obtain ⟨a1, a2, a3, a4⟩ := PA
        clear ecm hsuf hm hpe hc6
        have hex : s.extract p (p + m) = s.extract (num o4 k) (num o4 k + m) := by
          apply bl_inj
          rw [bl_extract2, bl_extract2]
          exact a3
        have heq : ((s.extract p (p + m)).toList == (s.extract (num o4 k) (num o4 k + m)).toList) = true := by rw [hex]; simp
        have hk0 : ((k : Int) == 0) = false := by rw [beq_eq_false_iff_ne]; omega
        have v1 : IntKind.i64.wrap ((k : Int) - 1) = ((k - 1 : Nat) : Int) := by rw [IntKind.wrap_i64]; omega
        have v2 : IntKind.i64.wrap ((num o4 k : Int) + (m : Int)) = (num o4 k : Int) + (m : Int) := by rw [IntKind.wrap_i64]; omega
        have v3 : IntKind.i64.wrap ((p : Int) + (m : Int)) = (p : Int) + (m : Int) := by rw [IntKind.wrap_i64]; omega
        have j1 : ((k - 1 : Nat) : Int) < (s.size : Int) := by omega
        have j2 : decide ((s.size : Int) < (num o4 k : Int) + (m : Int)) = false := by simp; omega
        have j3 : decide ((s.size : Int) < (p : Int) + (m : Int)) = false := by simp; omega
        have j4 : (p : Int) ≤ (p : Int) + (m : Int) := by omega
        have j5 : (num o4 k : Int) ≤ (num o4 k : Int) + (m : Int) := by omega
        have j6 : (p : Int) + (m : Int) ≤ (s.size : Int) := by omega
        have j7 : (num o4 k : Int) + (m : Int) ≤ (s.size : Int) := by omega
        have j8 : ((num o4 k : Int) + (m : Int) == (s.size : Int)) = false := by rw [beq_eq_false_iff_ne]; omega
        have HA3 : Hid _ := a3
        have HA4 : Hid _ := a4
        clear a3 a4 hex
        by_cases hpm : p + m < s.size
        · have j9 : (p : Int) + (m : Int) < (s.size : Int) := by omega
          have j10 : (num o4 k : Int) + (m : Int) < (s.size : Int) := by omega
          have hby := HA4.out hpm
          rw [bl_num hpm, bl_num (by omega)] at hby
          have j11 : ¬ s[num o4 k + m].toNat ≤ s[p + m].toNat := by omega
          have x1 := idx_str s p m hpm
          have x2 := idx_str s (num o4 k) m (by omega)
          clear hby
          go_wp2
          go_quiet (fail)
          go_wp2_with fail
          go_quiet (fail)
          go_wp2_with fail
          go_quiet (fail)
          go_wp2_with fail
          go_roundw
          case rel => exact ⟨k + 1, by omega, by go_num, HBN.out _, (HbN.out _).drewN _⟩
          case measure => simp [intOf]; omega
        · have j9 : decide ((p : Int) + (m : Int) < (s.size : Int)) = false := by simp; omega
          go_wp2
          go_quiet (fail)
          go_wp2_with fail
          go_quiet (fail)
          go_wp2_with fail
          go_quiet (fail)
          go_wp2_with fail
          go_roundw
          case rel => exact ⟨k + 1, by omega, by go_num, HBN.out _, (HbN.out _).drewN _⟩
          case measure => simp [intOf]; omega
    · have i1 : ¬ (k : Int) < (s.size : Int) := by omega
      go_wp2
      go_ret
      exact ⟨rfl, Below.later b05 hb⟩

theorem ordered_any (raw : ByteArray) (w : World) : Calls Try.prog 5 #[.string raw] w fun e w' => e = .returned (.bool true) ∧ Below w.heap.size w w' := by
  obtain ⟨o, ho⟩ := exists_SA (bl (cutTo raw))
  exact ordered_of raw w _ rfl (cutTo_size raw) o ho
end Go.Proofs.Ytepklbboejnecaa
