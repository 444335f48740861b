/- Thirds: the places of a class; the others. -/
import Derived.Test.YtepklbboejnecaaXf
namespace Go.Proofs.Ytepklbboejnecaa
open Go.RowKit Go.Shelf Sedge
attribute [local go_sem ↓] Go.wp_at_zero Go.wp_at_succ

set_option maxHeartbeats 1000000 in
/-- 'ofClass'. -/
theorem ofClass_any (ad : Option Addr) (n c k : Nat) (kinds : Int) (w : World) (hn : n ≤ 100000) (hk3 : k < 3) :
    Calls Try.prog 121 #[.agg #[.slice ad n c, .int .i64 kinds], .int .i64 k] w fun e w' =>
      ∃ v, e = .returned v ∧ w'.ownsRow w.heap.size 3 1 v (ofC n k).length (IV (ofC n k)) ∧ Below w.heap.size w w' := by
  obtain ⟨i0, hi, hz0, hz1, hz2⟩ := info_parts Try.infoInt
  go_enter Try.func121, Try.ntmps121
  go_wp2
  go_loopw [5, 10] (fun v i wr => ∃ j : Nat, j ≤ n ∧ i = .int .i64 j ∧ wr.ownsRow (w.heap.size + 1) 3 1 v ((List.range j).filter (fun p => (n - p) % 3 == k)).length (IV ((List.range j).filter (fun p => (n - p) % 3 == k))) ∧ Blk wr w.heap.size 87 [.slice ad n c, .int .i64 kinds] ∧ Below w.heap.size w wr) (fun _ i _ => n - (intOf i).toNat)
  case atStart => exact ⟨0, Nat.zero_le _, rfl, World.ownsRow_nil _ _ _ _, by unfold Blk; rw [heap_alloc_new], (Below.refl _ _).alloc (Nat.le_refl _) _⟩
  case round =>
    obtain ⟨j, hj, rfl, hown, hbx, hb⟩ := hrel
    by_cases hlt : j < n
    · obtain ⟨hx0, hx1⟩ := cells2 hbx
      have i2 : (j : Int) < (n : Int) := by omega
      go_wp2_with fail
      refine (class_any ad n c kinds (j : Int) wr (by omega) (by omega) hn).mono ?_
      rintro e w2 ⟨rfl, hb2⟩
      have hown2 := own_later hown hb2
      have hbx2 := hbx.later hb2
      have hb3 := Below.later hb hb2
      have hts : (List.range (j + 1)).filter (fun p => (n - p) % 3 == k) = if (n - j) % 3 = k then (List.range j).filter (fun p => (n - p) % 3 == k) ++ [j] else (List.range j).filter (fun p => (n - p) % 3 == k) := by
        rw [List.range_succ, List.filter_append]
        by_cases e : (n - j) % 3 = k
        · simp [e]
        · simp [e]
      have hlen : ((List.range j).filter (fun p => (n - p) % 3 == k)).length < 1000000 := by have := List.length_filter_le (fun p => (n - p) % 3 == k) (List.range j); rw [List.length_range] at this; omega
      have hsz : w.heap.size + 1 ≤ w2.heap.size := by have := hbx2.lt; omega
      have HTS : Hid _ := hts
      clear hown hbx hb hb2 hx0 hx1 hts
      by_cases hst : (n - j) % 3 = k
      · have hst' : ((n : Int) - (j : Int)) % 3 = (k : Int) := by omega
        have HST : Hid ((n - j) % 3 = k) := hst
        clear hst
        go_wp2_with (first | (at_builtin; refine wpList_push _ rfl _ _ rfl (w.heap.size + 1) _ _ rfl (hown2.alloc _) ⟨w2.heap.size, 0, none⟩ j rfl (by simp) hlen (by simp; omega) ?_; intro v' w3 hown3 hb4) | fail)
        go_roundw
        case rel =>
          have hts := HTS.out
          rw [if_pos HST.out] at hts
          refine ⟨j + 1, by omega, by go_num, by rw [hts]; exact hown3, (hbx2.alloc _).below hb4 (by omega), ?_⟩
          exact (hb3.alloc hb3.size _).trans (hb4.mono (by omega))
        case measure => simp [intOf]; omega
      · have hst' : (((n : Int) - (j : Int)) % 3 == (k : Int)) = false := by rw [beq_eq_false_iff_ne]; omega
        have HST : Hid (¬ (n - j) % 3 = k) := hst
        clear hst
        go_wp2
        go_roundw
        case rel =>
          have hts := HTS.out
          rw [if_neg HST.out] at hts
          exact ⟨j + 1, by omega, by go_num, by rw [hts]; exact hown2, hbx2, hb3⟩
        case measure => simp [intOf]; omega
    · have : j = n := by omega
      subst this
      go_wp2
      go_ret
      exact ⟨_, rfl, own_mono hown (by omega), hb⟩

theorem othersOf_succ {n k : Nat} {S : List Nat} (h : k < S.length) : othersOf n (S.take (k + 1)) = if 0 < num S k ∧ (n - num S k) % 3 = 2 then othersOf n (S.take k) ++ [num S k - 1] else othersOf n (S.take k) := by
  unfold othersOf
  rw [take_num h, List.filter_append, List.map_append]
  by_cases e : 0 < num S k ∧ (n - num S k) % 3 = 2
  · rw [if_pos e]; simp [e.1, e.2]
  · rw [if_neg e]
    have : ([num S k].filter fun p => decide (0 < p) && (n - p) % 3 == 2) = [] := by
      rw [List.filter_cons_of_neg]
      · rfl
      · simp only [Bool.and_eq_true, decide_eq_true_eq, beq_iff_eq]; exact e
    rw [this]; simp
theorem othersOf_length (n : Nat) (S : List Nat) : (othersOf n S).length ≤ S.length := by
  unfold othersOf; rw [List.length_map]; exact List.length_filter_le _ _

set_option maxHeartbeats 1000000 in
theorem tells_other (ad : Option Addr) (l : List Nat) (c br : Nat) (kinds : Int) :
    Tells 127 #[] #[.pointer (some ⟨br, 0, none⟩)] (Held3 ad l c br kinds) (num l) l.length where
  enter := enters_of Try.func127 (by kernel_rfl) rfl
  keep w w' H hb := H.later hb
  run p w H hp := by
    obtain ⟨hx0, hx1⟩ := cells2 H.row
    obtain ⟨b, o1, rfl, hc⟩ := H.sl p hp
    have i1 : (0 : Int) ≤ (p : Int) := by omega
    have i2 : (p : Int) < (l.length : Int) := by omega
    clear H
    go_enter Try.func127, Try.ntmps127
    go_wp2
    go_ret
    exact ⟨rfl, Below.refl _ _⟩

set_option maxHeartbeats 2000000 in
/-- 'sortedOthers'. -/
theorem sortedOthers_any (ad ad2 : Option Addr) (l S : List Nat) (c c2 kd : Nat) (w : World) (hl : Sl w ad l) (hS : Sl w ad2 S) (hM : ∀ p, p ∈ S → p < l.length) (hn : l.length ≤ 100000) (hSn : S.length ≤ 100000) (hkd : ∀ p, p < l.length → num l p < kd) (hkm : kd ≤ 500000) :
    Calls Try.prog 90 #[.agg #[.slice ad l.length c, .int .i64 (kd : Int)], .slice ad2 S.length c2] w fun e w' =>
      ∃ g, e = .returned (.slice (some ⟨g, 0, none⟩) (othersOf l.length S).length (othersOf l.length S).length) ∧ w.heap.size ≤ g ∧ Row w' g (flat (Sedge.part (num l) (othersOf l.length S)) kd) ∧ Below w.heap.size w w' := by
  obtain ⟨i0, hi, hz0, hz1, hz2⟩ := info_parts Try.infoInt
  go_enter Try.func90, Try.ntmps90
  go_wp2
  go_loopw [5, 10] (fun v i wr => ∃ k : Nat, k ≤ S.length ∧ i = .int .i64 k ∧ wr.ownsRow (w.heap.size + 1) 3 1 v (othersOf l.length (S.take k)).length (IV (othersOf l.length (S.take k))) ∧ Blk wr w.heap.size 87 [.slice ad l.length c, .int .i64 (kd : Int)] ∧ Below w.heap.size w wr) (fun _ i _ => S.length - (intOf i).toNat)
  case atStart => exact ⟨0, Nat.zero_le _, rfl, World.ownsRow_nil _ _ _ _, by unfold Blk; rw [heap_alloc_new], (Below.refl _ _).alloc (Nat.le_refl _) _⟩
  case round =>
    obtain ⟨k, hk, rfl, hown, hbx, hb⟩ := hrel
    by_cases hlt : k < S.length
    · obtain ⟨b, o1, rfl, hc⟩ := hS k hlt
      have hc' := (hb.cell (cell_lt hc)).trans hc
      obtain ⟨hx0, hx1⟩ := cells2 hbx
      have hMk := hM _ (num_mem hlt)
      have i2 : (k : Int) < (S.length : Int) := by omega
      have HTS : Hid _ := othersOf_succ (n := l.length) hlt
      have hlen : (othersOf l.length (S.take k)).length < 1000000 := by have := othersOf_length l.length (S.take k); rw [List.length_take] at this; omega
      by_cases h0 : 0 < num S k
      · have h0' : (0 : Int) < (num S k : Int) := by omega
        go_wp2_with fail
        refine (class_any ad l.length c (kd : Int) (num S k : Int) wr (by omega) (by omega) hn).mono ?_
        rintro e w2 ⟨rfl, hb2⟩
        have hown2 := own_later hown hb2
        have hbx2 := hbx.later hb2
        have hb3 := Below.later hb hb2
        have hsz : w.heap.size + 1 ≤ w2.heap.size := by have := hbx2.lt; omega
        clear hown hbx hb hb2 hx0 hx1 hc hc'
        by_cases hst : (l.length - num S k) % 3 = 2
        · have hst' : ((l.length : Int) - (num S k : Int)) % 3 = 2 := by omega
          have HST : Hid (0 < num S k ∧ (l.length - num S k) % 3 = 2) := ⟨h0, hst⟩
          have v1 : IntKind.i64.wrap ((num S k : Int) - 1) = ((num S k - 1 : Nat) : Int) := by rw [IntKind.wrap_i64]; omega
          clear hst
          go_wp2_with (first | (at_builtin; refine wpList_push _ rfl _ _ rfl (w.heap.size + 1) _ _ rfl (hown2.alloc _) ⟨w2.heap.size, 0, none⟩ (num S k - 1) rfl (by simp) hlen (by simp; omega) ?_; intro v' w3 hown3 hb4) | fail)
          go_roundw
          case rel =>
            have hts := HTS.out
            rw [if_pos HST.out] at hts
            refine ⟨k + 1, by omega, by go_num, by rw [hts]; exact hown3, (hbx2.alloc _).below hb4 (by omega), ?_⟩
            exact (hb3.alloc hb3.size _).trans (hb4.mono (by omega))
          case measure => simp [intOf]; omega
        · have hst' : (((l.length : Int) - (num S k : Int)) % 3 == 2) = false := by rw [beq_eq_false_iff_ne]; omega
          have HST : Hid (¬ (0 < num S k ∧ (l.length - num S k) % 3 = 2)) := fun h => hst h.2
          clear hst
          go_wp2
          go_roundw
          case rel =>
            have hts := HTS.out
            rw [if_neg HST.out] at hts
            exact ⟨k + 1, by omega, by go_num, by rw [hts]; exact hown2, hbx2, hb3⟩
          case measure => simp [intOf]; omega
      · have h0' : ¬ (0 : Int) < (num S k : Int) := by omega
        have HST : Hid (¬ (0 < num S k ∧ (l.length - num S k) % 3 = 2)) := fun h => h0 h.1
        go_wp2
        go_roundw
        case rel =>
          have hts := HTS.out
          rw [if_neg HST.out] at hts
          exact ⟨k + 1, by omega, by go_num, by rw [hts]; exact hown, hbx, hb⟩
        case measure => simp [intOf]; omega
    · have : k = S.length := by omega
      subst this
      rw [List.take_length] at hown
      have hol : (othersOf l.length S).length ≤ 1000000 := by have := othersOf_length l.length S; omega
      obtain ⟨ad5, c5, rfl, hS5⟩ := own_sl hown
      have hmem : ∀ p, p ∈ othersOf l.length S → p < l.length := fun p hp => by
        unfold othersOf at hp
        obtain ⟨a, ha, rfl⟩ := List.mem_map.1 hp
        have := hM a (List.mem_filter.1 ha).1
        omega
      have hmf : ∀ (fn : Fn) (first cap : Array Value) (w : World), (Instr.makeFunc fn first cap).run Try.prog w = .ok (.func fn first cap) w := fun _ _ _ _ => rfl
      obtain ⟨hx0, hx1⟩ := cells2 hbx
      have CD := deal_any _ #[] _ _ _ _ (tells_other ad l c w.heap.size (kd : Int)) ad5 (othersOf l.length S) c5 kd wr hS5 (fun k hk => hmem _ (num_mem hk)) hkd ⟨hl.later hb, hbx⟩ hol (by omega)
      have HCD : Hid _ := CD
      have hsz := hb.size
      clear CD hown hS5
      go_wp2_with fail
      refine Calls.mono HCD.out ?_
      rintro e w3 ⟨g3, rfl, hg3, hr3, hb3⟩
      go_wp2
      go_ret
      exact ⟨g3, rfl, by omega, hr3, Below.later hb hb3⟩
end Go.Proofs.Ytepklbboejnecaa
