/- What is held: do the lists that wait read as they came; do the others read as their marks. -/
import Derived.Test.YtmmbljcjeianfaaYc
namespace Go.Proofs.Ytmmbljcjeianfaa
open Go.RowKit Go.Shelf Sedge
attribute [local go_sem ↓] Go.wp_at_zero Go.wp_at_succ

theorem own_at {w : World} {base n : Nat} {e : TypeId} {v : Value} {xs : List Value} (h : w.ownsRow base e 1 v n xs) {i : Nat} (hi : i < n) : ∃ g c, v = .slice (some ⟨g, 0, none⟩) n c ∧ ∃ hx : i < xs.length, w.cell? ⟨g, i, none⟩ = some xs[i] := by
  have hl := h.1
  rcases h.2 with ⟨_, h0⟩ | ⟨g, cap, cur, rfl, _⟩
  · omega
  · refine ⟨g, cap, rfl, by omega, ?_⟩
    rw [h.cellAt i (by omega), List.getElem?_eq_getElem (by omega)]

set_option maxRecDepth 20000 in
set_option maxHeartbeats 4000000 in
/-- 'waits'. -/
theorem waits_any (B : Nat) (W : World) (hb N : Nat) (vI vT vR : Value) (E : List (Value × Int)) (T : List (Value × Value × List Nat)) (H : HInv B W hb N vI vT vR E T) :
    Calls Try.prog 42 #[.pointer (some ⟨hb, 0, none⟩)] W fun e w' => e = .returned (.bool true) ∧ Below W.heap.size W w' := by
  obtain ⟨adT, cT, rfl⟩ := own_val H.rT
  obtain ⟨adR, cR, rfl⟩ := own_val H.rR
  have HH : Hid _ := H
  have hlt := H.box.lt
  clear H
  go_enter Try.func42, Try.ntmps42
  go_wp2_with fail
  go_loopw [3, 4] (fun ok i wr => ∃ k : Nat, k ≤ T.length ∧ ok = .bool true ∧ i = .int .i64 k ∧ Below W.heap.size W wr) (fun _ i _ => T.length - (intOf i).toNat)
  case atStart => exact ⟨0, Nat.zero_le _, rfl, rfl, Below.refl _ _⟩
  case round =>
    obtain ⟨k, hk, rfl, rfl, hB⟩ := hrel
    have H1 : HInv B wr hb N vI (.slice adT T.length cT) (.slice adR T.length cR) E T := HInv.later HH.out hB
    have nT := H1.nT
    obtain ⟨c0, c1, c2, c3, c4, c5, c6, c7, c8, c9⟩ := H1.cellAt
    by_cases hlt2 : k < T.length
    · obtain ⟨gT, cT', eT, hx1, d1⟩ := own_at H1.rT hlt2
      obtain ⟨gR, cR', eR, hx2, d2⟩ := own_at H1.rR hlt2
      rw [List.getElem_map] at d1 d2
      simp only [Value.slice.injEq, true_and] at eT eR
      obtain ⟨rfl, rfl⟩ := eT
      obtain ⟨rfl, rfl⟩ := eR
      obtain ⟨o1, o2⟩ := H1.own T[k] (List.getElem_mem hlt2)
      have hsm := H1.small T[k] (List.getElem_mem hlt2)
      obtain ⟨a1, x1, e1, s1⟩ := own_sl o1
      obtain ⟨a2, x2, e2, s2⟩ := own_sl o2
      obtain ⟨L, hL⟩ : ∃ L, L = T[k].2.2 := ⟨_, rfl⟩
      rw [← hL] at e1 e2 s1 s2 hsm
      rw [e1] at d1
      rw [e2] at d2
      have A5 : Below wr.heap.size wr wr.drew := (Below.refl _ _).drew
      have HA5 : Hid _ := A5
      have i1 : (k : Int) < (T.length : Int) := by omega
      have i2 : (0 : Int) ≤ (k : Int) := by omega
      have lb : hb < wr.heap.size := H1.box.lt
      have lT := cell_lt d1
      have lR := cell_lt d2
      clear A5 o1 o2 e1 e2 hL H1
      go_wp2_with fail
      go_region_held3 (fun w' => w'.cell? ⟨hb, 4, none⟩ = some (.slice (some ⟨gT, 0, none⟩) T.length cT) ∧ w'.cell? ⟨hb, 5, none⟩ = some (.slice (some ⟨gR, 0, none⟩) T.length cR) ∧ w'.cell? ⟨gT, k, none⟩ = some (.slice a1 L.length x1) ∧ w'.cell? ⟨gR, k, none⟩ = some (.slice a2 L.length x2)) (go_keep)
        (first
          | (go_at_call 38; refine (sameInts_any a1 a2 L L x1 x2 _ (s1.later HA5.out) (s2.later HA5.out) rfl (by omega)).mono ?_; rintro e w2 ⟨rfl, hb2⟩; have hB2 := Below.later HA5.out hb2; have e4 := (hB2.cell (p := ⟨hb, 4, none⟩) lb).trans c4; have e5 := (hB2.cell (p := ⟨hb, 5, none⟩) lb).trans c5; have e6 := (hB2.cell lT).trans d1; have e7 := (hB2.cell lR).trans d2))
      clear c0 c1 c2 c3 c4 c5 c6 c7 c8 c9 d1 d2 e4 e5 e6 e7
      go_wp2
      go_roundw
      case rel => exact ⟨k + 1, by omega, rfl, by go_num, Below.later hB hB2⟩
      case measure => simp [intOf]; omega
    · have i1 : ¬ (k : Int) < (T.length : Int) := by omega
      have HB : Hid _ := hB
      go_wp2_with fail
      go_loopw [3, 6] (fun ok i w2 => ok = .bool true ∧ i = .int .i64 0 ∧ w2 = wr) (fun _ _ _ => 0)
      case atStart => exact ⟨rfl, rfl, rfl⟩
      case round =>
        obtain ⟨rfl, rfl, rfl⟩ := hrel
        go_wp2_with fail
        go_loopw [3, 8] (fun ok i w2 => ok = .bool true ∧ i = .int .i64 0 ∧ w2 = wr) (fun _ _ _ => 0)
        case atStart => exact ⟨rfl, rfl, rfl⟩
        case round =>
          obtain ⟨rfl, rfl, rfl⟩ := hrel
          go_wp2
          go_ret
          exact ⟨rfl, HB.out⟩

theorem cellsE_at : ∀ (E : List (Value × Int)) (i : Nat) (h : i < E.length), (cellsE E)[i * 2]? = some E[i].1 ∧ (cellsE E)[i * 2 + 1]? = some (.int .i64 E[i].2)
  | e :: E, 0, _ => ⟨rfl, rfl⟩
  | e :: E, i + 1, h => by
    have ih := cellsE_at E i (by simpa using h)
    have e1 : (i + 1) * 2 = i * 2 + 2 := by omega
    rw [e1]
    exact ih
theorem own_at2 {w : World} {base : Nat} {v : Value} {E : List (Value × Int)} (h : w.ownsRow base 117 2 v E.length (cellsE E)) {i : Nat} (hi : i < E.length) : ∃ g c, v = .slice (some ⟨g, 0, none⟩) E.length c ∧ w.cell? ⟨g, i * 2, none⟩ = some E[i].1 ∧ w.cell? ⟨g, i * 2 + 1, none⟩ = some (.int .i64 E[i].2) := by
  have hc := cellsE_at E i hi
  rcases h.2 with ⟨_, h0⟩ | ⟨g, cap, cur, rfl, _⟩
  · omega
  · exact ⟨g, cap, rfl, by rw [h.cellAt (i * 2) (by omega)]; exact hc.1, by rw [h.cellAt (i * 2 + 1) (by omega)]; exact hc.2⟩

set_option maxRecDepth 20000 in
set_option maxHeartbeats 4000000 in
/-- 'dry'. -/
theorem dry_any (B : Nat) (W : World) (hb N : Nat) (vI vT vR : Value) (E : List (Value × Int)) (T : List (Value × Value × List Nat)) (H : HInv B W hb N vI vT vR E T) :
    Calls Try.prog 46 #[.pointer (some ⟨hb, 0, none⟩)] W fun e w' => e = .returned (.bool true) ∧ Below W.heap.size W w' := by
  obtain ⟨adI, cI, rfl⟩ := own_val H.rI
  have HH : Hid _ := H
  have hlt := H.box.lt
  clear H
  go_enter Try.func46, Try.ntmps46
  go_wp2_with fail
  go_loopw [3] (fun i wr => ∃ k : Nat, k ≤ E.length ∧ i = .int .i64 k ∧ Below W.heap.size W wr) (fun i _ => E.length - (intOf i).toNat)
  case atStart => exact ⟨0, Nat.zero_le _, rfl, Below.refl _ _⟩
  case round =>
    obtain ⟨k, hk, rfl, hB⟩ := hrel
    have H1 : HInv B wr hb N (.slice adI E.length cI) vT vR E T := HInv.later HH.out hB
    have nE := H1.nE
    have nN := H1.nN
    obtain ⟨c0, c1, c2, c3, c4, c5, c6, c7, c8, c9⟩ := H1.cellAt
    by_cases hlt2 : k < E.length
    · obtain ⟨gI, cI', eI, d1, d2⟩ := own_at2 H1.rI hlt2
      simp only [Value.slice.injEq, true_and] at eI
      obtain ⟨rfl, rfl⟩ := eI
      obtain ⟨ad, n, c, e1, hn, hrd⟩ := H1.rd E[k] (List.getElem_mem hlt2)
      obtain ⟨m, hm⟩ : ∃ m, m = E[k].2 := ⟨_, rfl⟩
      rw [e1] at d1
      rw [← hm] at d2 hrd
      have i1 : (k : Int) < (E.length : Int) := by omega
      have i2 : (0 : Int) ≤ (k : Int) := by omega
      have HB : Hid _ := hB
      clear H1 hm e1 hB
      have hbx : Blk (wr.alloc (Obj.cells #[.slice ad n c, .int .i64 m] 117)) wr.heap.size 117 [.slice ad n c, .int .i64 m] := Blk.new wr _ _ rfl
      have hbb : Below wr.heap.size wr (wr.alloc (Obj.cells #[.slice ad n c, .int .i64 m] 117)) := (Below.refl _ _).alloc (Nat.le_refl _) _
      go_wp2_with fail
      go_loopw [5] (fun i w2 => ∃ j : Nat, j ≤ n ∧ i = .int .i64 j ∧ Blk w2 wr.heap.size 117 [.slice ad n c, .int .i64 m] ∧ Below wr.heap.size wr w2) (fun i _ => n - (intOf i).toNat)
      case atStart => exact ⟨0, Nat.zero_le _, rfl, hbx, hbb⟩
      case round =>
        clear hbx hbb c0 c1 c2 c3 c4 c5 c6 c7 c8 c9 d1 d2
        obtain ⟨j, hj, rfl, hbx, hbb⟩ := hrel
        obtain ⟨x0, x1⟩ := cells2 hbx
        by_cases hjn : j < n
        · obtain ⟨b, o, rfl, hc⟩ := hrd j hjn
          have dc := (hbb.cell (cell_lt hc)).trans hc
          have i3 : (j : Int) < (n : Int) := by omega
          have i4 : (0 : Int) ≤ (j : Int) := by omega
          clear hc
          go_wp2
          go_quiet (fail)
          go_wp2_with fail
          go_roundw
          case rel => exact ⟨j + 1, by omega, by go_num, hbx, hbb.drewN _⟩
          case measure => simp [intOf]; omega
        · have i3 : ¬ (j : Int) < (n : Int) := by omega
          go_wp2
          go_roundw
          case rel => exact ⟨k + 1, by omega, by go_num, Below.later HB.out hbb⟩
          case measure => simp [intOf]; omega
    · have i1 : ¬ (k : Int) < (E.length : Int) := by omega
      have HB : Hid _ := hB
      go_wp2_with fail
      go_loopw [6] (fun i w2 => i = .int .i64 0 ∧ w2 = wr) (fun _ _ => 0)
      case atStart => exact ⟨rfl, rfl⟩
      case round =>
        obtain ⟨rfl, rfl⟩ := hrel
        go_wp2_with fail
        go_loopw [9] (fun i w2 => i = .int .i64 0 ∧ w2 = wr) (fun _ _ => 0)
        case atStart => exact ⟨rfl, rfl⟩
        case round =>
          obtain ⟨rfl, rfl⟩ := hrel
          go_wp2
          go_ret
          exact ⟨rfl, HB.out⟩
end Go.Proofs.Ytmmbljcjeianfaa
