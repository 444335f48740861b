/- Turning: the document's own Turn; sedge.Unturn. -/
import Derived.Test.YtepklbboejnecaaZd
namespace Go.Proofs.Ytepklbboejnecaa
open Go.RowKit Go.Shelf Sedge
attribute [local go_sem ↓] Go.wp_at_zero Go.wp_at_succ

set_option maxRecDepth 20000 in
set_option maxHeartbeats 4000000 in
/-- sedgeref.Turn. -/
theorem refTurn_any (s : ByteArray) (o : List Nat) (ho : IsSA (bl s) o) (w : World) (hs : s.size ≤ 1000) :
    Calls Try.prog 59 #[.string s] w fun e w' => e = .returned (.tuple #[.string (ofL (turnL (bl s) (s.size :: o))), .int .i64 ((s.size :: o).idxOf 0 : Nat), .int .i64 0]) ∧ Below w.heap.size w w' := by
  have hMA : IsMA (bl s) (s.size :: o) := by have := IsMA.of_SA ho; rwa [bl_length] at this
  have hol : o.length = s.size := by have := IsSA.length ho; rwa [bl_length] at this
  have hR1 : ∀ k, num (s.size :: o) (k + 1) = num o k := fun k => rfl
  have hR0 : num (s.size :: o) 0 = s.size := rfl
  have hRl : (s.size :: o).length = s.size + 1 := by simp [hol]
  obtain ⟨R, hRe⟩ : ∃ R, R = s.size :: o := ⟨_, rfl⟩
  rw [← hRe] at hMA hR0 hRl ⊢
  simp only [← hRe] at hR1
  have hTl : (turnL (bl s) R).length = s.size := by rw [turnL_length hMA, bl_length]
  have HMA : Hid _ := hMA
  have HO : Hid _ := ho
  have HOL : Hid _ := hol
  have HR1 : Hid _ := hR1
  have HR0 : Hid _ := hR0
  have HRL : Hid _ := hRl
  have HTL : Hid _ := hTl
  have i0 : (s.size : Int) ≤ 1000 := by omega
  clear hMA ho hol hR1 hR0 hRl hTl hRe
  have t1 := turnTo_succ (l := bl s) (R := R) (k := 0) (by rw [HRL.out]; omega)
  have r1 := rowTo_succ HMA.out (k := 0) (by rw [HRL.out]; omega)
  rw [HR0.out] at t1 r1
  have t0 : turnTo (bl s) R 0 = [] := rfl
  have r0 : rowTo R 0 = 0 := by simp [rowTo]
  rw [t0] at t1
  rw [r0, ite_self] at r1
  have HT1 : Hid _ := t1
  have HR1' : Hid _ := r1
  clear t1 r1 t0 r0
  go_enter Try.func59, Try.ntmps59
  go_wp2_with fail
  refine (all_any s w (by omega)).mono ?_
  rintro e w1 ⟨ad1, c1, o1, rfl, hS1, hsa1, hb1⟩
  have he := IsSA.unique hsa1 HO.out
  subst he
  rw [HOL.out]
  clear hsa1
  by_cases h0 : 0 < s.size
  · have i1 : (0 : Int) < (s.size : Int) := by omega
    have v1 : IntKind.i64.wrap ((s.size : Int) - 1) = ((s.size - 1 : Nat) : Int) := by rw [IntKind.wrap_i64]; omega
    have hlt1 : s.size - 1 < s.size := by omega
    have i2 : ((s.size - 1 : Nat) : Int) < (s.size : Int) := by omega
    have hby : num (bl s) (s.size - 1) = s[s.size - 1].toNat := bl_num hlt1
    have HBY : Hid _ := hby
    clear hby
    go_wp2_with (first | (at_builtin; refine wpList_pushB _ rfl (.tmp 17) (.tmp 23) rfl w1.heap.size _ [] rfl (World.ownsRow_nil _ _ _ _) ⟨w1.heap.size, 0, none⟩ (s[s.size - 1].toNat) rfl (by simp) (by simp) (by simp) ?_; intro v2 w2 hown2 hb2) | fail)
    have hz2 := hb2.size
    simp only [World.size_alloc] at hz2
    have hW2 : w2.ownsRow w1.heap.size 5 1 v2 (turnTo (bl s) R 1).length (UV (turnTo (bl s) R 1)) := by
      rw [HT1.out, if_neg (by omega), HBY.out]; exact hown2
    have hB2 : Below w1.heap.size w1 w2 := ((Below.refl w1.heap.size w1).alloc (Nat.le_refl _) _).trans hb2
    clear hown2 hb2
    go_loopw [6, 7, 8] (fun tv rv i wr => ∃ k : Nat, k ≤ s.size ∧ i = .int .i64 k ∧ rv = .int .i64 (rowTo R (k + 1) : Nat) ∧ wr.ownsRow w1.heap.size 5 1 tv (turnTo (bl s) R (k + 1)).length (UV (turnTo (bl s) R (k + 1))) ∧ Below w1.heap.size w1 wr ∧ w1.heap.size ≤ wr.heap.size) (fun _ _ i _ => s.size - (intOf i).toNat)
    case atStart => exact ⟨0, Nat.zero_le _, rfl, by rw [HR1'.out]; rfl, hW2, hB2, by omega⟩
    case round =>
      clear hW2 hB2 hz2
      obtain ⟨k, hk, rfl, rfl, hW, hB, hsz⟩ := hrel
      by_cases hlt : k < s.size
      · have hko : k < o1.length := by rw [HOL.out]; exact hlt
        obtain ⟨b, q1, rfl, hc⟩ := hS1 k hko
        have hc' := (hB.cell (cell_lt hc)).trans hc
        have hkR : k + 1 < R.length := by rw [HRL.out]; omega
        have hpm : num o1 k ≤ s.size := by have := (HMA.out.2 _).1 (num_mem hkR); rw [bl_length, HR1.out] at this; exact this
        have i3 : (k : Int) < (s.size : Int) := by omega
        have i4 : (0 : Int) ≤ (k : Int) := by omega
        have hts := turnTo_succ (l := bl s) hkR
        have hrs := rowTo_succ HMA.out hkR
        have htl := turnTo_le (l := bl s) (R := R) (k + 1)
        rw [HTL.out] at htl
        rw [HR1.out] at hts hrs
        have HC : Hid _ := hc
        clear hc
        by_cases hp0 : num o1 k = 0
        · rw [if_pos hp0] at hts hrs
          have HTS : Hid _ := hts
          have HRS : Hid _ := hrs
          have h0' : ((num o1 k : Int) == 0) = true := by rw [hp0]; rfl
          have v3 : IntKind.i64.wrap ((k : Int) + 1) = (k : Int) + 1 := by rw [IntKind.wrap_i64]; omega
          clear hts hrs hp0 htl
          go_wp2
          go_roundw
          case rel => exact ⟨k + 1, by omega, by go_num, by rw [HRS.out]; go_num, by rw [HTS.out]; exact hW, hB, hsz⟩
          case measure => simp [intOf]; omega
        · rw [if_neg hp0] at hts hrs
          have HTS : Hid _ := hts
          have HRS : Hid _ := hrs
          have h0' : ((num o1 k : Int) == 0) = false := by rw [beq_eq_false_iff_ne]; omega
          have v3 : IntKind.i64.wrap ((num o1 k : Int) - 1) = ((num o1 k - 1 : Nat) : Int) := by rw [IntKind.wrap_i64]; omega
          have hlt2 : num o1 k - 1 < s.size := by omega
          have i5 : ((num o1 k - 1 : Nat) : Int) < (s.size : Int) := by omega
          have hby : num (bl s) (num o1 k - 1) = s[num o1 k - 1].toNat := bl_num hlt2
          have HBY2 : Hid _ := hby
          have HW : Hid _ := hW
          clear hts hrs hp0 hby hW
          go_wp2_with (first | (at_builtin; refine wpList_pushB _ rfl (.tmp 38) (.tmp 46) rfl w1.heap.size _ (turnTo (bl s) R (k + 1)) rfl (World.ownsRow.alloc HW.out _) ⟨wr.heap.size, 0, none⟩ (s[num o1 k - 1].toNat) rfl (by simp) (by omega) (by simp; omega) ?_; intro v3' w3 hown3 hb3) | fail)
          have hts' : turnTo (bl s) R (k + 1 + 1) = turnTo (bl s) R (k + 1) ++ [s[num o1 k - 1].toNat] := by rw [HTS.out, HBY2.out]
          have hB3 : Below w1.heap.size w1 w3 := (hB.alloc (by omega) _).trans hb3
          have hz3 := hb3.size
          simp only [World.size_alloc] at hz3
          go_roundw
          case rel => exact ⟨k + 1, by omega, by go_num, by rw [HRS.out], by rw [hts']; exact hown3, hB3, by omega⟩
          case measure => simp [intOf]; omega
      · have hk' : k + 1 = R.length := by rw [HRL.out]; omega
        have ht : turnTo (bl s) R (k + 1) = turnL (bl s) R := by rw [hk', turnTo, List.take_length]
        have hr : rowTo R (k + 1) = R.idxOf 0 := by rw [hk', rowTo, List.take_length, if_pos ((HMA.out.2 0).2 (Nat.zero_le _))]
        rw [ht] at hW
        rw [hr]
        have hcv := convert_own hW
        have i3 : ¬ (k : Int) < (s.size : Int) := by omega
        clear hk' ht hr hW
        go_wp2
        go_ret3
        exact ⟨rfl, Below.later hb1 hB⟩
  · have i1 : ¬ (0 : Int) < (s.size : Int) := by omega
    have hs0 : s.size = 0 := by omega
    have hRl1 : (1 : Nat) = R.length := by rw [HRL.out]; omega
    have ht : turnL (bl s) R = [] := by
      have : turnTo (bl s) R 1 = turnL (bl s) R := by rw [hRl1, turnTo, List.take_length]
      rw [← this, HT1.out, if_pos hs0]
    have hr : R.idxOf 0 = 0 := by
      have : rowTo R 1 = R.idxOf 0 := by rw [hRl1, rowTo, List.take_length, if_pos ((HMA.out.2 0).2 (Nat.zero_le _))]
      rw [← this, HR1'.out]
    have HTE : Hid _ := ht
    have HRE : Hid _ := hr
    have hcv := convert_own (w := w1) (base := 0) (v := .slice none 0 0) (l := []) (World.ownsRow_nil _ _ _ _)
    have HS0 : Hid _ := hs0
    clear hs0 hRl1 ht hr
    go_wp2_with fail
    go_loopw [6, 7, 8] (fun tv rv i wr => tv = .slice none 0 0 ∧ rv = .int .i64 0 ∧ i = .int .i64 0 ∧ wr = w1) (fun _ _ _ _ => 0)
    case atStart => exact ⟨rfl, rfl, rfl, rfl⟩
    case round =>
      obtain ⟨rfl, rfl, rfl, rfl⟩ := hrel
      go_wp2
      go_ret3
      exact ⟨by rw [HTE.out, HRE.out]; rfl, hb1⟩
set_option maxHeartbeats 1000000 in
theorem refTurn_long (s : ByteArray) (w : World) (hs : 1000 < s.size) :
    Calls Try.prog 59 #[.string s] w fun e w' => e = .returned (.tuple #[.string ⟨#[]⟩, .int .i64 0, .int .i64 2]) ∧ Below w.heap.size w w' := by
  have i1 : (1000 : Int) < (s.size : Int) := by omega
  go_enter Try.func59, Try.ntmps59
  go_wp2
  go_ret3
  exact ⟨rfl, Below.refl _ _⟩
end Go.Proofs.Ytepklbboejnecaa
