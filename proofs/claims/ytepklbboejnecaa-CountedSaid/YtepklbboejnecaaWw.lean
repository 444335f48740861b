/- The document's own answer: all ends; how far two texts agree; Parts. -/
import Derived.Test.YtepklbboejnecaaWv
namespace Go.Proofs.Ytepklbboejnecaa
open Go.RowKit Go.Shelf Sedge
attribute [local go_sem ↓] Go.wp_at_zero Go.wp_at_succ

set_option maxHeartbeats 400000 in
theorem ends_nil (s : ByteArray) (w : World) : Calls Try.prog 109 #[.string s, .slice none 0 0] w fun e w' => e = .returned (.slice none 0 0) ∧ w' = w := by
  go_enter Try.func109, Try.ntmps109
  go_wp2
  go_ret
  exact ⟨rfl, rfl⟩

set_option maxHeartbeats 1000000 in
/-- 'All'. -/
theorem all_any (s : ByteArray) (w : World) (hs : s.size ≤ 1000000) :
    Calls Try.prog 72 #[.string s] w fun e w' => ∃ ad c R, e = .returned (.slice ad R.length c) ∧ Sl w' ad R ∧ IsSA (bl s) R ∧ Below w.heap.size w w' := by
  go_enter Try.func72, Try.ntmps72
  go_wp2
  go_loopw [3, 4] (fun v i wr => ∃ k : Nat, k ≤ s.size ∧ i = .int .i64 k ∧ wr.ownsRow w.heap.size 3 1 v (List.range k).length (IV (List.range k)) ∧ Below w.heap.size w wr ∧ (k = 0 → v = .slice none 0 0)) (fun _ i _ => s.size - (intOf i).toNat)
  case atStart => exact ⟨0, Nat.zero_le _, rfl, World.ownsRow_nil _ _ _ _, Below.refl _ _, fun _ => rfl⟩
  case round =>
    obtain ⟨k, hk, rfl, hown, hb, hnil⟩ := hrel
    have HN : Hid _ := hnil
    clear hnil
    have hbs := hb.size
    by_cases hlt : k < s.size
    · have i1 : (k : Int) < (s.size : Int) := by omega
      go_wp2_with (first | (at_builtin; refine wpList_push _ rfl _ _ rfl w.heap.size _ (List.range k) rfl (hown.alloc _) ⟨wr.heap.size, 0, none⟩ k rfl (cell_new wr _ _) (by rw [List.length_range]; omega) (by rw [World.size_alloc]; exact Nat.le_succ_of_le hbs) ?_; intro v3 w3 hown3 hb3) | fail)
      go_roundw
      case rel => exact ⟨k + 1, by omega, by go_num, by rw [List.range_succ]; exact hown3, (hb.alloc hbs _).trans hb3, fun h => by omega⟩
      case measure => simp [intOf]; omega
    · have hkn : k = s.size := by omega
      have i1 : (s.size : Int) ≤ (k : Int) := by omega
      by_cases h0 : k = 0
      · have h1 := HN.out h0
        subst h1
        have hsa : IsSA (bl s) [] := ⟨by simp, by intro p; rw [bl_length]; simp; omega⟩
        clear hown hkn h0 HN
        go_wp2_with fail
        refine (ends_nil s wr).mono ?_
        rintro e w2 ⟨rfl, rfl⟩
        go_wp2
        go_ret
        exact ⟨none, 0, [], rfl, fun k hk => by simp at hk, hsa, hb⟩
      · rcases hown.2 with ⟨h1, h2⟩ | ⟨g, cap, cur, h1, h2, h3, h4, h5, h6⟩
        · rw [List.length_range] at h2; omega
        · obtain ⟨ad, c', e', hS⟩ := own_sl hown
          rw [h1] at e'
          simp only [Value.slice.injEq, true_and] at e'
          obtain ⟨rfl, rfl⟩ := e'
          subst h1
          unfold maxLen at h5
          have CE := ends_any s hs (List.range k).length (List.range k) rfl (by rw [List.length_range]; omega) g 0 cap wr hS h4 (by omega) List.nodup_range (fun p hp => by have := List.mem_range.1 hp; omega)
          rw [List.length_range] at CE
          have HCE : Hid _ := CE
          have HKN : Hid (k = s.size) := hkn
          clear CE hown h2 h3 h6 HN hkn
          go_wp2_with fail
          refine Calls.mono HCE.out ?_
          rintro e w2 ⟨b2, o2, c2, R, rfl, _, _, hSR, _, hpw, hmem, hlen, hB2⟩
          have hsa : IsSA (bl s) R := ⟨hpw, fun p => by rw [hmem, List.mem_range, bl_length, HKN.out]⟩
          have hb2 := Below.later hb hB2
          clear hpw hmem hlen hB2
          go_wp2
          go_ret
          exact ⟨some ⟨b2, o2, none⟩, c2, R, by simp, hSR, hsa, hb2⟩

set_option maxHeartbeats 1000000 in
/-- 'agree'. -/
theorem agree_any (a b : ByteArray) (w : World) (_ha : a.size ≤ 1000000) (_hb : b.size ≤ 1000000) :
    Calls Try.prog 73 #[.string a, .string b] w fun e w' => e = .returned (.int .i64 (lcp (bl a) (bl b))) ∧ Below w.heap.size w w' := by
  have hla := lcp_le_left (bl a) (bl b)
  have hlb := lcp_le_right (bl a) (bl b)
  rw [bl_length] at hla hlb
  go_enter Try.func73, Try.ntmps73
  go_wp2
  go_loopw [5] (fun i wr => ∃ k : Nat, k ≤ lcp (bl a) (bl b) ∧ i = .int .i64 k ∧ Below w.heap.size w wr) (fun i _ => a.size - (intOf i).toNat)
  case atStart => exact ⟨0, Nat.zero_le _, rfl, Below.refl _ _⟩
  case round =>
    obtain ⟨k, hk, rfl, hB⟩ := hrel
    have hiff := lcp_eq_iff (bl a) (bl b) (k + 1)
    rw [bl_length, bl_length] at hiff
    have hiff0 := (lcp_eq_iff (bl a) (bl b) k).1 hk
    by_cases hka : k < a.size
    · by_cases hkb : k < b.size
      · have na := bl_num hka
        have nb := bl_num hkb
        by_cases hq : a[k].toNat = b[k].toNat
        · have hk1 : k + 1 ≤ lcp (bl a) (bl b) := hiff.2 ⟨by omega, by omega, fun j hj => by
            by_cases e : j = k
            · rw [e, na, nb, hq]
            · exact hiff0.2.2 j (by omega)⟩
          have hbq : (((a[k].toNat : Nat) : Int) == ((b[k].toNat : Nat) : Int)) = true := by rw [hq]; simp
          have i1 : (k : Int) < (a.size : Int) := by omega
          have i2 : (k : Int) < (b.size : Int) := by omega
          clear hiff hiff0 na nb hq
          go_wp2
          go_quiet (fail)
          go_wp2
          go_roundw
          case rel => exact ⟨k + 1, hk1, by go_num, hB.drewN _⟩
          case measure => simp [intOf]; omega
        · have HL : Hid (lcp (bl a) (bl b) = k) := by
            have : ¬ k + 1 ≤ lcp (bl a) (bl b) := fun c => by have := (hiff.1 c).2.2 k (by omega); rw [na, nb] at this; exact hq this
            unfold Hid; omega
          have hbq : (((a[k].toNat : Nat) : Int) == ((b[k].toNat : Nat) : Int)) = false := by rw [beq_eq_false_iff_ne]; omega
          have i1 : (k : Int) < (a.size : Int) := by omega
          have i2 : (k : Int) < (b.size : Int) := by omega
          clear hiff hiff0 na nb hq
          go_wp2
          go_quiet (fail)
          go_wp2
          go_ret
          exact ⟨by rw [HL.out]; rfl, hB.drewN _⟩
      · have HL : Hid (lcp (bl a) (bl b) = k) := by unfold Hid; omega
        have i1 : (k : Int) < (a.size : Int) := by omega
        have i2 : decide ((k : Int) < (b.size : Int)) = false := by simp; omega
        clear hiff hiff0
        go_wp2
        go_quiet (fail)
        go_wp2
        go_ret
        exact ⟨by rw [HL.out]; rfl, hB.drewN _⟩
    · have HL : Hid (lcp (bl a) (bl b) = k) := by unfold Hid; omega
      have i1 : decide ((k : Int) < (a.size : Int)) = false := by simp; omega
      clear hiff hiff0
      go_wp2
      go_quiet (fail)
      go_wp2
      go_ret
      exact ⟨by rw [HL.out]; rfl, hB.drewN _⟩
end Go.Proofs.Ytepklbboejnecaa
