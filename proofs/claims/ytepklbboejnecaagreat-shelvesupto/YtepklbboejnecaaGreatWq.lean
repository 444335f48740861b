/- Texts: their bytes as a row; how far two texts agree. -/
import Derived.Test.YtepklbboejnecaaGreatWp
import Derived.Test.YtepklbboejnecaaGreatM
namespace Go.Proofs.YtepklbboejnecaaGreat
open Go.RowKit Go.Shelf Sedge
attribute [local go_sem ↓] Go.wp_at_zero Go.wp_at_succ

/-- A text's bytes as numbers. -/
def bl (s : ByteArray) : List Nat := s.data.toList.map UInt8.toNat
theorem bl_length (s : ByteArray) : (bl s).length = s.size := by unfold bl; rw [List.length_map]; rfl
theorem bl_num {s : ByteArray} {k : Nat} (h : k < s.size) : num (bl s) k = s[k].toNat := by
  have h' : k < (bl s).length := by rw [bl_length]; exact h
  rw [num_eq h']; simp [bl]; rfl
theorem bl_lt (s : ByteArray) (k : Nat) : num (bl s) k < 256 := by
  by_cases h : k < s.size
  · rw [bl_num h]; exact UInt8.toNat_lt _
  · have : ¬ k < (bl s).length := by rw [bl_length]; exact h
    simp [num, List.getD, this]

set_option maxHeartbeats 1000000 in
/-- 'ends.Of'. -/
theorem endsOf_any (s : ByteArray) (w : World) (hn : s.size ≤ 1000000) :
    Calls Tryz.prog 57 #[.string s] w fun e w' => ∃ g, e = .returned (.agg #[.slice (some ⟨g, 0, none⟩) s.size s.size, .int .i64 256]) ∧ w.heap.size ≤ g ∧ Row w' g (bl s) ∧ Below w.heap.size w w' := by
  go_enter Tryz.func57, Tryz.ntmps57
  go_wp2_with (first | (at_make; refine wpList_make_row _ rfl _ _ rfl _ _ s.size rfl rfl rfl rfl hn ?_; intro w1 hrow hsz hbel) | fail)
  have hres : Blk w1 w.heap.size 122 [.slice none 0 0, .int .i64 0] := Blk.later (Blk.new w _ _ rfl) hbel
  have hB1 : Below w.heap.size w w1 := Below.later ((Below.refl _ _).alloc (Nat.le_refl _) _) hbel
  have hrow' : Row w1 (w.heap.size + 1) (fillTo s.size (num (bl s)) 0) := by rw [fillTo_zero]; simpa [Row] using hrow
  clear hrow hbel hsz
  go_loopw [10] (fun i wr => ∃ k : Nat, k ≤ s.size ∧ i = .int .i64 k ∧ Row wr (w.heap.size + 1) (fillTo s.size (num (bl s)) k) ∧ Blk wr w.heap.size 122 [.slice none 0 0, .int .i64 0] ∧ Below w.heap.size w wr) (fun i _ => s.size - (intOf i).toNat)
  case atStart => exact ⟨0, Nat.zero_le _, rfl, hrow', hres, hB1⟩
  case round =>
    clear hrow' hres hB1
    obtain ⟨k, hk, rfl, hr, hres, hb⟩ := hrel
    by_cases hlt : k < s.size
    · have hc := hr.cell (k := k) (by rw [fillTo_length]; exact hlt)
      have hf := Blk.free hr k
      have hnum := bl_num hlt
      have hr' := hr.set k (num (bl s) k)
      rw [fillTo_succ rfl, hnum] at hr'
      have hb' := hb.setCell (p := ⟨w.heap.size + 1, k, none⟩) (by simp) (.int .i64 (s[k].toNat : Nat))
      have hres' := hres.other (a := ⟨w.heap.size + 1, k, none⟩) (by simp) (.int .i64 (s[k].toNat : Nat))
      have hby : s[k].toNat < 256 := UInt8.toNat_lt _
      clear hr hb hres hnum
      go_wp2
      go_roundw
      case rel => exact ⟨k + 1, by omega, by go_num, hr', hres', hb'⟩
      case measure => simp [intOf]; omega
    · have : k = s.size := by omega
      subst this
      have e : fillTo s.size (num (bl s)) s.size = bl s := by
        rw [fillTo_all]
        have := tab_self (bl s)
        rwa [bl_length] at this
      rw [e] at hr
      obtain ⟨hx0, hx1⟩ := cells2 hres
      have hf0 := Blk.free hres 0
      have hf1 := Blk.free hres 1
      go_wp2
      refine bodyPost_ret (v := .agg #[.slice (some ⟨w.heap.size + 1, 0, none⟩) s.size s.size, .int .i64 256]) (by simp [results, Tryz.results57, go_sem, hx0, hx1]) rfl ⟨_, rfl, by omega, Blk.other (Blk.other hr (by simp) _) (by simp) _, (hb.setCell (by simp) _).setCell (by simp) _⟩

set_option maxHeartbeats 1000000 in
/-- 'alike'. -/
theorem alike_any (a b : ByteArray) (w : World) (_ha : a.size ≤ 1000000) (_hb : b.size ≤ 1000000) :
    Calls Tryz.prog 97 #[.string a, .string b] w fun e w' => e = .returned (.int .i64 (lcp (bl a) (bl b))) ∧ Below w.heap.size w w' := by
  have hla := lcp_le_left (bl a) (bl b)
  have hlb := lcp_le_right (bl a) (bl b)
  rw [bl_length] at hla hlb
  go_enter Tryz.func97, Tryz.ntmps97
  go_wp2
  go_loopw [5] (fun i wr => ∃ k : Nat, k ≤ lcp (bl a) (bl b) ∧ i = .int .i64 k ∧ Below w.heap.size w wr) (fun i _ => a.size - (intOf i).toNat)
  case atStart => exact ⟨0, Nat.zero_le _, rfl, Below.refl _ _⟩
  case round =>
    obtain ⟨k, hk, rfl, hB⟩ := hrel
    have hiff := lcp_eq_iff (bl a) (bl b) (k + 1)
    rw [bl_length, bl_length] at hiff
    have hiff0 := (lcp_eq_iff (bl a) (bl b) k).1 hk
    by_cases hka : k < a.size
    · by_cases hkb : k < b.size
      · have na := bl_num hka
        have nb := bl_num hkb
        by_cases hq : a[k].toNat = b[k].toNat
        · have hk1 : k + 1 ≤ lcp (bl a) (bl b) := hiff.2 ⟨by omega, by omega, fun j hj => by
            by_cases e : j = k
            · rw [e, na, nb, hq]
            · exact hiff0.2.2 j (by omega)⟩
          have hbq : (((a[k].toNat : Nat) : Int) == ((b[k].toNat : Nat) : Int)) = true := by rw [hq]; simp
          have i1 : (k : Int) < (a.size : Int) := by omega
          have i2 : (k : Int) < (b.size : Int) := by omega
          clear hiff hiff0 na nb hq
          go_wp2
          go_quiet (fail)
          go_wp2
          go_roundw
          case rel => exact ⟨k + 1, hk1, by go_num, hB.drewN _⟩
          case measure => simp [intOf]; omega
        · have HL : Hid (lcp (bl a) (bl b) = k) := by
            have : ¬ k + 1 ≤ lcp (bl a) (bl b) := fun c => by have := (hiff.1 c).2.2 k (by omega); rw [na, nb] at this; exact hq this
            unfold Hid; omega
          have hbq : (((a[k].toNat : Nat) : Int) == ((b[k].toNat : Nat) : Int)) = false := by rw [beq_eq_false_iff_ne]; omega
          have i1 : (k : Int) < (a.size : Int) := by omega
          have i2 : (k : Int) < (b.size : Int) := by omega
          clear hiff hiff0 na nb hq
          go_wp2
          go_quiet (fail)
          go_wp2
          go_ret
          exact ⟨by rw [HL.out]; rfl, hB.drewN _⟩
      · have HL : Hid (lcp (bl a) (bl b) = k) := by unfold Hid; omega
        have i1 : (k : Int) < (a.size : Int) := by omega
        have i2 : decide ((k : Int) < (b.size : Int)) = false := by simp; omega
        clear hiff hiff0
        go_wp2
        go_quiet (fail)
        go_wp2
        go_ret
        exact ⟨by rw [HL.out]; rfl, hB.drewN _⟩
    · have HL : Hid (lcp (bl a) (bl b) = k) := by unfold Hid; omega
      have i1 : decide ((k : Int) < (a.size : Int)) = false := by simp; omega
      clear hiff hiff0
      go_wp2
      go_quiet (fail)
      go_wp2
      go_ret
      exact ⟨by rw [HL.out]; rfl, hB.drewN _⟩
end Go.Proofs.YtepklbboejnecaaGreat
