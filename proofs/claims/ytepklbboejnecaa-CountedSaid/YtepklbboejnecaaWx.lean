/- The document's own answer: Parts. -/
import Derived.Test.YtepklbboejnecaaWw
namespace Go.Proofs.Ytepklbboejnecaa
open Go.RowKit Go.Shelf Sedge
attribute [local go_sem ↓] Go.wp_at_zero Go.wp_at_succ

set_option maxHeartbeats 1000000 in
theorem refParts_long (s : ByteArray) (w : World) (hs : 1000 < s.size) : Calls Try.prog 47 #[.string s] w fun e w' => e = .returned (.tuple #[.int .i64 0, .int .i64 2]) ∧ Below w.heap.size w w' := by
  have i1 : (1000 : Int) < (s.size : Int) := by omega
  go_enter Try.func47, Try.ntmps47
  go_wp2
  go_ret2
  exact ⟨rfl, Below.refl _ _⟩

/-- How far the end that is i-th in order agrees with the one ahead, asked the other way about. -/
theorem agree_at (s : ByteArray) (o : List Nat) (i : Nat) (W : World) (hs : s.size ≤ 1000) (h0 : 0 < i) :
    Calls Try.prog 73 #[.string (s.extract (num o (i - 1)) s.size), .string (s.extract (num o i) s.size)] W fun e w' => e = .returned (.int .i64 (cm (bl s) o i)) ∧ Below W.heap.size W w' := by
  have h := agree_any (s.extract (num o (i - 1)) s.size) (s.extract (num o i) s.size) W (by simp; omega) (by simp; omega)
  rw [bl_extract, bl_extract, lcp_comm] at h
  have e : cm (bl s) o i = lcp ((bl s).drop (num o i)) ((bl s).drop (num o (i - 1))) := by unfold cm; rw [if_neg (by omega)]
  rw [e]; exact h

set_option maxHeartbeats 2000000 in
/-- sedgeref.Parts. -/
theorem refParts_any (s : ByteArray) (w : World) (hs : s.size ≤ 1000) (o : List Nat) (ho : IsSA (bl s) o) : Calls Try.prog 47 #[.string s] w fun e w' => e = .returned (.tuple #[.int .i64 (many (bl s) o o.length), .int .i64 0]) ∧ Below w.heap.size w w' := by
  have i1 : (s.size : Int) ≤ 1000 := by omega
  have hlen := ho.length
  rw [bl_length] at hlen
  have hon : o.length ≤ 1000 := by omega
  have hmany : ∀ k, k ≤ o.length → many (bl s) o k ≤ 1000000 := fun k hk => by
    have h1 := many_le (bl s) o k
    rw [bl_length] at h1
    have h2 := Nat.mul_le_mul (show k ≤ 1000 by omega) hs
    omega
  clear hlen
  go_enter Try.func47, Try.ntmps47
  go_wp2_with fail
  refine (all_any s w (by omega)).mono ?_
  rintro e w1 ⟨ad, c, R, rfl, hS, hSA, hb1⟩
  have he := ho.unique hSA
  subst he
  go_wp2_with fail
  go_loopw [5, 6] (fun t i wr => ∃ k : Nat, k ≤ o.length ∧ i = .int .i64 k ∧ t = .int .i64 (many (bl s) o k) ∧ Below w1.heap.size w1 wr) (fun _ i _ => o.length - (intOf i).toNat)
  case atStart => exact ⟨0, Nat.zero_le _, rfl, rfl, Below.refl _ _⟩
  case round =>
    obtain ⟨k, hk, rfl, rfl, hb⟩ := hrel
    by_cases hlt : k < o.length
    · obtain ⟨b, o1, rfl, hc⟩ := (hS.later hb) k hlt
      have hm1 := hmany k hk
      have hm2 := hmany (k + 1) hlt
      have hnl := ho.num_lt hlt
      rw [bl_length] at hnl
      have hcl := cm_le (bl s) o k
      rw [bl_length] at hcl
      have HM : Hid (((many (bl s) o (k + 1) : Nat) : Int) = (many (bl s) o k : Int) + s.size - num o k - cm (bl s) o k) := by
        unfold Hid; simp only [many, brings]; rw [bl_length]; omega
      have i2 : (k : Int) < (o.length : Int) := by omega
      have i3 : (0 : Int) ≤ (k : Int) := by omega
      clear hm2
      by_cases h0 : k = 0
      · have hz : cm (bl s) o k = 0 := by rw [h0]; simp [cm]
        have hk0 : (k : Int) ≤ 0 := by omega
        have HZ : Hid (cm (bl s) o k = 0) := hz
        clear hz h0
        go_wp2
        go_roundw
        case rel => exact ⟨k + 1, by omega, by go_num, by rw [HM.out, HZ.out]; congr 1; omega, hb⟩
        case measure => simp [intOf]; omega
      · have hk0 : (0 : Int) < (k : Int) := by omega
        obtain ⟨b', o1', e', hc'⟩ := (hS.later hb) (k - 1) (by omega)
        simp only [Option.some.injEq, Addr.mk.injEq, and_true] at e'
        obtain ⟨rfl, rfl⟩ := e'
        have hnl' := ho.num_lt (show k - 1 < o.length by omega)
        rw [bl_length] at hnl'
        have j1 : (0 : Int) ≤ (num o k : Int) := by omega
        have j2 : (num o k : Int) ≤ (s.size : Int) := by omega
        have j3 : (0 : Int) ≤ (num o (k - 1) : Int) := by omega
        have j4 : (num o (k - 1) : Int) ≤ (s.size : Int) := by omega
        have j6 : ((k - 1 : Nat) : Int) < (o.length : Int) := by omega
        have j5 : (0 : Int) ≤ ((k - 1 : Nat) : Int) := by omega
        have v1 : IntKind.i64.wrap ((k : Int) - 1) = ((k - 1 : Nat) : Int) := by rw [IntKind.wrap_i64]; omega
        have v2 : IntKind.i64.wrap ((many (bl s) o k : Int) + s.size - num o k - cm (bl s) o k) = (many (bl s) o k : Int) + s.size - num o k - cm (bl s) o k := by rw [IntKind.wrap_i64]; omega
        have hCA := fun W => agree_at s o k W hs (show 0 < k by omega)
        have HCA : Hid _ := hCA
        have hblt : b < wr.heap.size := cell_lt hc
        clear hCA
        go_wp2_with fail
        go_region_held3 (fun w' => w'.cell? ⟨b, o1 + k, none⟩ = some (.int .i64 (num o k)) ∧ w'.cell? ⟨b, o1 + (k - 1), none⟩ = some (.int .i64 (num o (k - 1)))) (go_keep)
          (first | (go_at_call 73; refine (HCA.out _).mono ?_; rintro e w4 ⟨rfl, hb4⟩; have hz0 := (hb4.cell (p := ⟨b, o1 + k, none⟩) hblt).trans hc; have hz1 := (hb4.cell (p := ⟨b, o1 + (k - 1), none⟩) hblt).trans hc'))
        have hb5 : Below w1.heap.size w1 w4 := Below.later hb.drew hb4
        go_wp2
        go_roundw
        case rel => exact ⟨k + 1, by omega, by go_num, by rw [HM.out], hb5⟩
        case measure => simp [intOf]; omega
    · have : k = o.length := by omega
      subst this
      go_wp2
      go_ret2
      exact ⟨rfl, Below.later hb1 hb⟩
end Go.Proofs.Ytepklbboejnecaa
