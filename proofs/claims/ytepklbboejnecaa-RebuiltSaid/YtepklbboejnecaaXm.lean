/- The document's own Common. -/
import Derived.Test.YtepklbboejnecaaXl
namespace Go.Proofs.Ytepklbboejnecaa
open Go.RowKit Go.Shelf Sedge
attribute [local go_sem ↓] Go.wp_at_zero Go.wp_at_succ

set_option maxHeartbeats 1000000 in
theorem refCommon_long (s : ByteArray) (w : World) (hs : 1000 < s.size) : Calls Try.prog 41 #[.string s] w fun e w' => e = .returned (.tuple #[.slice none 0 0, .int .i64 2]) ∧ Below w.heap.size w w' := by
  have i1 : (1000 : Int) < (s.size : Int) := by omega
  go_enter Try.func41, Try.ntmps41
  go_wp2
  go_ret2
  exact ⟨rfl, Below.refl _ _⟩

theorem tab_succ (n : Nat) (f : Nat → Nat) : tab (n + 1) f = tab n f ++ [f n] := by simp [tab, List.range_succ]

set_option maxHeartbeats 4000000 in
/-- sedgeref.Common. -/
theorem refCommon_any (s : ByteArray) (w : World) (hs : s.size ≤ 1000) (o : List Nat) (ho : IsSA (bl s) o) : Calls Try.prog 41 #[.string s] w fun e w' => ∃ v, e = .returned (.tuple #[v, .int .i64 0]) ∧ w'.ownsRow w.heap.size 3 1 v (tab o.length (cm (bl s) o)).length (IV (tab o.length (cm (bl s) o))) ∧ Below w.heap.size w w' := by
  have i1 : (s.size : Int) ≤ 1000 := by omega
  have hlen := ho.length
  rw [bl_length] at hlen
  have hon : o.length ≤ 1000 := by omega
  clear hlen
  go_enter Try.func41, Try.ntmps41
  go_wp2_with fail
  refine (all_any s w (by omega)).mono ?_
  rintro e w1 ⟨ad, c, R, rfl, hS, hSA, hb1⟩
  have he := ho.unique hSA
  subst he
  go_wp2_with fail
  go_loopw [5, 6] (fun v i wr => ∃ k : Nat, k ≤ o.length ∧ i = .int .i64 k ∧ wr.ownsRow w1.heap.size 3 1 v (tab k (cm (bl s) o)).length (IV (tab k (cm (bl s) o))) ∧ Below w1.heap.size w1 wr) (fun _ i _ => o.length - (intOf i).toNat)
  case atStart => exact ⟨0, Nat.zero_le _, rfl, World.ownsRow_nil _ _ _ _, Below.refl _ _⟩
  case round =>
    obtain ⟨k, hk, rfl, hown, hb⟩ := hrel
    have HTS : Hid (tab (k + 1) (cm (bl s) o) = tab k (cm (bl s) o) ++ [cm (bl s) o k]) := tab_succ _ _
    have hlk : (tab k (cm (bl s) o)).length < 1000000 := by rw [tab_length]; omega
    by_cases hlt : k < o.length
    · obtain ⟨b, o1, rfl, hc⟩ := (hS.later hb) k hlt
      have hnl := ho.num_lt hlt
      rw [bl_length] at hnl
      have i2 : (k : Int) < (o.length : Int) := by omega
      have i3 : (0 : Int) ≤ (k : Int) := by omega
      by_cases h0 : k = 0
      · have hz : cm (bl s) o k = 0 := by rw [h0]; simp [cm]
        have hk0 : (k : Int) ≤ 0 := by omega
        have HZ : Hid (cm (bl s) o k = 0) := hz
        have hsz := hb.size
        clear hz h0
        go_wp2_with (first | (at_builtin; refine wpList_push _ rfl _ _ rfl w1.heap.size _ _ rfl (hown.alloc _) ⟨wr.heap.size, 0, none⟩ 0 rfl (by simp) hlk (by simp; omega) ?_; intro v' w3 hown3 hb4) | fail)
        go_roundw
        case rel => exact ⟨k + 1, by omega, by go_num, by rw [HTS.out, HZ.out]; exact hown3, (hb.alloc hb.size _).trans hb4⟩
        case measure => simp [intOf]; omega
      · have hk0 : (0 : Int) < (k : Int) := by omega
        obtain ⟨b', o1', e', hc'⟩ := (hS.later hb) (k - 1) (by omega)
        simp only [Option.some.injEq, Addr.mk.injEq, and_true] at e'
        obtain ⟨rfl, rfl⟩ := e'
        have hnl' := ho.num_lt (show k - 1 < o.length by omega)
        rw [bl_length] at hnl'
        have j1 : (0 : Int) ≤ (num o k : Int) := by omega
        have j2 : (num o k : Int) ≤ (s.size : Int) := by omega
        have j3 : (0 : Int) ≤ (num o (k - 1) : Int) := by omega
        have j4 : (num o (k - 1) : Int) ≤ (s.size : Int) := by omega
        have j6 : ((k - 1 : Nat) : Int) < (o.length : Int) := by omega
        have j5 : (0 : Int) ≤ ((k - 1 : Nat) : Int) := by omega
        have v1 : IntKind.i64.wrap ((k : Int) - 1) = ((k - 1 : Nat) : Int) := by rw [IntKind.wrap_i64]; omega
        have hCA := fun W => agree_at s o k W hs (show 0 < k by omega)
        have HCA : Hid _ := hCA
        have hblt : b < wr.heap.size := cell_lt hc
        have HOWN : Hid _ := hown
        clear hCA hown
        go_wp2_with fail
        go_region_held3 (fun w' => w'.cell? ⟨b, o1 + k, none⟩ = some (.int .i64 (num o k)) ∧ w'.cell? ⟨b, o1 + (k - 1), none⟩ = some (.int .i64 (num o (k - 1)))) (go_keep)
          (first | (go_at_call 73; refine (HCA.out _).mono ?_; rintro e w4 ⟨rfl, hb4⟩; have hz0 := (hb4.cell (p := ⟨b, o1 + k, none⟩) hblt).trans hc; have hz1 := (hb4.cell (p := ⟨b, o1 + (k - 1), none⟩) hblt).trans hc'))
        have hb5 : Below w1.heap.size w1 w4 := Below.later hb.drew hb4
        have hown5 := own_later (own_later HOWN.out (Below.refl _ wr).drew) hb4
        have hsz := hb5.size
        clear hz0 hz1 hb4 hc hc' hb v1 HCA
        go_wp2_with (first | (at_builtin; refine wpList_push _ rfl _ _ rfl w1.heap.size _ _ rfl (hown5.alloc _) ⟨w4.heap.size, 0, none⟩ (cm (bl s) o k) rfl (by simp) hlk (by simp; omega) ?_; intro v' w6 hown6 hb6) | fail)
        go_roundw
        case rel => exact ⟨k + 1, by omega, by go_num, by rw [HTS.out]; exact hown6, (hb5.alloc hb5.size _).trans hb6⟩
        case measure => simp [intOf]; omega
    · have hk' : k = o.length := by omega
      subst hk'
      have hsz := hb1.size
      go_wp2
      go_ret2
      exact ⟨_, rfl, own_mono hown hsz, Below.later hb1 hb⟩
end Go.Proofs.Ytepklbboejnecaa
