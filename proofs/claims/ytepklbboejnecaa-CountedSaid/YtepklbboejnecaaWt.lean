/- Parts: the n-th of them. -/
import Derived.Test.YtepklbboejnecaaWs
namespace Go.Proofs.Ytepklbboejnecaa
open Go.RowKit Go.Shelf Sedge
attribute [local go_sem ↓] Go.wp_at_zero Go.wp_at_succ

/-- The end, by its number in order, that brings the n-th part. -/
def pidx (l o : List Nat) (n : Nat) : Option Nat := (List.range o.length).find? fun k => decide (n < many l o (k + 1))
theorem pidx_some {l o : List Nat} {n k : Nat} (hk : k < o.length) (h : n < many l o (k + 1)) (hj : ∀ j, j < k → ¬ n < many l o (j + 1)) : pidx l o n = some k := by
  unfold pidx; rw [List.find?_range_eq_some]
  exact ⟨by simpa using h, List.mem_range.2 hk, fun j hjk => by simpa using hj j hjk⟩
theorem pidx_none {l o : List Nat} {n : Nat} (h : ∀ j, j < o.length → ¬ n < many l o (j + 1)) : pidx l o n = none := by
  unfold pidx; rw [List.find?_eq_none]
  intro k hk; simpa using h k (List.mem_range.1 hk)
/-- The n-th part. -/
def ptext (s : ByteArray) (o : List Nat) (n : Nat) : ByteArray :=
  match pidx (bl s) o n with
  | some k => s.extract (num o k) (num o k + cm (bl s) o k + (n - many (bl s) o k) + 1)
  | none => ⟨#[]⟩
theorem ptext_some {s : ByteArray} {o : List Nat} {n k : Nat} (h : pidx (bl s) o n = some k) : ptext s o n = s.extract (num o k) (num o k + cm (bl s) o k + (n - many (bl s) o k) + 1) := by unfold ptext; rw [h]
theorem ptext_none {s : ByteArray} {o : List Nat} {n : Nat} (h : pidx (bl s) o n = none) : ptext s o n = ⟨#[]⟩ := by unfold ptext; rw [h]

set_option maxHeartbeats 400000 in
theorem nth_neg (s : ByteArray) (ad ad' : Option Addr) (m c c' : Nat) (n : Int) (w : World) (hn : n < 0) :
    Calls Try.prog 56 #[tv s ad ad' m c c', .int .i64 n] w fun e w' => e = .returned (.tuple #[.string ⟨#[]⟩, .bool false]) ∧ Below w.heap.size w w' := by
  go_enter Try.func56, Try.ntmps56
  go_wp2
  go_ret2
  exact ⟨rfl, (Below.refl _ _).alloc (Nat.le_refl _) _⟩

set_option maxHeartbeats 2000000 in
/-- 'Nth'. -/
theorem nth_any (s : ByteArray) (ad ad' : Option Addr) (o : List Nat) (c c' n : Nat) (w : World) (hs : s.size ≤ 1000000) (h : Tab w s ad ad' o) (hn : n ≤ 9223372036854775807) :
    Calls Try.prog 56 #[tv s ad ad' o.length c c', .int .i64 n] w fun e w' => e = .returned (.tuple #[.string (ptext s o n), .bool (pidx (bl s) o n).isSome]) ∧ Below w.heap.size w w' := by
  have hlen := h.sa.length
  rw [bl_length] at hlen
  have hon : o.length ≤ 1000000 := by omega
  clear hlen
  go_enter Try.func56, Try.ntmps56
  go_wp2
  go_loopw [1, 14] (fun t i wr => ∃ k : Nat, k ≤ o.length ∧ i = .int .i64 k ∧ many (bl s) o k ≤ n ∧ t = .int .i64 ((n - many (bl s) o k : Nat) : Int) ∧ (∀ j, j < k → ¬ n < many (bl s) o (j + 1)) ∧ Blk wr w.heap.size 91 [.string s, .slice ad o.length c, .slice ad' o.length c'] ∧ Below w.heap.size w wr) (fun _ i _ => o.length - (intOf i).toNat)
  case atStart => exact ⟨0, Nat.zero_le _, rfl, Nat.zero_le _, by simp [many], fun j hj => by omega, Blk.new w _ _ rfl, (Below.refl _ _).alloc (Nat.le_refl _) _⟩
  case round =>
    obtain ⟨k, hk, rfl, hmk, rfl, hno, hbx, hb⟩ := hrel
    obtain ⟨hx0, hx1, hx2⟩ := cells3 hbx
    have HNO : Hid (∀ j, j < k → ¬ n < many (bl s) o (j + 1)) := hno
    obtain ⟨d, hd⟩ : ∃ d, n - many (bl s) o k = d := ⟨_, rfl⟩
    rw [hd]
    have HD : Hid (n - many (bl s) o k = d) := hd
    have HMK : Hid (many (bl s) o k ≤ n) := hmk
    have hdn : d ≤ 9223372036854775807 := by omega
    clear hno hd hmk
    by_cases hlt : k < o.length
    · have hord := (h.later hb).ord
      obtain ⟨b, o1, rfl, hc⟩ := hord k hlt
      have HS : Hid (many (bl s) o (k + 1) = many (bl s) o k + brings (bl s) o k) := rfl
      have hbrn : brings (bl s) o k ≤ 1000000 := by unfold brings; rw [bl_length]; omega
      go_wp2_with fail
      refine (brings_any s (some ⟨b, o1, none⟩) ad' o c c' k wr hs (h.later hb) hlt).mono ?_
      rintro e w2 ⟨rfl, hb2⟩
      have hbx2 := hbx.later hb2
      have hb3 := Below.later hb hb2
      obtain ⟨hy0, hy1, hy2⟩ := cells3 hbx2
      by_cases hcase : d < brings (bl s) o k
      · have HP := pidx_some hlt (show n < many (bl s) o (k + 1) by have := HS.out; have := HD.out; have := HMK.out; omega) HNO.out
        have HPT := ptext_some HP
        rw [HD.out] at HPT
        have HP' : Hid _ := HP
        have HPT' : Hid _ := HPT
        obtain ⟨b', o1', rfl, hc'⟩ := (h.later hb3).com k (by rw [tab_length]; exact hlt)
        rw [tab_num hlt] at hc'
        have hnl := h.sa.num_lt hlt
        rw [bl_length] at hnl
        have hcl := cm_le (bl s) o k
        rw [bl_length] at hcl
        have hbr : d < s.size - num o k - cm (bl s) o k := by unfold brings at hcase; rwa [bl_length] at hcase
        have i1 : (num o k : Int) + cm (bl s) o k + d + 1 ≤ (s.size : Int) := by omega
        have i2 : (0 : Int) ≤ (num o k : Int) := by omega
        have i3 : (num o k : Int) ≤ (num o k : Int) + cm (bl s) o k + d + 1 := by omega
        have i4 : (k : Int) < (o.length : Int) := by omega
        have i5 : (0 : Int) ≤ (k : Int) := by omega
        have v1 : IntKind.i64.wrap ((num o k : Int) + cm (bl s) o k) = (num o k : Int) + cm (bl s) o k := by rw [IntKind.wrap_i64]; omega
        have v2 : IntKind.i64.wrap ((num o k : Int) + cm (bl s) o k + d) = (num o k : Int) + cm (bl s) o k + d := by rw [IntKind.wrap_i64]; omega
        have v3 : IntKind.i64.wrap ((num o k : Int) + cm (bl s) o k + d + 1) = (num o k : Int) + cm (bl s) o k + d + 1 := by rw [IntKind.wrap_i64]; omega
        have hcase' : (d : Int) < (brings (bl s) o k : Int) := by omega
        have hlt2 : w.heap.size < w2.heap.size := hbx2.lt
        have hblt : b' < w2.heap.size := cell_lt hc'
        clear HP HPT hx0 hx1 hx2 hbx hb hb2 hord hc h
        go_wp2_with fail
        go_region_held3 (fun w' => w'.cell? ⟨w.heap.size, 0, none⟩ = some (.string s) ∧ w'.cell? ⟨w.heap.size, 2, none⟩ = some (.slice (some ⟨b', o1', none⟩) o.length c') ∧ w'.cell? ⟨b', o1' + k, none⟩ = some (.int .i64 (cm (bl s) o k))) (go_keep)
          (first | (go_at_call 94; refine (clone_any _ _ (by simp; omega)).mono ?_; rintro e w4 ⟨rfl, hb4⟩; have hbx4 := Blk.later (Blk.drew hbx2) hb4; obtain ⟨hz0, hz1, hz2⟩ := cells3 hbx4; have hc4 := (hb4.cell (p := ⟨b', o1' + k, none⟩) hblt).trans hc'))
        have hb5 := Below.later hb3.drew hb4
        go_wp2
        go_ret2
        refine ⟨?_, hb5⟩
        rw [HPT'.out, HP'.out, show ((num o k : Int) + cm (bl s) o k + d + 1).toNat = num o k + cm (bl s) o k + d + 1 by omega]
        rfl
      · have HSt : Hid (many (bl s) o (k + 1) ≤ n) := by have := HS.out; have := HD.out; have := HMK.out; unfold Hid; omega
        have HDt : Hid (n - many (bl s) o (k + 1) = d - brings (bl s) o k) := by have := HS.out; have := HD.out; have := HMK.out; unfold Hid; omega
        have hcase' : (brings (bl s) o k : Int) ≤ (d : Int) := by omega
        clear hx0 hx1 hx2 hbx hb hb2 hord hc hy0 hy1 hy2
        go_wp2
        go_roundw
        case rel => exact ⟨k + 1, by omega, by go_num, HSt.out, by rw [HDt.out]; congr 1; omega, fun j hj => by
          by_cases e : j = k
          · rw [e]; have := HSt.out; omega
          · exact HNO.out j (by omega), hbx2, hb3⟩
        case measure => simp [intOf]; omega
    · have hkl : k = o.length := by omega
      have HP := pidx_none (l := bl s) (o := o) (n := n) (fun j hj => HNO.out j (by omega))
      have HP' : Hid _ := HP
      have HPT' : Hid _ := ptext_none HP
      clear HP
      go_wp2
      go_ret2
      refine ⟨?_, hb⟩
      rw [HPT'.out, HP'.out]
      rfl
end Go.Proofs.Ytepklbboejnecaa
