/- Everywhere: the small ones. -/
import Derived.Test.YtmmbljcjeianfaaF
namespace Go.Proofs.Ytmmbljcjeianfaa
open Go.RowKit Go.Shelf Sedge
attribute [local go_sem ↓] Go.wp_at_zero Go.wp_at_succ

set_option maxHeartbeats 1000000 in
/-- 'short', at 300 bytes. -/
theorem short300_any (s : ByteArray) (w : World) : Calls Try.prog 17 #[.string s, .int .i64 300] w fun e w' => (∃ t : ByteArray, t.size ≤ 300 ∧ e = .returned (.string t)) ∧ w' = w := by
  by_cases h : s.size ≤ 300
  · have i1 : (s.size : Int) ≤ 300 := by omega
    go_enter Try.func17, Try.ntmps17
    go_wp2
    go_ret
    exact ⟨⟨s, h, rfl⟩, rfl⟩
  · have i1 : (300 : Int) < (s.size : Int) := by omega
    have i2 : (300 : Int) ≤ (s.size : Int) := by omega
    go_enter Try.func17, Try.ntmps17
    go_wp2
    go_ret
    exact ⟨⟨s.extract 0 300, by simp; omega, rfl⟩, rfl⟩

set_option maxHeartbeats 1000000 in
/-- 'has', of a part that is not there. -/
theorem hasnt_any (s t : ByteArray) (w : World) (hs : s.size ≤ 1000) (ht : t.size ≤ 1000) (hno : ∀ p, p + t.size ≤ s.size → ¬ s.extract p (p + t.size) = t) :
    Calls Try.prog 24 #[.string s, .string t] w fun e w' => e = .returned (.bool false) ∧ w' = w := by
  have HT : Hid _ := hno
  clear hno
  go_enter Try.func24, Try.ntmps24
  go_wp2_with fail
  go_loopw [5] (fun i wr => ∃ k : Nat, k ≤ s.size + 1 ∧ i = .int .i64 k ∧ wr = w) (fun i _ => s.size + 1 - (intOf i).toNat)
  case atStart => exact ⟨0, Nat.zero_le _, rfl, rfl⟩
  case round =>
    obtain ⟨k, hk, rfl, rfl⟩ := hrel
    have v1 : IntKind.i64.wrap ((k : Int) + (t.size : Int)) = (k : Int) + (t.size : Int) := by rw [IntKind.wrap_i64]; omega
    have j2 : (0 : Int) ≤ (k : Int) := by omega
    have j3 : (k : Int) ≤ (k : Int) + (t.size : Int) := by omega
    by_cases hl : k + t.size ≤ s.size
    · have j1 : (k : Int) + (t.size : Int) ≤ (s.size : Int) := by omega
      have e' : ((s.extract k (k + t.size)).toList == t.toList) = false := by rw [str_eq]; simpa using HT.out k hl
      go_wp2
      go_roundw
      case rel => exact ⟨k + 1, by omega, by go_num, trivial⟩
      case measure => simp [intOf]; omega
    · have j1 : ¬ (k : Int) + (t.size : Int) ≤ (s.size : Int) := by omega
      go_wp2
      go_ret
      exact ⟨rfl, rfl⟩

theorem plcsTo_prefix (l q : List Nat) (k d : Nat) : ∃ r, plcsTo l q (k + d) = plcsTo l q k ++ r := by
  induction d with
  | zero => exact ⟨[], by simp⟩
  | succ d ih =>
    obtain ⟨r, hr⟩ := ih
    rw [← Nat.add_assoc, plcsTo_succ]
    split
    · exact ⟨r ++ [k + d], by rw [hr, List.append_assoc]⟩
    · exact ⟨r, hr⟩
theorem plcs_at {l q : List Nat} {p : Nat} (h : at' l q p = true) (hp : p < l.length) : (plcsTo l q p).length < (plcs l q).length ∧ num (plcs l q) (plcsTo l q p).length = p := by
  obtain ⟨r, hr⟩ := plcsTo_prefix l q (p + 1) (l.length - (p + 1))
  rw [show p + 1 + (l.length - (p + 1)) = l.length by omega, plcsTo_succ, if_pos h] at hr
  have e : plcs l q = plcsTo l q p ++ [p] ++ r := hr
  have hl : (plcsTo l q p).length < (plcs l q).length := by rw [e]; simp
  refine ⟨hl, ?_⟩
  rw [num_eq hl]
  simp [e]

/-- What is told of what two texts share. -/
theorem shared_facts {a b : ByteArray} {n A B n' A' B' : Nat} (h : SharedIs (bl a) (bl b) n A B) (k : SharedIs (bl b) (bl a) n' A' B') : n = n' ∧ A + n ≤ a.size ∧ B + n ≤ b.size ∧ a.extract A (A + n) = b.extract B (B + n) ∧ ∀ i, i + (n + 1) ≤ a.size → ∀ p, p + (n + 1) ≤ b.size → ¬ b.extract p (p + (n + 1)) = a.extract i (i + (n + 1)) := by
  have hle : ∀ {a b : ByteArray} {n A B n' A' B' : Nat}, SharedIs (bl a) (bl b) n A B → SharedIs (bl b) (bl a) n' A' B' → n ≤ n' := fun {a b n A B n' A' B'} h k => by
    by_cases h0 : n = 0
    · omega
    · have h1 := h.is (by omega)
      have h2 := k.most B A (h.inB (by omega)) (h.inA (by omega))
      rw [lcp_comm] at h2; omega
  have hAB : A + n ≤ a.size ∧ B + n ≤ b.size ∧ n ≤ lcp ((bl a).drop A) ((bl b).drop B) := by
    by_cases h0 : n = 0
    · obtain ⟨rfl, rfl⟩ := h.none h0; subst h0; simp
    · have h1 := h.is (by omega)
      have h2 := lcp_le_left ((bl a).drop A) ((bl b).drop B)
      have h3 := lcp_le_right ((bl a).drop A) ((bl b).drop B)
      have h4 := h.inA (by omega)
      have h5 := h.inB (by omega)
      rw [List.length_drop, bl_length] at h2 h3
      rw [bl_length] at h4 h5
      omega
  refine ⟨Nat.le_antisymm (hle h k) (hle k h), hAB.1, hAB.2.1, bl_inj ?_, fun i hi p hp e => ?_⟩
  · rw [bl_extract2, bl_extract2]; exact take_of_lcp _ _ _ hAB.2.2
  · have e1 := congrArg bl e
    rw [bl_extract2, bl_extract2] at e1
    have : n + 1 ≤ lcp ((bl a).drop i) ((bl b).drop p) := by
      refine (lcp_eq_iff _ _ _).2 ⟨by rw [List.length_drop, bl_length]; omega, by rw [List.length_drop, bl_length]; omega, fun j hj => ?_⟩
      have e2 := congrArg (fun l => num l j) e1
      simp only [num, List.getD, List.getElem?_take, hj, if_true] at e2 ⊢
      exact e2.symm
    have := h.most i p (by rw [bl_length]; omega) (by rw [bl_length]; omega)
    omega
end Go.Proofs.Ytmmbljcjeianfaa
