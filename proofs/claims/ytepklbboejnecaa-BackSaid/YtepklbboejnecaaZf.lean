/- Turning back: sedge.Unturn. -/
import Derived.Test.YtepklbboejnecaaZe
namespace Go.Proofs.Ytepklbboejnecaa
open Go.RowKit Go.Shelf Sedge
attribute [local go_sem ↓] Go.wp_at_zero Go.wp_at_succ

/-- A text of which Turn makes last and row. -/
def Texts (s : ByteArray) (n : Int) (t : ByteArray) : Prop := 0 ≤ n ∧ Tn (bl t) (bl s) n.toNat
/-- What Unturn answers where last is not too long. -/
def Unturns (s : ByteArray) (n : Int) (w : World) (e : Ending) (w' : World) : Prop :=
  ∃ t k, e = .returned (.tuple #[.string t, .int .i64 k]) ∧ ((k = 0 ∧ Texts s n t) ∨ (k = 5 ∧ t = ⟨#[]⟩ ∧ ∀ t', ¬ Texts s n t')) ∧ Below w.heap.size w w'

theorem tn_sizes {l L : List Nat} {r : Nat} (h : Tn l L r) : l.length = L.length ∧ r ≤ L.length := by
  obtain ⟨R, hR, rfl, rfl⟩ := h
  rw [turnL_length hR]
  exact ⟨rfl, idx0_le hR⟩
/-- There is one text at most. -/
theorem tn_inj {l l' L : List Nat} {r : Nat} (h : Tn l L r) (h' : Tn l' L r) (hl : ∀ p, num l p < 256) (hl' : ∀ p, num l' p < 256) : l = l' := by
  have z := (tn_sizes h).1
  have z' := (tn_sizes h').1
  obtain ⟨R, hR, e1, e2⟩ := h
  obtain ⟨R', hR', f1, f2⟩ := h'
  have key : ∀ m k, k + m = L.length → R.idxOf k = R'.idxOf k := by
    intro m
    induction m with
    | zero =>
      intro k hk
      have q1 := hR.idx_end
      have q2 := hR'.idx_end
      rw [show l.length = k by omega] at q1
      rw [show l'.length = k by omega] at q2
      rw [q1, q2]
    | succ m ih =>
      intro k hk
      have a := (ref_back hR hl (show k < l.length by omega)).2.2
      have b := (ref_back hR' hl' (show k < l'.length by omega)).2.2
      rw [← e1, ← e2, z] at a
      rw [← f1, ← f2, z'] at b
      rw [← a, ← b, ih (k + 1) (by omega)]
  apply List.ext_getElem (by omega)
  intro k h1 h2
  rw [← num_eq h1, ← num_eq h2]
  have a := (ref_back hR hl h1).2.1
  have b := (ref_back hR' hl' h2).2.1
  rw [← e1, ← e2] at a
  rw [← f1, ← f2] at b
  rw [← a, ← b, key (L.length - (k + 1)) (k + 1) (by omega)]
theorem Texts.inj {s t t' : ByteArray} {n : Int} (h : Texts s n t) (h' : Texts s n t') : t = t' := bl_inj (tn_inj h.2 h'.2 (bl_lt t) (bl_lt t'))

set_option maxHeartbeats 1000000 in
theorem back_out (s : ByteArray) (n : Int) (w : World) (h : n < 0 ∨ (s.size : Int) < n) :
    Calls Try.prog 65 #[.string s, .int .i64 n] w fun e w' => e = .returned (.tuple #[.string ⟨#[]⟩, .bool false]) ∧ Below w.heap.size w w' := by
  by_cases h1 : n < 0
  · go_enter Try.func65, Try.ntmps65
    go_wp2
    go_ret2
    exact ⟨rfl, Below.refl _ _⟩
  · have h2 : (s.size : Int) < n := h.resolve_left h1
    clear h
    go_enter Try.func65, Try.ntmps65
    go_wp2
    go_ret2
    exact ⟨rfl, Below.refl _ _⟩

theorem back_texts (s : ByteArray) (n : Int) (w : World) (hs : s.size ≤ 1000) :
    Calls Try.prog 65 #[.string s, .int .i64 n] w fun e w' => ∃ t b, e = .returned (.tuple #[.string t, .bool b]) ∧ ((b = true ∧ Texts s n t) ∨ (b = false ∧ ∀ t', ¬ Texts s n t')) ∧ Below w.heap.size w w' := by
  by_cases h : n < 0 ∨ (s.size : Int) < n
  · refine (back_out s n w h).mono ?_
    rintro e w' ⟨rfl, hb⟩
    refine ⟨_, _, rfl, .inr ⟨rfl, fun t' ht => ?_⟩, hb⟩
    have := ht.1
    have := (tn_sizes ht.2).2
    rw [bl_length] at this
    omega
  · obtain ⟨r, rfl⟩ : ∃ r : Nat, n = (r : Int) := ⟨n.toNat, by omega⟩
    have hr : r ≤ s.size := by omega
    have hr' : r ≤ (bl s).length := by rw [bl_length]; exact hr
    refine (back_any s r w hs hr).mono ?_
    rintro e w' ⟨A, hA, hz, rfl, hb⟩
    refine ⟨_, _, rfl, ?_, hb⟩
    by_cases hf : A.length = s.size + 1
    · have hv := hA.valid (bl_lt s) hr' hz (by rw [bl_length]; exact hf)
      have hm : ∀ x ∈ met (bl s) r A, x < 256 := fun x hx => by
        unfold met at hx
        obtain ⟨i, _, rfl⟩ := List.mem_map.1 hx
        have := ah_lt (r := r) (bl_lt s) i
        omega
      rw [if_pos hf, decide_eq_true hf]
      exact .inl ⟨rfl, by omega, by rw [bl_ofL hm]; exact hv⟩
    · rw [decide_eq_false hf]
      refine .inr ⟨rfl, fun t' ht => hf ?_⟩
      have hT := ht.2
      rw [Int.toNat_natCast] at hT
      have hsz := (tn_sizes hT).1
      obtain ⟨R, hR, e1, e2⟩ := hT
      rw [e1, e2] at hA
      have := hA.back hR (bl_lt t') hz
      have hl := congrArg List.length this
      rw [met_length, hsz, bl_length] at hl
      have := hA.ne
      omega

set_option maxHeartbeats 1000000 in
theorem Unturn_any (s : ByteArray) (n : Int) (w : World) (hs : s.size ≤ 1000) : Calls Try.prog 32 #[.string s, .int .i64 n] w (Unturns s n w) := by
  have i1 : (s.size : Int) ≤ 1000 := by omega
  have HC : Hid _ := back_texts s n w hs
  go_enter Try.func32, Try.ntmps32
  go_wp2_with fail
  refine Calls.mono HC.out ?_
  rintro e w1 ⟨t, b, rfl, h, hb⟩
  have HH : Hid _ := h
  clear h
  cases b with
  | true =>
    go_wp2
    go_ret2
    have h := HH.out.resolve_right (fun q => by cases q.1)
    exact ⟨t, 0, rfl, .inl ⟨rfl, h.2⟩, hb⟩
  | false =>
    go_wp2
    go_ret2
    have h := HH.out.resolve_left (fun q => by cases q.1)
    exact ⟨_, 5, rfl, .inr ⟨rfl, rfl, h.2⟩, hb⟩
set_option maxHeartbeats 1000000 in
theorem Unturn_long (s : ByteArray) (n : Int) (w : World) (hs : 1000 < s.size) :
    Calls Try.prog 32 #[.string s, .int .i64 n] w fun e w' => e = .returned (.tuple #[.string ⟨#[]⟩, .int .i64 2]) ∧ Below w.heap.size w w' := by
  have i1 : (1000 : Int) < (s.size : Int) := by omega
  go_enter Try.func32, Try.ntmps32
  go_wp2
  go_ret2
  exact ⟨rfl, Below.refl _ _⟩
end Go.Proofs.Ytepklbboejnecaa
