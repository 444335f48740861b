/- The document's own answer: Part. -/
import Derived.Test.YtepklbboejnecaaWx
namespace Go.Proofs.Ytepklbboejnecaa
open Go.RowKit Go.Shelf Sedge
attribute [local go_sem ↓] Go.wp_at_zero Go.wp_at_succ

set_option maxHeartbeats 1000000 in
theorem refPart_long (s : ByteArray) (n : Int) (w : World) (hs : 1000 < s.size) : Calls Try.prog 48 #[.string s, .int .i64 n] w fun e w' => e = .returned (.tuple #[.string ⟨#[]⟩, .int .i64 2]) ∧ Below w.heap.size w w' := by
  go_enter Try.func48, Try.ntmps48
  go_wp2_with fail
  refine (refParts_long s w hs).mono ?_
  rintro e w1 ⟨rfl, hb⟩
  go_wp2
  go_ret2
  exact ⟨rfl, hb⟩

set_option maxHeartbeats 1000000 in
theorem refPart_neg (s : ByteArray) (n : Int) (w : World) (hs : s.size ≤ 1000) (hn : n < 0) (o : List Nat) (ho : IsSA (bl s) o) : Calls Try.prog 48 #[.string s, .int .i64 n] w fun e w' => e = .returned (.tuple #[.string ⟨#[]⟩, .int .i64 3]) ∧ Below w.heap.size w w' := by
  go_enter Try.func48, Try.ntmps48
  go_wp2_with fail
  refine (refParts_any s w hs o ho).mono ?_
  rintro e w1 ⟨rfl, hb⟩
  go_wp2
  go_ret2
  exact ⟨rfl, hb⟩

set_option maxHeartbeats 1000000 in
theorem refPart_much (s : ByteArray) (n : Nat) (w : World) (hs : s.size ≤ 1000) (o : List Nat) (ho : IsSA (bl s) o) (hn : many (bl s) o o.length ≤ n) : Calls Try.prog 48 #[.string s, .int .i64 n] w fun e w' => e = .returned (.tuple #[.string ⟨#[]⟩, .int .i64 3]) ∧ Below w.heap.size w w' := by
  have i1 : ((many (bl s) o o.length : Nat) : Int) ≤ (n : Int) := by omega
  go_enter Try.func48, Try.ntmps48
  go_wp2_with fail
  refine (refParts_any s w hs o ho).mono ?_
  rintro e w1 ⟨rfl, hb⟩
  go_wp2
  go_ret2
  exact ⟨rfl, hb⟩

set_option maxHeartbeats 4000000 in
theorem refPart_some (s : ByteArray) (n : Nat) (w : World) (hs : s.size ≤ 1000) (o : List Nat) (ho : IsSA (bl s) o) (hn : n < many (bl s) o o.length) : Calls Try.prog 48 #[.string s, .int .i64 n] w fun e w' => e = .returned (.tuple #[.string (ptext s o n), .int .i64 (perr (bl s) o n)]) ∧ Below w.heap.size w w' := by
  have i1 : (n : Int) < ((many (bl s) o o.length : Nat) : Int) := by omega
  have hlen := ho.length
  rw [bl_length] at hlen
  have hon : o.length ≤ 1000 := by omega
  have hmany : many (bl s) o o.length ≤ 1000000 := by
    have h1 := many_le (bl s) o o.length
    rw [bl_length] at h1
    have h2 := Nat.mul_le_mul hon hs
    omega
  clear hlen
  go_enter Try.func48, Try.ntmps48
  go_wp2_with fail
  refine (refParts_any s w hs o ho).mono ?_
  rintro e w0 ⟨rfl, hb0⟩
  go_wp2_with fail
  refine (all_any s w0 (by omega)).mono ?_
  rintro e w1 ⟨ad, c, R, rfl, hS, hSA, hb1⟩
  have he := ho.unique hSA
  subst he
  have hb01 := Below.later hb0 hb1
  have HNN : Hid (n < many (bl s) o o.length) := hn
  clear hb0 hb1 hSA i1 hn
  go_wp2_with fail
  go_loopw [1, 9] (fun t i wr => ∃ k : Nat, k ≤ o.length ∧ i = .int .i64 k ∧ many (bl s) o k ≤ n ∧ t = .int .i64 ((n - many (bl s) o k : Nat) : Int) ∧ (∀ j, j < k → ¬ n < many (bl s) o (j + 1)) ∧ Below w1.heap.size w1 wr) (fun _ i _ => o.length - (intOf i).toNat)
  case atStart => exact ⟨0, Nat.zero_le _, rfl, Nat.zero_le _, by simp [many], fun j hj => by omega, Below.refl _ _⟩
  case round =>
    obtain ⟨k, hk, rfl, hmk, rfl, hno, hb⟩ := hrel
    have HNO : Hid (∀ j, j < k → ¬ n < many (bl s) o (j + 1)) := hno
    obtain ⟨d, hd⟩ : ∃ d, n - many (bl s) o k = d := ⟨_, rfl⟩
    rw [hd]
    have hdn : d ≤ 1000000 := by have := HNN.out; omega
    have HD : Hid (n - many (bl s) o k = d) := hd
    have HMK : Hid (many (bl s) o k ≤ n) := hmk
    clear hno hd hmk
    by_cases hlt : k < o.length
    · obtain ⟨b, o1, rfl, hc⟩ := (hS.later hb) k hlt
      have hnl := ho.num_lt hlt
      rw [bl_length] at hnl
      have hcl := cm_le (bl s) o k
      rw [bl_length] at hcl
      have HS : Hid (many (bl s) o (k + 1) = many (bl s) o k + brings (bl s) o k) := rfl
      have HBR : Hid (brings (bl s) o k = s.size - num o k - cm (bl s) o k) := by unfold Hid brings; rw [bl_length]
      have i2 : (k : Int) < (o.length : Int) := by omega
      have i3 : (0 : Int) ≤ (k : Int) := by omega
      have j1 : (0 : Int) ≤ (num o k : Int) := by omega
      have j2 : (num o k : Int) ≤ (s.size : Int) := by omega
      have hblt : b < wr.heap.size := cell_lt hc
      have fin : ∀ W : World, d < brings (bl s) o k → ptext s o n = s.extract (num o k) (num o k + cm (bl s) o k + d + 1) ∧ perr (bl s) o n = 0 := fun W hcase => by
        have HP := pidx_some hlt (show n < many (bl s) o (k + 1) by have := HS.out; have := HD.out; have := HMK.out; omega) HNO.out
        have HPT := ptext_some HP
        rw [HD.out] at HPT
        exact ⟨HPT, by unfold perr; rw [HP]; rfl⟩
      have HFin : Hid _ := fin
      have nxt : ¬ d < brings (bl s) o k → many (bl s) o (k + 1) ≤ n ∧ n - many (bl s) o (k + 1) = d - brings (bl s) o k := fun hcase => by
        have := HS.out; have := HD.out; have := HMK.out; omega
      have HNx : Hid _ := nxt
      clear fin nxt
      by_cases h0 : k = 0
      · have hz : cm (bl s) o k = 0 := by rw [h0]; simp [cm]
        have HZ : Hid (cm (bl s) o k = 0) := hz
        have hk0 : (k : Int) ≤ 0 := by omega
        clear hz h0
        by_cases hcase : d < brings (bl s) o k
        · have hcase' : (d : Int) < (s.size : Int) - num o k := by have := HBR.out; have := HZ.out; omega
          have k1 : (num o k : Int) + d + 1 ≤ (s.size : Int) := by omega
          have k2 : (num o k : Int) ≤ (num o k : Int) + d + 1 := by omega
          have v2 : IntKind.i64.wrap ((num o k : Int) + d) = (num o k : Int) + d := by rw [IntKind.wrap_i64]; omega
          have v3 : IntKind.i64.wrap ((num o k : Int) + d + 1) = (num o k : Int) + d + 1 := by rw [IntKind.wrap_i64]; omega
          go_wp2
          go_quiet (fail)
          go_wp2
          go_ret2
          refine ⟨?_, Below.later hb01 (hb.drewN _)⟩
          obtain ⟨f1, f2⟩ := HFin.out wr hcase
          rw [f1, f2, HZ.out, Nat.add_zero]
          rfl
        · have hcase' : (s.size : Int) - num o k ≤ (d : Int) := by have := HBR.out; have := HZ.out; omega
          obtain ⟨n1, n2⟩ := HNx.out hcase
          have HN1 : Hid _ := n1
          have HN2 : Hid _ := n2
          clear n1 n2
          go_wp2
          go_roundw
          case rel => exact ⟨k + 1, by omega, by go_num, HN1.out, by rw [HN2.out]; congr 1; have := HBR.out; have := HZ.out; omega, fun j hj => by
            by_cases e : j = k
            · rw [e]; have := HN1.out; omega
            · exact HNO.out j (by omega), hb⟩
          case measure => simp [intOf]; omega
      · have hk0 : (0 : Int) < (k : Int) := by omega
        obtain ⟨b', o1', e', hc'⟩ := (hS.later hb) (k - 1) (by omega)
        simp only [Option.some.injEq, Addr.mk.injEq, and_true] at e'
        obtain ⟨rfl, rfl⟩ := e'
        have hnl' := ho.num_lt (show k - 1 < o.length by omega)
        rw [bl_length] at hnl'
        have j3 : (0 : Int) ≤ (num o (k - 1) : Int) := by omega
        have j4 : (num o (k - 1) : Int) ≤ (s.size : Int) := by omega
        have j6 : ((k - 1 : Nat) : Int) < (o.length : Int) := by omega
        have j5 : (0 : Int) ≤ ((k - 1 : Nat) : Int) := by omega
        have v1 : IntKind.i64.wrap ((k : Int) - 1) = ((k - 1 : Nat) : Int) := by rw [IntKind.wrap_i64]; omega
        have hCA := fun W => agree_at s o k W hs (show 0 < k by omega)
        have HCA : Hid _ := hCA
        clear hCA
        go_wp2_with fail
        go_region_held3 (fun w' => w'.cell? ⟨b, o1 + k, none⟩ = some (.int .i64 (num o k)) ∧ w'.cell? ⟨b, o1 + (k - 1), none⟩ = some (.int .i64 (num o (k - 1)))) (go_keep)
          (first | (go_at_call 73; refine (HCA.out _).mono ?_; rintro e w4 ⟨rfl, hb4⟩; have hz0 := (hb4.cell (p := ⟨b, o1 + k, none⟩) hblt).trans hc; have hz1 := (hb4.cell (p := ⟨b, o1 + (k - 1), none⟩) hblt).trans hc'))
        have hb5 : Below w1.heap.size w1 w4 := Below.later hb.drew hb4
        clear v1 hz1 hb4 hc hc' hb
        by_cases hcase : d < brings (bl s) o k
        · have hcase' : (d : Int) < (s.size : Int) - num o k - cm (bl s) o k := by have := HBR.out; omega
          have k1 : (num o k : Int) + cm (bl s) o k + d + 1 ≤ (s.size : Int) := by omega
          have k2 : (num o k : Int) ≤ (num o k : Int) + cm (bl s) o k + d + 1 := by omega
          have v0 : IntKind.i64.wrap ((num o k : Int) + cm (bl s) o k) = (num o k : Int) + cm (bl s) o k := by rw [IntKind.wrap_i64]; omega
          have v2 : IntKind.i64.wrap ((num o k : Int) + cm (bl s) o k + d) = (num o k : Int) + cm (bl s) o k + d := by rw [IntKind.wrap_i64]; omega
          have v3 : IntKind.i64.wrap ((num o k : Int) + cm (bl s) o k + d + 1) = (num o k : Int) + cm (bl s) o k + d + 1 := by rw [IntKind.wrap_i64]; omega
          go_wp2
          go_quiet (fail)
          go_wp2
          go_ret2
          refine ⟨?_, Below.later hb01 (hb5.drewN _)⟩
          obtain ⟨f1, f2⟩ := HFin.out w4 hcase
          rw [f1, f2]
          rfl
        · have hcase' : (s.size : Int) - num o k - cm (bl s) o k ≤ (d : Int) := by have := HBR.out; omega
          obtain ⟨n1, n2⟩ := HNx.out hcase
          have HN1 : Hid _ := n1
          have HN2 : Hid _ := n2
          clear n1 n2
          go_wp2
          go_roundw
          case rel => exact ⟨k + 1, by omega, by go_num, HN1.out, by rw [HN2.out]; congr 1; have := HBR.out; omega, fun j hj => by
            by_cases e : j = k
            · rw [e]; have := HN1.out; omega
            · exact HNO.out j (by omega), hb5⟩
          case measure => simp [intOf]; omega
    · have hkl : k = o.length := by omega
      have := HMK.out
      have := HNN.out
      rw [hkl] at *
      omega

/-- sedgeref.Part. -/
theorem refPart_any (s : ByteArray) (n : Nat) (w : World) (hs : s.size ≤ 1000) (o : List Nat) (ho : IsSA (bl s) o) : Calls Try.prog 48 #[.string s, .int .i64 n] w fun e w' => e = .returned (.tuple #[.string (ptext s o n), .int .i64 (perr (bl s) o n)]) ∧ Below w.heap.size w w' := by
  by_cases hn : n < many (bl s) o o.length
  · exact refPart_some s n w hs o ho hn
  · have HP : pidx (bl s) o n = none := pidx_none (fun j hj => by have := many_mono (bl s) o (show j + 1 ≤ o.length by omega); omega)
    have e1 : ptext s o n = ⟨#[]⟩ := ptext_none HP
    have e2 : perr (bl s) o n = 3 := by unfold perr; rw [HP]; rfl
    rw [e1, e2]
    exact refPart_much s n w hs o ho (by omega)
end Go.Proofs.Ytepklbboejnecaa
