/- The statement of the parts: Counted walked. -/
import Derived.Test.YtepklbboejnecaaXd
namespace Go.Proofs.Ytepklbboejnecaa
open Go.RowKit Go.Shelf Sedge
attribute [local go_sem ↓] Go.wp_at_zero Go.wp_at_succ

/-- A part that is there. -/
theorem Part_some (s : ByteArray) (hs : s.size ≤ 1000) (o : List Nat) (ho : IsSA (bl s) o) (n : Nat) (hn : n < many (bl s) o o.length) (hm : many (bl s) o o.length ≤ 1000000) (w : World) : Calls Try.prog 22 #[.string s, .int .i64 n] w fun e w' => e = .returned (.tuple #[.string (ptext s o n), .int .i64 0]) ∧ Below w.heap.size w w' := by
  obtain ⟨_, _, _, _, _, _, _, h⟩ := part_at hn
  have C := Part_any s n w hs (by omega) o ho
  rw [h] at C
  exact C
/-- None is behind the last. -/
theorem Part_none (s : ByteArray) (hs : s.size ≤ 1000) (o : List Nat) (ho : IsSA (bl s) o) (hm : many (bl s) o o.length ≤ 1000000) (w : World) : Calls Try.prog 22 #[.string s, .int .i64 (many (bl s) o o.length : Nat)] w fun e w' => e = .returned (.tuple #[.string ⟨#[]⟩, .int .i64 3]) ∧ Below w.heap.size w w' := by
  have HP : pidx (bl s) o (many (bl s) o o.length) = none := pidx_none (fun j hj => by have := many_mono (bl s) o (show j + 1 ≤ o.length by omega); omega)
  have C := Part_any s (many (bl s) o o.length) w hs (by omega) o ho
  have h : perr (bl s) o (many (bl s) o o.length) = 3 := by unfold perr; rw [HP]; rfl
  rw [h, ptext_none HP] at C
  exact C

/-- What the statement asks of a text's parts. -/
structure Told (s : ByteArray) (N : Nat) (P : Nat → ByteArray) : Prop where
  le : N ≤ 1000000
  pos : 0 < N ↔ 0 < s.size
  all : ∀ w, Calls Try.prog 21 #[.string s] w fun e w' => e = .returned (.tuple #[.int .i64 (N : Int), .int .i64 0]) ∧ Below w.heap.size w w'
  one : ∀ n w, n < N → Calls Try.prog 22 #[.string s, .int .i64 (n : Int)] w fun e w' => e = .returned (.tuple #[.string (P n), .int .i64 0]) ∧ Below w.heap.size w w'
  none : ∀ w, Calls Try.prog 22 #[.string s, .int .i64 (N : Int)] w fun e w' => e = .returned (.tuple #[.string ⟨#[]⟩, .int .i64 3]) ∧ Below w.heap.size w w'
  neg : ∀ w, Calls Try.prog 22 #[.string s, .int .i64 (-1)] w fun e w' => e = .returned (.tuple #[.string ⟨#[]⟩, .int .i64 3]) ∧ Below w.heap.size w w'
  lt : ∀ j k, j < k → k < N → bl (P j) < bl (P k)
  told : ∀ p m, 0 < m → p + m ≤ s.size → ∃ k, k < N ∧ P k = s.extract p (p + m)
  has : ∀ k w, k < N → Calls Try.prog 24 #[.string s, .string (P k)] w fun e w' => e = .returned (.bool true) ∧ Below w.heap.size w w'
  ne : ∀ k, k < N → ¬ P k = ⟨#[]⟩

theorem told_any (s : ByteArray) (hs : s.size ≤ 1000) : ∃ N P, Told s N P := by
  obtain ⟨o, ho⟩ := exists_SA (bl s)
  have hlen := ho.length
  rw [bl_length] at hlen
  have hm : many (bl s) o o.length ≤ 1000000 := by
    have h1 := many_le (bl s) o o.length
    rw [bl_length] at h1
    have h2 := Nat.mul_le_mul (show o.length ≤ 1000 by omega) hs
    omega
  refine ⟨many (bl s) o o.length, ptext s o, hm, ⟨fun h => ?_, fun h => ho.some (by rw [bl_length]; exact h)⟩, fun w => Parts_any s w hs o ho, fun n w hn => Part_some s hs o ho n hn hm w, fun w => Part_none s hs o ho hm w, fun w => Part_neg s (-1) w hs (by omega), fun j k h h' => parts_lt ho h h', fun p m h0 hp => parts_told ho h0 hp, fun k w hk => ?_, fun k hk => ?_⟩
  · by_cases c : 0 < s.size
    · exact c
    · have e : o.length = 0 := by omega
      rw [e] at h; simp [many] at h
  · obtain ⟨i, a, h1, _, _, h4, h5, _⟩ := part_at hk
    have hsz : (ptext s o k).size = cm (bl s) o i + a + 1 := by rw [h5]; simp; omega
    exact has_any s (ptext s o k) (num o i) w hs (by rw [hsz]; omega) (by rw [hsz]; exact h5)
  · obtain ⟨i, a, h1, _, _, h4, h5, _⟩ := part_at hk
    have hsz : (ptext s o k).size = cm (bl s) o i + a + 1 := by rw [h5]; simp; omega
    intro e
    rw [e] at hsz
    have : (⟨#[]⟩ : ByteArray).size = 0 := rfl
    omega

set_option maxRecDepth 100000 in
set_option maxHeartbeats 4000000 in
theorem counted_of (raw : ByteArray) (a b c : Int) (w : World) (s : ByteArray) (hcut : cutTo raw = s) (hs : s.size ≤ 1000) (N : Nat) (P : Nat → ByteArray) (T : Told s N P)
    (ha : -9223372036854775808 ≤ a ∧ a ≤ 9223372036854775807) (hb : -9223372036854775808 ≤ b ∧ b ≤ 9223372036854775807) (hc : -9223372036854775808 ≤ c ∧ c ≤ 9223372036854775807) :
    Calls Try.prog 6 #[.string raw, .int .i64 a, .int .i64 b, .int .i64 c] w fun e w' => e = .returned (.bool true) ∧ Below w.heap.size w w' := by
  have HT : Hid (Told s N P) := T
  have HC : Hid (cutTo raw = s) := hcut
  clear T hcut
  go_enter Try.func6, Try.ntmps6
  go_wp2_with fail
  refine (short_any raw w).mono ?_
  rintro e w0 ⟨rfl, rfl⟩
  rw [HC.out]
  go_wp2_with fail
  refine (awake_any _).mono ?_
  rintro e w1 ⟨rfl, b1⟩
  go_wp2_with fail
  refine (HT.out.all _).mono ?_
  rintro e w2 ⟨rfl, b2⟩
  have b02 := Below.later b1 b2
  clear b1 b2
  go_wp2_with fail
  refine (HT.out.none _).mono ?_
  rintro e w3 ⟨rfl, b3⟩
  have b03 := Below.later b02 b3
  clear b02 b3
  go_wp2_with fail
  refine (HT.out.neg _).mono ?_
  rintro e w4 ⟨rfl, b4⟩
  have b04 := Below.later b03 b4
  clear b03 b4
  by_cases h0 : 0 < s.size
  · have hN := HT.out.pos.2 h0
    have k1 : (0 : Int) < (s.size : Int) := by omega
    have k2 : (0 : Int) < (N : Int) := by omega
    have k3 : ¬ (N : Int) = 0 := by omega
    go_wp2_with fail
    refine (kpick_any a s.size _ ha.1 ha.2 h0 (by omega)).mono ?_
    rintro e w5 ⟨⟨i, hi, rfl⟩, rfl⟩
    have v1 : IntKind.i64.wrap ((s.size : Int) - (i : Int)) = ((s.size - i : Nat) : Int) := by rw [IntKind.wrap_i64]; omega
    go_wp2_with fail
    refine (kpick_any b (s.size - i) _ hb.1 hb.2 (by omega) (by omega)).mono ?_
    rintro e w6 ⟨⟨j, hj, rfl⟩, rfl⟩
    have v2 : IntKind.i64.wrap ((i : Int) + 1) = (i : Int) + 1 := by rw [IntKind.wrap_i64]; omega
    have v3 : IntKind.i64.wrap ((i : Int) + 1 + (j : Int)) = ((i + (1 + j) : Nat) : Int) := by rw [IntKind.wrap_i64]; omega
    have j1 : (0 : Int) ≤ (i : Int) := by omega
    have j2 : (i : Int) ≤ ((i + (1 + j) : Nat) : Int) := by omega
    have j3 : ((i + (1 + j) : Nat) : Int) ≤ (s.size : Int) := by omega
    have v4 : IntKind.i64.wrap ((N : Int) - 1) = ((N - 1 : Nat) : Int) := by have := HT.out.le; rw [IntKind.wrap_i64]; omega
    obtain ⟨K, hK, hPK⟩ := HT.out.told i (1 + j) (by omega) (by omega)
    have HK : Hid (K < N) := hK
    have HP : Hid (P K = s.extract i (i + (1 + j))) := hPK
    have HN : Hid (0 < N) := hN
    have b06 := b04
    clear v1 hK hPK hN b04
    go_wp2_with fail
    go_loopw [19, 20] (fun x y wr => ∃ lo hi : Nat, lo ≤ K ∧ K ≤ hi ∧ hi < N ∧ x = .int .i64 (lo : Int) ∧ y = .int .i64 (hi : Int) ∧ Below w0.heap.size w0 wr) (fun x y _ => (intOf y).toNat - (intOf x).toNat)
    case atStart => exact ⟨0, N - 1, by omega, by have := HK.out; omega, by have := HN.out; omega, rfl, rfl, b06⟩
    case round =>
      obtain ⟨lo, hi, h1, h2, h3, rfl, rfl, bw⟩ := hrel
      have hNle := HT.out.le
      clear v2 v3 v4 j1 j2 j3 b06
      by_cases hlt : lo < hi
      · have i1 : (lo : Int) < (hi : Int) := by omega
        have u1 : IntKind.i64.wrap ((hi : Int) - (lo : Int)) = ((hi - lo : Nat) : Int) := by rw [IntKind.wrap_i64]; omega
        have em : ((lo + (hi - lo) / 2 : Nat) : Int) = (lo : Int) + ((hi - lo : Nat) : Int) / 2 := by omega
        have CM := HT.out.one (lo + (hi - lo) / 2) wr (by omega)
        rw [em] at CM
        have HCM : Hid _ := CM
        have HEM : Hid _ := em
        obtain ⟨mid, hmid⟩ : ∃ mid, mid = lo + (hi - lo) / 2 := ⟨_, rfl⟩
        have hm1 : lo ≤ mid := by omega
        have hm2 : mid < hi := by omega
        have HMID : Hid _ := hmid
        clear CM em hmid
        go_wp2_with fail
        refine Calls.mono HCM.out ?_
        rintro e w7 ⟨rfl, b7⟩
        have bw7 := Below.later bw b7
        clear HCM b7 bw
        by_cases hmk : mid < K
        · have hl : Op.bytesLess (P (lo + (hi - lo) / 2)).toList (s.extract i (i + (1 + j))).toList = true := by
            rw [← HP.out, less_bl, ← HMID.out]; exact decide_eq_true (HT.out.lt _ _ hmk HK.out)
          have HL : Hid (mid + 1 ≤ hi) := hm2
          go_wp2
          go_roundw
          case rel => exact ⟨mid + 1, hi, by omega, h2, h3, by rw [← HEM.out, ← HMID.out]; rfl, rfl, bw7⟩
          case measure => simp [intOf]; rw [← HEM.out, ← HMID.out]; omega
        · have hl : Op.bytesLess (P (lo + (hi - lo) / 2)).toList (s.extract i (i + (1 + j))).toList = false := by
            rw [← HP.out, less_bl, ← HMID.out]
            refine decide_eq_false fun h => ?_
            by_cases e : mid = K
            · rw [e] at h; exact lt_irr _ h
            · exact lt_as (HT.out.lt _ _ (show K < mid by omega) (by omega)) h
          go_wp2
          go_roundw
          case rel => exact ⟨lo, mid, h1, by omega, by omega, rfl, by rw [← HEM.out, ← HMID.out], bw7⟩
          case measure => simp [intOf]; rw [← HEM.out, ← HMID.out]; omega
      · have hlo : lo = K := by omega
        have hhi : ¬ (lo : Int) < (hi : Int) := by omega
        have CK := HT.out.one lo wr (by omega)
        have HCK : Hid _ := CK
        have HLO : Hid (lo = K) := hlo
        clear CK hlo
        go_wp2_with fail
        refine Calls.mono HCK.out ?_
        rintro e w7 ⟨rfl, b7⟩
        have bw7 := Below.later bw b7
        have hq : ((P lo).toList == (s.extract i (i + (1 + j))).toList) = true := by
          rw [HLO.out, HP.out]; simp
        clear HCK b7 bw
        go_wp2_with fail
        refine (kpick_any c N _ hc.1 hc.2 HN.out (by omega)).mono ?_
        rintro e w8 ⟨⟨k, hk, rfl⟩, rfl⟩
        clear hq
        have CK := HT.out.one k w8 hk
        have HCK : Hid _ := CK
        clear CK
        go_wp2_with fail
        refine Calls.mono HCK.out ?_
        rintro e w9 ⟨rfl, b9⟩
        have bw9 := Below.later bw7 b9
        clear HCK b9 bw7
        go_wp2_with fail
        refine (HT.out.has k w9 hk).mono ?_
        rintro e w10 ⟨rfl, b10⟩
        have bw10 := Below.later bw9 b10
        clear b10 bw9
        have hne : (P k).toList.isEmpty = false := by
          have h := HT.out.ne k hk
          rw [ByteArray.toList_eq, List.isEmpty_eq_false_iff]
          intro e
          refine h ?_
          cases hp : P k with
          | mk d => rw [hp] at e; simp at e; rw [e]
        have hk1 : IntKind.i64.wrap ((k : Int) + 1) = (k : Int) + 1 := by rw [IntKind.wrap_i64]; omega
        by_cases hkn : k + 1 < N
        · have i4 : (k : Int) + 1 < (N : Int) := by omega
          have CK := HT.out.one (k + 1) w10 hkn
          rw [show ((k + 1 : Nat) : Int) = (k : Int) + 1 by omega] at CK
          have HCK : Hid _ := CK
          clear CK
          go_wp2_with fail
          refine Calls.mono HCK.out ?_
          rintro e w11 ⟨rfl, b11⟩
          have bw11 := Below.later bw10 b11
          have hless : Op.bytesLess (P k).toList (P (k + 1)).toList = true := by
            rw [less_bl]; exact decide_eq_true (HT.out.lt _ _ (by omega) hkn)
          clear HCK b11 bw10
          go_wp2
          go_ret
          exact ⟨rfl, bw11⟩
        · have i4 : ¬ (k : Int) + 1 < (N : Int) := by omega
          go_wp2
          go_ret
          exact ⟨rfl, bw10⟩
  · have hN : ¬ 0 < N := fun h => h0 (HT.out.pos.1 h)
    have k1 : (s.size : Int) = 0 := by omega
    have k2 : (N : Int) = 0 := by omega
    clear hN h0
    go_wp2
    go_ret
    exact ⟨rfl, b04⟩
end Go.Proofs.Ytepklbboejnecaa
