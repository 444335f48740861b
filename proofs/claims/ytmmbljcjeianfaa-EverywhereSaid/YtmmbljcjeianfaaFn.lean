/- Everywhere. -/
import Derived.Test.YtmmbljcjeianfaaFm
namespace Go.Proofs.Ytmmbljcjeianfaa
open Go.RowKit Go.Shelf Sedge
attribute [local go_sem ↓] Go.wp_at_zero Go.wp_at_succ

theorem shared_short (a b : ByteArray) (ha : a.size ≤ 300) (hb : b.size ≤ 300) (w : World) : Calls Try.prog 30 #[.string a, .string b] w fun e w' => ∃ n A B : Nat, e = .returned (.tuple #[.agg #[.int .i64 n, .int .i64 A, .int .i64 B], .int .i64 0]) ∧ SharedIs (bl a) (bl b) n A B ∧ Below w.heap.size w w' := by
  have h := Shared_tell a b w
  have hn : ¬ (1000 < a.size ∨ 1000 < b.size) := by omega
  unfold TellS sharedE SharedAns at h
  simp only [if_neg hn] at h
  exact h
theorem find_short (a q : ByteArray) (ha : a.size ≤ 300) (hq : q.size ≤ 300) (h0 : 0 < q.size) (w : World) : Calls Try.prog 29 #[.string a, .string q] w fun e w' => ∃ ad c, e = .returned (.tuple #[.slice ad (plcs (bl a) (bl q)).length c, .int .i64 0]) ∧ Sl w' ad (plcs (bl a) (bl q)) ∧ Below w.heap.size w w' := by
  refine (Find_tell a q w).mono ?_
  have hn : ¬ (1000 < a.size ∨ 1000 < q.size) := by omega
  have hm : ¬ q.size = 0 := by omega
  unfold findL findE
  rw [if_neg hn, if_neg hm, if_neg hn, if_neg hm]
  rintro e w' ⟨v, rfl, hown, hb⟩
  obtain ⟨ad, c, rfl, hS⟩ := own_sl hown
  exact ⟨ad, c, rfl, hS, hb⟩

set_option maxRecDepth 100000 in
set_option maxHeartbeats 8000000 in
theorem everywhere_any (raw : ByteArray) (fr sz : Int) (other : ByteArray) (hf1 : -9223372036854775808 ≤ fr) (hf2 : fr ≤ 9223372036854775807) (hz1 : -9223372036854775808 ≤ sz) (hz2 : sz ≤ 9223372036854775807) (w : World) :
    Calls Try.prog 9 #[.string raw, .int .i64 fr, .int .i64 sz, .string other] w fun e w' => e = .returned (.bool true) ∧ Below w.heap.size w w' := by
  go_enter Try.func9, Try.ntmps9
  go_wp2_with fail
  refine (short300_any raw w).mono ?_
  rintro e w' ⟨⟨t, ht, rfl⟩, e0⟩
  rw [e0]
  clear e0 w'
  go_wp2_with fail
  refine (short300_any other w).mono ?_
  rintro e w' ⟨⟨b, hb, rfl⟩, e0⟩
  rw [e0]
  clear e0 w'
  go_wp2_with fail
  refine (awake_any w).mono ?_
  rintro e w1 ⟨rfl, hb1⟩
  have HB : Hid _ := hb1
  have HS1 : Hid _ := shared_short t b ht hb
  have HS2 : Hid _ := shared_short b t hb ht
  clear hb1
  by_cases h0 : 0 < t.size
  · have i0 : (0 : Int) < (t.size : Int) := by omega
    have HP1 : Hid _ := fun W => kpick_any fr t.size W hf1 hf2 h0 (by omega)
    go_wp2_with fail
    refine Calls.mono (HP1.out _) ?_
    rintro e w' ⟨⟨i, hi, rfl⟩, e0⟩
    rw [e0]
    clear e0 w' HP1
    have HP2 : Hid _ := fun W => kpick_any sz (t.size - i) W hz1 hz2 (by omega) (by omega)
    have u1 : IntKind.i64.wrap ((t.size : Int) - (i : Int)) = (t.size : Int) - (i : Int) := by rw [IntKind.wrap_i64]; omega
    go_wp2_with fail
    have ee : (t.size : Int) - (i : Int) = ((t.size - i : Nat) : Int) := by omega
    rw [ee]
    refine Calls.mono (HP2.out _) ?_
    rintro e w' ⟨⟨m, hm, rfl⟩, e0⟩
    rw [e0, ← ee]
    clear e0 w' HP2 ee
    have u2 : IntKind.i64.wrap ((i : Int) + 1 + (m : Int)) = (i : Int) + 1 + (m : Int) := by rw [IntKind.wrap_i64]; omega
    have u3 : (i : Int) ≤ (i : Int) + 1 + (m : Int) := by omega
    have u4 : (i : Int) + 1 + (m : Int) ≤ (t.size : Int) := by omega
    have u5 : (0 : Int) ≤ (i : Int) := by omega
    have hps : (t.extract i (i + 1 + m)).size = 1 + m := by rw [ByteArray.size_extract]; omega
    have HF : Hid _ := find_short t (t.extract i (i + 1 + m)) ht (by omega) (by omega) w1
    have hq1 : 0 < (t.extract i (i + 1 + m)).size := by omega
    have hq2 : (t.extract i (i + 1 + m)).size ≤ 300 := by omega
    clear hps
    go_wp2_with fail
    generalize t.extract i (i + 1 + m) = q at HF hq1 hq2 ⊢
    refine Calls.mono HF.out ?_
    rintro e w2 ⟨ad, c, rfl, hSl, hb2⟩
    have HB' : Hid _ := Below.later HB.out hb2
    clear HB HF hb2 u1 u2 u3 u4 u5
    obtain ⟨L, hL⟩ : ∃ L, L = (plcs (bl t) (bl q)).length := ⟨_, rfl⟩
    rw [← hL]
    have HL : Hid _ := hL
    clear hL
    go_wp2_with fail
    go_loopw [16, 17] (fun kv pv wr => ∃ p kk : Nat, p ≤ t.size ∧ pv = .int .i64 p ∧ kv = .int .i64 kk ∧ kk = (plcsTo (bl t) (bl q) p).length ∧ wr = w2) (fun _ pv _ => t.size + 1 - (intOf pv).toNat)
    case atStart => exact ⟨0, 0, Nat.zero_le _, rfl, rfl, rfl, rfl⟩
    case round =>
      obtain ⟨p, kk, hp, rfl, rfl, hkk, rfl⟩ := hrel
      have v1 : IntKind.i64.wrap ((p : Int) + (q.size : Int)) = (p : Int) + (q.size : Int) := by rw [IntKind.wrap_i64]; omega
      have hle := plcsTo_le (bl t) (bl q) p
      have hkl : kk ≤ 300 := by omega
      have HKK : Hid _ := hkk
      clear hkk hle
      by_cases hlt : p + q.size ≤ t.size
      · have j1 : (p : Int) + (q.size : Int) ≤ (t.size : Int) := by omega
        have j2 : (0 : Int) ≤ (p : Int) := by omega
        have j3 : (p : Int) ≤ (p : Int) + (q.size : Int) := by omega
        have hsu := plcsTo_succ (bl t) (bl q) p
        have eat : ((t.extract p (p + q.size)).toList == q.toList) = at' (bl t) (bl q) p := by
          rw [str_eq]
          unfold at'
          refine decide_eq_decide.2 ?_
          rw [bl_length, ← bl_extract2]
          exact ⟨fun e => by rw [e], fun e => bl_inj e.symm⟩
        by_cases ha : at' (bl t) (bl q) p = true
        · rw [if_pos ha] at hsu
          rw [ha] at eat
          have hpa := plcs_at ha (by rw [bl_length]; omega)
          rw [← HKK.out, ← HL.out] at hpa
          obtain ⟨bb, oo, rfl, hc⟩ := hSl kk (by rw [← HL.out]; exact hpa.1)
          rw [hpa.2] at hc
          have j4 : ¬ (L : Int) ≤ (kk : Int) := by omega
          have j5 : (kk : Int) < (L : Int) := by omega
          have j6 : (0 : Int) ≤ (kk : Int) := by omega
          have HSU : Hid _ := hsu
          clear hsu ha hpa
          go_wp2
          go_roundw
          case rel => exact ⟨p + 1, kk + 1, by omega, by go_num, by go_num, by rw [HSU.out, List.length_append, ← HKK.out]; rfl, trivial⟩
          case measure => simp [intOf]; omega
        · have ha' : at' (bl t) (bl q) p = false := by simpa using ha
          rw [if_neg ha] at hsu
          rw [ha'] at eat
          have HSU : Hid _ := hsu
          clear hsu ha ha'
          go_wp2
          go_roundw
          case rel => exact ⟨p + 1, kk, by omega, by go_num, rfl, by rw [HSU.out]; exact HKK.out, trivial⟩
          case measure => simp [intOf]; omega
      · have j1 : ¬ (p : Int) + (q.size : Int) ≤ (t.size : Int) := by omega
        have e := plcsTo_all (l := bl t) (q := bl q) (k := p) (by rw [bl_length]; exact hp) (by rw [bl_length, bl_length]; omega) (by rw [bl_length]; exact hq1)
        have ek : kk = L := by rw [HKK.out, HL.out, e]
        subst ek
        have HB : Hid _ := HB'.out
        clear e HB' HKK HL hSl
        go_wp2_with fail
        refine Calls.mono (HS1.out _) ?_
        rintro e w3 ⟨n, A, B, rfl, hS1, hb3⟩
        have HI1 : Hid _ := hS1
        have HB3 : Hid _ := Below.later HB.out hb3
        clear hS1 hb3 HB HS1
        have bx1 : Blk (w3.alloc (Obj.cells #[.int .i64 n, .int .i64 A, .int .i64 B] 53)) w3.heap.size 53 [.int .i64 n, .int .i64 A, .int .i64 B] := Blk.new w3 _ _ rfl
        have bb1 : Below w3.heap.size w3 (w3.alloc (Obj.cells #[.int .i64 n, .int .i64 A, .int .i64 B] 53)) := (Below.refl _ _).alloc (Nat.le_refl _) _
        have HBX : Hid _ := bx1
        have HBB : Hid _ := Below.later HB3.out bb1
        clear bx1 bb1 HB3
        go_wp2_with fail
        generalize w3.alloc (Obj.cells #[.int .i64 n, .int .i64 A, .int .i64 B] 53) = w4 at HBX HBB ⊢
        refine Calls.mono (HS2.out _) ?_
        rintro e w5 ⟨n', A', B', rfl, hS2, hb5⟩
        obtain ⟨rfl, f1, f2, f3, f4⟩ := shared_facts HI1.out hS2
        have H4 : Hid _ := f4
        have hx5 := Blk.later HBX.out hb5
        have hB5 := Below.later HBB.out hb5
        obtain ⟨x0, x1, x2⟩ := cells3 hx5
        have l1 := hx5.lt
        have q1 : ¬ w5.heap.size = w3.heap.size := by omega
        have q2 : ¬ w3.heap.size = w5.heap.size := by omega
        have c1 : ¬ (n : Int) < 0 := by omega
        have c2 : ¬ (A : Int) < 0 := by omega
        have c3 : ¬ (B : Int) < 0 := by omega
        have v1 : IntKind.i64.wrap ((A : Int) + (n : Int)) = (A : Int) + (n : Int) := by rw [IntKind.wrap_i64]; omega
        have v2 : IntKind.i64.wrap ((B : Int) + (n : Int)) = (B : Int) + (n : Int) := by rw [IntKind.wrap_i64]; omega
        have c4 : (A : Int) + (n : Int) ≤ (t.size : Int) := by omega
        have c5 : (B : Int) + (n : Int) ≤ (b.size : Int) := by omega
        have c6 : (A : Int) ≤ (A : Int) + (n : Int) := by omega
        have c7 : (B : Int) ≤ (B : Int) + (n : Int) := by omega
        have c8 : (0 : Int) ≤ (A : Int) := by omega
        have c9 : (0 : Int) ≤ (B : Int) := by omega
        have eq1 : ((t.extract A (A + n)).toList == (b.extract B (B + n)).toList) = true := by rw [str_eq, f3]; simp
        clear hS2 hb5 HI1 HBX HBB HS2 f3 f4
        go_wp2
        go_quiet (fail)
        go_wp2_with fail
        have hx6 := Blk.later (hx5.alloc (Obj.cells #[.int .i64 n, .int .i64 A', .int .i64 B'] 53)) ((Below.refl _ _).drewN nq)
        have hB6 := Below.later (hB5.alloc hB5.size (Obj.cells #[.int .i64 n, .int .i64 A', .int .i64 B'] 53)) ((Below.refl _ _).drewN nq)
        generalize (w5.alloc (Obj.cells #[.int .i64 n, .int .i64 A', .int .i64 B'] 53)).drewN nq = w6 at hx6 hB6 ⊢
        obtain ⟨z0, z1, z2⟩ := cells3 hx6
        clear x0 x1 x2 hx5 hB5 q1 q2 l1 v1 v2 c2 c3 c4 c5 c6 c7 c8 c9 eq1
        go_loopw [22] (fun iv wr => ∃ k : Nat, k ≤ t.size + 1 ∧ iv = .int .i64 k ∧ wr = w6) (fun iv _ => t.size + 1 - (intOf iv).toNat)
        case atStart => exact ⟨0, Nat.zero_le _, rfl, rfl⟩
        case round =>
          obtain ⟨k, hk, rfl, rfl⟩ := hrel
          have v3 : IntKind.i64.wrap ((k : Int) + (n : Int)) = (k : Int) + (n : Int) := by rw [IntKind.wrap_i64]; omega
          have v4 : IntKind.i64.wrap ((k : Int) + (n : Int) + 1) = (k : Int) + (n : Int) + 1 := by rw [IntKind.wrap_i64]; omega
          have d1 : (0 : Int) ≤ (k : Int) := by omega
          have d2 : (k : Int) ≤ (k : Int) + (n : Int) + 1 := by omega
          by_cases hl : k + n + 1 ≤ t.size
          · have d3 : (k : Int) + (n : Int) + 1 ≤ (t.size : Int) := by omega
            have hsz : (t.extract k (k + n + 1)).size = n + 1 := by rw [ByteArray.size_extract]; omega
            have HN : Hid _ := fun W => hasnt_any b (t.extract k (k + n + 1)) W (by omega) (by omega) (fun p hp => by rw [hsz] at hp ⊢; exact H4.out k (by omega) p hp)
            clear hsz
            go_wp2_with fail
            refine Calls.mono (HN.out _) ?_
            rintro e w7 ⟨rfl, e7⟩
            rw [e7]
            clear e7
            go_wp2
            go_roundw
            case rel => exact ⟨k + 1, by omega, by go_num, trivial⟩
            case measure => simp [intOf]; omega
          · have d3 : ¬ (k : Int) + (n : Int) + 1 ≤ (t.size : Int) := by omega
            go_wp2
            go_ret
            exact ⟨rfl, hB6⟩
  · have i0 : ¬ (0 : Int) < (t.size : Int) := by omega
    go_wp2_with fail
    refine Calls.mono (HS1.out _) ?_
    rintro e w3 ⟨n, A, B, rfl, hS1, hb3⟩
    have HI1 : Hid _ := hS1
    have HB3 : Hid _ := Below.later HB.out hb3
    clear hS1 hb3 HB HS1
    have bx1 : Blk (w3.alloc (Obj.cells #[.int .i64 n, .int .i64 A, .int .i64 B] 53)) w3.heap.size 53 [.int .i64 n, .int .i64 A, .int .i64 B] := Blk.new w3 _ _ rfl
    have bb1 : Below w3.heap.size w3 (w3.alloc (Obj.cells #[.int .i64 n, .int .i64 A, .int .i64 B] 53)) := (Below.refl _ _).alloc (Nat.le_refl _) _
    have HBX : Hid _ := bx1
    have HBB : Hid _ := Below.later HB3.out bb1
    clear bx1 bb1 HB3
    go_wp2_with fail
    generalize w3.alloc (Obj.cells #[.int .i64 n, .int .i64 A, .int .i64 B] 53) = w4 at HBX HBB ⊢
    refine Calls.mono (HS2.out _) ?_
    rintro e w5 ⟨n', A', B', rfl, hS2, hb5⟩
    obtain ⟨rfl, f1, f2, f3, f4⟩ := shared_facts HI1.out hS2
    have H4 : Hid _ := f4
    have hx5 := Blk.later HBX.out hb5
    have hB5 := Below.later HBB.out hb5
    obtain ⟨x0, x1, x2⟩ := cells3 hx5
    have l1 := hx5.lt
    have q1 : ¬ w5.heap.size = w3.heap.size := by omega
    have q2 : ¬ w3.heap.size = w5.heap.size := by omega
    have c1 : ¬ (n : Int) < 0 := by omega
    have c2 : ¬ (A : Int) < 0 := by omega
    have c3 : ¬ (B : Int) < 0 := by omega
    have v1 : IntKind.i64.wrap ((A : Int) + (n : Int)) = (A : Int) + (n : Int) := by rw [IntKind.wrap_i64]; omega
    have v2 : IntKind.i64.wrap ((B : Int) + (n : Int)) = (B : Int) + (n : Int) := by rw [IntKind.wrap_i64]; omega
    have c4 : (A : Int) + (n : Int) ≤ (t.size : Int) := by omega
    have c5 : (B : Int) + (n : Int) ≤ (b.size : Int) := by omega
    have c6 : (A : Int) ≤ (A : Int) + (n : Int) := by omega
    have c7 : (B : Int) ≤ (B : Int) + (n : Int) := by omega
    have c8 : (0 : Int) ≤ (A : Int) := by omega
    have c9 : (0 : Int) ≤ (B : Int) := by omega
    have eq1 : ((t.extract A (A + n)).toList == (b.extract B (B + n)).toList) = true := by rw [str_eq, f3]; simp
    clear hS2 hb5 HI1 HBX HBB HS2 f3 f4
    go_wp2
    go_quiet (fail)
    go_wp2_with fail
    have hx6 := Blk.later (hx5.alloc (Obj.cells #[.int .i64 n, .int .i64 A', .int .i64 B'] 53)) ((Below.refl _ _).drewN nq)
    have hB6 := Below.later (hB5.alloc hB5.size (Obj.cells #[.int .i64 n, .int .i64 A', .int .i64 B'] 53)) ((Below.refl _ _).drewN nq)
    generalize (w5.alloc (Obj.cells #[.int .i64 n, .int .i64 A', .int .i64 B'] 53)).drewN nq = w6 at hx6 hB6 ⊢
    obtain ⟨z0, z1, z2⟩ := cells3 hx6
    clear x0 x1 x2 hx5 hB5 q1 q2 l1 v1 v2 c2 c3 c4 c5 c6 c7 c8 c9 eq1
    go_loopw [22] (fun iv wr => ∃ k : Nat, k ≤ t.size + 1 ∧ iv = .int .i64 k ∧ wr = w6) (fun iv _ => t.size + 1 - (intOf iv).toNat)
    case atStart => exact ⟨0, Nat.zero_le _, rfl, rfl⟩
    case round =>
      obtain ⟨k, hk, rfl, rfl⟩ := hrel
      have v3 : IntKind.i64.wrap ((k : Int) + (n : Int)) = (k : Int) + (n : Int) := by rw [IntKind.wrap_i64]; omega
      have v4 : IntKind.i64.wrap ((k : Int) + (n : Int) + 1) = (k : Int) + (n : Int) + 1 := by rw [IntKind.wrap_i64]; omega
      have d1 : (0 : Int) ≤ (k : Int) := by omega
      have d2 : (k : Int) ≤ (k : Int) + (n : Int) + 1 := by omega
      by_cases hl : k + n + 1 ≤ t.size
      · exact absurd hl (by omega)
      · have d3 : ¬ (k : Int) + (n : Int) + 1 ≤ (t.size : Int) := by omega
        go_wp2
        go_ret
        exact ⟨rfl, hB6⟩
end Go.Proofs.Ytmmbljcjeianfaa
