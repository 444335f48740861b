/- The parts in their order, as strings. -/
import Derived.Test.YtepklbboejnecaaXc
import Derived.Test.YtepklbboejnecaaM
namespace Go.Proofs.Ytepklbboejnecaa
open Go.RowKit Go.Shelf Sedge
attribute [local go_sem ↓] Go.wp_at_zero Go.wp_at_succ

theorem bl_extract2 (s : ByteArray) (a m : Nat) : bl (s.extract a (a + m)) = ((bl s).drop a).take m := by
  unfold bl
  have e : (s.extract a (a + m)).data.toList = (s.data.toList.drop a).take m := by
    rw [ByteArray.data_extract, Array.toList_extract, List.extract_eq_take_drop, Nat.add_sub_cancel_left]
  rw [e, List.map_take, List.map_drop]

theorem bl_inj {s t : ByteArray} (h : bl s = bl t) : s = t := by
  unfold bl at h
  have := List.map_inj_right (f := UInt8.toNat) (fun a b e => UInt8.toNat_inj.1 e) |>.1 h
  cases s; cases t
  simp at this
  rw [this]

/-- Where part k lies. -/
theorem part_at {s : ByteArray} {o : List Nat} {k : Nat} (h : k < many (bl s) o o.length) :
    ∃ i a, i < o.length ∧ k = many (bl s) o i + a ∧ a < brings (bl s) o i ∧ cm (bl s) o i + a + 1 ≤ s.size - num o i ∧ ptext s o k = s.extract (num o i) (num o i + (cm (bl s) o i + a + 1)) ∧ perr (bl s) o k = 0 := by
  obtain ⟨i, h1, h2, h3⟩ := many_at h
  have h4 : many (bl s) o (i + 1) = many (bl s) o i + brings (bl s) o i := rfl
  have HP : pidx (bl s) o k = some i := pidx_some h1 h3 (fun j hj => by have := many_mono (bl s) o (show j + 1 ≤ i by omega); omega)
  have h5 : brings (bl s) o i = s.size - num o i - cm (bl s) o i := by unfold brings; rw [bl_length]
  refine ⟨i, k - many (bl s) o i, h1, by omega, by omega, by omega, ?_, by unfold perr; rw [HP]; rfl⟩
  rw [ptext_some HP]
  congr 1
  omega

theorem part_bl {s : ByteArray} {o : List Nat} {k i a : Nat} (h : ptext s o k = s.extract (num o i) (num o i + (cm (bl s) o i + a + 1))) : bl (ptext s o k) = ((bl s).drop (num o i)).take (cm (bl s) o i + a + 1) := by
  rw [h, bl_extract2]

/-- Later ones are greater. -/
theorem parts_lt {s : ByteArray} {o : List Nat} (ho : IsSA (bl s) o) {k k' : Nat} (hk : k < k') (h : k' < many (bl s) o o.length) : bl (ptext s o k) < bl (ptext s o k') := by
  obtain ⟨i, a, i1, i2, i3, i4, i5, _⟩ := part_at (show k < many (bl s) o o.length by omega)
  obtain ⟨j, b, j1, j2, j3, j4, j5, _⟩ := part_at h
  rw [part_bl i5, part_bl j5]
  refine ho.part_lt j1 ?_ (by rw [bl_length]; exact j4)
  by_cases c : i < j
  · exact Or.inl c
  · by_cases e : i = j
    · subst e; exact Or.inr ⟨rfl, by omega⟩
    · exfalso
      have h1 := many_mono (bl s) o (show j + 1 ≤ i by omega)
      have h4 : many (bl s) o (j + 1) = many (bl s) o j + brings (bl s) o j := rfl
      omega

/-- Every part is told. -/
theorem parts_told {s : ByteArray} {o : List Nat} (ho : IsSA (bl s) o) {p m : Nat} (hm : 0 < m) (hp : p + m ≤ s.size) : ∃ k, k < many (bl s) o o.length ∧ ptext s o k = s.extract p (p + m) := by
  obtain ⟨i, a, h1, h2, h3, h4⟩ := ho.told hm (by rw [bl_length]; exact hp)
  have h5 : many (bl s) o (i + 1) = many (bl s) o i + brings (bl s) o i := rfl
  have h6 : many (bl s) o (i + 1) ≤ many (bl s) o o.length := many_mono (bl s) o (by omega)
  have HP : pidx (bl s) o (many (bl s) o i + a) = some i := pidx_some h1 (by omega) (fun j hj => by have := many_mono (bl s) o (show j + 1 ≤ i by omega); omega)
  refine ⟨many (bl s) o i + a, by omega, bl_inj ?_⟩
  rw [ptext_some HP, show num o i + cm (bl s) o i + (many (bl s) o i + a - many (bl s) o i) + 1 = num o i + (cm (bl s) o i + a + 1) by omega, bl_extract2, bl_extract2]
  exact h2.symm

theorem less_bl (a b : ByteArray) : Op.bytesLess a.toList b.toList = decide (bl a < bl b) := by
  rw [ByteArray.toList_eq, ByteArray.toList_eq, less_map]
  rfl

theorem str_eq (a b : ByteArray) : (a.toList == b.toList) = decide (a = b) := by
  rw [ByteArray.toList_eq, ByteArray.toList_eq]
  by_cases e : a = b
  · simp [e]
  · have : ¬ a.data = b.data := fun h => e (by cases a; cases b; simp at h; rw [h])
    simp [e, this]

/-- What is left of a text that is cut at 1000 bytes. -/
def cutTo (s : ByteArray) : ByteArray := if s.size ≤ 1000 then s else s.extract 0 1000
theorem cutTo_size (s : ByteArray) : (cutTo s).size ≤ 1000 := by
  unfold cutTo; split
  · assumption
  · simp; omega

set_option maxHeartbeats 1000000 in
/-- 'short'. -/
theorem short_any (s : ByteArray) (w : World) : Calls Try.prog 17 #[.string s, .int .i64 1000] w fun e w' => e = .returned (.string (cutTo s)) ∧ w' = w := by
  by_cases h : s.size ≤ 1000
  · have i1 : (s.size : Int) ≤ 1000 := by omega
    have e : cutTo s = s := by simp [cutTo, h]
    rw [e]
    clear e
    go_enter Try.func17, Try.ntmps17
    go_wp2
    go_ret
    exact ⟨rfl, rfl⟩
  · have i1 : (1000 : Int) < (s.size : Int) := by omega
    have i2 : (1000 : Int) ≤ (s.size : Int) := by omega
    have e : cutTo s = s.extract 0 1000 := by simp [cutTo, h]
    rw [e]
    clear e
    go_enter Try.func17, Try.ntmps17
    go_wp2
    go_ret
    exact ⟨rfl, rfl⟩

set_option maxHeartbeats 1000000 in
/-- 'pick'. -/
theorem kpick_any (c : Int) (n : Nat) (w : World) (h1 : -9223372036854775808 ≤ c) (h2 : c ≤ 9223372036854775807) (hn : 0 < n) (hn2 : n ≤ 10000000) :
    Calls Try.prog 23 #[.int .i64 c, .int .i64 n] w fun e w' => (∃ k : Nat, k < n ∧ e = .returned (.int .i64 k)) ∧ w' = w := by
  have hz : ¬ (n : Int) = 0 := by omega
  by_cases h : c < 0
  · have v1 : IntKind.i64.wrap (c + 1) = c + 1 := by rw [IntKind.wrap_i64]; omega
    have v2 : IntKind.i64.wrap (-(c + 1)) = -(c + 1) := by rw [IntKind.wrap_i64]; omega
    go_enter Try.func23, Try.ntmps23
    go_wp2
    go_ret
    obtain ⟨m, hm⟩ : ∃ m : Nat, c + 1 = -(m : Int) := ⟨(-(c + 1)).toNat, by omega⟩
    refine ⟨⟨m % n, Nat.mod_lt _ hn, ?_⟩, rfl⟩
    show Ending.returned (Value.int .i64 (-((c + 1).tmod n))) = _
    rw [hm, Int.neg_tmod, Int.neg_neg, ← Int.ofNat_tmod]
  · have h' : 0 ≤ c := by omega
    go_enter Try.func23, Try.ntmps23
    go_wp2
    go_ret
    obtain ⟨m, rfl⟩ := Int.eq_ofNat_of_zero_le h'
    exact ⟨⟨m % n, Nat.mod_lt _ hn, rfl⟩, rfl⟩

set_option maxHeartbeats 1000000 in
/-- 'has', of a part that is there. -/
theorem has_any (s t : ByteArray) (p : Nat) (w : World) (hs : s.size ≤ 1000) (hp : p + t.size ≤ s.size) (ht : t = s.extract p (p + t.size)) :
    Calls Try.prog 24 #[.string s, .string t] w fun e w' => e = .returned (.bool true) ∧ Below w.heap.size w w' := by
  have HT : Hid (t = s.extract p (p + t.size)) := ht
  clear ht
  go_enter Try.func24, Try.ntmps24
  go_wp2_with fail
  go_loopw [5] (fun i wr => ∃ k : Nat, k ≤ p ∧ i = .int .i64 k ∧ wr = w) (fun i _ => p - (intOf i).toNat)
  case atStart => exact ⟨0, Nat.zero_le _, rfl, rfl⟩
  case round =>
    obtain ⟨k, hk, rfl, rfl⟩ := hrel
    have v1 : IntKind.i64.wrap ((k : Int) + (t.size : Int)) = (k : Int) + (t.size : Int) := by rw [IntKind.wrap_i64]; omega
    have j1 : (k : Int) + (t.size : Int) ≤ (s.size : Int) := by omega
    have j2 : (0 : Int) ≤ (k : Int) := by omega
    have j3 : (k : Int) ≤ (k : Int) + (t.size : Int) := by omega
    by_cases e : s.extract k (k + t.size) = t
    · go_wp2
      go_ret
      exact ⟨rfl, Below.refl _ _⟩
    · have hlt : k < p := by
        by_cases c : k = p
        · exact absurd (by rw [c]; exact HT.out.symm) e
        · omega
      have e' : ((s.extract k (k + t.size)).toList == t.toList) = false := by rw [str_eq]; simpa using e
      clear e
      go_wp2
      go_roundw
      case rel => exact ⟨k + 1, by omega, by go_num, trivial⟩
      case measure => simp [intOf]; omega
end Go.Proofs.Ytepklbboejnecaa
