/- Thirds: comparing lists of numbers; what is read of an end. -/
import Derived.Test.YtepklbboejnecaaXg
namespace Go.Proofs.Ytepklbboejnecaa
open Go.RowKit Go.Shelf Sedge
attribute [local go_sem ↓] Go.wp_at_zero Go.wp_at_succ

theorem isNaN_any (a : Int) (w : World) : Calls Try.prog 164 #[.int .i64 a] w fun e w' => e = .returned (.bool false) ∧ w' = w := by
  go_enter Try.func164, Try.ntmps164
  go_wp2
  go_ret
  exact ⟨rfl, rfl⟩

/-- Less, equal, greater as -1, 0, 1. -/
def sgn (a b : Nat) : Int := if a < b then -1 else if b < a then 1 else 0

set_option maxHeartbeats 1000000 in
theorem compare_any (a b : Nat) (w : World) : Calls Try.prog 158 #[.int .i64 a, .int .i64 b] w fun e w' => e = .returned (.int .i64 (sgn a b)) ∧ w' = w := by
  go_enter Try.func158, Try.ntmps158
  go_wp2_with fail
  refine (isNaN_any _ _).mono ?_
  rintro e w1 ⟨rfl, rfl⟩
  go_wp2_with fail
  refine (isNaN_any _ _).mono ?_
  rintro e w2 ⟨rfl, rfl⟩
  by_cases h1 : a < b
  · have i1 : (a : Int) < (b : Int) := by omega
    go_wp2
    go_ret
    exact ⟨by simp [sgn, h1], rfl⟩
  · have i1 : ¬ (a : Int) < (b : Int) := by omega
    by_cases h2 : b < a
    · have i2 : (b : Int) < (a : Int) := by omega
      go_wp2
      go_ret
      exact ⟨by simp [sgn, h1, h2], rfl⟩
    · have i2 : ¬ (b : Int) < (a : Int) := by omega
      go_wp2
      go_ret
      exact ⟨by simp [sgn, h1, h2], rfl⟩

theorem lt_at {X Y : List Nat} : ∀ k, k < X.length → k < Y.length → (∀ j, j < k → num X j = num Y j) → (X < Y ↔ num X k < num Y k ∨ (num X k = num Y k ∧ X.drop (k + 1) < Y.drop (k + 1))) := by
  intro k hx hy h
  have e : X.take k = Y.take k := by
    apply List.ext_getElem
    · simp; omega
    · intro j h1 h2
      simp only [List.length_take] at h1 h2
      rw [List.getElem_take, List.getElem_take]
      have := h j (by omega)
      rwa [num_eq (by omega), num_eq (by omega)] at this
  conv => lhs; rw [← List.take_append_drop k X, ← List.take_append_drop k Y, e]
  rw [drop_num hx, drop_num hy]
  constructor
  · intro c
    rcases lt_tri (num X k :: X.drop (k + 1)) (num Y k :: Y.drop (k + 1)) with d | d | d
    · exact List.cons_lt_cons_iff.1 d
    · rw [d] at c; exact absurd c (lt_irr _)
    · exact absurd c (lt_as (List.append_left_lt d))
  · intro c
    exact List.append_left_lt (List.cons_lt_cons_iff.2 c)

set_option maxHeartbeats 2000000 in
/-- 'slices.Compare' of two lists of one length. -/
theorem compares_any (ax ay : Option Addr) (X Y : List Nat) (cx cy : Nat) (w : World) (hX : Sl w ax X) (hY : Sl w ay Y) (hlen : X.length = Y.length) (hn : X.length ≤ 1000) :
    Calls Try.prog 143 #[.slice ax X.length cx, .slice ay X.length cy] w fun e w' => ∃ r : Int, e = .returned (.int .i64 r) ∧ (r < 0 ↔ X < Y) ∧ w' = w := by
  have HLEN : Hid (X.length = Y.length) := hlen
  clear hlen
  go_enter Try.func143, Try.ntmps143
  go_wp2
  go_loopw [11] (fun i wr => ∃ k : Nat, k ≤ X.length ∧ i = .int .i64 k ∧ (∀ j, j < k → num X j = num Y j) ∧ wr = w) (fun i _ => X.length - (intOf i).toNat)
  case atStart => exact ⟨0, Nat.zero_le _, rfl, fun j hj => by omega, rfl⟩
  case round =>
    obtain ⟨k, hk, rfl, heq, rfl⟩ := hrel
    have HEQ : Hid (∀ j, j < k → num X j = num Y j) := heq
    clear heq
    by_cases hlt : k < X.length
    · obtain ⟨b, o1, rfl, hc⟩ := hX k hlt
      obtain ⟨b2, o2, rfl, hc2⟩ := hY k (by rw [← HLEN.out]; exact hlt)
      have i1 : (k : Int) < (X.length : Int) := by omega
      have i2 : (0 : Int) ≤ (k : Int) := by omega
      go_wp2_with fail
      refine (compare_any _ _ _).mono ?_
      rintro e w1 ⟨rfl, rfl⟩
      have LT := lt_at k hlt (by rw [← HLEN.out]; exact hlt) HEQ.out
      have HLT : Hid _ := LT
      clear LT
      by_cases c1 : num X k = num Y k
      · have hz : sgn (num X k) (num Y k) = 0 := by simp [sgn, c1]
        rw [hz]
        clear hz
        have HC1 : Hid (num X k = num Y k) := c1
        clear c1
        go_wp2
        go_roundw
        case rel => exact ⟨k + 1, by omega, by go_num, fun j hj => by
          by_cases e : j = k
          · rw [e]; exact HC1.out
          · exact HEQ.out j (by omega), trivial⟩
        case measure => simp [intOf]; omega
      · have hz : (sgn (num X k) (num Y k) == 0) = false := by
          rw [beq_eq_false_iff_ne]; unfold sgn; split
          · omega
          · split <;> omega
        have HC1 : Hid (¬ num X k = num Y k) := c1
        clear c1
        obtain ⟨r, hr⟩ : ∃ r, r = sgn (num X k) (num Y k) := ⟨_, rfl⟩
        rw [← hr] at hz ⊢
        have HR : Hid (r = sgn (num X k) (num Y k)) := hr
        clear hr
        go_wp2
        go_ret
        refine ⟨r, rfl, ?_, rfl⟩
        rw [HLT.out, HR.out]
        have := HC1.out
        unfold sgn; split
        · simp [*]
        · split <;> simp [*]
    · have hk' : k = X.length := by omega
      have HKX : Hid (k = X.length) := hk'
      have i1 : ¬ (k : Int) < (X.length : Int) := by omega
      clear hk'
      go_wp2
      go_ret
      refine ⟨0, rfl, ⟨fun h => by omega, fun h => ?_⟩, rfl⟩
      have e : X = Y := by
        apply List.ext_getElem HLEN.out
        intro j h1 h2
        have := HEQ.out j (by rw [HKX.out]; exact h1)
        rwa [num_eq h1, num_eq h2] at this
      rw [e] at h
      exact absurd h (lt_irr _)

set_option maxHeartbeats 2000000 in
/-- 'readUpTo', one number. -/
theorem readUpTo_one (ad ar : Option Addr) (l r : List Nat) (c cr : Nat) (kinds kr : Int) (p : Nat) (w : World) (hl : Sl w ad l) (hr : Sl w ar r) (hv : ∀ p, num l p ≤ 1000000) (hvr : ∀ p, num r p ≤ 1000000) (hp : p ≤ 1000000) :
    Calls Try.prog 142 #[.agg #[.slice ad l.length c, .int .i64 kinds], .int .i64 p, .int .i64 1, .agg #[.slice ar r.length cr, .int .i64 kr]] w fun e w' => e = .returned (.agg #[.int .i64 (rk l p), .int .i64 (rk r (p + 1)), .int .i64 0]) ∧ Below w.heap.size w w' := by
  have hb0 : Below w.heap.size w (((w.alloc (Obj.cells #[Value.slice ad l.length c, Value.int .i64 kinds] 87)).alloc (Obj.cells #[Value.slice ar r.length cr, Value.int .i64 kr] 87)).alloc (Obj.cells #[.int .i64 0, .int .i64 0, .int .i64 0] 155)) := (((Below.refl _ _).alloc (Nat.le_refl _) _).alloc (by simp) _).alloc (by simp; omega) _
  have hbx : Blk (((w.alloc (Obj.cells #[Value.slice ad l.length c, Value.int .i64 kinds] 87)).alloc (Obj.cells #[Value.slice ar r.length cr, Value.int .i64 kr] 87)).alloc (Obj.cells #[.int .i64 0, .int .i64 0, .int .i64 0] 155)) w.heap.size 87 [.slice ad l.length c, .int .i64 kinds] := Blk.alloc (Blk.alloc (Blk.new w _ _ rfl) _) _
  have hby : Blk (((w.alloc (Obj.cells #[Value.slice ad l.length c, Value.int .i64 kinds] 87)).alloc (Obj.cells #[Value.slice ar r.length cr, Value.int .i64 kr] 87)).alloc (Obj.cells #[.int .i64 0, .int .i64 0, .int .i64 0] 155)) (w.heap.size + 1) 87 [.slice ar r.length cr, .int .i64 kr] := Blk.alloc (Blk.new _ _ _ (by simp)) _
  have hbz : Blk (((w.alloc (Obj.cells #[Value.slice ad l.length c, Value.int .i64 kinds] 87)).alloc (Obj.cells #[Value.slice ar r.length cr, Value.int .i64 kr] 87)).alloc (Obj.cells #[.int .i64 0, .int .i64 0, .int .i64 0] 155)) (w.heap.size + 1 + 1) 155 [.int .i64 0, .int .i64 0, .int .i64 0] := Blk.new _ _ _ (by simp)
  have ne1 : ¬ w.heap.size + 1 + 1 = w.heap.size := by omega
  have ne2 : ¬ w.heap.size = w.heap.size + 1 + 1 := by omega
  have wa : IntKind.i64.wrap ((p : Int) + 1) = (p : Int) + 1 := by rw [IntKind.wrap_i64]; omega
  have wb : IntKind.i64.wrap ((p : Int) + 2) = (p : Int) + 2 := by rw [IntKind.wrap_i64]; omega
  have ek : (((p + 1 : Nat) : Int)) = (p : Int) + 1 := by omega
  have ek' : (((p + 2 : Nat) : Int)) = (p : Int) + 2 := by omega
  have C1 := fun W => at_any ad l c kinds p W
  have C2 := fun W => at_any ar r cr kr (p + 1) W
  rw [ek] at C2
  have D1 : Hid _ := C1
  have D2 : Hid _ := C2
  clear C1 C2 ek ek'
  go_enter Try.func142, Try.ntmps142
  go_wp2
  generalize (((w.alloc (Obj.cells #[Value.slice ad l.length c, Value.int .i64 kinds] 87)).alloc (Obj.cells #[Value.slice ar r.length cr, Value.int .i64 kr] 87)).alloc (Obj.cells #[.int .i64 0, .int .i64 0, .int .i64 0] 155)) = w1 at hb0 hbx hby hbz ⊢
  obtain ⟨x0, x1⟩ := cells2 hbx
  obtain ⟨y0, y1⟩ := cells2 hby
  have A1 : Below w1.heap.size w1 w1.drew := (Below.refl _ _).drew
  have HA1 : Hid _ := A1
  clear A1
  go_region_held3 (fun w' => w'.cell? ⟨w.heap.size, 0, none⟩ = some (.slice ad l.length c) ∧ w'.cell? ⟨w.heap.size, 1, none⟩ = some (.int .i64 kinds) ∧ w'.cell? ⟨w.heap.size + 1, 0, none⟩ = some (.slice ar r.length cr) ∧ w'.cell? ⟨w.heap.size + 1, 1, none⟩ = some (.int .i64 kr)) (go_keep)
    (first
      | (go_at_call 137; have q := hb2; clear q; refine (D2.out _ (hr.later (Below.later (Below.later hb0 HA1.out) hb2)) (hvr _)).mono ?_; rintro e w3 ⟨rfl, hb3⟩; obtain ⟨x4, x5⟩ := cells2 (Blk.later (Blk.later (Blk.later hbx HA1.out) hb2) hb3); obtain ⟨y4, y5⟩ := cells2 (Blk.later (Blk.later (Blk.later hby HA1.out) hb2) hb3); have hbz3 := Blk.later (Blk.later (Blk.later hbz HA1.out) hb2) hb3; obtain ⟨z0, z1, z2⟩ := cells3 hbz3; have f0 := Blk.free hbz3 0; have f1 := Blk.free hbz3 1; have f2 := Blk.free hbz3 2)
      | (go_at_call 137; refine (D1.out _ (hl.later (Below.later hb0 HA1.out)) (hv p)).mono ?_; rintro e w2 ⟨rfl, hb2⟩; obtain ⟨x2, x3⟩ := cells2 (Blk.later (Blk.later hbx HA1.out) hb2); obtain ⟨y2, y3⟩ := cells2 (Blk.later (Blk.later hby HA1.out) hb2); obtain ⟨u0, u1, u2⟩ := cells3 (Blk.later (Blk.later hbz HA1.out) hb2)))
  have hB : Below w.heap.size w w3 := Below.later (Below.later (Below.later hb0 HA1.out) hb2) hb3
  go_wp2
  refine bodyPost_ret (v := .agg #[.int .i64 (rk l p), .int .i64 (rk r (p + 1)), .int .i64 0]) (by simp [results, Try.results142, go_sem, z0, z1, z2]; exact ⟨rfl, rfl⟩) rfl ⟨rfl, ?_⟩
  exact ((hB.setCell (p := ⟨w.heap.size + 1 + 1, 0, none⟩) (by simp; omega) _).setCell (p := ⟨w.heap.size + 1 + 1, 1, none⟩) (by simp; omega) _).setCell (p := ⟨w.heap.size + 1 + 1, 2, none⟩) (by simp; omega) _
set_option maxHeartbeats 2000000 in
/-- 'readUpTo', two numbers. -/
theorem readUpTo_two (ad ar : Option Addr) (l r : List Nat) (c cr : Nat) (kinds kr : Int) (p : Nat) (w : World) (hl : Sl w ad l) (hr : Sl w ar r) (hv : ∀ p, num l p ≤ 1000000) (hvr : ∀ p, num r p ≤ 1000000) (hp : p ≤ 1000000) :
    Calls Try.prog 142 #[.agg #[.slice ad l.length c, .int .i64 kinds], .int .i64 p, .int .i64 2, .agg #[.slice ar r.length cr, .int .i64 kr]] w fun e w' => e = .returned (.agg #[.int .i64 (rk l p), .int .i64 (rk l (p + 1)), .int .i64 (rk r (p + 2))]) ∧ Below w.heap.size w w' := by
  have hb0 : Below w.heap.size w (((w.alloc (Obj.cells #[Value.slice ad l.length c, Value.int .i64 kinds] 87)).alloc (Obj.cells #[Value.slice ar r.length cr, Value.int .i64 kr] 87)).alloc (Obj.cells #[.int .i64 0, .int .i64 0, .int .i64 0] 155)) := (((Below.refl _ _).alloc (Nat.le_refl _) _).alloc (by simp) _).alloc (by simp; omega) _
  have hbx : Blk (((w.alloc (Obj.cells #[Value.slice ad l.length c, Value.int .i64 kinds] 87)).alloc (Obj.cells #[Value.slice ar r.length cr, Value.int .i64 kr] 87)).alloc (Obj.cells #[.int .i64 0, .int .i64 0, .int .i64 0] 155)) w.heap.size 87 [.slice ad l.length c, .int .i64 kinds] := Blk.alloc (Blk.alloc (Blk.new w _ _ rfl) _) _
  have hby : Blk (((w.alloc (Obj.cells #[Value.slice ad l.length c, Value.int .i64 kinds] 87)).alloc (Obj.cells #[Value.slice ar r.length cr, Value.int .i64 kr] 87)).alloc (Obj.cells #[.int .i64 0, .int .i64 0, .int .i64 0] 155)) (w.heap.size + 1) 87 [.slice ar r.length cr, .int .i64 kr] := Blk.alloc (Blk.new _ _ _ (by simp)) _
  have hbz : Blk (((w.alloc (Obj.cells #[Value.slice ad l.length c, Value.int .i64 kinds] 87)).alloc (Obj.cells #[Value.slice ar r.length cr, Value.int .i64 kr] 87)).alloc (Obj.cells #[.int .i64 0, .int .i64 0, .int .i64 0] 155)) (w.heap.size + 1 + 1) 155 [.int .i64 0, .int .i64 0, .int .i64 0] := Blk.new _ _ _ (by simp)
  have ne1 : ¬ w.heap.size + 1 + 1 = w.heap.size := by omega
  have ne2 : ¬ w.heap.size = w.heap.size + 1 + 1 := by omega
  have wa : IntKind.i64.wrap ((p : Int) + 1) = (p : Int) + 1 := by rw [IntKind.wrap_i64]; omega
  have wb : IntKind.i64.wrap ((p : Int) + 2) = (p : Int) + 2 := by rw [IntKind.wrap_i64]; omega
  have ek : (((p + 1 : Nat) : Int)) = (p : Int) + 1 := by omega
  have ek' : (((p + 2 : Nat) : Int)) = (p : Int) + 2 := by omega
  have C1 := fun W => at_any ad l c kinds p W
  have C2 := fun W => at_any ad l c kinds (p + 1) W
  have C3 := fun W => at_any ar r cr kr (p + 2) W
  rw [ek] at C2
  rw [ek'] at C3
  have D1 : Hid _ := C1
  have D2 : Hid _ := C2
  have D3 : Hid _ := C3
  clear C1 C2 C3 ek ek'
  go_enter Try.func142, Try.ntmps142
  go_wp2
  generalize (((w.alloc (Obj.cells #[Value.slice ad l.length c, Value.int .i64 kinds] 87)).alloc (Obj.cells #[Value.slice ar r.length cr, Value.int .i64 kr] 87)).alloc (Obj.cells #[.int .i64 0, .int .i64 0, .int .i64 0] 155)) = w1 at hb0 hbx hby hbz ⊢
  obtain ⟨x0, x1⟩ := cells2 hbx
  obtain ⟨y0, y1⟩ := cells2 hby
  have A1 : Below w1.heap.size w1 w1.drew := (Below.refl _ _).drew
  have HA1 : Hid _ := A1
  clear A1
  go_region_held3 (fun w' => w'.cell? ⟨w.heap.size, 0, none⟩ = some (.slice ad l.length c) ∧ w'.cell? ⟨w.heap.size, 1, none⟩ = some (.int .i64 kinds) ∧ w'.cell? ⟨w.heap.size + 1, 0, none⟩ = some (.slice ar r.length cr) ∧ w'.cell? ⟨w.heap.size + 1, 1, none⟩ = some (.int .i64 kr)) (go_keep)
    (first
      | (go_at_call 137; have q := hb3; clear q; refine (D3.out _ (hr.later (Below.later (Below.later (Below.later hb0 HA1.out) hb2) hb3)) (hvr _)).mono ?_; rintro e w4 ⟨rfl, hb4⟩; obtain ⟨x6, x7⟩ := cells2 (Blk.later (Blk.later (Blk.later (Blk.later hbx HA1.out) hb2) hb3) hb4); obtain ⟨y6, y7⟩ := cells2 (Blk.later (Blk.later (Blk.later (Blk.later hby HA1.out) hb2) hb3) hb4); have hbz4 := Blk.later (Blk.later (Blk.later (Blk.later hbz HA1.out) hb2) hb3) hb4; obtain ⟨z0, z1, z2⟩ := cells3 hbz4; have f0 := Blk.free hbz4 0; have f1 := Blk.free hbz4 1; have f2 := Blk.free hbz4 2)
      | (go_at_call 137; have q := hb2; clear q; refine (D2.out _ (hl.later (Below.later (Below.later hb0 HA1.out) hb2)) (hv _)).mono ?_; rintro e w3 ⟨rfl, hb3⟩; obtain ⟨x4, x5⟩ := cells2 (Blk.later (Blk.later (Blk.later hbx HA1.out) hb2) hb3); obtain ⟨y4, y5⟩ := cells2 (Blk.later (Blk.later (Blk.later hby HA1.out) hb2) hb3); obtain ⟨u3, u4, u5⟩ := cells3 (Blk.later (Blk.later (Blk.later hbz HA1.out) hb2) hb3))
      | (go_at_call 137; refine (D1.out _ (hl.later (Below.later hb0 HA1.out)) (hv p)).mono ?_; rintro e w2 ⟨rfl, hb2⟩; obtain ⟨x2, x3⟩ := cells2 (Blk.later (Blk.later hbx HA1.out) hb2); obtain ⟨y2, y3⟩ := cells2 (Blk.later (Blk.later hby HA1.out) hb2); obtain ⟨u0, u1, u2⟩ := cells3 (Blk.later (Blk.later hbz HA1.out) hb2)))
  have hB : Below w.heap.size w w4 := Below.later (Below.later (Below.later (Below.later hb0 HA1.out) hb2) hb3) hb4
  go_wp2
  refine bodyPost_ret (v := .agg #[.int .i64 (rk l p), .int .i64 (rk l (p + 1)), .int .i64 (rk r (p + 2))]) (by simp [results, Try.results142, go_sem, z0, z1, z2]; exact ⟨rfl, rfl, rfl⟩) rfl ⟨rfl, ?_⟩
  exact ((hB.setCell (p := ⟨w.heap.size + 1 + 1, 0, none⟩) (by simp; omega) _).setCell (p := ⟨w.heap.size + 1 + 1, 1, none⟩) (by simp; omega) _).setCell (p := ⟨w.heap.size + 1 + 1, 2, none⟩) (by simp; omega) _
end Go.Proofs.Ytepklbboejnecaa
