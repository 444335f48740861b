/- Thirds: threes, the places of a class. -/
import Derived.Test.YtepklbboejnecaaXa
import Derived.Test.YtepklbboejnecaaM
namespace Go.Proofs.Ytepklbboejnecaa
open Go.RowKit Go.Shelf Sedge
attribute [local go_sem ↓] Go.wp_at_zero Go.wp_at_succ

set_option maxHeartbeats 2000000 in
/-- 'three'. -/
theorem three_any (ad : Option Addr) (l : List Nat) (c : Nat) (kinds : Int) (p : Nat) (w : World) (hl : Sl w ad l) (hv : ∀ p, num l p ≤ 1000000) (hp : p ≤ 1000000) :
    Calls Try.prog 123 #[.agg #[.slice ad l.length c, .int .i64 kinds], .int .i64 p] w fun e w' => e = .returned (.agg #[.int .i64 (rk l p), .int .i64 (rk l (p + 1)), .int .i64 (rk l (p + 2))]) ∧ Below w.heap.size w w' := by
  have hb0 : Below w.heap.size w ((w.alloc (Obj.cells #[Value.slice ad l.length c, Value.int .i64 kinds] 87)).alloc (Obj.cells #[.int .i64 0, .int .i64 0, .int .i64 0] 155)) := ((Below.refl _ _).alloc (Nat.le_refl _) _).alloc (by simp) _
  have hbx : Blk ((w.alloc (Obj.cells #[Value.slice ad l.length c, Value.int .i64 kinds] 87)).alloc (Obj.cells #[.int .i64 0, .int .i64 0, .int .i64 0] 155)) w.heap.size 87 [.slice ad l.length c, .int .i64 kinds] := Blk.alloc (Blk.new w _ _ rfl) _
  have wa : IntKind.i64.wrap ((p : Int) + 1) = (p : Int) + 1 := by rw [IntKind.wrap_i64]; omega
  have wb : IntKind.i64.wrap ((p : Int) + 2) = (p : Int) + 2 := by rw [IntKind.wrap_i64]; omega
  have ek : (((p + 1 : Nat) : Int)) = (p : Int) + 1 := by omega
  have ek' : (((p + 2 : Nat) : Int)) = (p : Int) + 2 := by omega
  have C1 := fun W => at_any ad l c kinds p W
  have C2 := fun W => at_any ad l c kinds (p + 1) W
  have C3 := fun W => at_any ad l c kinds (p + 2) W
  rw [ek] at C2
  rw [ek'] at C3
  have D1 : Hid _ := C1
  have D2 : Hid _ := C2
  have D3 : Hid _ := C3
  have hz2 : w.heap.size < w.heap.size + 1 + 1 := by omega
  clear C1 C2 C3 ek ek'
  go_enter Try.func123, Try.ntmps123
  go_wp2
  go_region_held3 (fun w' => w'.cell? ⟨w.heap.size, 0, none⟩ = some (.slice ad l.length c) ∧ w'.cell? ⟨w.heap.size, 1, none⟩ = some (.int .i64 kinds)) (go_keep)
    (first
      | (go_at_call 137; have q := hb3; clear q; refine (D3.out _ (hl.later (Below.later (Below.later hb0.drew hb2) hb3)) (hv _)).mono ?_; rintro e w4 ⟨rfl, hb4⟩; have hsz5 := hb3.size; have hsz6 : w.heap.size + 1 < w3.heap.size := (by omega); have hsz7 : w.heap.size < w3.heap.size := (by omega); have hx4 := Blk.later hx3 hb4; obtain ⟨r0, r1⟩ := cells2 hx4; obtain ⟨hk3, hk3'⟩ := HX6.out; obtain ⟨hk4, hk4'⟩ := bcell hb4)
      | (go_at_call 137; have q := hb2; clear q; refine (D2.out _ (hl.later (Below.later hb0.drew hb2)) (hv _)).mono ?_; rintro e w3 ⟨rfl, hb3⟩; have hsz2 := hb2.size; have hsz3 : w.heap.size + 1 < w2.heap.size := (by simp at hsz2; omega); have hsz4 : w.heap.size < w2.heap.size := (by omega); have hx3 := Blk.later hx2 hb3; obtain ⟨t0, t1⟩ := cells2 hx3; have hx6 := bcell hb3; have HX6 : Hid _ := hx6; clear hx6)
      | (go_at_call 137; refine (D1.out _ (hl.later hb0.drew) (hv p)).mono ?_; rintro e w2 ⟨rfl, hb2⟩; obtain ⟨hk, hk'⟩ := bcell hb2; have hx2 := Blk.later (Blk.drew hbx) hb2; obtain ⟨s0, s1⟩ := cells2 hx2))
  go_wp2
  refine bodyPost_ret (v := .agg #[.int .i64 (rk l p), .int .i64 (rk l (p + 1)), .int .i64 (rk l (p + 2))]) (by simp [results, Try.results123, go_sem, hsz3, hsz6, hk4, hk3, hk]; exact ⟨rfl, rfl, rfl⟩) rfl ⟨rfl, ?_⟩
  exact (((Below.later (Below.later (Below.later hb0.drew hb2) hb3) hb4).setCell (p := ⟨w.heap.size + 1, 0, none⟩) (by simp) _).setCell (p := ⟨w.heap.size + 1, 1, none⟩) (by simp) _).setCell (p := ⟨w.heap.size + 1, 2, none⟩) (by simp) _

theorem idx3_0 (x y z : Value) (w : World) : (Instr.index 155 (.agg #[x, y, z]) (.int .i64 0)).run Try.prog w = .ok x w := by kernel_rfl
theorem idx3_1 (x y z : Value) (w : World) : (Instr.index 155 (.agg #[x, y, z]) (.int .i64 1)).run Try.prog w = .ok y w := by kernel_rfl
theorem idx3_2 (x y z : Value) (w : World) : (Instr.index 155 (.agg #[x, y, z]) (.int .i64 2)).run Try.prog w = .ok z w := by kernel_rfl

set_option maxHeartbeats 1000000 in
theorem tells_third (ad : Option Addr) (l : List Nat) (c br bh i : Nat) (kinds : Int) (hv : ∀ p, num l p ≤ 1000000) (hn : l.length ≤ 1000000) (hi : i < 3) :
    Tells 122 #[] #[.pointer (some ⟨br, 0, none⟩), .pointer (some ⟨bh, 0, none⟩)] (Wid ad l c br bh i kinds) (fun p => rk l (p + i)) l.length where
  enter := enters_of Try.func122 (by kernel_rfl) rfl
  keep w w' H hb := H.later hb
  run p w H hp := by
    obtain ⟨hx0, hx1⟩ := cells2 H.row
    have hx2 := cell1 H.wid
    have CH := fun W H => three_any ad l c kinds p W H hv (by omega)
    have HC : Hid _ := CH
    have ix : ∀ w, (Instr.index 155 (.agg #[.int .i64 (rk l p), .int .i64 (rk l (p + 1)), .int .i64 (rk l (p + 2))]) (.int .i64 (i : Int))).run Try.prog w = .ok (.int .i64 (rk l (p + i))) w := fun w => by
      match i, hi with
      | 0, _ => exact idx3_0 _ _ _ w
      | 1, _ => exact idx3_1 _ _ _ w
      | 2, _ => exact idx3_2 _ _ _ w
    have hl1 := H.row.lt
    have hl2 := H.wid.lt
    have HW : Hid (Wid ad l c br bh i kinds w) := H
    clear CH H hi
    go_enter Try.func122, Try.ntmps122
    go_wp2_with fail
    go_region_held3 (fun w' => w'.cell? ⟨br, 0, none⟩ = some (.slice ad l.length c) ∧ w'.cell? ⟨br, 1, none⟩ = some (.int .i64 kinds) ∧ w'.cell? ⟨bh, 0, none⟩ = some (.int .i64 (i : Int))) (go_keep)
      (first
        | (go_at_call 123; refine (HC.out _ (HW.out.sl.later (Below.refl _ w).drew)).mono ?_; rintro e w2 ⟨rfl, hb2⟩; have s0 := (hb2.cell (p := ⟨br, 0, none⟩) hl1).trans hx0; have s1 := (hb2.cell (p := ⟨br, 1, none⟩) hl1).trans hx1; have s2 := (hb2.cell (p := ⟨bh, 0, none⟩) hl2).trans hx2))
    clear hx0 hx1 hx2 s0 s1 s2
    go_wp2
    go_ret
    exact ⟨rfl, Below.later (Below.refl _ w).drew hb2⟩

/-- What the closure over a row alone asks of the world. -/
structure Held3 (ad : Option Addr) (l : List Nat) (c br : Nat) (kinds : Int) (W : World) : Prop where
  sl : Sl W ad l
  row : Blk W br 87 [.slice ad l.length c, .int .i64 kinds]
theorem Held3.later {ad : Option Addr} {l : List Nat} {c br : Nat} {kinds : Int} {w w' : World} (H : Held3 ad l c br kinds w) (hb : Below w.heap.size w w') : Held3 ad l c br kinds w' := ⟨H.sl.later hb, H.row.later hb⟩

set_option maxHeartbeats 1000000 in
theorem tells_threes (ad : Option Addr) (l : List Nat) (c br : Nat) (kinds : Int) (hv : ∀ p, num l p ≤ 1000000) (hn : l.length ≤ 1000000) :
    Tells2 124 #[] #[.pointer (some ⟨br, 0, none⟩)] (Held3 ad l c br kinds) (fun p q => p < l.length ∧ q < l.length ∧ p ≠ q) (Sedge.three l) where
  enter := enters_of Try.func124 (by kernel_rfl) rfl
  keep w w' H hb := H.later hb
  run p q w H hp := by
    obtain ⟨hp, hq, hne⟩ := hp
    obtain ⟨hx0, hx1⟩ := cells2 H.row
    have hg3 := guard3
    have hq3 := eq3
    have CH := fun W p H hp => three_any ad l c kinds p W H hv hp
    have HC : Hid _ := CH
    have hl1 := H.row.lt
    clear CH
    go_enter Try.func124, Try.ntmps124
    go_wp2_with fail
    go_region_held3 (fun w' => w'.cell? ⟨br, 0, none⟩ = some (.slice ad l.length c) ∧ w'.cell? ⟨br, 1, none⟩ = some (.int .i64 kinds)) (go_keep)
      (first
        | (go_at_call_of 123 (Value.int .i64 (p : Int)); refine (HC.out _ p (H.sl.later (Below.refl _ w).drew) (by omega)).mono ?_; rintro e w2 ⟨rfl, hb2⟩; have s0 := (hb2.cell (p := ⟨br, 0, none⟩) hl1).trans hx0; have s1 := (hb2.cell (p := ⟨br, 1, none⟩) hl1).trans hx1)
        | (go_at_call_of 123 (Value.int .i64 (q : Int)); refine (HC.out _ q ((H.sl.later (Below.refl _ w).drew).later hb2) (by omega)).mono ?_; rintro e w3 ⟨rfl, hb3⟩; have hsz2 := hb2.size; have hsz3 : br < w2.heap.size := (by simp at hsz2; omega); have t0 := (hb3.cell (p := ⟨br, 0, none⟩) hsz3).trans s0; have t1 := (hb3.cell (p := ⟨br, 1, none⟩) hsz3).trans s1))
    clear hx0 hx1 s0 s1 t0 t1 HC hg3 hq3 hl1
    go_wp2
    go_ret
    refine ⟨?_, Below.later (Below.later (Below.refl _ w).drew hb2) hb3⟩
    congr 2
    unfold Sedge.three
    by_cases e1 : rk l p = rk l q <;> by_cases e2 : rk l (p + 1) = rk l (q + 1) <;> by_cases e3 : rk l (p + 2) = rk l (q + 2) <;> simp [e1, e2, e3] <;> omega
end Go.Proofs.Ytepklbboejnecaa
