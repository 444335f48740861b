/- Sharing: held against the document; Found. -/
import Derived.Test.YtepklbboejnecaaF
import Derived.Test.YtepklbboejnecaaYj
namespace Go.Proofs.Ytepklbboejnecaa
open Go.RowKit Go.Shelf Sedge
attribute [local go_sem ↓] Go.wp_at_zero Go.wp_at_succ

set_option maxRecDepth 20000 in
set_option maxHeartbeats 4000000 in
theorem refShared_tell (a b : ByteArray) (w : World) : Calls Try.prog 58 #[.string a, .string b] w (TellS a b w) := by
  unfold TellS sharedE SharedAns
  have hb0 : Below w.heap.size w (w.alloc (Obj.cells #[.int .i64 0, .int .i64 0, .int .i64 0] 97)) := (Below.refl _ _).alloc (Nat.le_refl _) _
  have hbx : Blk (w.alloc (Obj.cells #[.int .i64 0, .int .i64 0, .int .i64 0] 97)) w.heap.size 97 [.int .i64 0, .int .i64 0, .int .i64 0] := Blk.new w _ _ rfl
  by_cases h1 : 1000 < a.size
  · have i1 : (1000 : Int) < (a.size : Int) := by omega
    rw [if_pos (Or.inl h1)]
    simp only [if_pos (Or.inl h1)]
    go_enter Try.func58, Try.ntmps58
    go_wp2
    generalize w.alloc (Obj.cells #[.int .i64 0, .int .i64 0, .int .i64 0] 97) = wf at hb0 hbx ⊢
    obtain ⟨t0, t1, t2⟩ := cells3 hbx
    exact bodyPost_ret (v := .tuple #[.agg #[.int .i64 0, .int .i64 0, .int .i64 0], .int .i64 2]) (by simp [results, Try.results58, go_sem, t0, t1, t2]) rfl ⟨0, 0, 0, rfl, ⟨rfl, rfl, rfl⟩, hb0⟩
  · have i1 : ¬ (1000 : Int) < (a.size : Int) := by omega
    by_cases h2 : 1000 < b.size
    · have i2 : (1000 : Int) < (b.size : Int) := by omega
      rw [if_pos (Or.inr h2)]
      simp only [if_pos (Or.inr h2)]
      go_enter Try.func58, Try.ntmps58
      go_wp2
      generalize w.alloc (Obj.cells #[.int .i64 0, .int .i64 0, .int .i64 0] 97) = wf at hb0 hbx ⊢
      obtain ⟨t0, t1, t2⟩ := cells3 hbx
      exact bodyPost_ret (v := .tuple #[.agg #[.int .i64 0, .int .i64 0, .int .i64 0], .int .i64 2]) (by simp [results, Try.results58, go_sem, t0, t1, t2]) rfl ⟨0, 0, 0, rfl, ⟨rfl, rfl, rfl⟩, hb0⟩
    · have hn : ¬ (1000 < a.size ∨ 1000 < b.size) := by omega
      rw [if_neg hn]
      simp only [if_neg hn]
      exact refShared_any a b w (by omega) (by omega)

set_option maxRecDepth 20000 in
set_option maxHeartbeats 4000000 in
/-- 'shared'. -/
theorem shared_any (a b : ByteArray) (w : World) : Calls Try.prog 26 #[.string a, .string b] w fun e w' => e = .returned (.bool true) ∧ Below w.heap.size w w' := by
  have C1 := fun W => Shared_tell a b W
  have C2 := fun W => refShared_tell a b W
  unfold TellS at C1 C2
  generalize sharedE a b = k at C1 C2
  have HC1 : Hid _ := C1
  have HC2 : Hid _ := C2
  clear C1 C2
  go_enter Try.func26, Try.ntmps26
  go_wp2_with fail
  refine Calls.mono (HC1.out _) ?_
  rintro e w1 ⟨n, A, B, rfl, hS1, hb1⟩
  have HS1 : Hid _ := hS1
  have HB1 : Hid _ := hb1
  clear hS1 hb1 HC1
  have bx1 : Blk (w1.alloc (Obj.cells #[.int .i64 n, .int .i64 A, .int .i64 B] 53)) w1.heap.size 53 [.int .i64 n, .int .i64 A, .int .i64 B] := Blk.new w1 _ _ rfl
  have bb1 : Below w1.heap.size w1 (w1.alloc (Obj.cells #[.int .i64 n, .int .i64 A, .int .i64 B] 53)) := (Below.refl _ _).alloc (Nat.le_refl _) _
  have HBX : Hid _ := bx1
  have HBB : Hid _ := Below.later HB1.out bb1
  clear bx1 bb1 HB1
  go_wp2_with fail
  generalize w1.alloc (Obj.cells #[.int .i64 n, .int .i64 A, .int .i64 B] 53) = w2 at HBX HBB ⊢
  refine Calls.mono (HC2.out _) ?_
  rintro e w3 ⟨n', A', B', rfl, hS2, hb2⟩
  obtain ⟨rfl, rfl, rfl⟩ := SharedAns.unique HS1.out hS2
  have hx3 := Blk.later HBX.out hb2
  have hB3 := Below.later HBB.out hb2
  obtain ⟨x0, x1, x2⟩ := cells3 hx3
  have l1 := hx3.lt
  have q1 : ¬ w3.heap.size = w1.heap.size := by omega
  have q2 : ¬ w1.heap.size = w3.heap.size := by omega
  clear hS2 hb2 HS1 HBX HBB HC2
  go_wp2_with (first | (go_at_call 40; refine (num_any k _).mono ?_; rintro e w5 ⟨rfl, rfl⟩) | fail)
  go_ret
  exact ⟨rfl, hB3.alloc hB3.size _⟩
end Go.Proofs.Ytepklbboejnecaa
