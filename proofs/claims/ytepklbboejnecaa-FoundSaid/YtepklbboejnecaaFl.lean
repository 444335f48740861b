/- Found. -/
import Derived.Test.YtepklbboejnecaaFk
namespace Go.Proofs.Ytepklbboejnecaa
open Go.RowKit Go.Shelf Sedge
attribute [local go_sem ↓] Go.wp_at_zero Go.wp_at_succ

theorem Holds.later {B hb N k : Nat} {W W' : World} (H : Holds B hb N k W) (h : Below W.heap.size W W') : Holds B hb N k W' := by
  obtain ⟨vI, vT, vR, E, T, h1, hT⟩ := H
  exact ⟨vI, vT, vR, E, T, HInv.later h1 h, hT⟩
theorem Holds.base {B hb N k : Nat} {W : World} (H : Holds B hb N k W) : B ≤ W.heap.size := by
  obtain ⟨vI, vT, vR, E, T, h1, hT⟩ := H
  have := h1.base; have := h1.box.lt; omega
/-- 'shared' leaves what is held. -/
theorem shared_holds (B hb N k : Nat) (W : World) (H : Holds B hb N k W) (a b : ByteArray) :
    Calls Try.prog 26 #[.string a, .string b] W fun e w' => e = .returned (.bool true) ∧ Holds B hb N k w' ∧ Below B W w' := by
  refine (shared_any a b W).mono ?_
  rintro e w' ⟨rfl, hb'⟩
  exact ⟨rfl, H.later hb', hb'.mono H.base⟩

set_option maxRecDepth 20000 in
set_option maxHeartbeats 4000000 in
theorem found_any (text pattern other : ByteArray) (w : World) :
    Calls Try.prog 7 #[.string text, .string pattern, .string other] w fun e w' => e = .returned (.bool true) ∧ Below w.heap.size w w' := by
  have h0 : Holds w.heap.size w.heap.size 0 0 (w.alloc (Obj.cells #[.int .i64 0, nl, nl, nl, nl, nl, nl, nl, nl, nl] 30)) := ⟨_, _, _, _, _, HInv.first w, rfl⟩
  have b0 : Below w.heap.size w (w.alloc (Obj.cells #[.int .i64 0, nl, nl, nl, nl, nl, nl, nl, nl, nl] 30)) := (Below.refl _ _).alloc (Nat.le_refl _) _
  have HH0 : Hid _ := h0
  have HB0 : Hid _ := b0
  clear h0 b0
  go_enter Try.func7, Try.ntmps7
  go_wp2_with fail
  refine (hfind_holds _ _ (0) 0 _ HH0.out (by omega) text pattern).mono ?_
  rintro e w1 ⟨rfl, H1, B1⟩
  have HH1 : Hid _ := H1
  have HB1 : Hid _ := HB0.out.trans B1
  clear HH0 HB0 H1 B1
  go_wp2_with fail
  refine (hfind_holds _ _ (0) 1 _ HH1.out (by omega) other pattern).mono ?_
  rintro e w2 ⟨rfl, H2, B2⟩
  have HH2 : Hid _ := H2
  have HB2 : Hid _ := HB1.out.trans B2
  clear HH1 HB1 H2 B2
  go_wp2_with fail
  refine (hfind_holds _ _ (0) 2 _ HH2.out (by omega) text pattern).mono ?_
  rintro e w3 ⟨rfl, H3, B3⟩
  have HH3 : Hid _ := H3
  have HB3 : Hid _ := HB2.out.trans B3
  clear HH2 HB2 H3 B3
  go_wp2_with fail
  refine (shared_holds _ _ (0) 3 _ HH3.out text other).mono ?_
  rintro e w4 ⟨rfl, H4, B4⟩
  have HH4 : Hid _ := H4
  have HB4 : Hid _ := HB3.out.trans B4
  clear HH3 HB3 H4 B4
  go_wp2_with fail
  refine (shared_holds _ _ (0) 3 _ HH4.out other text).mono ?_
  rintro e w5 ⟨rfl, H5, B5⟩
  have HH5 : Hid _ := H5
  have HB5 : Hid _ := HB4.out.trans B5
  clear HH4 HB4 H5 B5
  go_wp2_with fail
  refine (shared_holds _ _ (0) 3 _ HH5.out text other).mono ?_
  rintro e w6 ⟨rfl, H6, B6⟩
  have HH6 : Hid _ := H6
  have HB6 : Hid _ := HB5.out.trans B6
  clear HH5 HB5 H6 B6
  go_wp2_with fail
  refine (hfind_holds _ _ (0) 3 _ HH6.out (by omega) _ _).mono ?_
  rintro e w7 ⟨rfl, H7, B7⟩
  have HH7 : Hid _ := H7
  have HB7 : Hid _ := HB6.out.trans B7
  clear HH6 HB6 H7 B7
  go_wp2_with fail
  refine (shared_holds _ _ (0) 4 _ HH7.out _ _).mono ?_
  rintro e w8 ⟨rfl, H8, B8⟩
  have HH8 : Hid _ := H8
  have HB8 : Hid _ := HB7.out.trans B8
  clear HH7 HB7 H8 B8
  go_wp2_with fail
  refine (settles_holds _ _ (0) 4 _ HH8.out (by omega)).mono ?_
  rintro e w9 ⟨rfl, H9, B9⟩
  have HH9 : Hid _ := H9
  have HB9 : Hid _ := HB8.out.trans B9
  clear HH8 HB8 H9 B9
  go_wp2_with fail
  refine (hfind_holds _ _ (0 + 4) 0 _ HH9.out (by omega) text pattern).mono ?_
  rintro e w10 ⟨rfl, H10, B10⟩
  have HH10 : Hid _ := H10
  have HB10 : Hid _ := HB9.out.trans B10
  clear HH9 HB9 H10 B10
  go_wp2_with fail
  refine (settles_holds _ _ (0 + 4) 1 _ HH10.out (by omega)).mono ?_
  rintro e w11 ⟨rfl, H11, B11⟩
  have HH11 : Hid _ := H11
  have HB11 : Hid _ := HB10.out.trans B11
  clear HH10 HB10 H11 B11
  go_wp2
  go_ret
  exact ⟨rfl, HB11.out⟩
end Go.Proofs.Ytepklbboejnecaa
