/- Sort: by thirds. -/
import Derived.Test.YtepklbboejnecaaXr
import Derived.Test.YtepklbboejnecaaXj
namespace Go.Proofs.Ytepklbboejnecaa
open Go.RowKit Go.Shelf Sedge
attribute [local go_sem ↓] Go.wp_at_zero Go.wp_at_succ

set_option maxHeartbeats 4000000 in
theorem sort2_any (s : ByteArray) (w : World) (hs : s.size ≤ 1000) : Calls Try.prog 19 #[.string s, .int .i64 2] w (Sorts s w) := by
  have hen : ∀ args w, Sem.run Try.prog (callFunc 51 args) w = .ok (.enter 51 args) w := enters_of Try.func51 (by kernel_rfl) rfl
  have i1 : (s.size : Int) ≤ 1000 := by omega
  go_enter Try.func19, Try.ntmps19
  have hbx : Blk (w.alloc (Obj.cells #[.func (.func 49) #[] #[], .func (.func 50) #[] #[], .func (.func 51) #[] #[]] 88)) w.heap.size 88 [.func (.func 49) #[] #[], .func (.func 50) #[] #[], .func (.func 51) #[] #[]] := Blk.new w _ _ rfl
  have hb0 : Below w.heap.size w (w.alloc (Obj.cells #[.func (.func 49) #[] #[], .func (.func 50) #[] #[], .func (.func 51) #[] #[]] 88)) := (Below.refl _ _).alloc (Nat.le_refl _) _
  go_wp2_with fail
  generalize w.alloc (Obj.cells #[.func (.func 49) #[] #[], .func (.func 50) #[] #[], .func (.func 51) #[] #[]] 88) = w1 at hbx hb0 ⊢
  obtain ⟨hx0, hx1, hx2⟩ := cells3 hbx
  have CI := fun (W : World) (g1 : Nat) (hr1 : Row W g1 (bl s)) => thirds_any (bl s).length (bl s) rfl (some ⟨g1, 0, none⟩) s.size 256 W (Row.sl hr1) (fun p _ => bl_lt s p) (by omega) (by rw [bl_length]; omega)
  rw [bl_length, show (((256 : Nat)) : Int) = 256 from rfl] at CI
  have HCI : Hid _ := CI
  have A1 : Below w1.heap.size w1 w1.drew := (Below.refl _ _).drew
  have HA1 : Hid _ := A1
  clear A1 CI
  go_region_held3 (fun w' => w'.cell? ⟨w.heap.size, 2, none⟩ = some (.func (.func 51) #[] #[])) (go_keep)
    (first
      | (go_at_call 52; refine (endsOf_any s _ (by omega)).mono ?_; rintro e w2 ⟨g2, rfl, hg2, hr2, hb2⟩; have hbx2 := Blk.later (Blk.later hbx HA1.out) hb2; obtain ⟨hy0, hy1, hy2⟩ := cells3 hbx2)
      | (go_at_call 51; refine (HCI.out w2 g2 hr2).mono ?_; rintro e w3 ⟨v3, o3, rfl, hown3, hsa3, hb3⟩; have hbx3 := Blk.later hbx2 hb3; obtain ⟨hz0, hz1, hz2⟩ := cells3 hbx3))
  have hs2 := (Below.later (Below.later hb0 HA1.out) hb2).size
  clear hx0 hx1 hx2 hy0 hy1 hy2 hz0 hz1 hz2 hen HCI
  go_wp2
  go_ret2
  exact ⟨v3, o3, rfl, own_mono hown3 hs2, hsa3, Below.later (Below.later (Below.later hb0 HA1.out) hb2) hb3⟩

/-- Sort, whichever way. -/
theorem sort_any (s : ByteArray) (n : Int) (w : World) (h0 : 0 ≤ n) (h3 : n < 3) (hs : s.size ≤ 1000) : Calls Try.prog 19 #[.string s, .int .i64 n] w (Sorts s w) := by
  have : n = 0 ∨ n = 1 ∨ n = 2 := by omega
  rcases this with rfl | rfl | rfl
  · exact sort0_any s w hs
  · exact sort1_any s w hs
  · exact sort2_any s w hs
end Go.Proofs.Ytepklbboejnecaa
