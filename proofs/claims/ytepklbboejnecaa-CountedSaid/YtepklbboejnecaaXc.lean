/- Sort by doubling; the example. -/
import Derived.Test.YtepklbboejnecaaXb
import Derived.Test.YtepklbboejnecaaWz
import Derived.Laws.EntriesVeiled
namespace Go.Proofs.Ytepklbboejnecaa
open Go.RowKit Go.Shelf Sedge
attribute [local go_sem ↓] Go.wp_at_zero Go.wp_at_succ

/-- What Sort answers where nothing is wrong. -/
def Sorts (s : ByteArray) (w : World) (e : Ending) (w' : World) : Prop :=
  ∃ v o, e = .returned (.tuple #[v, .int .i64 0]) ∧ w'.ownsRow w.heap.size 3 1 v o.length (IV o) ∧ IsSA (bl s) o ∧ Below w.heap.size w w'

set_option maxHeartbeats 4000000 in
theorem sort0_any (s : ByteArray) (w : World) (hs : s.size ≤ 1000) : Calls Try.prog 19 #[.string s, .int .i64 0] w (Sorts s w) := by
  have hen : ∀ args w, Sem.run Try.prog (callFunc 49 args) w = .ok (.enter 49 args) w := enters_of Try.func49 (by kernel_rfl) rfl
  have i1 : (s.size : Int) ≤ 1000 := by omega
  go_enter Try.func19, Try.ntmps19
  have hbx : Blk (w.alloc (Obj.cells #[.func (.func 49) #[] #[], .func (.func 50) #[] #[], .func (.func 51) #[] #[]] 88)) w.heap.size 88 [.func (.func 49) #[] #[], .func (.func 50) #[] #[], .func (.func 51) #[] #[]] := Blk.new w _ _ rfl
  have hb0 : Below w.heap.size w (w.alloc (Obj.cells #[.func (.func 49) #[] #[], .func (.func 50) #[] #[], .func (.func 51) #[] #[]] 88)) := (Below.refl _ _).alloc (Nat.le_refl _) _
  go_wp2_with fail
  generalize w.alloc (Obj.cells #[.func (.func 49) #[] #[], .func (.func 50) #[] #[], .func (.func 51) #[] #[]] 88) = w1 at hbx hb0 ⊢
  obtain ⟨hx0, hx1, hx2⟩ := cells3 hbx
  have CI := fun (W : World) (g1 : Nat) (hr1 : Row W g1 (bl s)) => doubling_any (bl s) (some ⟨g1, 0, none⟩) s.size 256 W (Row.sl hr1) (fun p _ => bl_lt s p) (by omega) (by rw [bl_length]; omega)
  rw [bl_length, show (((256 : Nat)) : Int) = 256 from rfl] at CI
  have HCI : Hid _ := CI
  have A1 : Below w1.heap.size w1 w1.drew := (Below.refl _ _).drew
  have HA1 : Hid _ := A1
  clear A1 CI
  go_region_held3 (fun w' => w'.cell? ⟨w.heap.size, 0, none⟩ = some (.func (.func 49) #[] #[])) (go_keep)
    (first
      | (go_at_call 52; refine (endsOf_any s _ (by omega)).mono ?_; rintro e w2 ⟨g2, rfl, hg2, hr2, hb2⟩; have hbx2 := Blk.later (Blk.later hbx HA1.out) hb2; obtain ⟨hy0, hy1, hy2⟩ := cells3 hbx2)
      | (go_at_call 49; refine (HCI.out w2 g2 hr2).mono ?_; rintro e w3 ⟨v3, o3, rfl, hown3, hsa3, hb3⟩; have hbx3 := Blk.later hbx2 hb3; obtain ⟨hz0, hz1, hz2⟩ := cells3 hbx3))
  have hs2 := (Below.later (Below.later hb0 HA1.out) hb2).size
  clear hx0 hx1 hx2 hy0 hy1 hy2 hz0 hz1 hz2 hen HCI
  go_wp2
  go_ret2
  exact ⟨v3, o3, rfl, own_mono hown3 hs2, hsa3, Below.later (Below.later (Below.later hb0 HA1.out) hb2) hb3⟩

theorem banana_SA : IsSA (bl ⟨#[98, 97, 110, 97, 110, 97]⟩) [5, 3, 1, 0, 4, 2] := by
  have e : bl ⟨#[98, 97, 110, 97, 110, 97]⟩ = [98, 97, 110, 97, 110, 97] := by simp [bl]
  rw [e]
  refine ⟨?_, fun p => ?_⟩
  · unfold suf; decide
  · simp; omega

set_option maxHeartbeats 4000000 in
/-- 'awake'. -/
theorem awake_any (w : World) : Calls Try.prog 18 #[] w fun e w' => e = .returned (.bool true) ∧ Below w.heap.size w w' := by
  go_enter Try.func18, Try.ntmps18
  go_wp2_with fail
  refine (sort0_any _ _ (by decide)).mono ?_
  rintro e w1 ⟨v, o, rfl, hown, hsa, hb⟩
  have he := hsa.unique banana_SA
  subst he
  obtain ⟨ad, c, rfl, hS⟩ := own_sl hown
  obtain ⟨b, o1, rfl, hc0⟩ := hS 0 (by simp)
  have g := fun k (hk : k < 6) => hS k (by simpa using hk)
  have cl : ∀ k, k < 6 → w1.cell? ⟨b, o1 + k, none⟩ = some (.int .i64 (num [5, 3, 1, 0, 4, 2] k)) := fun k hk => by
    obtain ⟨b', o1', e', h⟩ := g k hk
    simp only [Option.some.injEq, Addr.mk.injEq, and_true] at e'
    obtain ⟨rfl, rfl⟩ := e'
    exact h
  have c0 : w1.cell? ⟨b, o1, none⟩ = some (.int .i64 5) := cl 0 (by omega)
  have c1 : w1.cell? ⟨b, o1 + 1, none⟩ = some (.int .i64 3) := cl 1 (by omega)
  have c2 : w1.cell? ⟨b, o1 + 2, none⟩ = some (.int .i64 1) := cl 2 (by omega)
  have c3 : w1.cell? ⟨b, o1 + 3, none⟩ = some (.int .i64 0) := cl 3 (by omega)
  have c4 : w1.cell? ⟨b, o1 + 4, none⟩ = some (.int .i64 4) := cl 4 (by omega)
  have c5 : w1.cell? ⟨b, o1 + 5, none⟩ = some (.int .i64 2) := cl 5 (by omega)
  clear hc0 g cl hS hown hsa
  go_wp2
  go_ret
  exact ⟨rfl, hb⟩
end Go.Proofs.Ytepklbboejnecaa
