/- Common: a list copied; the program's and the document's. -/
import Derived.Test.YtepklbboejnecaaXk
import Derived.Lib.SliceRun
namespace Go.Proofs.Ytepklbboejnecaa
open Go.RowKit Go.Shelf Sedge
attribute [local go_sem ↓] Go.wp_at_zero Go.wp_at_succ

theorem eq_nil (a : Option Addr) (n c : Nat) (w : World) : (binOp .eql 36 (.slice a n c) (.slice none 0 0)).run Try.prog w = .ok (.bool a.isNone) w := Lib.run_eql_slice_nil w 36 3 a n c 0 0 Try.underlying36

set_option maxRecDepth 20000 in
set_option maxHeartbeats 2000000 in
/-- slices.Clone of numbers. -/
theorem iclone_some (b off : Nat) (L : List Nat) (c : Nat) (w : World) (hS : Sl w (some ⟨b, off, none⟩) L) (hn : L.length ≤ 100000) :
    Calls Try.prog 92 #[.slice (some ⟨b, off, none⟩) L.length c] w fun e w' => ∃ v, e = .returned v ∧ w'.ownsRow w.heap.size 3 1 v L.length (IV L) ∧ Below w.heap.size w w' := by
  have heq := eq_nil
  have hrow : Row (w.alloc (.cells #[] 3)) w.heap.size [] := Blk.new w [] 3 rfl
  have hown := Row.own hrow (Nat.le_refl _) (by simp)
  have hb0 : Below w.heap.size w (w.alloc (.cells #[] 3)) := (Below.refl _ _).alloc (Nat.le_refl _) _
  have hS1 := hS.later hb0
  have HB0 : Hid _ := hb0
  clear hb0 hrow
  go_enter Try.func92, Try.ntmps92
  go_wp2_with (first | (at_builtin; refine wpList_pushAll _ rfl _ _ rfl w.heap.size _ [] rfl hown b off c L rfl hS1 (by simp; omega) (by simp) ?_; intro v' w3 hown3 hb4) | fail)
  go_ret
  exact ⟨v', rfl, by simpa using hown3, HB0.out.trans hb4⟩

set_option maxHeartbeats 1000000 in
/-- 'parts.Table.Common'. -/
theorem tCommon_some (s : ByteArray) (ad : Option Addr) (b off : Nat) (L : List Nat) (n c c' : Nat) (w : World) (hL : L.length = n) (hS : Sl w (some ⟨b, off, none⟩) L) (hn : L.length ≤ 100000) :
    Calls Try.prog 54 #[tv s ad (some ⟨b, off, none⟩) n c c'] w fun e w' => ∃ v, e = .returned v ∧ w'.ownsRow w.heap.size 3 1 v L.length (IV L) ∧ Below w.heap.size w w' := by
  subst hL
  have hb0 : ∀ o, Below w.heap.size w (w.alloc o) := fun o => (Below.refl _ _).alloc (Nat.le_refl _) o
  have HB0 : Hid _ := hb0
  clear hb0
  unfold tv
  go_enter Try.func54, Try.ntmps54
  go_wp2_with fail
  refine (iclone_some b off L c' _ (hS.later (HB0.out _)) hn).mono ?_
  rintro e w1 ⟨v, rfl, hown, hb⟩
  go_wp2
  go_ret
  exact ⟨v, rfl, own_mono hown (by simp), Below.later (HB0.out _) hb⟩

set_option maxHeartbeats 2000000 in
/-- 'parts.Of'. -/
theorem partsOf_full (s : ByteArray) (w : World) (hs : s.size ≤ 500000) :
    Calls Try.prog 53 #[.string s] w fun e w' => ∃ ad b o c c', e = .returned (tv s ad (some ⟨b, 0, none⟩) o.length c c') ∧ Tab w' s ad (some ⟨b, 0, none⟩) o ∧ Below w.heap.size w w' := by
  have hres : Blk (w.alloc (Obj.cells #[.string ⟨#[]⟩, .slice none 0 0, .slice none 0 0] 91)) w.heap.size 91 [.string ⟨#[]⟩, .slice none 0 0, .slice none 0 0] := Blk.new w _ _ rfl
  have hB0 : Below w.heap.size w (w.alloc (Obj.cells #[.string ⟨#[]⟩, .slice none 0 0, .slice none 0 0] 91)) := (Below.refl _ _).alloc (Nat.le_refl _) _
  go_enter Try.func53, Try.ntmps53
  go_wp2_with fail
  refine (endsOf_any s _ (by omega)).mono ?_
  rintro e w1 ⟨g1, rfl, hg1, hr1, hb1⟩
  have hres1 := hres.later hb1
  have hB1 := Below.later hB0 hb1
  have CI := inducing_any (bl s).length (bl s) rfl (some ⟨g1, 0, none⟩) s.size 256 w1 (Row.sl hr1) (fun p _ => bl_lt s p) (by omega) (by rw [bl_length]; exact hs)
  rw [bl_length, show (((256 : Nat)) : Int) = 256 from rfl] at CI
  have HCI : Hid _ := CI
  clear CI hres hB0 hb1 hg1
  go_wp2_with fail
  refine Calls.mono HCI.out ?_
  rintro e w2 ⟨v2, o, rfl, hown, hSA, hb2⟩
  obtain ⟨ad, c, rfl, hS, hba⟩ := own_base hown
  have hba' : ∀ b o, ad = some ⟨b, o, none⟩ → b ≠ w.heap.size := fun b o e => by have := hba b o e; have := hres1.lt; omega
  have HBA : Hid _ := hba'
  clear hba hba'
  have hres2 := hres1.later hb2
  have hB2 := Below.later hB1 hb2
  clear HCI hres1 hB1 hb2 hown
  go_wp2_with fail
  refine (common_any s ad o c w2 (by omega) hS hSA).mono ?_
  rintro e w3 ⟨g3, rfl, hg3, hr3, hb3⟩
  have hres3 := hres2.later hb3
  have hB3 := Below.later hB2 hb3
  have hS3 := hS.later hb3
  obtain ⟨hx0, hx1, hx2⟩ := cells3 hres3
  have hf0 := Blk.free hres3 0
  have hf1 := Blk.free hres3 1
  have hf2 := Blk.free hres3 2
  have hg3' : w.heap.size < g3 := by have := hres2.lt; omega
  have hr3' := Row.sl hr3
  have hSx := ((hS3.other (a := ⟨w.heap.size, 0, none⟩) HBA.out (.string s)).other (a := ⟨w.heap.size, 1, none⟩) HBA.out (.slice ad o.length c)).other (a := ⟨w.heap.size, 2, none⟩) HBA.out (.slice (some ⟨g3, 0, none⟩) o.length o.length)
  have hCx := ((hr3'.other (a := ⟨w.heap.size, 0, none⟩) (fun b o' e => by simp at e; simp; omega) (.string s)).other (a := ⟨w.heap.size, 1, none⟩) (fun b o' e => by simp at e; simp; omega) (.slice ad o.length c)).other (a := ⟨w.heap.size, 2, none⟩) (fun b o' e => by simp at e; simp; omega) (.slice (some ⟨g3, 0, none⟩) o.length o.length)
  have HX : Hid _ := hSx
  have HY : Hid _ := hCx
  clear hSx hCx hr3 hS hS3
  have HB4 : Hid (Below w.heap.size w (((w3.setCell ⟨w.heap.size, 0, none⟩ (.string s)).setCell ⟨w.heap.size, 1, none⟩ (.slice ad o.length c)).setCell ⟨w.heap.size, 2, none⟩ (.slice (some ⟨g3, 0, none⟩) o.length o.length))) := ((hB3.setCell (by simp) _).setCell (by simp) _).setCell (by simp) _
  go_wp2
  exact bodyPost_ret (v := tv s ad (some ⟨g3, 0, none⟩) o.length c o.length) (by simp [results, Try.results53, go_sem, hx0, hx1, hx2]) rfl ⟨ad, _, o, c, _, rfl, ⟨HX.out, HY.out, hSA⟩, HB4.out⟩

set_option maxHeartbeats 1000000 in
/-- sedge.Common. -/
theorem Common_any (s : ByteArray) (w : World) (hs : s.size ≤ 1000) (o : List Nat) (ho : IsSA (bl s) o) : Calls Try.prog 20 #[.string s] w fun e w' => ∃ v, e = .returned (.tuple #[v, .int .i64 0]) ∧ w'.ownsRow w.heap.size 3 1 v o.length (IV (tab o.length (cm (bl s) o))) ∧ Below w.heap.size w w' := by
  have i1 : (s.size : Int) ≤ 1000 := by omega
  go_enter Try.func20, Try.ntmps20
  go_wp2_with fail
  refine (partsOf_full s w (by omega)).mono ?_
  rintro e w1 ⟨ad, b, o', c, c', rfl, hT, hb1⟩
  have he := ho.unique hT.sa
  subst he
  have hlen := ho.length
  rw [bl_length] at hlen
  have hol : o.length ≤ 100000 := by omega
  have HL : Hid _ := hlen
  clear hlen
  go_wp2_with fail
  refine (tCommon_some s ad b 0 (tab o.length (cm (bl s) o)) o.length c c' w1 (tab_length _ _) hT.com (by rw [tab_length]; exact hol)).mono ?_
  rintro e w2 ⟨v, rfl, hown, hb2⟩
  rw [tab_length] at hown
  have hsz := hb1.size
  go_wp2
  go_ret2
  exact ⟨v, rfl, ⟨hown.1, by
    rcases hown.2 with h | ⟨g, cap, cur, h1, h2, h3⟩
    · exact Or.inl h
    · exact Or.inr ⟨g, cap, cur, h1, by omega, h3⟩⟩, Below.later hb1 hb2⟩
end Go.Proofs.Ytepklbboejnecaa
