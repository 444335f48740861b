/- Parts: the table of a text; the calls Parts and Part. -/
import Derived.Test.YtepklbboejnecaaGreatWt
namespace Go.Proofs.YtepklbboejnecaaGreat
open Go.RowKit Go.Shelf Sedge

theorem own_base {w : World} {base : Nat} {v : Value} {l : List Nat} (h : w.ownsRow base 3 1 v l.length (IV l)) : ∃ ad c, v = .slice ad l.length c ∧ Sl w ad l ∧ ∀ b o, ad = some ⟨b, o, none⟩ → base ≤ b := by
  obtain ⟨ad, c, e, hS⟩ := own_sl h
  refine ⟨ad, c, e, hS, fun b o hb => ?_⟩
  rcases h.2 with ⟨h1, _⟩ | ⟨g, cap, cur, h1, h2, _⟩
  · rw [e, hb] at h1; cases h1
  · rw [e, hb] at h1
    simp only [Value.slice.injEq, Option.some.injEq, Addr.mk.injEq, and_true] at h1
    omega
theorem Sl.other {w : World} {ad : Option Addr} {l : List Nat} (h : Sl w ad l) {a : Addr} (ha : ∀ b o, ad = some ⟨b, o, none⟩ → b ≠ a.block) (v : Value) : Sl (w.setCell a v) ad l := by
  intro k hk
  obtain ⟨b, o, e, hc⟩ := h k hk
  refine ⟨b, o, e, ?_⟩
  rw [World.cell?_setCell_other _ _ _ _ (fun e' => ha b o e (by rw [e']))]; exact hc

set_option maxHeartbeats 2000000 in
/-- 'parts.Of'. -/
theorem partsOf_any (s : ByteArray) (w : World) (hs : s.size ≤ 500000) :
    Calls Tryz.prog 44 #[.string s] w fun e w' => ∃ ad ad' o c c', e = .returned (tv s ad ad' o.length c c') ∧ Tab w' s ad ad' o ∧ Below w.heap.size w w' := by
  have hres : Blk (w.alloc (Obj.cells #[.string ⟨#[]⟩, .slice none 0 0, .slice none 0 0] 99)) w.heap.size 99 [.string ⟨#[]⟩, .slice none 0 0, .slice none 0 0] := Blk.new w _ _ rfl
  have hB0 : Below w.heap.size w (w.alloc (Obj.cells #[.string ⟨#[]⟩, .slice none 0 0, .slice none 0 0] 99)) := (Below.refl _ _).alloc (Nat.le_refl _) _
  go_enter Tryz.func44, Tryz.ntmps44
  go_wp2_with fail
  refine (endsOf_any s _ (by omega)).mono ?_
  rintro e w1 ⟨g1, rfl, hg1, hr1, hb1⟩
  have hres1 := hres.later hb1
  have hB1 := Below.later hB0 hb1
  have CI := inducing_any (bl s).length (bl s) rfl (some ⟨g1, 0, none⟩) s.size 256 w1 (Row.sl hr1) (fun p _ => bl_lt s p) (by omega) (by rw [bl_length]; exact hs)
  rw [bl_length, show (((256 : Nat)) : Int) = 256 from rfl] at CI
  have HCI : Hid _ := CI
  clear CI hres hB0 hb1 hg1
  go_wp2_with fail
  refine Calls.mono HCI.out ?_
  rintro e w2 ⟨v2, o, rfl, hown, hSA, hb2⟩
  obtain ⟨ad, c, rfl, hS, hba⟩ := own_base hown
  have hba' : ∀ b o, ad = some ⟨b, o, none⟩ → b ≠ w.heap.size := fun b o e => by have := hba b o e; have := hres1.lt; omega
  have HBA : Hid _ := hba'
  clear hba hba'
  have hres2 := hres1.later hb2
  have hB2 := Below.later hB1 hb2
  clear HCI hres1 hB1 hb2 hown
  go_wp2_with fail
  refine (common_any s ad o c w2 (by omega) hS hSA).mono ?_
  rintro e w3 ⟨g3, rfl, hg3, hr3, hb3⟩
  have hres3 := hres2.later hb3
  have hB3 := Below.later hB2 hb3
  have hS3 := hS.later hb3
  obtain ⟨hx0, hx1, hx2⟩ := cells3 hres3
  have hf0 := Blk.free hres3 0
  have hf1 := Blk.free hres3 1
  have hf2 := Blk.free hres3 2
  have hg3' : w.heap.size < g3 := by have := hres2.lt; omega
  have hr3' := Row.sl hr3
  have hSx := ((hS3.other (a := ⟨w.heap.size, 0, none⟩) HBA.out (.string s)).other (a := ⟨w.heap.size, 1, none⟩) HBA.out (.slice ad o.length c)).other (a := ⟨w.heap.size, 2, none⟩) HBA.out (.slice (some ⟨g3, 0, none⟩) o.length o.length)
  have hCx := ((hr3'.other (a := ⟨w.heap.size, 0, none⟩) (fun b o' e => by simp at e; simp; omega) (.string s)).other (a := ⟨w.heap.size, 1, none⟩) (fun b o' e => by simp at e; simp; omega) (.slice ad o.length c)).other (a := ⟨w.heap.size, 2, none⟩) (fun b o' e => by simp at e; simp; omega) (.slice (some ⟨g3, 0, none⟩) o.length o.length)
  have HX : Hid _ := hSx
  have HY : Hid _ := hCx
  clear hSx hCx hr3 hS hS3
  have HB4 : Hid (Below w.heap.size w (((w3.setCell ⟨w.heap.size, 0, none⟩ (.string s)).setCell ⟨w.heap.size, 1, none⟩ (.slice ad o.length c)).setCell ⟨w.heap.size, 2, none⟩ (.slice (some ⟨g3, 0, none⟩) o.length o.length))) := ((hB3.setCell (by simp) _).setCell (by simp) _).setCell (by simp) _
  go_wp2
  exact bodyPost_ret (v := tv s ad (some ⟨g3, 0, none⟩) o.length c o.length) (by simp [results, Tryz.results44, go_sem, hx0, hx1, hx2]) rfl ⟨ad, _, o, c, _, rfl, ⟨HX.out, HY.out, hSA⟩, HB4.out⟩

/-- The error that Part tells: 0, or 3 where there is no such part. -/
def perr (l o : List Nat) (n : Nat) : Nat := if (pidx l o n).isSome then 0 else 3

end Go.Proofs.YtepklbboejnecaaGreat
