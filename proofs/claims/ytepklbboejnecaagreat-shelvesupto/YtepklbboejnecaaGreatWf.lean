/- Slopes: starts, steps, pieces; making the slopes. -/
import Derived.Test.YtepklbboejnecaaGreatWe
import Derived.ChangeKeysEq
namespace Go.Proofs.YtepklbboejnecaaGreat
open Go.RowKit Sedge
attribute [local go_sem ↓] Go.wp_at_zero Go.wp_at_succ

theorem bcell {W w1 : World} (hb : Below W.heap.size W w1) : (∀ b o, b < W.heap.size → w1.cell? ⟨b, o, none⟩ = W.cell? ⟨b, o, none⟩) ∧ (∀ b o, b < W.heap.size → w1.frozen? ⟨b, o, none⟩ = W.frozen? ⟨b, o, none⟩) :=
  ⟨fun b o h => hb.cell (p := ⟨b, o, none⟩) h, fun b o h => hb.frozen (p := ⟨b, o, none⟩) h⟩

theorem guard2 : Tryz.prog.eqGuardType Tryz.prog.depth 164 = false := by kernel_rfl
theorem guard3 : Tryz.prog.eqGuardType Tryz.prog.depth 169 = false := by kernel_rfl
theorem cellsInt : Tryz.prog.cellsOf 3 = 1 := by kernel_rfl
/-- Two numbers against two, as arrays. -/
theorem eq2 (a b c d : Int) (w : World) : (binOp .eql 164 (.agg #[.int .i64 a, .int .i64 b]) (.agg #[.int .i64 c, .int .i64 d])).run Tryz.prog w = .ok (.bool (a == c && b == d)) w := by
  obtain ⟨i0, hi, hz0, hz1, hz2⟩ := info_parts Tryz.infoInt
  rw [run_eql_struct, show (10000 : Nat) = 9999 + 1 from rfl, run_equalIn_array w 9999 _ _ Tryz.underlying164 hi, show List.range 2 = [0, 1] from rfl, cellsInt]
  simp [Op.eqItems, go_sem]
  by_cases h1 : a = c <;> by_cases h2 : b = d <;> simp [h1, h2]
/-- Three against three. -/
theorem eq3 (a b c a' b' c' : Int) (w : World) : (binOp .eql 169 (.agg #[.int .i64 a, .int .i64 b, .int .i64 c]) (.agg #[.int .i64 a', .int .i64 b', .int .i64 c'])).run Tryz.prog w = .ok (.bool (a == a' && b == b' && c == c')) w := by
  obtain ⟨i0, hi, hz0, hz1, hz2⟩ := info_parts Tryz.infoInt
  rw [run_eql_struct, show (10000 : Nat) = 9999 + 1 from rfl, run_equalIn_array w 9999 _ _ Tryz.underlying169 hi, show List.range 3 = [0, 1, 2] from rfl, cellsInt]
  simp [Op.eqItems, go_sem]
  by_cases h1 : a = a' <;> by_cases h2 : b = b' <;> by_cases h3 : c = c' <;> simp [h1, h2, h3]

/-- 'onlyStarts' of all places. -/
theorem onlyStarts_range (ad ad' : Option Addr) (l : List Nat) (c c' g : Nat) (kinds : Int) (w : World) (hs : Sl w ad' (slopes l)) (ho : Row w g (List.range l.length)) (hn : l.length ≤ 1000000) :
    Calls Tryz.prog 85 #[slv ad ad' l.length c c' kinds, .slice (some ⟨g, 0, none⟩) l.length l.length] w fun e w' =>
      ∃ v, e = .returned v ∧ w'.ownsRow w.heap.size 3 1 v (starts l).length (IV (starts l)) ∧ Below w.heap.size w w' := by
  have h := onlyStarts_any ad ad' (some ⟨g, 0, none⟩) l (List.range l.length) c c' l.length kinds w hs (Row.sl ho) (fun k hk => by rw [num_eq hk]; simpa using hk) hn (by rw [List.length_range]; exact hn)
  rw [List.length_range] at h
  exact h

set_option maxHeartbeats 400000 in
/-- 'starts'. -/
theorem starts_any (ad ad' : Option Addr) (l : List Nat) (c c' : Nat) (kinds : Int) (w : World) (hs : Sl w ad' (slopes l)) (hn : l.length ≤ 1000000) :
    Calls Tryz.prog 84 #[slv ad ad' l.length c c' kinds] w fun e w' =>
      ∃ v, e = .returned v ∧ w'.ownsRow w.heap.size 3 1 v (starts l).length (IV (starts l)) ∧ Below w.heap.size w w' := by
  unfold slv
  have hb0 : Below w.heap.size w (w.alloc (Obj.cells #[Value.slice ad l.length c, Value.int .i64 kinds, Value.slice ad' l.length c'] 150)).drew := ((Below.refl _ _).alloc (Nat.le_refl _) _).drew
  go_enter Tryz.func84, Tryz.ntmps84
  go_wp2
  go_region_held3 (fun w' => w'.cell? ⟨w.heap.size, 0, none⟩ = some (.slice ad l.length c) ∧ w'.cell? ⟨w.heap.size, 1, none⟩ = some (.int .i64 kinds) ∧ w'.cell? ⟨w.heap.size, 2, none⟩ = some (.slice ad' l.length c')) (go_keep)
    (first
      | (go_at_call 77; refine (upTo_any l.length _ hn).mono ?_; rintro e w2 ⟨g2, rfl, hg2, hr2, hb2⟩; obtain ⟨hk, hk'⟩ := bcell hb2)
      | (go_at_call 85; refine (onlyStarts_range ad ad' l c c' g2 kinds w2 (hs.later (Below.later hb0 hb2)) hr2 hn).mono ?_; rintro e w3 ⟨v3, rfl, hr3, hb3⟩; have hsz2 := hb2.size; have hsz3 : w.heap.size < w2.heap.size := (by simp at hsz2; omega); obtain ⟨hk3, hk3'⟩ := bcell hb3))
  go_wp2
  go_ret
  exact ⟨v3, rfl, own_mono hr3 (by omega), Below.later (Below.later hb0 hb2) hb3⟩

/-- The number at a place and its slope; of the mark they are unlike all others. -/
def step2 (l : List Nat) (p : Nat) : Nat := if p < l.length then slope l p else 1

set_option maxHeartbeats 1000000 in
/-- 'step'. -/
theorem step_any (ad ad' : Option Addr) (l : List Nat) (c c' : Nat) (kinds : Int) (p : Nat) (w : World) (hl : Sl w ad l) (hs : Sl w ad' (slopes l)) (hv : ∀ p, num l p ≤ 1000000) :
    Calls Tryz.prog 115 #[slv ad ad' l.length c c' kinds, .int .i64 p] w fun e w' => e = .returned (.agg #[.int .i64 (at1 l p), .int .i64 (step2 l p)]) ∧ Below w.heap.size w w' := by
  have hb0 : Below w.heap.size w ((w.alloc (Obj.cells #[Value.slice ad l.length c, Value.int .i64 kinds, Value.slice ad' l.length c'] 150)).alloc (Obj.cells #[.int .i64 0, .int .i64 0] 164)) := ((Below.refl _ _).alloc (Nat.le_refl _) _).alloc (by simp) _
  unfold slv
  by_cases hp : p < l.length
  · obtain ⟨b', o', rfl, hc'⟩ := hs p (by rw [slopes_length]; exact hp)
    rw [slopes_num hp] at hc'
    have hlt' : b' < w.heap.size := cell_lt hc'
    have hst : step2 l p = slope l p := by simp [step2, hp]
    rw [hst]
    clear hst
    have i2 : (p : Int) < (l.length : Int) := by omega
    have hlt2 : b' < w.heap.size + 1 + 1 := by omega
    have hz2 : w.heap.size < w.heap.size + 1 + 1 := by omega
    have hlt3 : b' < w.heap.size + 1 := by omega
    have hne : ¬ b' = w.heap.size + 1 := by omega
    have hne2 : ¬ w.heap.size + 1 = b' := by omega
    go_enter Tryz.func115, Tryz.ntmps115
    go_wp2
    go_region_held3 (fun w' => w'.cell? ⟨w.heap.size, 0, none⟩ = some (.slice ad l.length c) ∧ w'.cell? ⟨w.heap.size, 1, none⟩ = some (.int .i64 kinds) ∧ w'.cell? ⟨w.heap.size, 2, none⟩ = some (.slice (some ⟨b', o', none⟩) l.length c') ∧ w'.cell? ⟨b', o' + p, none⟩ = some (.int .i64 (slope l p))) (go_keep)
      (first
        | (go_at_call 136; refine (at_any ad l c kinds p _ (hl.later hb0.drew) (hv p)).mono ?_; rintro e w2 ⟨rfl, hb2⟩; obtain ⟨hk, hk'⟩ := bcell hb2))
    go_wp2
    refine bodyPost_ret (v := .agg #[.int .i64 (at1 l p), .int .i64 (slope l p)]) (by simp [results, Tryz.results115, go_sem, hk]) rfl ⟨rfl, ?_⟩
    exact ((Below.later hb0.drew hb2).setCell (p := ⟨w.heap.size + 1, 0, none⟩) (by simp) _).setCell (p := ⟨w.heap.size + 1, 1, none⟩) (by simp) _
  · have hst : step2 l p = 1 := by simp [step2, hp]
    rw [hst]
    clear hst
    go_enter Tryz.func115, Tryz.ntmps115
    go_wp2_with fail
    refine (at_any ad l c kinds p _ (hl.later hb0) (hv p)).mono ?_
    rintro e w2 ⟨rfl, hb2⟩
    obtain ⟨hk, hk'⟩ := bcell hb2
    go_wp2
    refine bodyPost_ret (v := .agg #[.int .i64 (at1 l p), .int .i64 1]) (by simp [results, Tryz.results115, go_sem, hk]) rfl ⟨rfl, ?_⟩
    exact ((Below.later hb0 hb2).setCell (p := ⟨w.heap.size + 1, 0, none⟩) (by simp) _).setCell (p := ⟨w.heap.size + 1, 1, none⟩) (by simp) _
end Go.Proofs.YtepklbboejnecaaGreat
