/- Inducing: the first pass, whole. -/
import Derived.Test.YtepklbboejnecaaGreatWk
import Derived.Test.YtepklbboejnecaaGreatM
namespace Go.Proofs.YtepklbboejnecaaGreat
open Go.RowKit Go.Shelf Sedge

attribute [local go_sem] Oper.semAt_some

section
variable {w W W' : World} {r g n K b j : Nat} {T : TypeId} {vs : List Value} {sz : Nat → Nat} {f : Nat → List Nat}
theorem Blk.putObj (h : Blk W b T vs) (hj : b ≠ j) (o : Obj) : Blk (W.putObj j o) b T vs := by
  unfold Blk; rw [World.putObj_heap_other hj]; exact h
theorem Bk.putObj (h : Bk W r g n K sz f) (h1 : r ≠ j) (h2 : g ≠ j) (o : Obj) : Bk (W.putObj j o) r g n K sz f := by
  obtain ⟨o', a1, a2, a3⟩ := h.row
  exact ⟨h.hd.putObj h2 o, ⟨o', a1, Blk.putObj a2 h1 o, a3⟩, h.fit, h.tot, h.ne⟩
theorem Touch.putObj (h : Touch r g w W) (hj : w.heap.size ≤ j) (o : Obj) : Touch r g w (W.putObj j o) :=
  ⟨h.os, h.tape, h.output, by simp [h.size], fun k hk h1 h2 => by rw [World.putObj_heap_other (by omega)]; exact h.block k hk h1 h2⟩
theorem Touch.keepsFrom (h : Touch r g W W') {B : Nat} (hr : r < B) (hg : g < B) : KeepsFrom B W W' :=
  ⟨h.size, fun k o hB hk _ => by rw [h.block k (lt_of_block hk) (by omega) (by omega)]; exact hk⟩
theorem Touch.kept (h : Touch r g W W') {n0 : Nat} (hn : n0 ≤ W.heap.size) : Kept n0 r g W W' := fun k h1 h2 h3 => h.block k (by omega) h2 h3
theorem Bk.rlt (h : Bk W r g n K sz f) : r < W.heap.size := by obtain ⟨o, _, h, _⟩ := h.row; exact Blk.lt h
theorem Bk.congr {f' : Nat → List Nat} (h : Bk W r g n K sz f) (e : ∀ c, c < K → f' c = f c) : Bk W r g n K sz f' := by
  obtain ⟨o', a1, a2, a3⟩ := h.row
  refine ⟨?_, ⟨o', a1, a2, fun c hc i hi => ?_⟩, fun c hc => by rw [e c hc]; exact h.fit c hc, h.tot, h.ne⟩
  · have := h.hd
    rwa [vtab_congr (G := hdr r sz fun c => (f' c).length) (fun c hc => by simp only [hdr, e c hc])] at this
  · rw [e c hc] at hi ⊢; exact a3 c hc i hi

/-- A bucket turned round. -/
def revAt (f : Nat → List Nat) (b : Nat) : Nat → List Nat := fun c => if c = b then (f c).reverse else f c
theorem Bk.rev {o : List Nat} {t : Nat} (hb : b < K) (hd : Blk W g 55 (vtab K (hdr r sz fun c => (f c).length))) (ho : o.length = n) (hrow : ∀ c, c < K → ∀ i, i < (f c).length → num o (ps sz c + i) = num (f c) i)
    (fit : ∀ c, c < K → (f c).length ≤ sz c) (tot : ps sz K = n) (ne : r ≠ g) (hT : ∀ g', Touch r g' W W') (ht : (f b).length ≤ t + t + 1) (ht2 : t + t ≤ (f b).length + 1) (hr : Row W' r (turned o (ps sz b) (f b).length t)) :
    Bk W' r g n K sz (revAt f b) := by
  have hlen : ∀ c, (revAt f b c).length = (f c).length := by intro c; unfold revAt; split <;> simp
  refine ⟨?_, ⟨_, (turned_length _ _ _ _).trans ho, hr, ?_⟩, fun c hc => by rw [hlen]; exact fit c hc, tot, ne⟩
  · have h1 := (hT r).blk hd (fun e => ne e.symm) (fun e => ne e.symm)
    rwa [vtab_congr (G := hdr r sz fun c => (revAt f b c).length) (fun c _ => by simp only [hdr, hlen])] at h1
  · intro c hc i hi
    rw [hlen] at hi
    have hc1 := ps_next sz hc
    have hb1 := ps_next sz hb
    have hfc := fit c hc
    have hfb := fit b hb
    by_cases e : c = b
    · subst e
      rw [turned_done (by omega) ht hi, hrow c hc _ (by omega)]
      unfold revAt; rw [if_pos rfl, num_reverse hi]
    · have he : revAt f b c = f c := by unfold revAt; rw [if_neg e]
      rw [he, turned_out (by omega) ht2 ?_, hrow c hc i hi]
      rcases Nat.lt_or_gt_of_ne e with d | d
      · have := ps_next sz d; omega
      · have := ps_next sz d; omega
theorem Bk.rev_none (h : Bk W r g n K sz f) (hb : b < K) (h0 : sz b = 0) (hT : ∀ g', Touch r g' W W') {o : List Nat} {t : Nat} (ho : Row W r o) (hr : Row W' r (turned o 0 0 t)) (ht : t + t ≤ 1) : Bk W' r g n K sz (revAt f b) := by
  have hf := h.fit b hb
  have hnil : f b = [] := List.eq_nil_of_length_eq_zero (by omega)
  have e : revAt f b = f := by funext c; unfold revAt; split
                               · rename_i e; rw [e, hnil]; rfl
                               · rfl
  rw [e]
  have ht0 : t = 0 := by omega
  subst ht0
  rw [turned_zero] at hr
  obtain ⟨o', a1, a2, a3⟩ := h.row
  have eo : o = o' := by
    have x : some (Obj.cells (IV o).toArray 3 (0, 0)) = some (Obj.cells (IV o').toArray 3 (0, 0)) := Eq.trans (Eq.symm ho) a2
    simp only [Option.some.injEq, Obj.cells.injEq, and_true] at x
    have y : IV o = IV o' := by simpa using congrArg Array.toList x
    unfold IV at y
    have inj : ∀ x y : Nat, Value.int .i64 (x : Int) = Value.int .i64 (y : Int) → x = y := fun x y h => by injection h with _ h; omega
    exact (List.map_inj_right inj).1 y
  subst eo
  refine ⟨(hT r).blk h.hd (fun e => h.ne e.symm) (fun e => h.ne e.symm), ⟨o, a1, hr, a3⟩, h.fit, h.tot, h.ne⟩
end
end Go.Proofs.YtepklbboejnecaaGreat
