/- Inducing: putting a place into its bucket; going through a bucket. -/
import Derived.Test.YtepklbboejnecaaGreatWh
namespace Go.Proofs.YtepklbboejnecaaGreat
open Go.RowKit Sedge
attribute [local go_sem ↓] Go.wp_at_zero Go.wp_at_succ

/-- Only the blocks r and g, and new ones, may have turned. -/
structure Touch (r g : Nat) (w w' : World) : Prop where
  os : w'.os = w.os
  tape : w'.tape = w.tape
  output : w'.output = w.output
  size : w.heap.size ≤ w'.heap.size
  block : ∀ k, k < w.heap.size → k ≠ r → k ≠ g → w'.heap[k]? = w.heap[k]?
section
variable {r g : Nat} {w w' w'' : World}
theorem Touch.refl (r g : Nat) (w : World) : Touch r g w w := ⟨rfl, rfl, rfl, Nat.le_refl _, fun _ _ _ _ => rfl⟩
theorem Touch.trans (h : Touch r g w w') (k : Touch r g w' w'') : Touch r g w w'' :=
  ⟨k.os.trans h.os, k.tape.trans h.tape, k.output.trans h.output, Nat.le_trans h.size k.size, fun i hi h1 h2 => (k.block i (Nat.lt_of_lt_of_le hi h.size) h1 h2).trans (h.block i hi h1 h2)⟩
theorem Touch.of_below (h : Below w.heap.size w w') : Touch r g w w' := ⟨h.os, h.tape, h.output, h.size, fun k hk _ _ => h.block k hk⟩
theorem Touch.later (h : Touch r g w w') (k : Below w'.heap.size w' w'') : Touch r g w w'' := h.trans (Touch.of_below k)
theorem Touch.alloc (h : Touch r g w w') (o : Obj) : Touch r g w (w'.alloc o) := h.later ((Below.refl _ _).alloc (Nat.le_refl _) _)
theorem Touch.drewN (h : Touch r g w w') (n : Nat) : Touch r g w (w'.drewN n) := ⟨h.os, h.tape, h.output, h.size, h.block⟩
theorem Touch.set_r (h : Touch r g w w') (k : Nat) (v : Value) : Touch r g w (w'.setCell ⟨r, k, none⟩ v) :=
  h.trans ⟨rfl, rfl, rfl, by simp [World.setCell], fun i _ h1 _ => Below.heap_setCell _ _ _ _ h1⟩
theorem Touch.set_g (h : Touch r g w w') (k : Nat) (v : Value) : Touch r g w (w'.setCell ⟨g, k, none⟩ v) :=
  h.trans ⟨rfl, rfl, rfl, by simp [World.setCell], fun i _ _ h2 => Below.heap_setCell _ _ _ _ h2⟩
theorem Touch.below {B : Nat} {w0 : World} (h : Touch r g w w') (hb : Below B w0 w) (hB : B ≤ w.heap.size) (hr : B ≤ r) (hg : B ≤ g) : Below B w0 w' :=
  hb.trans ⟨h.os, h.tape, h.output, h.size, fun k hk => h.block k (by omega) (by omega) (by omega)⟩
theorem Touch.blk {b : Nat} {T : TypeId} {vs : List Value} (h : Touch r g w w') (hb : Blk w b T vs) (h1 : b ≠ r) (h2 : b ≠ g) : Blk w' b T vs := by
  unfold Blk; rw [h.block b hb.lt h1 h2]; exact hb
end

set_option maxHeartbeats 1000000 in
/-- 'put'. -/
theorem put_any (ad ad' : Option Addr) (l : List Nat) (c c' : Nat) (kinds : Int) (p r g n K : Nat) (sz : Nat → Nat) (f : Nat → List Nat) (w : World) (hl : Sl w ad l) (hs : Sl w ad' (slopes l)) (hp : p < l.length) (hv : num l p ≤ 1000000)
    (hbk : Bk w r g n K sz f) (hK : buck l p < K) (hlen : (f (buck l p)).length < sz (buck l p)) :
    Calls Tryz.prog 138 #[slv ad ad' l.length c c' kinds, .slice (some ⟨g, 0, none⟩) K K, .int .i64 p] w fun e w' =>
      e = .returned (.tuple #[]) ∧ Bk w' r g n K sz (push f (buck l p) p) ∧ Touch r g w w' := by
  unfold slv
  go_enter Tryz.func138, Tryz.ntmps138
  go_wp2_with fail
  refine (bucket_any ad ad' l c c' kinds p _ (hl.alloc _) (hs.alloc _) hp hv).mono ?_
  rintro e w2 ⟨rfl, hb2⟩
  have hT : Touch r g w w2 := ((Touch.refl r g w).alloc _).later hb2
  have hB := (hbk.alloc (Obj.cells #[Value.slice ad l.length c, Value.int .i64 kinds, Value.slice ad' l.length c'] 150)).later hb2
  have hr4 := (hB.put (p := p) hK hlen).alloc (Obj.cells #[Value.int .i64 p] 3)
  have hT4 := ((hT.set_r (ps sz (buck l p) + (f (buck l p)).length) (.int .i64 p)).set_g (buck l p) (.slice (some ⟨r, ps sz (buck l p), none⟩) ((f (buck l p)).length + 1) (sz (buck l p)))).alloc (Obj.cells #[Value.int .i64 p] 3)
  have hhd := hB.head hK (by omega)
  obtain ⟨⟨v0, hv0⟩, hfr⟩ := hB.room hK hlen
  have hw0 : r < w2.heap.size := cell_lt hv0
  have hw1 : g < w2.heap.size := cell_lt hhd
  have hfg := Blk.free hB.hd (buck l p)
  have hne : ¬ r = g := hB.ne
  have hne' : ¬ g = r := fun e => hne e.symm
  clear hB hb2 hT hbk
  go_wp2
  go_end0
  exact ⟨rfl, hr4, hT4⟩

theorem Bk.header {w : World} {r g n K : Nat} {sz : Nat → Nat} {f : Nat → List Nat} (h : Bk w r g n K sz f) {c : Nat} (hc : c < K) : ∃ ao, w.cell? ⟨g, c, none⟩ = some (.slice (some ao) (f c).length (sz c)) := ⟨_, vtab_cell h.hd hc⟩

set_option maxHeartbeats 2000000 in
/-- 'induceAhead': D: the places that are put in, those with this slope. -/
theorem induceAhead_any {D seed : Nat → Prop} {R dn : Nat → Nat → Prop} (ad ad' : Option Addr) (l : List Nat) (c c' : Nat) (kinds : Int) (b sl r g K : Nat) (f : Nat → List Nat) (w0 w : World)
    (P : Pass l.length (buck l) D seed R dn) (hD : ∀ p, p + 1 < l.length → (D p ↔ slope l p = sl)) (hKb : ∀ p, p < l.length → buck l p < K) (hb : b < K)
    (hl : Sl w0 ad l) (hs : Sl w0 ad' (slopes l)) (hv : ∀ p, num l p ≤ 1000000) (hn : l.length ≤ 1000000) (hB0 : Below w0.heap.size w0 w) (hr0 : w0.heap.size ≤ r) (hg0 : w0.heap.size ≤ g)
    (hbk : Bk w r g l.length K (room l.length (buck l)) f) (hinv : Inv l.length (buck l) D seed R dn f b 0) :
    Calls Tryz.prog 139 #[slv ad ad' l.length c c' kinds, .slice (some ⟨g, 0, none⟩) K K, .int .i64 b, .int .i64 sl] w fun e w' =>
      e = .returned (.tuple #[]) ∧ ∃ f', Bk w' r g l.length K (room l.length (buck l)) f' ∧ Inv l.length (buck l) D seed R dn f' b (f' b).length ∧ Touch r g w w' := by
  have hrlt : r < w.heap.size := by obtain ⟨o, _, h, _⟩ := hbk.row; exact Blk.lt h
  have hglt : g < w.heap.size := hbk.hd.lt
  unfold slv
  go_enter Tryz.func139, Tryz.ntmps139
  go_wp2
  go_loopw [8] (fun i wr => ∃ (k : Nat) (f' : Nat → List Nat), k ≤ (f' b).length ∧ i = .int .i64 k ∧ Inv l.length (buck l) D seed R dn f' b k ∧ Bk wr r g l.length K (room l.length (buck l)) f' ∧ Blk wr w.heap.size 150 [.slice ad l.length c, .int .i64 kinds, .slice ad' l.length c'] ∧ Touch r g w wr) (fun i _ => room l.length (buck l) b - (intOf i).toNat)
  case atStart => exact ⟨0, f, Nat.zero_le _, rfl, hinv, hbk.alloc _, by unfold Blk; rw [heap_alloc_new], (Touch.refl r g w).alloc _⟩
  case round =>
    clear hinv hbk
    obtain ⟨k, f', hk, rfl, hinv, hbk, hbx, hT⟩ := hrel
    have hfit := hbk.fit b hb
    have hroom : room l.length (buck l) b ≤ 1000000 := by
      unfold room; have := List.length_filter_le (fun p => buck l p == b) (List.range l.length); rw [List.length_range] at this; omega
    obtain ⟨ao, hhd⟩ := hbk.header hb
    have hx0 := Blk.cell hbx (k := 0) (by simp)
    have hx1 := Blk.cell hbx (k := 1) (by simp)
    have hx2 := Blk.cell hbx (k := 2) (by simp)
    simp only [List.getElem_cons_zero, List.getElem_cons_succ] at hx0 hx1 hx2
    have hBr : Below w0.heap.size w0 wr := hT.below hB0 hB0.size hr0 hg0
    by_cases hlt : k < (f' b).length
    · have hhd2 := hbk.head hb (by omega)
      rw [hhd2] at hhd
      simp only [Option.some.injEq, Value.slice.injEq, and_true] at hhd
      subst hhd
      have hcell := hbk.cell hb hlt
      have hq := hinv.mem b _ (num_mem hlt)
      have hgk : (f' b)[k] = num (f' b) k := (num_eq hlt).symm
      rcases Nat.eq_zero_or_pos (num (f' b) k) with h0 | h0
      · have hS := hinv.skip hlt (fun p hp _ => by rw [hgk, h0] at hp; omega)
        rw [h0, Int.natCast_zero] at hcell
        clear hinv hq hgk h0 hBr hhd2
        have hhd := hbk.head hb (by omega)
        go_wp2
        go_roundw
        case rel => exact ⟨k + 1, f', by omega, by go_num, hS, hbk, hbx, hT⟩
        case measure => simp [intOf]; omega
      · obtain ⟨p, hp⟩ : ∃ p, num (f' b) k = p + 1 := ⟨num (f' b) k - 1, by omega⟩
        rw [hp] at hcell hq hgk
        have hDp := hD p hq.1
        obtain ⟨b', o', rfl, hcs⟩ := hs p (by rw [slopes_length]; omega)
        rw [slopes_num (by omega)] at hcs
        have hcs' := (hBr.cell (cell_lt hcs)).trans hcs
        have hsl' := slope_le l p
        rw [show (((p + 1 : Nat)) : Int) = (p : Int) + 1 by omega] at hcell
        have hpn : p ≤ 1000000 := by omega
        have hpl : (p : Int) < (l.length : Int) := by omega
        by_cases hd : slope l p = sl
        · have hDp' := hDp.2 hd
          have hS := hinv.push P hlt hgk hDp'
          have hfr := hinv.fresh P hlt hgk hDp'
          have hroomp : (f' (buck l p)).length < room l.length (buck l) (buck l p) := room_lt (hinv.nodup P _) (hinv.mem _) hfr (by omega) rfl
          have hKp := hKb p (by omega)
          have hkl : k + 1 ≤ (push f' (buck l p) p b).length := by
            unfold push; split
            · simp; omega
            · omega
          have HS : Hid _ := hS
          have HL : Hid (k + 1 ≤ (push f' (buck l p) p b).length) := hkl
          rw [hd] at hcs'
          have hsq : ((sl : Int) == (sl : Int)) = true := by simp
          have hd' : Hid (slope l p = sl) := hd
          clear hinv hq hgk h0 hp hDp hDp' hS hfr hkl hcs hd
          go_wp2_with fail
          refine (put_any ad (some ⟨b', o', none⟩) l c c' kinds p r g l.length K _ f' _ (hl.later hBr) (hs.later hBr) (by omega) (hv p) hbk hKp hroomp).mono ?_
          rintro e w2 ⟨rfl, hbk2, hT2⟩
          have hbx2 := hT2.blk hbx (by omega) (by omega)
          have hT3 := hT.trans hT2
          clear hbk hbx hT hT2 hx0 hx1 hx2 hhd2 hcell hcs' hBr
          go_wp2
          go_roundw
          case rel => exact ⟨k + 1, _, HL.out, by go_num, HS.out, hbk2, hbx2, hT3⟩
          case measure => simp [intOf]; omega
        · have hS := hinv.skip hlt (fun q hq' hdq => by
            rw [hgk] at hq'
            have : q = p := by omega
            subst this
            exact hd (hDp.1 hdq))
          have hsq : (((slope l p : Nat) : Int) == (sl : Int)) = false := by rw [beq_eq_false_iff_ne]; omega
          clear hinv hq hgk h0 hp hDp hcs hd hBr
          go_wp2
          go_roundw
          case rel => exact ⟨k + 1, f', by omega, by go_num, hS, hbk, hbx, hT⟩
          case measure => simp [intOf]; omega
    · have : k = (f' b).length := by omega
      subst this
      go_wp2
      go_end0
      exact ⟨rfl, f', hbk, hinv, hT⟩
end Go.Proofs.YtepklbboejnecaaGreat
