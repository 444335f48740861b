/- Inducing: the second pass, whole. -/
import Derived.Test.YtepklbboejnecaaGreatWm
namespace Go.Proofs.YtepklbboejnecaaGreat
open Go.RowKit Sedge

/-- The buckets of falling ends emptied, up to the t-th. -/
def evens (f : Nat → List Nat) (t : Nat) : Nat → List Nat := fun c => if c % 2 = 0 ∧ c < 2 * t then [] else f c
theorem evens_zero (f : Nat → List Nat) : evens f 0 = f := by
  funext c; unfold evens; rw [if_neg (by omega)]
def emptyAt (f : Nat → List Nat) (b : Nat) : Nat → List Nat := fun c => if c = b then [] else f c
theorem evens_succ (f : Nat → List Nat) (t : Nat) : emptyAt (evens f t) (2 * t) = evens f (t + 1) := by
  funext c; unfold evens emptyAt; dsimp only
  by_cases e : c = 2 * t
  · subst e; rw [if_pos rfl, if_pos (by omega)]
  · rw [if_neg e]
    by_cases d : c % 2 = 0 ∧ c < 2 * t
    · rw [if_pos d, if_pos (by omega)]
    · rw [if_neg d, if_neg (by omega)]
theorem Bk.empty {w : World} {r g n K b : Nat} {sz : Nat → Nat} {f : Nat → List Nat} (h : Bk w r g n K sz f) : Bk (w.setCell ⟨g, b, none⟩ (hdr r sz (fun _ => 0) b)) r g n K sz (emptyAt f b) := by
  obtain ⟨o, h1, h2, h3⟩ := h.row
  refine ⟨?_, ⟨o, h1, Blk.other h2 h.ne _, ?_⟩, ?_, h.tot, h.ne⟩
  · have a := h.hd.set b (hdr r sz (fun _ => 0) b)
    rw [vtab_set (G := hdr r sz fun c => (emptyAt f b c).length)] at a
    · exact a
    · intro j hj
      by_cases e : j = b
      · subst e; simp only [hdr, emptyAt, if_pos, List.length_nil]
      · simp only [hdr, emptyAt, if_neg e]
  · intro c hc i hi
    unfold emptyAt at hi ⊢
    by_cases e : c = b
    · rw [if_pos e] at hi; simp at hi
    · rw [if_neg e] at hi ⊢; exact h3 c hc i hi
  · intro c hc
    unfold emptyAt
    split
    · simp
    · exact h.fit c hc

set_option maxHeartbeats 2000000 in
theorem induceFalling_any {lt1 lt : Nat → Nat → Prop} (ad ad' : Option Addr) (l S : List Nat) (c c' : Nat) (kinds : Int) (r g K : Nat) (w0 w : World) (f1 : Nat → List Nat)
    (G : Sedge.Good l S lt1 lt) (hKb : ∀ p, p < l.length → buck l p < K) (hKm : K ≤ 1000000)
    (hl : Sl w0 ad l) (hs : Sl w0 ad' (slopes l)) (hv : ∀ p, num l p ≤ 1000000) (hn : l.length ≤ 1000000) (hn0 : 0 < l.length) (hB0 : Below w0.heap.size w0 w) (hr0 : w0.heap.size ≤ r) (hg0 : w0.heap.size ≤ g)
    (hF1 : Fin1 l lt1 f1) (hbk : Bk w r g l.length K (room l.length (buck l)) (fun c => if c % 2 = 1 then (f1 c).reverse else f1 c)) :
    Calls Tryz.prog 114 #[slv ad ad' l.length c c' kinds, .slice (some ⟨g, 0, none⟩) K K] w fun e w' =>
      e = .returned (.tuple #[]) ∧ ∃ f2, Fin2 l lt f2 ∧ Bk w' r g l.length K (room l.length (buck l)) f2 ∧ Touch r g w w' := by
  have hrlt := hbk.rlt
  have hglt := hbk.hd.lt
  unfold slv
  go_enter Tryz.func114, Tryz.ntmps114
  go_wp2
  go_loopw [4] (fun i wr => ∃ t : Nat, t ≤ K ∧ i = .int .i64 (((2 * t : Nat)) : Int) ∧ Bk wr r g l.length K (room l.length (buck l)) (evens (fun c => if c % 2 = 1 then (f1 c).reverse else f1 c) t) ∧ Blk wr w.heap.size 150 [.slice ad l.length c, .int .i64 kinds, .slice ad' l.length c'] ∧ Touch r g w wr) (fun i _ => K + 2 - (intOf i).toNat)
  case atStart => exact ⟨0, Nat.zero_le _, rfl, by rw [evens_zero]; exact hbk.alloc _, by unfold Blk; rw [heap_alloc_new], (Touch.refl r g w).alloc _⟩
  case round =>
    clear hbk
    obtain ⟨t, ht, rfl, hbk, hbx, hT⟩ := hrel
    by_cases hlt : 2 * t < K
    · have hcell : wr.cell? ⟨g, 2 * t, none⟩ = some (hdr r (room l.length (buck l)) _ (2 * t)) := vtab_cell hbk.hd hlt
      have hE := hbk.empty (b := 2 * t)
      rw [evens_succ] at hE
      have hfree := Blk.free hbk.hd (2 * t)
      have hT' := hT.set_g (2 * t) (hdr r (room l.length (buck l)) (fun _ => 0) (2 * t))
      have hbx' := hbx.other (a := ⟨g, 2 * t, none⟩) (by simp; omega) (hdr r (room l.length (buck l)) (fun _ => 0) (2 * t))
      obtain ⟨b, hb⟩ : ∃ b, b = 2 * t := ⟨_, rfl⟩
      have HB : Hid (b = 2 * t) := hb
      rw [← hb] at hcell hE hfree hT' hbx' hlt ⊢
      have hbK : (b : Int) < (K : Int) := by omega
      simp only [hdr] at hcell hE hT' hbx'
      generalize (if room l.length (buck l) b = 0 then (⟨r, 0, none⟩ : Addr) else ⟨r, ps (room l.length (buck l)) b, none⟩) = ao at hcell hE hT' hbx'
      clear hb hbk hbx hT
      go_wp2
      have hbo := HB.out
      go_roundw
      case rel => exact ⟨t + 1, by omega, by congr 1; omega, hE, hbx', hT'⟩
      case measure => simp [intOf]; omega
    · have hbk2 : Bk wr r g l.length K (room l.length (buck l)) (g0 f1) := hbk.congr (fun c hc => by
        unfold evens g0; dsimp only
        by_cases e : c % 2 = 1
        · rw [if_pos e, if_neg (by omega), if_pos e]
        · rw [if_neg e, if_pos (by omega)])
      have hq := hKb (l.length - 1) (by omega)
      have hsl : slope l (l.length - 1) = 0 := slope_last (by omega)
      have hemp : g0 f1 (buck l (l.length - 1)) = [] := by
        unfold g0; rw [if_neg]; unfold buck; omega
      have hroom : (g0 f1 (buck l (l.length - 1))).length < room l.length (buck l) (buck l (l.length - 1)) := by
        rw [hemp]; exact room_lt (p := l.length - 1) List.nodup_nil (fun p hp => by simp at hp) (by simp) (by omega) rfl
      have hBr : Below w0.heap.size w0 wr := hT.below hB0 hB0.size hr0 hg0
      have hx0 := Blk.cell hbx (k := 0) (by simp)
      have hx1 := Blk.cell hbx (k := 1) (by simp)
      have hx2 := Blk.cell hbx (k := 2) (by simp)
      simp only [List.getElem_cons_zero, List.getElem_cons_succ] at hx0 hx1 hx2
      have C := put_any ad ad' l c c' kinds (l.length - 1) r g l.length K _ (g0 f1) wr (hl.later hBr) (hs.later hBr) (by omega) (hv _) hbk2 hq hroom
      rw [show (((l.length - 1 : Nat)) : Int) = (l.length : Int) - 1 by omega] at C
      have HC : Hid _ := C
      obtain ⟨b, hb⟩ : ∃ b, b = 2 * t := ⟨_, rfl⟩
      have hbK : (K : Int) ≤ (b : Int) := by omega
      rw [← hb]
      clear hb hlt hbk C hemp hroom hsl hq hbk2
      go_wp2_with fail
      refine Calls.mono HC.out ?_
      rintro e w2 ⟨rfl, hbk2, hT2⟩
      have hbx2 := hT2.blk hbx (by omega) (by omega)
      have hT3 := hT.trans hT2
      clear hbx hT hT2 hBr hx0 hx1 hx2 HC
      go_wp2_with fail
      go_loopw [29] (fun i wr => ∃ (m : Nat) (f : Nat → List Nat), m ≤ K ∧ i = .int .i64 m ∧ Bk wr r g l.length K (room l.length (buck l)) f ∧ Blk wr w.heap.size 150 [.slice ad l.length c, .int .i64 kinds, .slice ad' l.length c'] ∧ Touch r g w wr ∧ (m < K → Inv2 l lt f m 0) ∧ (m = K → Fin2 l lt f)) (fun i _ => K - (intOf i).toNat)
      case atStart => exact ⟨0, _, Nat.zero_le _, rfl, hbk2, hbx2, hT3, fun _ => G.start2 hn0 hF1, fun h => by have := hKb 0 hn0; omega⟩
      case round =>
        clear hbk2 hbx2 hT3
        obtain ⟨m, f, hm, rfl, hbk, hbx, hT, hinv, hfin⟩ := hrel
        have hBr : Below w0.heap.size w0 wr := hT.below hB0 hB0.size hr0 hg0
        have hx0 := Blk.cell hbx (k := 0) (by simp)
        have hx1 := Blk.cell hbx (k := 1) (by simp)
        have hx2 := Blk.cell hbx (k := 2) (by simp)
        simp only [List.getElem_cons_zero, List.getElem_cons_succ] at hx0 hx1 hx2
        by_cases hlt : m < K
        · have hiv := hinv hlt
          clear hinv hfin
          go_wp2_with fail
          refine (induceAhead_any ad ad' l c c' kinds m 0 r g K f w0 wr G.pass2 (fun p hp => ⟨fun h => h.2, fun h => ⟨hp, h⟩⟩) hKb hlt hl hs hv hn hBr hr0 hg0 hbk hiv).mono ?_
          rintro e w2 ⟨rfl, f', hbk', hinv', hT'⟩
          have hbx' := hT'.blk hbx (by omega) (by omega)
          have hT3 := hT.trans hT'
          clear hbk hbx hT hT' hx0 hx1 hx2 hBr hiv
          go_wp2
          go_roundw
          case rel =>
            refine ⟨m + 1, f', by omega, by go_num, hbk', hbx', hT3, fun h => hinv'.next (fun c => by omega), fun h => ?_⟩
            exact G.fin2 hinv' (fun p hp => by have := hKb p hp; omega)
          case measure => simp [intOf]; omega
        · have hmK : m = K := by omega
          have hf2 := hfin hmK
          clear hinv hfin
          go_wp2
          go_end0
          exact ⟨rfl, f, hf2, hbk, hT⟩
end Go.Proofs.YtepklbboejnecaaGreat
