/- Inducing: all places sorted by what is known of the starts. -/
import Derived.Test.YtepklbboejnecaaGreatWn
namespace Go.Proofs.YtepklbboejnecaaGreat
open Go.RowKit Go.Shelf Sedge
attribute [local go_sem ↓] Go.wp_at_zero Go.wp_at_succ

/-- 's.bucket' as a value. -/
theorem tells_bucket (ad ad' : Option Addr) (l : List Nat) (c c' : Nat) (kinds : Int) (hv : ∀ p, num l p ≤ 1000000) :
    Tells 112 #[slv ad ad' l.length c c' kinds] #[] (fun W => Sl W ad l ∧ Sl W ad' (slopes l)) (buck l) l.length where
  enter := enters_of Tryz.func112 (by kernel_rfl) rfl
  keep w w' h hb := ⟨h.1.later hb, h.2.later hb⟩
  run p w h hp := bucket_any ad ad' l c c' kinds p w h.1 h.2 hp (hv p)

/-- 'sizes' of all places. -/
theorem sizes_range (ad ad' : Option Addr) (l : List Nat) (c c' g kd : Nat) (kinds : Int) (w : World) (hl : Sl w ad l) (hs : Sl w ad' (slopes l)) (ho : Row w g (List.range l.length)) (hv : ∀ p, num l p ≤ 1000000) (hn : l.length ≤ 1000000) (hkd : ∀ p, p < l.length → buck l p < kd * 2) (hK : kd * 2 ≤ 1000000) :
    Calls Tryz.prog 106 #[.slice (some ⟨g, 0, none⟩) l.length l.length, .int .i64 ((kd : Int) * 2), .func (.func 112) #[slv ad ad' l.length c c' kinds] #[]] w fun e w' =>
      ∃ g', e = .returned (.slice (some ⟨g', 0, none⟩) (kd * 2) (kd * 2)) ∧ w.heap.size ≤ g' ∧ Row w' g' (tab (kd * 2) (room l.length (buck l))) ∧ Below w.heap.size w w' := by
  have h := sizes_any 112 #[slv ad ad' l.length c c' kinds] #[] _ _ _ (tells_bucket ad ad' l c c' kinds hv) (some ⟨g, 0, none⟩) (List.range l.length) l.length (kd * 2) w (Row.sl ho) (fun k hk => by rw [num_eq hk]; simpa using hk) hkd ⟨hl, hs⟩ (by rw [List.length_range]; exact hn) hK
  rw [List.length_range, show (((kd * 2 : Nat)) : Int) = (kd : Int) * 2 by omega] at h
  exact h

set_option maxHeartbeats 2000000 in
/-- 'induced'. -/
theorem induced_any {lt1 lt : Nat → Nat → Prop} (ad ad' ad2 : Option Addr) (l S : List Nat) (c c' c2 kd : Nat) (w : World)
    (G : Sedge.Good l S lt1 lt) (hkd : ∀ p, p < l.length → num l p < kd) (hkm : kd ≤ 500000)
    (hl : Sl w ad l) (hs : Sl w ad' (slopes l)) (hS : Sl w ad2 S) (hv : ∀ p, num l p ≤ 1000000) (hn : l.length ≤ 1000000) (hn0 : 0 < l.length) (hSn : S.length ≤ 1000000) :
    Calls Tryz.prog 86 #[slv ad ad' l.length c c' (kd : Int), .slice ad2 S.length c2] w fun e w' =>
      ∃ r o, e = .returned (.slice (some ⟨r, 0, none⟩) l.length l.length) ∧ w.heap.size ≤ r ∧ Row w' r o ∧ o.length = l.length ∧ o.Pairwise lt ∧ (∀ p, p ∈ o ↔ p < l.length) ∧ Below w.heap.size w w' := by
  have hKb : ∀ p, p < l.length → buck l p < kd * 2 := fun p hp => by have := hkd p hp; have := slope_le l p; unfold buck; omega
  have hK0 : 0 < kd * 2 := by have := hKb 0 hn0; omega
  have htot : ps (room l.length (buck l)) (kd * 2) = l.length := by
    have := ps_cnt (β := buck l) (l := List.range l.length) (K := kd * 2) (fun p hp => hKb p (List.mem_range.1 hp))
    rw [List.length_range] at this; exact this
  have hmf : ∀ (fn : Fn) (first cap : Array Value) (w : World), (Instr.makeFunc fn first cap).run Tryz.prog w = .ok (.func fn first cap) w := fun _ _ _ _ => rfl
  have hb0 : Below w.heap.size w (w.alloc (Obj.cells #[Value.slice ad l.length c, Value.int .i64 (kd : Int), Value.slice ad' l.length c'] 150)) := (Below.refl _ _).alloc (Nat.le_refl _) _
  have hbox : Blk (w.alloc (Obj.cells #[Value.slice ad l.length c, Value.int .i64 (kd : Int), Value.slice ad' l.length c'] 150)) w.heap.size 150 [.slice ad l.length c, .int .i64 (kd : Int), .slice ad' l.length c'] := Blk.new w _ _ rfl
  have hcells : ∀ W, Blk W w.heap.size 150 [.slice ad l.length c, .int .i64 (kd : Int), .slice ad' l.length c'] → W.cell? ⟨w.heap.size, 0, none⟩ = some (.slice ad l.length c) ∧ W.cell? ⟨w.heap.size, 1, none⟩ = some (.int .i64 (kd : Int)) ∧ W.cell? ⟨w.heap.size, 2, none⟩ = some (.slice ad' l.length c') := fun W h => by
    refine ⟨?_, ?_, ?_⟩
    · have := Blk.cell h (k := 0) (by simp); simpa using this
    · have := Blk.cell h (k := 1) (by simp); simpa using this
    · have := Blk.cell h (k := 2) (by simp); simpa using this
  have HC : Hid _ := hcells
  clear hcells
  unfold slv
  go_enter Tryz.func86, Tryz.ntmps86
  go_wp2_with (first | (at_make; refine wpList_make_row _ rfl _ _ rfl _ _ l.length rfl rfl rfl rfl hn ?_; intro w1 hrow hsz hbel; have hbx := Blk.later hbox hbel; obtain ⟨hx0, hx1, hx2⟩ := HC.out w1 hbx) | fail)
  have hB1 : Below w.heap.size w w1 := Below.later hb0 hbel
  have hlt1 := hbx.lt
  have hwk : IntKind.i64.wrap ((kd : Int) * 2) = (kd : Int) * 2 := by rw [IntKind.wrap_i64]; omega
  rw [show (w.alloc (Obj.cells #[Value.slice ad l.length c, Value.int .i64 (kd : Int), Value.slice ad' l.length c'] 150)).heap.size = w.heap.size + 1 by simp] at hrow hbel hsz
  clear hbox hb0 hbel
  go_region_held3 (fun w' => w'.cell? ⟨w.heap.size, 0, none⟩ = some (.slice ad l.length c) ∧ w'.cell? ⟨w.heap.size, 1, none⟩ = some (.int .i64 (kd : Int)) ∧ w'.cell? ⟨w.heap.size, 2, none⟩ = some (.slice ad' l.length c')) (go_keep)
    (first
      | (go_at_call 77; refine (upTo_any l.length _ hn).mono ?_; rintro e w2 ⟨g2, rfl, hg2, hr2, hb2⟩; have hbx2 := Blk.later (Blk.drew hbx) hb2; obtain ⟨hy0, hy1, hy2⟩ := HC.out w2 hbx2; have hB2 := Below.later hB1.drew hb2)
      | (go_at_call 106; refine (sizes_range ad ad' l c c' g2 kd (kd : Int) w2 (hl.later hB2) (hs.later hB2) hr2 hv hn hKb (by omega)).mono ?_; rintro e w3 ⟨g3, rfl, hg3, hr3, hb3⟩; have hbx3 := Blk.later hbx2 hb3; obtain ⟨hz0, hz1, hz2⟩ := HC.out w3 hbx3; have hB3 := Below.later hB2 hb3)
      | (go_at_call 105; refine (cut_any (w.heap.size + 1) l.length (some ⟨g3, 0, none⟩) (room l.length (buck l)) (kd * 2) (kd * 2) w3 (Row.sl hr3) (by omega) hn (by omega)).mono ?_; rintro e w4 ⟨g4, rfl, hg4, hr4, hb4⟩; have hbx4 := Blk.later hbx3 hb4; obtain ⟨hu0, hu1, hu2⟩ := HC.out w4 hbx4; have hB4 := Below.later hB3 hb4))
  all_goals
    have hbk : Bk w4 (w.heap.size + 1) g4 l.length (kd * 2) (room l.length (buck l)) (fun _ => []) := by
      refine ⟨hr4, ⟨tab l.length fun _ => 0, tab_length _ _, Blk.later (Blk.later (Blk.later (Blk.drew hrow) hb2) hb3) hb4, fun c _ i hi => by simp at hi⟩, fun c _ => by simp, htot, ?_⟩
      have := hb2.size; have := hb3.size; have : w1.drew.heap.size = w1.heap.size := rfl; omega
    have hg4' : w.heap.size < g4 := by have := hbx3.lt; omega
    clear hx0 hx1 hx2 hy0 hy1 hy2 hz0 hz1 hz2 hbx hbx2 hbx3 hrow hr2 hr3 hr4 hb2 hb3 hb4 hB1 hB2 hB3 hg2 hg3 hg4 hmf hwk hsz hlt1
    go_wp2_with fail
    have CR := callsIn_wide.1 (induceRising_in ad ad' ad2 l S c c' c2 (kd : Int) (w.heap.size + 1) g4 (kd * 2) w w4 G hKb hK0 (by omega) hl hs hS hv hn hSn hB4 (by omega) (by omega) hbk)
    refine Calls.mono CR ?_
    clear CR
    rintro e w5 ⟨rfl, f1, hF1, hbk5, hT5⟩
    have hbx5 := hT5.blk hbx4 (by omega) (by omega)
    obtain ⟨hv0, hv1, hv2⟩ := HC.out w5 hbx5
    have hB5 : Below w.heap.size w w5 := hT5.below hB4 hB4.size (by omega) (by omega)
    clear hu0 hu1 hu2 hbx4 hbk hT5 hB4
    go_wp2_with fail
    refine (induceFalling_any ad ad' l S c c' (kd : Int) (w.heap.size + 1) g4 (kd * 2) w w5 f1 G hKb (by omega) hl hs hv hn hn0 hB5 (by omega) (by omega) hF1 hbk5).mono ?_
    rintro e w6 ⟨rfl, f2, hF2, hbk6, hT6⟩
    have hB6 : Below w.heap.size w w6 := hT6.below hB5 hB5.size (by omega) (by omega)
    have hfull := hbk6.full (fun c _ => hF2.room G.irr c)
    have hflat := G.flat hF2 hKb
    clear hv0 hv1 hv2 hbx5 hbk5 hT6 hB5 hbk6
    go_wp2
    go_ret
    exact ⟨_, _, rfl, by omega, hfull.1, hfull.2, hflat.1, hflat.2, hB6⟩
end Go.Proofs.YtepklbboejnecaaGreat
