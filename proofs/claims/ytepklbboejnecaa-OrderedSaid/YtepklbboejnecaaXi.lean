/- Thirds: which end is ahead. -/
import Derived.Test.YtepklbboejnecaaXn
import Derived.Deep.DeepCutAuto
namespace Go.Proofs.Ytepklbboejnecaa
open Go.RowKit Go.Shelf Sedge
attribute [local go_sem ↓] Go.wp_at_zero Go.wp_at_succ

theorem Blk.set3 {w : World} {g : Nat} {T : TypeId} {a b c : Value} (h : Blk w g T [a, b, c]) (x y z : Value) : Blk (((w.setCell ⟨g, 0, none⟩ x).setCell ⟨g, 1, none⟩ y).setCell ⟨g, 2, none⟩ z) g T [x, y, z] := ((h.set 0 x).set 1 y).set 2 z
theorem Blk.keep3 {w : World} {g j : Nat} {T : TypeId} {vs : List Value} (h : Blk w g T vs) (hj : g ≠ j) (x y z : Value) : Blk (((w.setCell ⟨j, 0, none⟩ x).setCell ⟨j, 1, none⟩ y).setCell ⟨j, 2, none⟩ z) g T vs := ((h.other (a := ⟨j, 0, none⟩) hj x).other (a := ⟨j, 1, none⟩) hj y).other (a := ⟨j, 2, none⟩) hj z
theorem below_set3 {B : Nat} {w W : World} (h : Below B w W) {j : Nat} (hj : B ≤ j) (x y z : Value) : Below B w (((W.setCell ⟨j, 0, none⟩ x).setCell ⟨j, 1, none⟩ y).setCell ⟨j, 2, none⟩ z) := ((h.setCell (p := ⟨j, 0, none⟩) hj x).setCell (p := ⟨j, 1, none⟩) hj y).setCell (p := ⟨j, 2, none⟩) hj z

theorem sl3 {w : World} {g : Nat} {T : TypeId} {a b c : Nat} (h : Blk w g T [.int .i64 a, .int .i64 b, .int .i64 c]) : Sl w (some ⟨g, 0, none⟩) [a, b, c] := by
  obtain ⟨x, y, z⟩ := cells3 h
  intro k hk
  match k, hk with
  | 0, _ => exact ⟨g, 0, rfl, x⟩
  | 1, _ => exact ⟨g, 0, rfl, y⟩
  | 2, _ => exact ⟨g, 0, rfl, z⟩
set_option maxHeartbeats 4000000 in
/-- 'isAhead', by what is read of both. -/
theorem isAhead_of (ad ar : Option Addr) (l r : List Nat) (c cr : Nat) (kinds kr : Int) (o p v : Nat) (w : World) (hl : Sl w ad l) (hr : Sl w ar r) (hn : l.length ≤ 100000) (hp : p < l.length)
    (hv : ((l.length : Int) - (p : Int)) % 3 = 3 - (v : Int)) (x0 x1 x2 y0 y1 y2 : Nat)
    (h1 : ∀ W, Sl W ad l → Sl W ar r → Calls Try.prog 142 #[.agg #[.slice ad l.length c, .int .i64 kinds], .int .i64 o, .int .i64 v, .agg #[.slice ar r.length cr, .int .i64 kr]] W fun e w' => e = .returned (.agg #[.int .i64 (x0 : Int), .int .i64 (x1 : Int), .int .i64 (x2 : Int)]) ∧ Below W.heap.size W w')
    (h2 : ∀ W, Sl W ad l → Sl W ar r → Calls Try.prog 142 #[.agg #[.slice ad l.length c, .int .i64 kinds], .int .i64 p, .int .i64 v, .agg #[.slice ar r.length cr, .int .i64 kr]] W fun e w' => e = .returned (.agg #[.int .i64 (y0 : Int), .int .i64 (y1 : Int), .int .i64 (y2 : Int)]) ∧ Below W.heap.size W w') :
    Calls Try.prog 125 #[.agg #[.slice ad l.length c, .int .i64 kinds], .int .i64 o, .int .i64 p, .agg #[.slice ar r.length cr, .int .i64 kr]] w fun e w' => e = .returned (.bool (decide ([x0, x1, x2] < [y0, y1, y2]))) ∧ Below w.heap.size w w' := by
  have H1 : Hid _ := h1
  have H2 : Hid _ := h2
  have HV : Hid _ := hv
  have HP : Hid (p < l.length) := hp
  clear h1 h2 hv
  have hb0 : Below w.heap.size w ((w.alloc (Obj.cells #[Value.slice ad l.length c, Value.int .i64 kinds] 87)).alloc (Obj.cells #[Value.slice ar r.length cr, Value.int .i64 kr] 87)) := ((Below.refl _ _).alloc (Nat.le_refl _) _).alloc (by simp) _
  have hbx : Blk ((w.alloc (Obj.cells #[Value.slice ad l.length c, Value.int .i64 kinds] 87)).alloc (Obj.cells #[Value.slice ar r.length cr, Value.int .i64 kr] 87)) w.heap.size 87 [.slice ad l.length c, .int .i64 kinds] := Blk.alloc (Blk.new w _ _ rfl) _
  have hby : Blk ((w.alloc (Obj.cells #[Value.slice ad l.length c, Value.int .i64 kinds] 87)).alloc (Obj.cells #[Value.slice ar r.length cr, Value.int .i64 kr] 87)) (w.heap.size + 1) 87 [.slice ar r.length cr, .int .i64 kr] := Blk.new _ _ _ (by simp)
  go_enter Try.func125, Try.ntmps125
  go_wp2_with fail
  refine (class_any ad l.length c kinds (p : Int) _ (by omega) (by omega) hn).mono ?_
  rintro e w2 ⟨rfl, hb2⟩
  have hbx2 := hbx.later hb2
  have hby2 := hby.later hb2
  have hB2 := Below.later hb0 hb2
  have hl2 := hl.later hB2
  have hr2 := hr.later hB2
  have wv : IntKind.i64.wrap (3 - ((l.length : Int) - (p : Int)) % 3) = (v : Int) := by have := HV.out; rw [IntKind.wrap_i64]; omega
  obtain ⟨a0, a1⟩ := cells2 hbx2
  obtain ⟨b0, b1⟩ := cells2 hby2
  clear hbx hby hb0 hb2
  have A1 : Below w2.heap.size w2 w2.drew := (Below.refl _ _).drew
  have HA1 : Hid _ := A1
  clear A1
  go_wp2_with fail
  go_cut [10, 11] (fun x y wx => ∃ bx by' : Nat, x = .pointer (some ⟨bx, 0, none⟩) ∧ y = .pointer (some ⟨by', 0, none⟩) ∧ Blk wx bx 155 [.int .i64 x0, .int .i64 x1, .int .i64 x2] ∧ Blk wx by' 155 [.int .i64 y0, .int .i64 y1, .int .i64 y2] ∧ Below w.heap.size w wx)
  case first =>
    go_region_held3 (fun w' => w'.cell? ⟨w.heap.size, 0, none⟩ = some (.slice ad l.length c) ∧ w'.cell? ⟨w.heap.size, 1, none⟩ = some (.int .i64 kinds) ∧ w'.cell? ⟨w.heap.size + 1, 0, none⟩ = some (.slice ar r.length cr) ∧ w'.cell? ⟨w.heap.size + 1, 1, none⟩ = some (.int .i64 kr)) (go_keep)
      (first
        | (go_at_call_of 142 (Value.int .i64 (o : Int)); refine (H1.out w2.drew (hl2.later HA1.out) (hr2.later HA1.out)).mono ?_; rintro e w3 ⟨rfl, hb3⟩; have hB3 := Below.later HA1.out hb3; obtain ⟨x4, x5⟩ := cells2 (Blk.later hbx2 hB3); obtain ⟨y4, y5⟩ := cells2 (Blk.later hby2 hB3); have q2 := hby2.lt; have q3 := hB3.size; have na0 : ¬ w2.heap.size = w.heap.size := (by omega); have na1 : ¬ w.heap.size = w2.heap.size := (by omega); have na2 : ¬ w2.heap.size = w.heap.size + 1 := (by omega); have na3 : ¬ w.heap.size + 1 = w2.heap.size := (by omega); have na4 : ¬ w2.heap.size + 1 = w.heap.size := (by omega); have na5 : ¬ w.heap.size = w2.heap.size + 1 := (by omega); have na6 : ¬ w2.heap.size + 1 = w.heap.size + 1 := (by omega); have na7 : ¬ w.heap.size + 1 = w2.heap.size + 1 := (by omega); have nb0 : ¬ w3.heap.size = w.heap.size := (by omega); have nb1 : ¬ w.heap.size = w3.heap.size := (by omega); have nb2 : ¬ w3.heap.size = w.heap.size + 1 := (by omega); have nb3 : ¬ w.heap.size + 1 = w3.heap.size := (by omega); have nb4 : ¬ w3.heap.size + 1 = w.heap.size := (by omega); have nb5 : ¬ w.heap.size = w3.heap.size + 1 := (by omega); have nb6 : ¬ w3.heap.size + 1 = w.heap.size + 1 := (by omega); have nb7 : ¬ w.heap.size + 1 = w3.heap.size + 1 := (by omega))
        | (go_at_call_of 142 (Value.int .i64 (o : Int)); refine (H1.out (w2.drew.alloc (Obj.cells #[.int .i64 0, .int .i64 0, .int .i64 0] 155)) (hl2.later (HA1.out.alloc (by simp) _)) (hr2.later (HA1.out.alloc (by simp) _))).mono ?_; rintro e w3 ⟨rfl, hb3⟩; have hB3 := Below.later (HA1.out.alloc (by simp) _) hb3; have zA := Blk.later (Blk.new (n := w2.heap.size) w2.drew [.int .i64 0, .int .i64 0, .int .i64 0] 155 rfl) hb3; obtain ⟨zA0, zA1, zA2⟩ := cells3 zA; have zAf0 := Blk.free zA 0; have zAf1 := Blk.free zA 1; have zAf2 := Blk.free zA 2; have zAl := Blk.lt zA; obtain ⟨x4, x5⟩ := cells2 (Blk.later hbx2 hB3); obtain ⟨y4, y5⟩ := cells2 (Blk.later hby2 hB3); have q2 := hby2.lt; have q3 := hB3.size; have na0 : ¬ w2.heap.size = w.heap.size := (by omega); have na1 : ¬ w.heap.size = w2.heap.size := (by omega); have na2 : ¬ w2.heap.size = w.heap.size + 1 := (by omega); have na3 : ¬ w.heap.size + 1 = w2.heap.size := (by omega); have na4 : ¬ w2.heap.size + 1 = w.heap.size := (by omega); have na5 : ¬ w.heap.size = w2.heap.size + 1 := (by omega); have na6 : ¬ w2.heap.size + 1 = w.heap.size + 1 := (by omega); have na7 : ¬ w.heap.size + 1 = w2.heap.size + 1 := (by omega); have nb0 : ¬ w3.heap.size = w.heap.size := (by omega); have nb1 : ¬ w.heap.size = w3.heap.size := (by omega); have nb2 : ¬ w3.heap.size = w.heap.size + 1 := (by omega); have nb3 : ¬ w.heap.size + 1 = w3.heap.size := (by omega); have nb4 : ¬ w3.heap.size + 1 = w.heap.size := (by omega); have nb5 : ¬ w.heap.size = w3.heap.size + 1 := (by omega); have nb6 : ¬ w3.heap.size + 1 = w.heap.size + 1 := (by omega); have nb7 : ¬ w.heap.size + 1 = w3.heap.size + 1 := (by omega))
        | (go_at_call_of 142 (Value.int .i64 (o : Int)); refine (H1.out ((w2.drew.alloc (Obj.cells #[.int .i64 0, .int .i64 0, .int .i64 0] 155)).alloc (Obj.cells #[.int .i64 0, .int .i64 0, .int .i64 0] 155)) (hl2.later ((HA1.out.alloc (by simp) _).alloc (by simp) _)) (hr2.later ((HA1.out.alloc (by simp) _).alloc (by simp) _))).mono ?_; rintro e w3 ⟨rfl, hb3⟩; have hB3 := Below.later ((HA1.out.alloc (by simp) _).alloc (by simp) _) hb3; have zA := Blk.later (Blk.alloc (Blk.new (n := w2.heap.size) w2.drew [.int .i64 0, .int .i64 0, .int .i64 0] 155 rfl) (Obj.cells #[.int .i64 0, .int .i64 0, .int .i64 0] 155)) hb3; have zB := Blk.later (Blk.new (n := w2.heap.size + 1) (w2.drew.alloc (Obj.cells #[.int .i64 0, .int .i64 0, .int .i64 0] 155)) [.int .i64 0, .int .i64 0, .int .i64 0] 155 (by simp)) hb3; obtain ⟨zA0, zA1, zA2⟩ := cells3 zA; have zAf0 := Blk.free zA 0; have zAf1 := Blk.free zA 1; have zAf2 := Blk.free zA 2; have zAl := Blk.lt zA; obtain ⟨zB0, zB1, zB2⟩ := cells3 zB; have zBf0 := Blk.free zB 0; have zBf1 := Blk.free zB 1; have zBf2 := Blk.free zB 2; have zBl := Blk.lt zB; obtain ⟨x4, x5⟩ := cells2 (Blk.later hbx2 hB3); obtain ⟨y4, y5⟩ := cells2 (Blk.later hby2 hB3); have q2 := hby2.lt; have q3 := hB3.size; have na0 : ¬ w2.heap.size = w.heap.size := (by omega); have na1 : ¬ w.heap.size = w2.heap.size := (by omega); have na2 : ¬ w2.heap.size = w.heap.size + 1 := (by omega); have na3 : ¬ w.heap.size + 1 = w2.heap.size := (by omega); have na4 : ¬ w2.heap.size + 1 = w.heap.size := (by omega); have na5 : ¬ w.heap.size = w2.heap.size + 1 := (by omega); have na6 : ¬ w2.heap.size + 1 = w.heap.size + 1 := (by omega); have na7 : ¬ w.heap.size + 1 = w2.heap.size + 1 := (by omega); have nb0 : ¬ w3.heap.size = w.heap.size := (by omega); have nb1 : ¬ w.heap.size = w3.heap.size := (by omega); have nb2 : ¬ w3.heap.size = w.heap.size + 1 := (by omega); have nb3 : ¬ w.heap.size + 1 = w3.heap.size := (by omega); have nb4 : ¬ w3.heap.size + 1 = w.heap.size := (by omega); have nb5 : ¬ w.heap.size = w3.heap.size + 1 := (by omega); have nb6 : ¬ w3.heap.size + 1 = w.heap.size + 1 := (by omega); have nb7 : ¬ w.heap.size + 1 = w3.heap.size + 1 := (by omega))
        | (go_at_call_of 142 (Value.int .i64 (p : Int)); refine (H2.out w3 (hl2.later hB3) (hr2.later hB3)).mono ?_; rintro e w4 ⟨rfl, hb4⟩; have hB4 := Below.later hB3 hb4; have hL := Below.later (Below.refl w3.heap.size w3) hb4; (try (have yA := Blk.later zA hL; obtain ⟨yA0, yA1, yA2⟩ := cells3 yA; have yAf0 := Blk.free yA 0; have yAf1 := Blk.free yA 1; have yAf2 := Blk.free yA 2; have yAl := Blk.lt yA)); (try (have yB := Blk.later zB hL; obtain ⟨yB0, yB1, yB2⟩ := cells3 yB; have yBf0 := Blk.free yB 0; have yBf1 := Blk.free yB 1; have yBf2 := Blk.free yB 2; have yBl := Blk.lt yB)); obtain ⟨x6, x7⟩ := cells2 (Blk.later hbx2 hB4); obtain ⟨y6, y7⟩ := cells2 (Blk.later hby2 hB4); have q4 := hL.size; (try (have m1 : ¬ w2.heap.size = w3.heap.size := (by omega); have m2 : ¬ w3.heap.size = w2.heap.size := (by omega); have m3 : ¬ w2.heap.size = w3.heap.size + 1 := (by omega); have m4 : ¬ w3.heap.size + 1 = w2.heap.size := (by omega))); (try (have m5 : ¬ w2.heap.size = w4.heap.size := (by omega); have m6 : ¬ w4.heap.size = w2.heap.size := (by omega))); (try (have m7 : ¬ w3.heap.size = w4.heap.size := (by omega); have m8 : ¬ w4.heap.size = w3.heap.size := (by omega))); (try (have m9 : ¬ w3.heap.size + 1 = w4.heap.size := (by omega); have m10 : ¬ w4.heap.size = w3.heap.size + 1 := (by omega))))
        | (go_at_call_of 142 (Value.int .i64 (p : Int)); refine (H2.out (w3.alloc (Obj.cells #[.int .i64 0, .int .i64 0, .int .i64 0] 155)) (hl2.later (hB3.alloc hB3.size _)) (hr2.later (hB3.alloc hB3.size _))).mono ?_; rintro e w4 ⟨rfl, hb4⟩; have hB4 := Below.later (hB3.alloc hB3.size _) hb4; have zC := Blk.later (Blk.new (n := w3.heap.size) w3 [.int .i64 0, .int .i64 0, .int .i64 0] 155 rfl) hb4; obtain ⟨zC0, zC1, zC2⟩ := cells3 zC; have zCf0 := Blk.free zC 0; have zCf1 := Blk.free zC 1; have zCf2 := Blk.free zC 2; have zCl := Blk.lt zC; have hL := Below.later ((Below.refl w3.heap.size w3).alloc (by simp) _) hb4; (try (have yA := Blk.later zA hL; obtain ⟨yA0, yA1, yA2⟩ := cells3 yA; have yAf0 := Blk.free yA 0; have yAf1 := Blk.free yA 1; have yAf2 := Blk.free yA 2; have yAl := Blk.lt yA)); (try (have yB := Blk.later zB hL; obtain ⟨yB0, yB1, yB2⟩ := cells3 yB; have yBf0 := Blk.free yB 0; have yBf1 := Blk.free yB 1; have yBf2 := Blk.free yB 2; have yBl := Blk.lt yB)); obtain ⟨x6, x7⟩ := cells2 (Blk.later hbx2 hB4); obtain ⟨y6, y7⟩ := cells2 (Blk.later hby2 hB4); have q4 := hL.size; (try (have m1 : ¬ w2.heap.size = w3.heap.size := (by omega); have m2 : ¬ w3.heap.size = w2.heap.size := (by omega); have m3 : ¬ w2.heap.size = w3.heap.size + 1 := (by omega); have m4 : ¬ w3.heap.size + 1 = w2.heap.size := (by omega))); (try (have m5 : ¬ w2.heap.size = w4.heap.size := (by omega); have m6 : ¬ w4.heap.size = w2.heap.size := (by omega))); (try (have m7 : ¬ w3.heap.size = w4.heap.size := (by omega); have m8 : ¬ w4.heap.size = w3.heap.size := (by omega))); (try (have m9 : ¬ w3.heap.size + 1 = w4.heap.size := (by omega); have m10 : ¬ w4.heap.size = w3.heap.size + 1 := (by omega))))
        | (go_at_call_of 142 (Value.int .i64 (p : Int)); refine (H2.out ((w3.alloc (Obj.cells #[.int .i64 0, .int .i64 0, .int .i64 0] 155)).alloc (Obj.cells #[.int .i64 0, .int .i64 0, .int .i64 0] 155)) (hl2.later ((hB3.alloc hB3.size _).alloc (by simp; have := hB3.size; omega) _)) (hr2.later ((hB3.alloc hB3.size _).alloc (by simp; have := hB3.size; omega) _))).mono ?_; rintro e w4 ⟨rfl, hb4⟩; have hB4 := Below.later ((hB3.alloc hB3.size _).alloc (by simp; have := hB3.size; omega) _) hb4; have zC := Blk.later (Blk.alloc (Blk.new (n := w3.heap.size) w3 [.int .i64 0, .int .i64 0, .int .i64 0] 155 rfl) (Obj.cells #[.int .i64 0, .int .i64 0, .int .i64 0] 155)) hb4; have zD := Blk.later (Blk.new (n := w3.heap.size + 1) (w3.alloc (Obj.cells #[.int .i64 0, .int .i64 0, .int .i64 0] 155)) [.int .i64 0, .int .i64 0, .int .i64 0] 155 (by simp)) hb4; obtain ⟨zC0, zC1, zC2⟩ := cells3 zC; have zCf0 := Blk.free zC 0; have zCf1 := Blk.free zC 1; have zCf2 := Blk.free zC 2; have zCl := Blk.lt zC; obtain ⟨zD0, zD1, zD2⟩ := cells3 zD; have zDf0 := Blk.free zD 0; have zDf1 := Blk.free zD 1; have zDf2 := Blk.free zD 2; have zDl := Blk.lt zD; have hL := Below.later (((Below.refl w3.heap.size w3).alloc (by simp) _).alloc (by simp) _) hb4; (try (have yA := Blk.later zA hL; obtain ⟨yA0, yA1, yA2⟩ := cells3 yA; have yAf0 := Blk.free yA 0; have yAf1 := Blk.free yA 1; have yAf2 := Blk.free yA 2; have yAl := Blk.lt yA)); (try (have yB := Blk.later zB hL; obtain ⟨yB0, yB1, yB2⟩ := cells3 yB; have yBf0 := Blk.free yB 0; have yBf1 := Blk.free yB 1; have yBf2 := Blk.free yB 2; have yBl := Blk.lt yB)); obtain ⟨x6, x7⟩ := cells2 (Blk.later hbx2 hB4); obtain ⟨y6, y7⟩ := cells2 (Blk.later hby2 hB4); have q4 := hL.size; (try (have m1 : ¬ w2.heap.size = w3.heap.size := (by omega); have m2 : ¬ w3.heap.size = w2.heap.size := (by omega); have m3 : ¬ w2.heap.size = w3.heap.size + 1 := (by omega); have m4 : ¬ w3.heap.size + 1 = w2.heap.size := (by omega))); (try (have m5 : ¬ w2.heap.size = w4.heap.size := (by omega); have m6 : ¬ w4.heap.size = w2.heap.size := (by omega))); (try (have m7 : ¬ w3.heap.size = w4.heap.size := (by omega); have m8 : ¬ w4.heap.size = w3.heap.size := (by omega))); (try (have m9 : ¬ w3.heap.size + 1 = w4.heap.size := (by omega); have m10 : ¬ w4.heap.size = w3.heap.size + 1 := (by omega)))))
    all_goals (go_wp2_with fail)
    all_goals go_meet
    all_goals (have hBw := Below.later hB2 hB4; have hsw := hBw.size)
    · with_reducible exact ⟨_, _, rfl, rfl, Blk.alloc (Blk.new (n := w4.heap.size) w4 _ _ rfl) _, Blk.new _ _ _ (by simp), (hBw.alloc hBw.size _).alloc (by simp; omega) _⟩
    · with_reducible exact ⟨_, _, rfl, rfl, Blk.new _ _ _ (by simp), Blk.alloc (Blk.new (n := w4.heap.size) w4 _ _ rfl) _, (hBw.alloc hBw.size _).alloc (by simp; omega) _⟩
    · with_reducible exact ⟨_, _, rfl, rfl, Blk.alloc (Blk.set3 zC _ _ _) _, Blk.new _ _ _ (by simp), (below_set3 hBw (by omega) _ _ _).alloc (by simp; omega) _⟩
    · with_reducible exact ⟨_, _, rfl, rfl, Blk.keep3 (Blk.set3 zC _ _ _) (by omega) _ _ _, Blk.set3 (Blk.keep3 zD (by omega) _ _ _) _ _ _, below_set3 (below_set3 hBw (by omega) _ _ _) (by omega) _ _ _⟩
    · with_reducible exact ⟨_, _, rfl, rfl, Blk.new _ _ _ (by simp), Blk.alloc (Blk.set3 zC _ _ _) _, (below_set3 hBw (by omega) _ _ _).alloc (by simp; omega) _⟩
    · with_reducible exact ⟨_, _, rfl, rfl, Blk.keep3 (Blk.set3 zD _ _ _) (by omega) _ _ _, Blk.set3 (Blk.keep3 zC (by omega) _ _ _) _ _ _, below_set3 (below_set3 hBw (by omega) _ _ _) (by omega) _ _ _⟩
    · with_reducible exact ⟨_, _, rfl, rfl, Blk.alloc (Blk.set3 yA _ _ _) _, Blk.new _ _ _ (by simp), (below_set3 hBw (by omega) _ _ _).alloc (by simp; omega) _⟩
    · with_reducible exact ⟨_, _, rfl, rfl, Blk.keep3 (Blk.set3 yA _ _ _) (by omega) _ _ _, Blk.set3 (Blk.keep3 zC (by omega) _ _ _) _ _ _, below_set3 (below_set3 hBw (by omega) _ _ _) (by omega) _ _ _⟩
    · with_reducible exact ⟨_, _, rfl, rfl, Blk.keep3 (Blk.set3 yA _ _ _) (by omega) _ _ _, Blk.set3 (Blk.keep3 yB (by omega) _ _ _) _ _ _, below_set3 (below_set3 hBw (by omega) _ _ _) (by omega) _ _ _⟩
    · with_reducible exact ⟨_, _, rfl, rfl, Blk.new _ _ _ (by simp), Blk.alloc (Blk.set3 yA _ _ _) _, (below_set3 hBw (by omega) _ _ _).alloc (by simp; omega) _⟩
    · with_reducible exact ⟨_, _, rfl, rfl, Blk.keep3 (Blk.set3 zC _ _ _) (by omega) _ _ _, Blk.set3 (Blk.keep3 yA (by omega) _ _ _) _ _ _, below_set3 (below_set3 hBw (by omega) _ _ _) (by omega) _ _ _⟩
    · with_reducible exact ⟨_, _, rfl, rfl, Blk.keep3 (Blk.set3 yB _ _ _) (by omega) _ _ _, Blk.set3 (Blk.keep3 yA (by omega) _ _ _) _ _ _, below_set3 (below_set3 hBw (by omega) _ _ _) (by omega) _ _ _⟩
  case rest =>
  obtain ⟨bx, by', rfl, rfl, hx, hy, hB⟩ := hcut
  have CC := compares_any (some ⟨bx, 0, none⟩) (some ⟨by', 0, none⟩) [x0, x1, x2] [y0, y1, y2] 3 3
  have A5 : Below wc.heap.size wc wc.drew := (Below.refl _ _).drew
  have HA5 : Hid _ := A5
  clear A5
  have HC : Hid _ := CC
  obtain ⟨X0, X1, X2⟩ := cells3 hx
  obtain ⟨Y0, Y1, Y2⟩ := cells3 hy
  clear CC
  go_wp2_with fail
  go_region_held3 (fun w' => w'.cell? ⟨bx, 0, none⟩ = some (.int .i64 (x0 : Int)) ∧ w'.cell? ⟨by', 0, none⟩ = some (.int .i64 (y0 : Int))) (go_keep)
    (first
      | (go_at_call 143; refine (HC.out _ (sl3 (hx.later HA5.out)) (sl3 (hy.later HA5.out)) rfl (by simp)).mono ?_; rintro e w6 ⟨rr, rfl, hrr, rfl⟩))
  go_wp2
  go_ret
  exact ⟨rfl, hB.drew⟩

/-- 'isAhead'. -/
theorem isAhead_any (ad ar : Option Addr) (l r : List Nat) (c cr : Nat) (kinds kr : Int) (o p : Nat) (w : World) (hl : Sl w ad l) (hr : Sl w ar r) (hn : l.length ≤ 100000) (hv : ∀ p, num l p ≤ 1000000) (hvr : ∀ p, num r p ≤ 1000000) (R : RankOf l r)
    (ho : o < l.length) (ho' : (l.length - o) % 3 = 0) (hp : p < l.length) (hp' : (l.length - p) % 3 ≠ 0) :
    Calls Try.prog 125 #[.agg #[.slice ad l.length c, .int .i64 kinds], .int .i64 o, .int .i64 p, .agg #[.slice ar r.length cr, .int .i64 kr]] w fun e w' => ∃ b : Bool, e = .returned (.bool b) ∧ (b = true ↔ suf l o p) ∧ Below w.heap.size w w' := by
  by_cases c2 : (l.length - p) % 3 = 2
  · refine (isAhead_of ad ar l r c cr kinds kr o p 1 w hl hr hn hp (by omega) (rk l o) (rk r (o + 1)) 0 (rk l p) (rk r (p + 1)) 0 (fun W h1 h2 => readUpTo_one ad ar l r c cr kinds kr o W h1 h2 hv hvr (by omega)) (fun W h1 h2 => readUpTo_one ad ar l r c cr kinds kr p W h1 h2 hv hvr (by omega))).mono ?_
    rintro e w' ⟨rfl, hb⟩
    exact ⟨_, rfl, by rw [decide_eq_true_eq]; exact ahead1 R ho ho' hp c2, hb⟩
  · refine (isAhead_of ad ar l r c cr kinds kr o p 2 w hl hr hn hp (by omega) (rk l o) (rk l (o + 1)) (rk r (o + 2)) (rk l p) (rk l (p + 1)) (rk r (p + 2)) (fun W h1 h2 => readUpTo_two ad ar l r c cr kinds kr o W h1 h2 hv hvr (by omega)) (fun W h1 h2 => readUpTo_two ad ar l r c cr kinds kr p W h1 h2 hv hvr (by omega))).mono ?_
    rintro e w' ⟨rfl, hb⟩
    exact ⟨_, rfl, by rw [decide_eq_true_eq]; exact ahead2 R ho ho' hp (by omega), hb⟩
end Go.Proofs.Ytepklbboejnecaa
