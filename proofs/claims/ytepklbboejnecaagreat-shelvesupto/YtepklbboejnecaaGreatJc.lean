/- Shelves: a text more, a text less. -/
import Derived.Test.YtepklbboejnecaaGreatJb
import Derived.Test.YtepklbboejnecaaGreatY
import Derived.Deep.Cut
namespace Go.Proofs.YtepklbboejnecaaGreat
open Go.RowKit Go.Shelf Sedge
attribute [local go_sem ↓] Go.wp_at_zero Go.wp_at_succ

/-- How a list of one's own lies. -/
def CapE (ad : Option Addr) (n c : Nat) : Prop := (ad = none ∧ n = 0 ∧ c = 0) ∨ ∃ b, ad = some ⟨b, 0, none⟩ ∧ n ≤ c ∧ c ≤ maxLen
theorem capE_own {w : World} {base n c : Nat} {ad : Option Addr} {e : TypeId} {k : Nat} {xs : List Value} (h : w.ownsRow base e k (.slice ad n c) n xs) : CapE ad n c := by
  rcases h.2 with ⟨h1, h2⟩ | ⟨g, cap, cur, h1, _, _, h4, h5, _⟩
  · simp only [Value.slice.injEq] at h1
    exact .inl ⟨h1.1, h2, h1.2.2⟩
  · simp only [Value.slice.injEq, true_and] at h1
    exact .inr ⟨g, h1.1, by rw [h1.2]; exact h4, by rw [h1.2]; exact h5⟩
/-- A list of texts, of a type of elements: a row of its own. -/
structure EL (ET : TypeId) (w : World) (ad : Option Addr) (c : Nat) (bs : List Vol) : Prop where
  own' : w.ownsRow 0 ET 2 (.slice ad bs.length c) bs.length (EV bs)
theorem EL.es {ET : TypeId} {w : World} {ad : Option Addr} {c : Nat} {l : List Vol} (h : EL ET w ad c l) : ES w ad l := by
  obtain ⟨ad', c', e, he⟩ := ES.own h.own'
  simp only [Value.slice.injEq, true_and] at e
  rw [e.1]; exact he
theorem EL.cap {ET : TypeId} {w : World} {ad : Option Addr} {c : Nat} {l : List Vol} (h : EL ET w ad c l) : CapE ad l.length c := capE_own h.own'
theorem EL.later {ET : TypeId} {w w' : World} {ad : Option Addr} {c : Nat} {l : List Vol} (h : EL ET w ad c l) (hb : Below w.heap.size w w') : EL ET w' ad c l := ⟨own_fr h.own' (Fr.of_below hb) (fun _ _ _ h => by cases h)⟩
theorem EL.own {w : World} {base : Nat} {e : TypeId} {v : Value} {l : List Vol} (h : w.ownsRow base e 2 v l.length (EV l)) : ∃ ad c, v = .slice ad l.length c ∧ EL e w ad c l := by
  obtain ⟨ad, c, rfl, he⟩ := ES.own h
  refine ⟨ad, c, rfl, ⟨h.1, ?_⟩⟩
  rcases h.2 with h' | ⟨g', cap, cur, h1, h2, h3⟩
  · exact .inl h'
  · exact .inr ⟨g', cap, cur, h1, Nat.zero_le _, h3⟩
theorem ES.take {w : World} {ad : Option Addr} {l : List Vol} (h : ES w ad l) (k : Nat) : ES w ad (l.take k) := fun i hi => by
  rw [List.length_take] at hi
  have := h i (by omega)
  rwa [List.getElem_take]
theorem ES.drop {w : World} {b o : Nat} {l : List Vol} (h : ES w (some ⟨b, o, none⟩) l) (k : Nat) : ES w (some ⟨b, o + k * 2, none⟩) (l.drop k) := fun i hi => by
  rw [List.length_drop] at hi
  obtain ⟨b', o', e, c0, c1⟩ := h (k + i) (by omega)
  simp only [Option.some.injEq, Addr.mk.injEq, and_true] at e
  obtain ⟨rfl, rfl⟩ := e
  rw [List.getElem_drop]
  refine ⟨b, o + k * 2, rfl, ?_, ?_⟩
  · rw [← c0]; congr 2; omega
  · rw [← c1]; congr 2; omega
theorem ES.one {w : World} {g : Nat} {T : TypeId} {p : Vol} (h : Blk w g T [.int .i64 (p.1 : Nat), .string p.2]) : ES w (some ⟨g, 0, none⟩) [p] := fun i hi => by
  have e : i = 0 := by simp at hi; exact hi
  subst e
  exact ⟨g, 0, rfl, h.cell (k := 0) (by simp), h.cell (k := 1) (by simp)⟩

/-- A store into another block. -/
theorem own_set {w : World} {base g k : Nat} {e : TypeId} {s n : Nat} {v u : Value} {xs : List Value} (h : w.ownsRow base e s v n xs) (hg : g < base) : (w.setCell ⟨g, k, none⟩ u).ownsRow base e s v n xs := by
  refine ⟨h.1, ?_⟩
  rcases h.2 with h' | ⟨g', cap, cur, h1, h2, h3, h4⟩
  · exact .inl h'
  · exact .inr ⟨g', cap, cur, h1, h2, by rw [← h3]; exact heap_setCell_other w _ g' u (by simp; omega), h4⟩
theorem own_dnJ {w : World} {base base' n k : Nat} {e : TypeId} {v : Value} {xs : List Value} (h : w.ownsRow base e k v n xs) (hb : base' ≤ base) : w.ownsRow base' e k v n xs := by
  refine ⟨h.1, ?_⟩
  rcases h.2 with h' | ⟨g', cap, cur, h1, h2, h3⟩
  · exact .inl h'
  · exact .inr ⟨g', cap, cur, h1, by omega, h3⟩
/-- Where the end of a list begins. -/
def endA (b c l : Nat) : Option Addr := if c = l then some ⟨b, 0, none⟩ else some ⟨b, l * 2, none⟩
theorem endA_ne (b c l : Nat) : endA b c l ≠ none := by unfold endA; split <;> simp
theorem ES.end {w : World} {b c : Nat} {bs : List Vol} (h : ES w (some ⟨b, 0, none⟩) bs) (hc : bs.length ≤ c) (l : Nat) : ES w (endA b c l) (bs.drop l) := by
  unfold endA
  split
  · rw [List.drop_of_length_le (by omega)]; exact fun k hk => by simp at hk
  · have := h.drop l; rwa [Nat.zero_add] at this
/-- What 'With' puts together, in memory. -/
theorem with_pse {w2 : World} {b c l : Nat} {bs : List Vol} {p : Vol} {T1 T2 : TypeId} (h : ES w2 (some ⟨b, 0, none⟩) bs) (hc : bs.length ≤ c) (hl : l ≤ bs.length) :
    PSE ((w2.alloc (Obj.cells #[.int .i64 (p.1 : Nat), .string p.2] T1)).alloc (Obj.cells #[.slice (some ⟨b, 0, none⟩) l c, .slice (some ⟨w2.heap.size, 0, none⟩) 1 1, .slice (endA b c l) (bs.length - l) (c - l)] T2)).drew (w2.heap.size + 1) [(some ⟨b, 0, none⟩, c, bs.take l), (some ⟨w2.heap.size, 0, none⟩, 1, [p]), (endA b c l, c - l, bs.drop l)] := by
  have hbl : Below w2.heap.size w2 ((w2.alloc (Obj.cells #[.int .i64 (p.1 : Nat), .string p.2] T1)).alloc (Obj.cells #[.slice (some ⟨b, 0, none⟩) l c, .slice (some ⟨w2.heap.size, 0, none⟩) 1 1, .slice (endA b c l) (bs.length - l) (c - l)] T2)).drew := (((Below.refl _ _).alloc (Nat.le_refl _) _).alloc (by simp) _).drew
  have hx : Blk ((w2.alloc (Obj.cells #[.int .i64 (p.1 : Nat), .string p.2] T1)).alloc (Obj.cells #[.slice (some ⟨b, 0, none⟩) l c, .slice (some ⟨w2.heap.size, 0, none⟩) 1 1, .slice (endA b c l) (bs.length - l) (c - l)] T2)).drew (w2.heap.size + 1) T2 [.slice (some ⟨b, 0, none⟩) l c, .slice (some ⟨w2.heap.size, 0, none⟩) 1 1, .slice (endA b c l) (bs.length - l) (c - l)] := Blk.drew (Blk.new _ _ _ (by simp))
  have ho : Blk ((w2.alloc (Obj.cells #[.int .i64 (p.1 : Nat), .string p.2] T1)).alloc (Obj.cells #[.slice (some ⟨b, 0, none⟩) l c, .slice (some ⟨w2.heap.size, 0, none⟩) 1 1, .slice (endA b c l) (bs.length - l) (c - l)] T2)).drew w2.heap.size T1 [.int .i64 (p.1 : Nat), .string p.2] := Blk.drew (Blk.alloc (Blk.new w2 _ _ rfl) _)
  refine ⟨fun k hk => ?_, fun k hk => ?_, fun k hk => ?_⟩
  · match k, hk with
    | 0, _ => rw [hx.cell (k := 0) (by simp)]; simp [Nat.min_eq_left hl]
    | 1, _ => rw [hx.cell (k := 1) (by simp)]; simp
    | 2, _ => rw [hx.cell (k := 2) (by simp)]; simp
  · match k, hk with
    | 0, _ => exact (h.later hbl).take l
    | 1, _ => exact ES.one ho
    | 2, _ => exact (h.later hbl).end hc l
  · match k, hk with
    | 0, _ => intro e; cases e
    | 1, _ => intro e; cases e
    | 2, _ => intro e; exact absurd e (endA_ne b c l)
theorem with_cat (a1 a2 a3 : Option Addr) (c1 c2 c3 : Nat) (bs : List Vol) (id : Nat) (t : ByteArray) (l : Nat) (hl : l = lb bs (id : Int)) : cat [(a1, c1, bs.take l), (a2, c2, [(id, t)]), (a3, c3, bs.drop l)] = ins bs id t := by
  subst hl
  simp [cat, ins]
/-- The same of no texts. -/
theorem with_pse0 {w2 : World} {p : Vol} {T1 T2 : TypeId} :
    PSE ((w2.alloc (Obj.cells #[.int .i64 (p.1 : Nat), .string p.2] T1)).alloc (Obj.cells #[.slice none 0 0, .slice (some ⟨w2.heap.size, 0, none⟩) 1 1, .slice none 0 0] T2)).drew (w2.heap.size + 1) [(none, 0, []), (some ⟨w2.heap.size, 0, none⟩, 1, [p]), (none, 0, [])] := by
  have hx : Blk ((w2.alloc (Obj.cells #[.int .i64 (p.1 : Nat), .string p.2] T1)).alloc (Obj.cells #[.slice none 0 0, .slice (some ⟨w2.heap.size, 0, none⟩) 1 1, .slice none 0 0] T2)).drew (w2.heap.size + 1) T2 [.slice none 0 0, .slice (some ⟨w2.heap.size, 0, none⟩) 1 1, .slice none 0 0] := Blk.drew (Blk.new _ _ _ (by simp))
  have ho : Blk ((w2.alloc (Obj.cells #[.int .i64 (p.1 : Nat), .string p.2] T1)).alloc (Obj.cells #[.slice none 0 0, .slice (some ⟨w2.heap.size, 0, none⟩) 1 1, .slice none 0 0] T2)).drew w2.heap.size T1 [.int .i64 (p.1 : Nat), .string p.2] := Blk.drew (Blk.alloc (Blk.new w2 _ _ rfl) _)
  refine ⟨fun k hk => ?_, fun k hk => ?_, fun k hk => ?_⟩
  · match k, hk with
    | 0, _ => rw [hx.cell (k := 0) (by simp)]; rfl
    | 1, _ => rw [hx.cell (k := 1) (by simp)]; rfl
    | 2, _ => rw [hx.cell (k := 2) (by simp)]; rfl
  · match k, hk with
    | 0, _ => exact fun k hk => by simp at hk
    | 1, _ => exact ES.one ho
    | 2, _ => exact fun k hk => by simp at hk
  · match k, hk with
    | 0, _ => exact fun _ => rfl
    | 1, _ => intro e; cases e
    | 2, _ => exact fun _ => rfl

set_option maxRecDepth 20000 in
set_option maxHeartbeats 4000000 in
/-- 'With'. -/
theorem With_any (bs : List Vol) (hO : OKs bs) (ad : Option Addr) (c : Nat) (id : Nat) (t : ByteArray) (w : World) (hE : EL 129 w ad c bs) (ht : t.size ≤ 200) :
    Calls Tryz.prog 41 #[txv ad bs.length c, .int .i64 id, .string t] w fun e w' => ∃ ad' c', e = .returned (txv ad' (ins bs id t).length c') ∧ EL 129 w' ad' c' (ins bs id t) ∧ Below w.heap.size w w' := by
  have hbx : Blk ((w.alloc (Obj.cells #[.slice ad bs.length c] 90)).alloc (Obj.cells #[.slice none 0 0] 90)) w.heap.size 90 [.slice ad bs.length c] := Blk.alloc (Blk.new w _ _ rfl) _
  have hbr : Blk ((w.alloc (Obj.cells #[.slice ad bs.length c] 90)).alloc (Obj.cells #[.slice none 0 0] 90)) (w.heap.size + 1) 90 [.slice none 0 0] := Blk.new _ _ _ (by simp)
  have hb0 : Below w.heap.size w ((w.alloc (Obj.cells #[.slice ad bs.length c] 90)).alloc (Obj.cells #[.slice none 0 0] 90)) := ((Below.refl _ _).alloc (Nat.le_refl _) _).alloc (by simp) _
  have hlb := lb_le bs (id : Int)
  have hil := ins_length bs id t
  have hol := hO.len
  have C := seek_any bs hO ad c id _ (hE.es.later hb0)
  have HC : Hid _ := C
  have HE : Hid _ := hE
  have HIL : Hid _ := hil
  clear C hE hil
  unfold txv at HC ⊢
  go_enter Tryz.func41, Tryz.ntmps41
  go_wp2_with fail
  refine Calls.mono HC.out ?_
  rintro e w1 ⟨rfl, hb1⟩
  have hbx1 := hbx.later hb1
  have hbr1 := hbr.later hb1
  have hB1 := Below.later hb0 hb1
  clear hbx hbr hb0 hb1 HC
  go_wp2_with fail
  refine (clone_any t _ (by omega)).mono ?_
  rintro e w2 ⟨rfl, hb2⟩
  have hbx2 := hbx1.later hb2
  have hbr2 := hbr1.later hb2
  have hB2 := Below.later hB1 hb2
  clear hbx1 hbr1 hB1 hb2
  have x0 := cell1 hbx2
  have x1 := cell1 hbr2
  have f1 := Blk.free hbr2 0
  have l0 := hbx2.lt
  have l1 := hbr2.lt
  have HX : Hid _ := hbx2
  have HR : Hid _ := hbr2
  have HB2 : Hid _ := hB2
  have hs2 := hB2.size
  clear hbx2 hbr2 hB2
  obtain ⟨l, hl⟩ : ∃ l, l = lb bs (id : Int) := ⟨_, rfl⟩
  rw [← hl] at hlb ⊢
  have HL : Hid _ := hl
  clear hl
  rcases HE.out.cap with ⟨rfl, hn, rfl⟩ | ⟨b, rfl, hnc, hcm⟩
  · have hbs : bs = [] := List.eq_nil_of_length_eq_zero hn
    have hl0 : l = 0 := by omega
    subst hl0
    subst hbs
    have CC := concat_any (w2.heap.size + 1) 3 _ _ (with_pse0 (w2 := w2) (p := (id, t)) (T1 := 129) (T2 := 88)) (by simp [cat]) (by simp)
    have eC : cat [(none, 0, []), (some ⟨w2.heap.size, 0, none⟩, 1, [(id, t)]), (none, 0, [])] = ins [] id t := rfl
    rw [eC] at CC
    have HCC : Hid _ := CC
    have HW : Hid (Below w2.heap.size w2 ((w2.alloc (Obj.cells #[.int .i64 (id : Nat), .string t] 129)).alloc (Obj.cells #[.slice none 0 0, .slice (some ⟨w2.heap.size, 0, none⟩) 1 1, .slice none 0 0] 88)).drew) := (((Below.refl _ _).alloc (Nat.le_refl _) _).alloc (by simp) _).drew
    clear CC eC hn
    go_wp2_with fail
    go_region_with (first | (go_at_call 60; go_loud (refine Calls.mono HCC.out ?_; rintro e w3 ⟨v, rfl, hown, hb3⟩; have hB3 := Below.later HW.out hb3; have hbr3 := Blk.later HR.out hB3; have y1 := cell1 hbr3; have g1 := Blk.free hbr3 0; obtain ⟨ad3, c3, rfl, hel⟩ := EL.own hown; have HO3 : Hid _ := own_dnJ (base' := w2.heap.size) hown (Below.size HW.out); have HB3 : Hid _ := Below.later HB2.out hB3; have HR3 : Hid _ := hbr3; clear hown hel hb3 hB3 hbr3)) | fail)
    all_goals
      go_wp2
      have hx : World.ownsRow (w3.setCell ⟨w.heap.size + 1, 0, none⟩ (.slice ad3 (ins [] id t).length c3)) w2.heap.size 129 2 (.slice ad3 (ins [] id t).length c3) (ins [] id t).length (EV (ins [] id t)) := own_set HO3.out (by omega)
      obtain ⟨ad4, c4, e4, hel⟩ := EL.own hx
      simp only [Value.slice.injEq, true_and] at e4
      obtain ⟨rfl, rfl⟩ := e4
      have x2 := cell1 (Blk.set HR3.out 0 (.slice ad3 (ins [] id t).length c3))
      exact bodyPost_ret (v := txv ad3 (ins [] id t).length c3) (by simp [results, Tryz.results41, go_sem, x2, txv]) rfl ⟨ad3, c3, rfl, hel, Below.setCell HB3.out (p := ⟨w.heap.size + 1, 0, none⟩) (by simp) _⟩
  · have i1 : (l : Int) ≤ (c : Int) := by omega
    have i2 : (0 : Int) ≤ (l : Int) := by omega
    have i3 : (l : Int) ≤ (bs.length : Int) := by omega
    have eC := with_cat (some ⟨b, 0, none⟩) (some ⟨w2.heap.size, 0, none⟩) (endA b c l) c 1 (c - l) bs id t l HL.out
    have CC := concat_any (w2.heap.size + 1) 3 _ _ (with_pse (w2 := w2) (l := l) (p := (id, t)) (T1 := 129) (T2 := 88) (HE.out.es.later HB2.out) hnc hlb) (by rw [eC, HIL.out]; omega) (by simp)
    rw [eC] at CC
    unfold endA at CC
    by_cases hcl : c = l
    · subst hcl
      rw [if_pos rfl, Nat.sub_self, show bs.length - c = 0 by omega] at CC
      have HCC : Hid _ := CC
      have HW : Hid (Below w2.heap.size w2 ((w2.alloc (Obj.cells #[.int .i64 (id : Nat), .string t] 129)).alloc (Obj.cells #[.slice (some ⟨b, 0, none⟩) c c, .slice (some ⟨w2.heap.size, 0, none⟩) 1 1, .slice (some ⟨b, 0, none⟩) 0 0] 88)).drew) := (((Below.refl _ _).alloc (Nat.le_refl _) _).alloc (by simp) _).drew
      clear CC eC
      go_wp2_with fail
      go_region_with (first | (go_at_call 60; go_loud (refine Calls.mono HCC.out ?_; rintro e w3 ⟨v, rfl, hown, hb3⟩; have hB3 := Below.later HW.out hb3; have hbr3 := Blk.later HR.out hB3; have y1 := cell1 hbr3; have g1 := Blk.free hbr3 0; obtain ⟨ad3, c3, rfl, hel⟩ := EL.own hown; have HO3 : Hid _ := own_dnJ (base' := w2.heap.size) hown (Below.size HW.out); have HB3 : Hid _ := Below.later HB2.out hB3; have HR3 : Hid _ := hbr3; clear hown hel hb3 hB3 hbr3)) | fail)
      all_goals
        go_wp2
        have hx : World.ownsRow (w3.setCell ⟨w.heap.size + 1, 0, none⟩ (.slice ad3 (ins bs id t).length c3)) w2.heap.size 129 2 (.slice ad3 (ins bs id t).length c3) (ins bs id t).length (EV (ins bs id t)) := own_set HO3.out (by omega)
        obtain ⟨ad4, c4, e4, hel⟩ := EL.own hx
        simp only [Value.slice.injEq, true_and] at e4
        obtain ⟨rfl, rfl⟩ := e4
        have x2 := cell1 (Blk.set HR3.out 0 (.slice ad3 (ins bs id t).length c3))
        exact bodyPost_ret (v := txv ad3 (ins bs id t).length c3) (by simp [results, Tryz.results41, go_sem, x2, txv]) rfl ⟨ad3, c3, rfl, hel, Below.setCell HB3.out (p := ⟨w.heap.size + 1, 0, none⟩) (by simp) _⟩
    · rw [if_neg hcl] at CC
      have HCC : Hid _ := CC
      have HW : Hid (Below w2.heap.size w2 ((w2.alloc (Obj.cells #[.int .i64 (id : Nat), .string t] 129)).alloc (Obj.cells #[.slice (some ⟨b, 0, none⟩) l c, .slice (some ⟨w2.heap.size, 0, none⟩) 1 1, .slice (some ⟨b, l * 2, none⟩) (bs.length - l) (c - l)] 88)).drew) := (((Below.refl _ _).alloc (Nat.le_refl _) _).alloc (by simp) _).drew
      clear CC eC
      go_wp2_with fail
      go_region_with (first | (go_at_call 60; go_loud (refine Calls.mono HCC.out ?_; rintro e w3 ⟨v, rfl, hown, hb3⟩; have hB3 := Below.later HW.out hb3; have hbr3 := Blk.later HR.out hB3; have y1 := cell1 hbr3; have g1 := Blk.free hbr3 0; obtain ⟨ad3, c3, rfl, hel⟩ := EL.own hown; have HO3 : Hid _ := own_dnJ (base' := w2.heap.size) hown (Below.size HW.out); have HB3 : Hid _ := Below.later HB2.out hB3; have HR3 : Hid _ := hbr3; clear hown hel hb3 hB3 hbr3)) | fail)
      all_goals
        go_wp2
        have hx : World.ownsRow (w3.setCell ⟨w.heap.size + 1, 0, none⟩ (.slice ad3 (ins bs id t).length c3)) w2.heap.size 129 2 (.slice ad3 (ins bs id t).length c3) (ins bs id t).length (EV (ins bs id t)) := own_set HO3.out (by omega)
        obtain ⟨ad4, c4, e4, hel⟩ := EL.own hx
        simp only [Value.slice.injEq, true_and] at e4
        obtain ⟨rfl, rfl⟩ := e4
        have x2 := cell1 (Blk.set HR3.out 0 (.slice ad3 (ins bs id t).length c3))
        exact bodyPost_ret (v := txv ad3 (ins bs id t).length c3) (by simp [results, Tryz.results41, go_sem, x2, txv]) rfl ⟨ad3, c3, rfl, hel, Below.setCell HB3.out (p := ⟨w.heap.size + 1, 0, none⟩) (by simp) _⟩
/-- What 'Without' puts together, in memory. -/
theorem without_pse {w2 : World} {b c l : Nat} {bs : List Vol} {T2 : TypeId} (h : ES w2 (some ⟨b, 0, none⟩) bs) (hc : bs.length ≤ c) (hl : l < bs.length) :
    PSE (w2.alloc (Obj.cells #[.slice (some ⟨b, 0, none⟩) l c, .slice (endA b c (l + 1)) (bs.length - (l + 1)) (c - (l + 1))] T2)).drew w2.heap.size [(some ⟨b, 0, none⟩, c, bs.take l), (endA b c (l + 1), c - (l + 1), bs.drop (l + 1))] := by
  have hbl : Below w2.heap.size w2 (w2.alloc (Obj.cells #[.slice (some ⟨b, 0, none⟩) l c, .slice (endA b c (l + 1)) (bs.length - (l + 1)) (c - (l + 1))] T2)).drew := ((Below.refl _ _).alloc (Nat.le_refl _) _).drew
  have hx : Blk (w2.alloc (Obj.cells #[.slice (some ⟨b, 0, none⟩) l c, .slice (endA b c (l + 1)) (bs.length - (l + 1)) (c - (l + 1))] T2)).drew w2.heap.size T2 [.slice (some ⟨b, 0, none⟩) l c, .slice (endA b c (l + 1)) (bs.length - (l + 1)) (c - (l + 1))] := Blk.drew (Blk.new _ _ _ rfl)
  refine ⟨fun k hk => ?_, fun k hk => ?_, fun k hk => ?_⟩
  · match k, hk with
    | 0, _ => rw [hx.cell (k := 0) (by simp)]; simp [Nat.min_eq_left (Nat.le_of_lt hl)]
    | 1, _ => rw [hx.cell (k := 1) (by simp)]; simp
  · match k, hk with
    | 0, _ => exact (h.later hbl).take l
    | 1, _ => exact (h.later hbl).end hc (l + 1)
  · match k, hk with
    | 0, _ => intro e; cases e
    | 1, _ => intro e; exact absurd e (endA_ne b c (l + 1))
theorem without_cat (a1 a3 : Option Addr) (c1 c3 : Nat) (bs : List Vol) (id : Int) (l : Nat) (hl : l = lb bs id) : cat [(a1, c1, bs.take l), (a3, c3, bs.drop (l + 1))] = del bs id := by
  subst hl
  simp [cat, del]

set_option maxRecDepth 20000 in
set_option maxHeartbeats 4000000 in
/-- 'Without'. -/
theorem Without_any (bs : List Vol) (hO : OKs bs) (ad : Option Addr) (c : Nat) (id : Int) (w : World) (hE : EL 129 w ad c bs) (hh : lb bs id < bs.length) :
    Calls Tryz.prog 49 #[txv ad bs.length c, .int .i64 id] w fun e w' => ∃ ad' c', e = .returned (txv ad' (del bs id).length c') ∧ EL 129 w' ad' c' (del bs id) ∧ Below w.heap.size w w' := by
  have hbx : Blk ((w.alloc (Obj.cells #[.slice ad bs.length c] 90)).alloc (Obj.cells #[.slice none 0 0] 90)) w.heap.size 90 [.slice ad bs.length c] := Blk.alloc (Blk.new w _ _ rfl) _
  have hbr : Blk ((w.alloc (Obj.cells #[.slice ad bs.length c] 90)).alloc (Obj.cells #[.slice none 0 0] 90)) (w.heap.size + 1) 90 [.slice none 0 0] := Blk.new _ _ _ (by simp)
  have hb0 : Below w.heap.size w ((w.alloc (Obj.cells #[.slice ad bs.length c] 90)).alloc (Obj.cells #[.slice none 0 0] 90)) := ((Below.refl _ _).alloc (Nat.le_refl _) _).alloc (by simp) _
  have hil := del_length hh
  have hol := hO.len
  have C := seek_any bs hO ad c id _ (hE.es.later hb0)
  have HC : Hid _ := C
  have HE : Hid _ := hE
  have HIL : Hid _ := hil
  clear C hE hil
  unfold txv at HC ⊢
  go_enter Tryz.func49, Tryz.ntmps49
  go_wp2_with fail
  refine Calls.mono HC.out ?_
  rintro e w2 ⟨rfl, hb1⟩
  have hbx2 := hbx.later hb1
  have hbr2 := hbr.later hb1
  have hB2 := Below.later hb0 hb1
  clear hbx hbr hb0 hb1 HC
  have x0 := cell1 hbx2
  have x1 := cell1 hbr2
  have f1 := Blk.free hbr2 0
  have l0 := hbx2.lt
  have l1 := hbr2.lt
  have HX : Hid _ := hbx2
  have HR : Hid _ := hbr2
  have HB2 : Hid _ := hB2
  have hs2 := hB2.size
  clear hbx2 hbr2 hB2
  obtain ⟨l, hl⟩ : ∃ l, l = lb bs id := ⟨_, rfl⟩
  rw [← hl] at hh ⊢
  have HL : Hid _ := hl
  clear hl
  rcases HE.out.cap with ⟨rfl, hn, rfl⟩ | ⟨b, rfl, hnc, hcm⟩
  · omega
  · have i1 : (l : Int) ≤ (c : Int) := by omega
    have i2 : (0 : Int) ≤ (l : Int) := by omega
    have i3 : (l : Int) + 1 ≤ (bs.length : Int) := by omega
    have i4 : (0 : Int) ≤ (l : Int) + 1 := by omega
    have i5 : (l : Int) + 1 ≤ (c : Int) := by omega
    have v1 : IntKind.i64.wrap ((l : Int) + 1) = (l : Int) + 1 := by rw [IntKind.wrap_i64]; omega
    have v2 : ((l : Int) + 1).toNat = l + 1 := by omega
    have eC := without_cat (some ⟨b, 0, none⟩) (endA b c (l + 1)) c (c - (l + 1)) bs id l HL.out
    have CC := concat_any w2.heap.size 2 _ _ (without_pse (w2 := w2) (l := l) (T2 := 88) (HE.out.es.later HB2.out) hnc hh) (by rw [eC, HIL.out]; omega) (by simp)
    rw [eC] at CC
    unfold endA at CC
    by_cases hcl : c = l + 1
    · subst hcl
      rw [if_pos rfl, Nat.sub_self, show bs.length - (l + 1) = 0 by omega] at CC
      have HCC : Hid _ := CC
      have HW : Hid (Below w2.heap.size w2 (w2.alloc (Obj.cells #[.slice (some ⟨b, 0, none⟩) l (l + 1), .slice (some ⟨b, 0, none⟩) 0 0] 88)).drew) := ((Below.refl _ _).alloc (Nat.le_refl _) _).drew
      clear CC eC
      go_wp2_with fail
      go_region_with (first | (go_at_call 60; go_loud (refine Calls.mono HCC.out ?_; rintro e w3 ⟨v, rfl, hown, hb3⟩; have hB3 := Below.later HW.out hb3; have hbr3 := Blk.later HR.out hB3; have y1 := cell1 hbr3; have g1 := Blk.free hbr3 0; obtain ⟨ad3, c3, rfl, hel⟩ := EL.own hown; have HO3 : Hid _ := own_dnJ (base' := w2.heap.size) hown (Below.size HW.out); have HB3 : Hid _ := Below.later HB2.out hB3; have HR3 : Hid _ := hbr3; clear hown hel hb3 hB3 hbr3)) | fail)
      all_goals
        go_wp2
        have hx : World.ownsRow (w3.setCell ⟨w.heap.size + 1, 0, none⟩ (.slice ad3 (del bs id).length c3)) w2.heap.size 129 2 (.slice ad3 (del bs id).length c3) (del bs id).length (EV (del bs id)) := own_set HO3.out (by omega)
        obtain ⟨ad4, c4, e4, hel⟩ := EL.own hx
        simp only [Value.slice.injEq, true_and] at e4
        obtain ⟨rfl, rfl⟩ := e4
        have x2 := cell1 (Blk.set HR3.out 0 (.slice ad3 (del bs id).length c3))
        exact bodyPost_ret (v := txv ad3 (del bs id).length c3) (by simp [results, Tryz.results49, go_sem, x2, txv]) rfl ⟨ad3, c3, rfl, hel, Below.setCell HB3.out (p := ⟨w.heap.size + 1, 0, none⟩) (by simp) _⟩
    · rw [if_neg hcl] at CC
      have HCC : Hid _ := CC
      have HW : Hid (Below w2.heap.size w2 (w2.alloc (Obj.cells #[.slice (some ⟨b, 0, none⟩) l c, .slice (some ⟨b, (l + 1) * 2, none⟩) (bs.length - (l + 1)) (c - (l + 1))] 88)).drew) := ((Below.refl _ _).alloc (Nat.le_refl _) _).drew
      clear CC eC
      go_wp2_with fail
      go_region_with (first | (go_at_call 60; go_loud (refine Calls.mono HCC.out ?_; rintro e w3 ⟨v, rfl, hown, hb3⟩; have hB3 := Below.later HW.out hb3; have hbr3 := Blk.later HR.out hB3; have y1 := cell1 hbr3; have g1 := Blk.free hbr3 0; obtain ⟨ad3, c3, rfl, hel⟩ := EL.own hown; have HO3 : Hid _ := own_dnJ (base' := w2.heap.size) hown (Below.size HW.out); have HB3 : Hid _ := Below.later HB2.out hB3; have HR3 : Hid _ := hbr3; clear hown hel hb3 hB3 hbr3)) | fail)
      all_goals
        go_wp2
        have hx : World.ownsRow (w3.setCell ⟨w.heap.size + 1, 0, none⟩ (.slice ad3 (del bs id).length c3)) w2.heap.size 129 2 (.slice ad3 (del bs id).length c3) (del bs id).length (EV (del bs id)) := own_set HO3.out (by omega)
        obtain ⟨ad4, c4, e4, hel⟩ := EL.own hx
        simp only [Value.slice.injEq, true_and] at e4
        obtain ⟨rfl, rfl⟩ := e4
        have x2 := cell1 (Blk.set HR3.out 0 (.slice ad3 (del bs id).length c3))
        exact bodyPost_ret (v := txv ad3 (del bs id).length c3) (by simp [results, Tryz.results49, go_sem, x2, txv]) rfl ⟨ad3, c3, rfl, hel, Below.setCell HB3.out (p := ⟨w.heap.size + 1, 0, none⟩) (by simp) _⟩
end Go.Proofs.YtepklbboejnecaaGreat
