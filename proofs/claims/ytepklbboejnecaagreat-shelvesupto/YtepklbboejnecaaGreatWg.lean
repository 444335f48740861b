/- Pieces that are the same; making the slopes. -/
import Derived.Test.YtepklbboejnecaaGreatWf
namespace Go.Proofs.YtepklbboejnecaaGreat
open Go.RowKit Sedge
attribute [local go_sem ↓] Go.wp_at_zero Go.wp_at_succ
attribute [local go_sem ↓] eq2

def stepEq (l : List Nat) (p q : Nat) : Prop := at1 l p = at1 l q ∧ step2 l p = step2 l q
theorem stepEq_iff {l : List Nat} {p q : Nat} (hp : p < l.length) (hq : q < l.length) : stepEq l p q ↔ buck l p = buck l q := by
  unfold stepEq at1 step2
  rw [if_pos hp, if_pos hq, if_pos hp, if_pos hq]
  constructor
  · rintro ⟨a, b⟩; unfold buck; omega
  · intro h; have := buck_eq h; omega
theorem stepEq_lt {l : List Nat} {p q : Nat} (h : stepEq l p q) : p < l.length ↔ q < l.length := by
  unfold stepEq at1 at h
  have a := h.1
  by_cases c : p < l.length
  · rw [if_pos c] at a
    by_cases d : q < l.length
    · simp [c, d]
    · rw [if_neg d] at a; omega
  · rw [if_neg c] at a
    by_cases d : q < l.length
    · rw [if_pos d] at a; omega
    · simp [c, d]
/-- How far two places can be alike. -/
theorem stepEq_far {l : List Nat} {a b : Nat} (hne : a ≠ b) (_ha : a < l.length) (_hb : b < l.length) : ¬ stepEq l (a + (l.length - max a b)) (b + (l.length - max a b)) := by
  intro h
  have := stepEq_lt h
  omega
theorem same_true {l : List Nat} {a b k : Nat} (ha : Sedge.start l a) (hk : 0 < k) (hs : Sedge.start l (a + k)) (hb : ∀ j, j ≤ k → stepEq l (a + j) (b + j)) : Sedge.same l a b = true := by
  unfold Sedge.same
  rw [decide_eq_true_iff]
  have hlt : ∀ j, j ≤ k → a + j < l.length := fun j hj => by have := hs.1; omega
  exact c2_of_eq k a b ha.2.2.1 (fun j hj => ⟨hlt j hj, (stepEq_lt (hb j hj)).1 (hlt j hj), (stepEq_iff (hlt j hj) ((stepEq_lt (hb j hj)).1 (hlt j hj))).1 (hb j hj)⟩) hk hs
theorem same_false {l : List Nat} {a b k : Nat} (ha : Sedge.start l a) (hb : b < l.length) (hne : a ≠ b) (hk : ¬ stepEq l (a + k) (b + k)) (no : ∀ j, 0 < j → j < k → ¬ Sedge.start l (a + j)) : Sedge.same l a b = false := by
  unfold Sedge.same
  rw [decide_eq_false_iff_not]
  intro h
  obtain ⟨m, hm⟩ := piece_of_c2 (l.length - a) a b (by have := ha.1; omega) ha.1 ha.2.2.1 hb hne h
  by_cases c : m < k
  · exact no m hm.pos c hm.s1
  · have e := hm.eq k (by omega)
    exact hk ((stepEq_iff e.1 e.2.1).2 e.2.2)

set_option maxHeartbeats 1000000 in
/-- 'samePiece'. -/
theorem samePiece_any (ad ad' : Option Addr) (l : List Nat) (c c' : Nat) (kinds : Int) (a b : Nat) (w : World) (hl : Sl w ad l) (hs : Sl w ad' (slopes l)) (hv : ∀ p, num l p ≤ 1000000) (hn : l.length ≤ 1000000)
    (ha : Sedge.start l a) (hbb : Sedge.start l b) (hne : a ≠ b) :
    Calls Tryz.prog 87 #[slv ad ad' l.length c c' kinds, .int .i64 a, .int .i64 b] w fun e w' => e = .returned (.bool (Sedge.same l a b)) ∧ Below w.heap.size w w' := by
  have hg2 := guard2
  have ha1 := ha.1
  have hb1 := hbb.1
  unfold slv
  go_enter Tryz.func87, Tryz.ntmps87
  go_wp2
  go_loopw [7] (fun i wr => ∃ k : Nat, k ≤ l.length - max a b ∧ i = .int .i64 k ∧ (∀ j, j < k → stepEq l (a + j) (b + j)) ∧ (∀ j, 0 < j → j < k → ¬ Sedge.start l (a + j)) ∧ Blk wr w.heap.size 150 [.slice ad l.length c, .int .i64 kinds, .slice ad' l.length c'] ∧ Below w.heap.size w wr) (fun i _ => l.length - (intOf i).toNat)
  case atStart => exact ⟨0, Nat.zero_le _, rfl, fun j hj => by omega, fun j _ hj => by omega, by unfold Blk; rw [heap_alloc_new], (Below.refl _ _).alloc (Nat.le_refl _) _⟩
  case round =>
    obtain ⟨k, hk, rfl, heq, hno, hbx, hb⟩ := hrel
    have HEQ : Hid (∀ j, j < k → stepEq l (a + j) (b + j)) := heq
    have HNO : Hid (∀ j, 0 < j → j < k → ¬ Sedge.start l (a + j)) := hno
    have HNE : Hid (a ≠ b) := hne
    clear heq hno hne
    have hx0 := Blk.cell hbx (k := 0) (by simp)
    have hx1 := Blk.cell hbx (k := 1) (by simp)
    have hx2 := Blk.cell hbx (k := 2) (by simp)
    simp only [List.getElem_cons_zero, List.getElem_cons_succ] at hx0 hx1 hx2
    have hlt0 := hbx.lt
    have hk1 : k ≤ 1000000 := by omega
    have ha2 : a ≤ 1000000 := by omega
    have hb2' : b ≤ 1000000 := by omega
    have wa : IntKind.i64.wrap ((a : Int) + (k : Int)) = (a : Int) + (k : Int) := by rw [IntKind.wrap_i64]; omega
    have wb : IntKind.i64.wrap ((b : Int) + (k : Int)) = (b : Int) + (k : Int) := by rw [IntKind.wrap_i64]; omega
    have ek : (((a + k : Nat) : Int)) = (a : Int) + (k : Int) := by omega
    have ek' : (((b + k : Nat) : Int)) = (b : Int) + (k : Int) := by omega
    have C1 := fun W => step_any ad ad' l c c' kinds (a + k) W
    have C2 := fun W => step_any ad ad' l c c' kinds (b + k) W
    rw [ek] at C1
    rw [ek'] at C2
    have D1 : Hid _ := C1
    have D2 : Hid _ := C2
    clear C1 C2
    by_cases hse : stepEq l (a + k) (b + k)
    · have e1 := hse.1
      have e2 := hse.2
      have hkm : k < l.length - max a b := by
        by_cases e : k = l.length - max a b
        · rw [e] at hse; exact absurd hse (stepEq_far HNE.out ha1 hb1)
        · omega
      have hak : a + k < l.length := by omega
      have HSE : Hid (∀ j, j ≤ k → stepEq l (a + j) (b + j)) := fun j hj => by
        by_cases e : j = k
        · rw [e]; exact hse
        · exact HEQ.out j (by omega)
      have C3 := fun W h => isStart_any ad ad' l c c' kinds (a + k) W h hak hn
      rw [ek] at C3
      have D3 : Hid _ := C3
      clear hse C3 ek ek'
      go_wp2_with fail
      go_region_held3 (fun w' => w'.cell? ⟨w.heap.size, 0, none⟩ = some (.slice ad l.length c) ∧ w'.cell? ⟨w.heap.size, 1, none⟩ = some (.int .i64 kinds) ∧ w'.cell? ⟨w.heap.size, 2, none⟩ = some (.slice ad' l.length c')) (go_keep)
        (first
          | (go_at_call_of 115 (Value.int .i64 ((a : Int) + (k : Int))); refine (D1.out _ (hl.later hb.drew) (hs.later hb.drew) hv).mono ?_; rintro e w2 ⟨rfl, hb2⟩; have s0 := (hb2.cell (p := ⟨w.heap.size, 0, none⟩) hlt0).trans hx0; have s1 := (hb2.cell (p := ⟨w.heap.size, 1, none⟩) hlt0).trans hx1; have s2 := (hb2.cell (p := ⟨w.heap.size, 2, none⟩) hlt0).trans hx2)
          | (go_at_call_of 115 (Value.int .i64 ((b : Int) + (k : Int))); refine (D2.out _ (hl.later (Below.later hb.drew hb2)) (hs.later (Below.later hb.drew hb2)) hv).mono ?_; rintro e w3 ⟨rfl, hb3⟩; have hsz2 := hb2.size; have hsz3 : w.heap.size < w2.heap.size := (by simp at hsz2; omega); have t0 := (hb3.cell (p := ⟨w.heap.size, 0, none⟩) hsz3).trans s0; have t1 := (hb3.cell (p := ⟨w.heap.size, 1, none⟩) hsz3).trans s1; have t2 := (hb3.cell (p := ⟨w.heap.size, 2, none⟩) hsz3).trans s2))
      have hbx3 := (hbx.drew.later hb2).later hb3
      have hB3 : Below w.heap.size w w3 := Below.later (Below.later hb.drew hb2) hb3
      clear wa wb D1 D2 hg2
      clear e1 e2 s0 s1 s2 hsz2 hsz3 hb2 hb3 hbx hb hx0 hx1 hx2 hlt0
      by_cases h0 : k = 0
      · have hk0 : (k : Int) ≤ 0 := by omega
        have H0 : Hid (k = 0) := h0
        clear h0
        go_wp2
        go_roundw
        case rel => exact ⟨k + 1, by omega, by go_num, fun j hj => HSE.out j (by omega), fun j h1 h2 => by have := H0.out; omega, hbx3, hB3⟩
        case measure => simp [intOf]; omega
      · have hk0 : (0 : Int) < (k : Int) := by omega
        go_wp2_with fail
        refine (D3.out _ (hs.later hB3)).mono ?_
        rintro e w4 ⟨rfl, hb4⟩
        have hbx4 := hbx3.later hb4
        have hB4 := Below.later hB3 hb4
        have hiff := isSt_iff hak
        have HI : Hid (isSt l (a + k) = true ↔ Sedge.start l (a + k)) := hiff
        clear hiff hbx3 hB3 hb4 t0 t1 t2
        by_cases hst : isSt l (a + k) = true
        · have ht := same_true ha (by omega) (HI.out.1 hst) HSE.out
          have HT : Hid (Sedge.same l a b = true) := ht
          clear ht
          go_wp2
          go_ret
          exact ⟨by rw [HT.out]; rfl, hB4⟩
        · have hst' : isSt l (a + k) = false := by simpa using hst
          go_wp2
          go_roundw
          case rel => exact ⟨k + 1, by omega, by go_num, fun j hj => HSE.out j (by omega), fun j h1 h2 => by
            by_cases e : j = k
            · rw [e]; exact fun c => hst (HI.out.2 c)
            · exact HNO.out j h1 (by omega), hbx4, hB4⟩
          case measure => simp [intOf]; omega
    · have hf := same_false ha hb1 HNE.out hse HNO.out
      have HF : Hid (Sedge.same l a b = false) := hf
      clear hf ek ek'
      by_cases e1 : at1 l (a + k) = at1 l (b + k)
      · have e2 : ¬ step2 l (a + k) = step2 l (b + k) := fun e => hse ⟨e1, e⟩
        clear hse
        go_wp2_with fail
        go_region_held3 (fun w' => w'.cell? ⟨w.heap.size, 0, none⟩ = some (.slice ad l.length c) ∧ w'.cell? ⟨w.heap.size, 1, none⟩ = some (.int .i64 kinds) ∧ w'.cell? ⟨w.heap.size, 2, none⟩ = some (.slice ad' l.length c')) (go_keep)
          (first
            | (go_at_call_of 115 (Value.int .i64 ((a : Int) + (k : Int))); refine (D1.out _ (hl.later hb.drew) (hs.later hb.drew) hv).mono ?_; rintro e w2 ⟨rfl, hb2⟩; have s0 := (hb2.cell (p := ⟨w.heap.size, 0, none⟩) hlt0).trans hx0; have s1 := (hb2.cell (p := ⟨w.heap.size, 1, none⟩) hlt0).trans hx1; have s2 := (hb2.cell (p := ⟨w.heap.size, 2, none⟩) hlt0).trans hx2)
            | (go_at_call_of 115 (Value.int .i64 ((b : Int) + (k : Int))); refine (D2.out _ (hl.later (Below.later hb.drew hb2)) (hs.later (Below.later hb.drew hb2)) hv).mono ?_; rintro e w3 ⟨rfl, hb3⟩; have hsz2 := hb2.size; have hsz3 : w.heap.size < w2.heap.size := (by simp at hsz2; omega); have t0 := (hb3.cell (p := ⟨w.heap.size, 0, none⟩) hsz3).trans s0; have t1 := (hb3.cell (p := ⟨w.heap.size, 1, none⟩) hsz3).trans s1; have t2 := (hb3.cell (p := ⟨w.heap.size, 2, none⟩) hsz3).trans s2))
        have hbx3 := (hbx.drew.later hb2).later hb3
        have hB3 : Below w.heap.size w w3 := Below.later (Below.later hb.drew hb2) hb3
        clear wa wb D1 D2 hg2
        go_wp2
        go_ret
        exact ⟨by rw [HF.out]; rfl, hB3⟩
      · clear hse
        have hbq : (((at1 l (a + k) : Nat) : Int) == ((at1 l (b + k) : Nat) : Int)) = false := by rw [beq_eq_false_iff_ne]; omega
        go_wp2_with fail
        go_region_held3 (fun w' => w'.cell? ⟨w.heap.size, 0, none⟩ = some (.slice ad l.length c) ∧ w'.cell? ⟨w.heap.size, 1, none⟩ = some (.int .i64 kinds) ∧ w'.cell? ⟨w.heap.size, 2, none⟩ = some (.slice ad' l.length c')) (go_keep)
          (first
            | (go_at_call_of 115 (Value.int .i64 ((a : Int) + (k : Int))); refine (D1.out _ (hl.later hb.drew) (hs.later hb.drew) hv).mono ?_; rintro e w2 ⟨rfl, hb2⟩; have s0 := (hb2.cell (p := ⟨w.heap.size, 0, none⟩) hlt0).trans hx0; have s1 := (hb2.cell (p := ⟨w.heap.size, 1, none⟩) hlt0).trans hx1; have s2 := (hb2.cell (p := ⟨w.heap.size, 2, none⟩) hlt0).trans hx2)
            | (go_at_call_of 115 (Value.int .i64 ((b : Int) + (k : Int))); refine (D2.out _ (hl.later (Below.later hb.drew hb2)) (hs.later (Below.later hb.drew hb2)) hv).mono ?_; rintro e w3 ⟨rfl, hb3⟩; have hsz2 := hb2.size; have hsz3 : w.heap.size < w2.heap.size := (by simp at hsz2; omega); have t0 := (hb3.cell (p := ⟨w.heap.size, 0, none⟩) hsz3).trans s0; have t1 := (hb3.cell (p := ⟨w.heap.size, 1, none⟩) hsz3).trans s1; have t2 := (hb3.cell (p := ⟨w.heap.size, 2, none⟩) hsz3).trans s2))
        have hbx3 := (hbx.drew.later hb2).later hb3
        have hB3 : Below w.heap.size w w3 := Below.later (Below.later hb.drew hb2) hb3
        clear wa wb D1 D2 hg2
        clear e1
        go_wp2
        go_ret
        exact ⟨by rw [HF.out]; rfl, hB3⟩
end Go.Proofs.YtepklbboejnecaaGreat
