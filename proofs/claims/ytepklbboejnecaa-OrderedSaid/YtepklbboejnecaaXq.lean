/- Thirds: the chosen places, sorted: the walk. -/
import Derived.Test.YtepklbboejnecaaXp
namespace Go.Proofs.Ytepklbboejnecaa
open Go.RowKit Go.Shelf Sedge
attribute [local go_sem ↓] Go.wp_at_zero Go.wp_at_succ

/-- What 'sortedChosen' answers. -/
def Chose (l : List Nat) (w : World) (e : Ending) (w' : World) : Prop :=
  ∃ ad S c, e = .returned (.slice ad S.length c) ∧ Sl w' ad S ∧ S.Pairwise (suf l) ∧ (∀ p, p ∈ S ↔ p ∈ chosen l.length) ∧ S.length = (chosen l.length).length ∧ Below w.heap.size w w'

/-- One more than the number that a variable in memory holds. -/
def boxed (b : Value) (w : World) : Nat :=
  match b with
  | .pointer (some a) => (intOf ((w.cell? a).getD undef) + 1).toNat
  | _ => 0
theorem boxed_of {w : World} {bh : Nat} {i : Int} (h : Blk w bh 3 [.int .i64 i]) : boxed (.pointer (some ⟨bh, 0, none⟩)) w = (i + 1).toNat := by
  have e := cell1 h
  simp only [boxed, e]; rfl

/-- What holds at the head of the deals' loop. -/
structure DL (ad : Option Addr) (l : List Nat) (c kd : Nat) (vch : Value) (w wr : World) (t bh : Nat) (ad4 : Option Addr) : Prop where
  t3 : t ≤ 3
  sl : Sl wr ad4 (dealt l (chosen l.length) (kd + 1) t)
  len : (dealt l (chosen l.length) (kd + 1) t).length = (chosen l.length).length
  box : Blk wr bh 3 [.int .i64 ((2 : Int) - (t : Int))]
  held : Held3 ad l c w.heap.size (kd : Int) wr
  own : wr.ownsRow (w.heap.size + 1) 3 1 vch (chosen l.length).length (IV (chosen l.length))
  b : Below w.heap.size w wr

set_option maxRecDepth 20000 in
set_option maxHeartbeats 4000000 in
theorem sortedChosen_of (l : List Nat) (IH : ∀ l' : List Nat, l'.length < l.length → ∀ (ad : Option Addr) (c kd : Nat) (w : World), Sl w ad l' → (∀ p, p < l'.length → num l' p < kd) → kd ≤ 500000 → l'.length ≤ 90000 → Calls Try.prog 51 #[.agg #[.slice ad l'.length c, .int .i64 (kd : Int)]] w (Answers l' w))
    (ad : Option Addr) (c kd : Nat) (w : World) (hl : Sl w ad l) (hkd : ∀ p, p < l.length → num l p < kd) (hkm : kd ≤ 500000) (hn : l.length ≤ 90000) :
    Calls Try.prog 87 #[.agg #[.slice ad l.length c, .int .i64 (kd : Int)]] w (Chose l w) := by
  have hH : Held3 ad l c w.heap.size (kd : Int) (w.alloc (Obj.cells #[Value.slice ad l.length c, Value.int .i64 (kd : Int)] 87)) := ⟨hl.later ((Below.refl _ _).alloc (Nat.le_refl _) _), Blk.new w _ _ rfl⟩
  have hb0 : Below w.heap.size w (w.alloc (Obj.cells #[Value.slice ad l.length c, Value.int .i64 (kd : Int)] 87)) := (Below.refl _ _).alloc (Nat.le_refl _) _
  have hmf : ∀ (fn : Fn) (first cap : Array Value) (w : World), (Instr.makeFunc fn first cap).run Try.prog w = .ok (.func fn first cap) w := fun _ _ _ _ => rfl
  have hv : ∀ p, num l p ≤ 1000000 := fun p => by
    by_cases c : p < l.length
    · have := hkd p c; omega
    · simp [num, List.getD, Nat.not_lt.1 c]
  have hrk : ∀ p, rk l p < kd + 1 := fun p => by
    unfold rk; split
    · have := hkd p (by assumption); omega
    · omega
  have hchl := chosen_le (n := l.length)
  have HI : Hid _ := IH
  have HRK : Hid _ := hrk
  have HV : Hid _ := hv
  have HKD : Hid _ := hkd
  have l1 := ofC_le l.length 1
  have l2 := ofC_le l.length 2
  clear IH hrk hv hkd
  go_enter Try.func87, Try.ntmps87
  go_wp2_with fail
  generalize w.alloc (Obj.cells #[Value.slice ad l.length c, Value.int .i64 (kd : Int)] 87) = w1 at hH hb0 ⊢
  obtain ⟨hx0, hx1⟩ := cells2 hH.row
  have hlt0 := hH.row.lt
  have A1 : Below w1.heap.size w1 w1.drew := (Below.refl _ _).drew
  have HA1 : Hid _ := A1
  clear A1
  go_cut [3] (fun s wx => wx.ownsRow (w.heap.size + 1) 3 1 s (chosen l.length).length (IV (chosen l.length)) ∧ Held3 ad l c w.heap.size (kd : Int) wx ∧ Below w.heap.size w wx)
  case first =>
    go_region_held_law (fun w' => w'.cell? ⟨w.heap.size, 0, none⟩ = some (.slice ad l.length c) ∧ w'.cell? ⟨w.heap.size, 1, none⟩ = some (.int .i64 (kd : Int))) (go_keep)
      (first
        | (refine step_pushOwn rfl (some 12) rfl _ _ rfl (w.heap.size + 1) v2 (ofC l.length 1) rfl ho2 w2.heap.size v3 (ofC l.length 2) rfl ho3 (by omega) (by have := hH3.row.lt; omega) ?_; intro v4 w4 ho4 hb4; have hH4 : Held3 ad l c w.heap.size (kd : Int) w4 := ⟨hl.later ((Below.later hB2 hb3).trans (hb4.mono (by omega))), hH3.row.below hb4 (by omega)⟩; obtain ⟨hu0, hu1⟩ := cells2 hH4.row)
        | (go_at_call_of 121 (Value.int .i64 1); refine (ofClass_any ad l.length c 1 (kd : Int) w1.drew (by omega) (by omega)).mono ?_; rintro e w2 ⟨v2, rfl, ho2', hb2⟩; have hH2 := Held3.later (Held3.later hH HA1.out) hb2; obtain ⟨hy0, hy1⟩ := cells2 hH2.row; have hB2 := Below.later (Below.later hb0 HA1.out) hb2; have ho2a := own_mono ho2' (base' := w.heap.size + 1) hlt0)
        | (go_at_call_of 121 (Value.int .i64 2); refine (ofClass_any ad l.length c 2 (kd : Int) w2 (by omega) (by omega)).mono ?_; rintro e w3 ⟨v3, rfl, ho3, hb3⟩; have hH3 := Held3.later hH2 hb3; obtain ⟨hz0, hz1⟩ := cells2 hH3.row; have ho2 := own_later ho2a hb3))
    all_goals (have HO4 : Hid _ := ho4; clear ho4 ho3 ho2 ho2a ho2' l1 l2 hchl hmf)
    all_goals (go_wp2_with fail)
    all_goals go_meet
    all_goals exact ⟨HO4.out, hH4, (Below.later hB2 hb3).trans (hb4.mono (by omega))⟩
  case rest =>
  obtain ⟨hoc, hHc, hBc⟩ := hcut
  obtain ⟨adc, cc, rfl, hSc⟩ := own_sl hoc
  obtain ⟨hz0, hz1⟩ := cells2 hHc.row
  clear hx0 hx1 hlt0 HA1 hH hb0 l1 l2
  have hltc := hHc.row.lt
  go_wp2_with fail
  go_loopw [4, 5] (fun s b wr => ∃ (t bh : Nat) (ad4 : Option Addr) (c4 : Nat), s = .slice ad4 (chosen l.length).length c4 ∧ b = .pointer (some ⟨bh, 0, none⟩) ∧ DL ad l c kd (.slice adc (chosen l.length).length cc) w wr t bh ad4) (fun _ b wr => boxed b wr)
  case atStart =>
    refine ⟨0, wc.heap.size, adc, cc, rfl, rfl, by omega, hSc.alloc _, rfl, Blk.new wc _ _ rfl, ⟨hHc.sl.alloc _, hHc.row.alloc _⟩, hoc.alloc _, hBc.alloc hBc.size _⟩
  case round =>
    obtain ⟨t, bh, ad4, c4, rfl, rfl, hD⟩ := hrel
    clear hz0 hz1 hltc hHc hBc hSc hoc
    have hbx := cell1 hD.box
    obtain ⟨hx0, hx1⟩ := cells2 hD.held.row
    have ht3 := hD.t3
    have hsz := hD.held.row.lt
    by_cases hlt : t < 3
    · have ei : (2 : Int) - (t : Int) = ((2 - t : Nat) : Int) := by omega
      have hW : Wid ad l c w.heap.size bh (2 - t) (kd : Int) wr := ⟨hD.held.sl, hD.held.row, by rw [← ei]; exact hD.box⟩
      have hmem := dealt_mem (C := chosen l.length) HRK.out
      have CD := deal_any _ #[] _ _ _ _ (tells_third ad l c w.heap.size bh (2 - t) (kd : Int) HV.out (by omega) (by omega)) ad4 (dealt l (chosen l.length) (kd + 1) t) c4 (kd + 1) wr hD.sl (fun k hk => (mem_chosen.1 ((hmem t _).1 (num_mem hk))).1) (fun p _ => HRK.out _) hW (by rw [hD.len]; omega) (by omega)
      rw [hD.len] at CD
      have e1 : (((kd + 1 : Nat)) : Int) = (kd : Int) + 1 := by omega
      rw [e1] at CD
      have HCD : Hid _ := CD
      have i1 : (0 : Int) ≤ 2 - (t : Int) := by omega
      have v1 : IntKind.i64.wrap ((kd : Int) + 1) = (kd : Int) + 1 := by rw [IntKind.wrap_i64]; omega
      have v2 : IntKind.i64.wrap ((2 : Int) - (t : Int) - 1) = (2 : Int) - ((t + 1 : Nat) : Int) := by rw [IntKind.wrap_i64]; omega
      clear CD e1 ei hmem
      go_wp2_with fail
      refine Calls.mono HCD.out ?_
      rintro e w3 ⟨g3, rfl, hg3, hr3, hb3⟩
      have hbox3 := Blk.later hD.box hb3
      have hbx3 := cell1 hbox3
      clear hbx hx0 hx1
      go_wp2_with fail
      have hH3 := hD.held.later hb3
      have hnb : Blk (w3.alloc (Obj.cells #[Value.int .i64 (2 - ((t : Int) + 1))] 3)) w3.heap.size 3 [.int .i64 (2 - ((t : Int) + 1))] := Blk.new w3 _ _ rfl
      have hdl : (dealt l (chosen l.length) (kd + 1) (t + 1)).length = (chosen l.length).length := (flat_part_length (fun p _ => HRK.out _)).trans hD.len
      go_roundw
      case rel => exact ⟨t + 1, w3.heap.size, some ⟨g3, 0, none⟩, _, rfl, rfl, by omega, (Row.sl hr3).alloc _, hdl, hnb, ⟨hH3.sl.alloc _, hH3.row.alloc _⟩, (own_later hD.own hb3).alloc _, (Below.later hD.b hb3).alloc (by have := hb3.size; omega) _⟩
      case measure => rw [boxed_of hnb, boxed_of hD.box]; omega
    · have ht : t = 3 := by omega
      subst ht
      have hS4 := hD.sl
      have hlen4 := hD.len
      rw [dealt_three] at hS4 hlen4
      have hsrt : Sorted (kh l 3) (Sedge.three l) (deals3 l (chosen l.length) (kd + 1)) := deals3_sorted (chosen_nodup _)
      have hmem : ∀ p, p ∈ deals3 l (chosen l.length) (kd + 1) ↔ p ∈ chosen l.length := deals3_mem HRK.out
      obtain ⟨s4, hs4⟩ : ∃ s4, s4 = deals3 l (chosen l.length) (kd + 1) := ⟨_, rfl⟩
      rw [← hs4] at hS4 hlen4 hsrt hmem
      have hlt4 : ∀ k, k < s4.length → num s4 k < l.length := fun k hk => (mem_chosen.1 ((hmem _).1 (num_mem hk))).1
      have hne4 : ∀ k, k + 1 < s4.length → num s4 k ≠ num s4 (k + 1) := fun k hk e => by
        have x1 := idx_num hsrt.nd (show k < s4.length by omega)
        have x2 := idx_num hsrt.nd hk
        rw [e, x2] at x1; omega
      have CN := named_any _ #[] _ _ _ _ (tells_threes ad l c w.heap.size (kd : Int) HV.out (by omega)) ad4 s4 c4 l.length wr hS4 hsrt.nd hlt4 (fun k hk => ⟨hlt4 k (by omega), hlt4 _ hk, hne4 k hk⟩) hD.held (by omega) (by omega)
      rw [hlen4] at CN
      have HCN : Hid _ := CN
      have HS4 : Hid _ := hsrt
      have HM4 : Hid _ := hmem
      have HL4 : Hid _ := hlen4
      have i1 : ¬ (0 : Int) ≤ 2 - ((3 : Nat) : Int) := by omega
      clear CN hsrt hmem hs4 hlt4 hne4 hlen4
      go_wp2_with fail
      refine Calls.mono HCN.out ?_
      rintro e w3 ⟨g3, rfl, hg3, hr3, hb3⟩
      clear hbx hx0 hx1
      have hB3 := Below.later hD.b hb3
      have hoc3 := own_later hD.own hb3
      have hS43 := hS4.later hb3
      have hsz3 := hB3.size
      obtain ⟨kn, hkn⟩ : ∃ kn, kn = kindsOf (Sedge.three l) s4 := ⟨_, rfl⟩
      rw [← hkn]
      have HKN : Hid _ := hkn
      clear hkn HCN hS4
      by_cases hk : kn = (chosen l.length).length
      · have hk' : ((kn : Int) == ((chosen l.length).length : Int)) = true := by rw [beq_iff_eq]; omega
        have HK : Hid _ := hk
        clear hk
        go_wp2
        go_ret
        refine ⟨ad4, s4, c4, by rw [HL4.out]; rfl, hS43.alloc _, chosen_by_names HS4.out (by rw [← HKN.out, HK.out, HL4.out]), HM4.out, HL4.out, hB3.alloc hsz3 _⟩
      · have hk' : ((kn : Int) == ((chosen l.length).length : Int)) = false := by rw [beq_eq_false_iff_ne]; omega
        have HK : Hid _ := hk
        clear hk
        have hbn : Blk (w3.alloc (Obj.cells #[Value.slice (some ⟨g3, 0, none⟩) l.length l.length, Value.int .i64 (kn : Int)] 87)) w3.heap.size 87 [.slice (some ⟨g3, 0, none⟩) l.length l.length, .int .i64 (kn : Int)] := Blk.new w3 _ _ rfl
        have hrn := Blk.alloc hr3 (Obj.cells #[Value.slice (some ⟨g3, 0, none⟩) l.length l.length, Value.int .i64 (kn : Int)] 87)
        have hon := hoc3.alloc (Obj.cells #[Value.slice (some ⟨g3, 0, none⟩) l.length l.length, Value.int .i64 (kn : Int)] 87)
        have hBn := hB3.alloc hsz3 (Obj.cells #[Value.slice (some ⟨g3, 0, none⟩) l.length l.length, Value.int .i64 (kn : Int)] 87)
        clear hD hr3 hoc3 hS43
        go_wp2_with fail
        generalize w3.alloc (Obj.cells #[Value.slice (some ⟨g3, 0, none⟩) l.length l.length, Value.int .i64 (kn : Int)] 87) = w4 at hbn hrn hon hBn ⊢
        obtain ⟨n0, n1⟩ := cells2 hbn
        have A1 : Below w4.heap.size w4 w4.drew := (Below.refl _ _).drew
        have HA1 : Hid _ := A1
        have CP := fun W (hb : Below w4.heap.size w4 W) => pick_any (some ⟨g3, 0, none⟩) adc (tab l.length (nameOf (Sedge.three l) s4)) (chosen l.length) l.length cc W (Row.sl (Blk.later hrn hb)) (by obtain ⟨ad9, c9, e9, h9⟩ := own_sl (own_later hon hb); cases e9; exact h9) (fun k hk => by rw [tab_length]; exact (mem_chosen.1 (num_mem hk)).1) (by omega) (by rw [tab_length]; omega)
        simp only [tab_length] at CP
        have HCP : Hid _ := CP
        clear A1 CP
        go_cut [7] (fun x wx => ∃ b g5 : Nat, x = .pointer (some ⟨b, 0, none⟩) ∧ Blk wx b 87 [.slice (some ⟨g5, 0, none⟩) (chosen l.length).length (chosen l.length).length, .int .i64 (kn : Int)] ∧ Row wx g5 ((chosen l.length).map (num (tab l.length (nameOf (Sedge.three l) s4)))) ∧ Below w4.heap.size w4 wx)
        case first =>
          go_region_held3 (fun w' => w'.cell? ⟨w3.heap.size, 0, none⟩ = some (.slice (some ⟨g3, 0, none⟩) l.length l.length) ∧ w'.cell? ⟨w3.heap.size, 1, none⟩ = some (.int .i64 (kn : Int))) (go_keep)
            (first
              | (go_at_call 86; refine (HCP.out w4.drew HA1.out).mono ?_; rintro e w5 ⟨g5, rfl, hg5, hr5, hb5⟩; have hB5 := Below.later HA1.out hb5; obtain ⟨p0, p1⟩ := cells2 (Blk.later hbn hB5); have zA : w5 = w5 := rfl)
              | (go_at_call 86; refine (HCP.out (w4.drew.alloc (Obj.cells #[.slice none 0 0, .int .i64 0] 87)) (HA1.out.alloc (by simp) _)).mono ?_; rintro e w5 ⟨g5, rfl, hg5, hr5, hb5⟩; have hB5 := Below.later (HA1.out.alloc (by simp) _) hb5; obtain ⟨p0, p1⟩ := cells2 (Blk.later hbn hB5); have zA := Blk.later (Blk.new (n := w4.heap.size) w4.drew [.slice none 0 0, .int .i64 0] 87 rfl) hb5; obtain ⟨zA0, zA1⟩ := cells2 zA; have zf0 := Blk.free zA 0; have zf1 := Blk.free zA 1; have zl := Blk.lt zA; have q1 := hbn.lt; have q2 : ¬ w4.heap.size = w3.heap.size := (by omega); have q3 : ¬ w3.heap.size = w4.heap.size := (by omega)))
          all_goals (go_wp2_with fail)
          all_goals go_meet
          · exact ⟨_, g5, rfl, Blk.new w5 _ _ rfl, Blk.alloc hr5 _, hB5.alloc hB5.size _⟩
          · have hg6 : g5 ≠ w4.heap.size := by simp at hg5; omega
            exact ⟨_, g5, rfl, (zA.set 0 _).set 1 _, (Blk.other hr5 (a := ⟨w4.heap.size, 0, none⟩) hg6 _).other (a := ⟨w4.heap.size, 1, none⟩) hg6 _, (hB5.setCell (p := ⟨w4.heap.size, 0, none⟩) (Nat.le_refl _) _).setCell (p := ⟨w4.heap.size, 1, none⟩) (Nat.le_refl _) _⟩
        case rest =>
        obtain ⟨b, g5, rfl, hb5, hr5, hB5⟩ := hcut
        have hmap : (chosen l.length).map (num (tab l.length (nameOf (Sedge.three l) s4))) = (chosen l.length).map (nameOf (Sedge.three l) s4) := List.map_congr_left fun p hp => tab_num (mem_chosen.1 hp).1
        rw [hmap] at hr5
        have h3 : 3 ≤ l.length := by
          by_cases c : 3 ≤ l.length
          · exact c
          · have := kinds_short HS4.out HM4.out (by omega)
            rw [← HKN.out, HL4.out] at this
            exact absurd this HK.out
        have hlm : ((chosen l.length).map (nameOf (Sedge.three l) s4)).length = (chosen l.length).length := List.length_map _
        have C1 := HI.out ((chosen l.length).map (nameOf (Sedge.three l) s4)) (by rw [hlm]; exact chosen_less h3) (some ⟨g5, 0, none⟩) (chosen l.length).length kn wc (Row.sl hr5) (fun p hp => by
            rw [hlm] at hp
            have : num ((chosen l.length).map (nameOf (Sedge.three l) s4)) p = nameOf (Sedge.three l) s4 (num (chosen l.length) p) := by simp [num, List.getD, hp]
            rw [this, HKN.out]
            exact name_lt_kinds ((HM4.out _).2 (num_mem hp))) (by have := kinds_le (same := Sedge.three l) (o := s4); rw [← HKN.out, HL4.out] at this; omega) (by rw [hlm]; omega)
        rw [hlm] at C1
        have HC1 : Hid _ := C1
        have HLM : Hid _ := hlm
        obtain ⟨m0, m1⟩ := cells2 hb5
        have honc := own_later hon hB5
        have hBc := Below.later hBn hB5
        clear C1 hlm hmap n0 n1 hbn hrn hon hBn hB5 HA1 HCP
        go_wp2_with fail
        refine Calls.mono HC1.out ?_
        rintro e w6 ⟨v6, o6, rfl, ho6, hsa6, hb6⟩
        obtain ⟨ad6, c6, rfl, hS6⟩ := own_sl ho6
        obtain ⟨ad7, c7, e7, hS7⟩ := own_sl (own_later honc hb6)
        simp only [Value.slice.injEq, true_and] at e7
        obtain ⟨rfl, rfl⟩ := e7
        have C2 := pick_any adc ad6 (chosen l.length) o6 cc c6 w6 hS7 hS6 (fun k hk => by have := (hsa6.2 _).1 (num_mem hk); rw [HLM.out] at this; exact this) (by have := hsa6.length; rw [HLM.out] at this; omega) (by omega)
        have HC2 : Hid _ := C2
        have HSA : Hid _ := hsa6
        clear C2 hsa6 HC1 m0 m1 hb5 hr5
        go_wp2_with fail
        refine Calls.mono HC2.out ?_
        rintro e w8 ⟨g8, rfl, hg8, hr8, hb8⟩
        go_wp2
        go_ret
        have hch := chosen_by_row HS4.out HM4.out HSA.out
        refine ⟨_, _, _, by rw [List.length_map]; rfl, Row.sl hr8, hch.1, hch.2, by rw [List.length_map, IsSA.length HSA.out, HLM.out], Below.later (Below.later hBc hb6) hb8⟩
end Go.Proofs.Ytepklbboejnecaa
