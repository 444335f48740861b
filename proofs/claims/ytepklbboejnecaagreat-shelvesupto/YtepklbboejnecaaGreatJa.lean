/- Shelves: texts by their numbers in memory; where a number stands. -/
import Derived.Test.YtepklbboejnecaaGreatX
import Derived.Test.YtepklbboejnecaaGreatM
namespace Go.Proofs.YtepklbboejnecaaGreat
open Go.RowKit Go.Shelf Sedge
attribute [local go_sem ↓] Go.wp_at_zero Go.wp_at_succ

/-- Texts and their numbers, as cells. -/
def EV (bs : List Vol) : List Value := bs.flatMap fun p => [.int .i64 (p.1 : Nat), .string p.2]
theorem EV_append (a b : List Vol) : EV (a ++ b) = EV a ++ EV b := by simp [EV]
theorem EV_length (bs : List Vol) : (EV bs).length = bs.length * 2 := by
  induction bs with
  | nil => rfl
  | cons a r ih => simp only [EV, List.flatMap_cons, List.length_append, List.length_cons, List.length_nil] at ih ⊢; omega
theorem EV_at : ∀ (l : List Vol) (i : Nat) (h : i < l.length), (EV l)[i * 2]? = some (.int .i64 (l[i].1 : Nat)) ∧ (EV l)[i * 2 + 1]? = some (.string l[i].2)
  | e :: l, 0, _ => ⟨rfl, rfl⟩
  | e :: l, i + 1, h => by
    have ih := EV_at l i (by simpa using h)
    rw [show (i + 1) * 2 = i * 2 + 2 by omega]
    exact ih
theorem EV_one (l : List Vol) : ∀ u ∈ EV l, u.oneCell' = true := fun u hu => by
  unfold EV at hu
  obtain ⟨p, _, hp⟩ := List.mem_flatMap.1 hu
  simp at hp
  rcases hp with rfl | rfl <;> rfl
/-- A list of texts that is read. -/
def ES (w : World) (ad : Option Addr) (bs : List Vol) : Prop := ∀ k (h : k < bs.length), ∃ b o, ad = some ⟨b, o, none⟩ ∧ w.cell? ⟨b, o + k * 2, none⟩ = some (.int .i64 (bs[k].1 : Nat)) ∧ w.cell? ⟨b, o + k * 2 + 1, none⟩ = some (.string bs[k].2)
theorem ES.later {w w' : World} {ad : Option Addr} {l : List Vol} (h : ES w ad l) (hb : Below w.heap.size w w') : ES w' ad l := fun k hk => by
  obtain ⟨b, o, e, h1, h2⟩ := h k hk
  exact ⟨b, o, e, (hb.cell (cell_lt h1)).trans h1, (hb.cell (cell_lt h2)).trans h2⟩
theorem ES.own {w : World} {base : Nat} {e : TypeId} {v : Value} {l : List Vol} (h : w.ownsRow base e 2 v l.length (EV l)) : ∃ ad c, v = .slice ad l.length c ∧ ES w ad l := by
  rcases h.2 with ⟨rfl, h0⟩ | ⟨g, cap, cur, rfl, _⟩
  · exact ⟨none, 0, by rw [h0], fun k hk => by omega⟩
  · refine ⟨_, _, rfl, fun k hk => ⟨g, 0, rfl, ?_, ?_⟩⟩
    · rw [Nat.zero_add, h.cellAt (k * 2) (by omega)]; exact (EV_at l k hk).1
    · rw [Nat.zero_add, h.cellAt (k * 2 + 1) (by omega)]; exact (EV_at l k hk).2

/-- cmp.Compare of numbers. -/
def cmpI (a b : Int) : Int := if a < b then -1 else if b < a then 1 else 0
theorem isNaNJ_any (a : Int) (w : World) : Calls Tryz.prog 104 #[.int .i64 a] w fun e w' => e = .returned (.bool false) ∧ w' = w := by
  go_enter Tryz.func104, Tryz.ntmps104
  go_wp2
  go_ret
  exact ⟨rfl, rfl⟩
theorem cmpInt_any (a b : Int) (w : World) : Calls Tryz.prog 75 #[.int .i64 a, .int .i64 b] w fun e w' => e = .returned (.int .i64 (cmpI a b)) ∧ w' = w := by
  unfold cmpI
  by_cases h1 : a < b
  · rw [if_pos h1]
    go_enter Tryz.func75, Tryz.ntmps75
    go_wp2_with (first | (go_at_call 104; refine (isNaNJ_any _ _).mono ?_; rintro e w1 ⟨rfl, rfl⟩) | fail)
    go_ret
    exact ⟨rfl, rfl⟩
  · rw [if_neg h1]
    by_cases h2 : b < a
    · rw [if_pos h2]
      go_enter Tryz.func75, Tryz.ntmps75
      go_wp2_with (first | (go_at_call 104; refine (isNaNJ_any _ _).mono ?_; rintro e w1 ⟨rfl, rfl⟩) | fail)
      go_ret
      exact ⟨rfl, rfl⟩
    · rw [if_neg h2]
      go_enter Tryz.func75, Tryz.ntmps75
      go_wp2_with (first | (go_at_call 104; refine (isNaNJ_any _ _).mono ?_; rintro e w1 ⟨rfl, rfl⟩) | fail)
      go_ret
      exact ⟨rfl, rfl⟩
set_option maxHeartbeats 1000000 in
/-- The closure of 'seek'. -/
theorem seekC_any (n : Nat) (t : ByteArray) (id : Int) (w : World) : Calls Tryz.prog 94 #[.agg #[.int .i64 (n : Nat), .string t], .int .i64 id] w fun e w' => e = .returned (.int .i64 (cmpI n id)) ∧ Below w.heap.size w w' := by
  go_enter Tryz.func94, Tryz.ntmps94
  go_wp2_with (first | (go_at_call 75; refine (cmpInt_any _ _ _).mono ?_; rintro e w1 ⟨rfl, rfl⟩) | fail)
  go_ret
  exact ⟨rfl, (Below.refl _ _).alloc (Nat.le_refl _) _⟩

set_option maxHeartbeats 2000000 in
/-- slices.BinarySearchFunc, over that closure. -/
theorem bsearch_any (bs : List Vol) (hO : OKs bs) (ad : Option Addr) (c : Nat) (id : Int) (w : World) (hE : ES w ad bs) :
    Calls Tryz.prog 93 #[.slice ad bs.length c, .int .i64 id, .func (.func 94) #[] #[]] w fun e w' => e = .returned (.tuple #[.int .i64 (lb bs id : Nat), .bool (hasId bs id)]) ∧ Below w.heap.size w w' := by
  have hen : ∀ args w, Sem.run Tryz.prog (callFunc 94 args) w = .ok (.enter 94 args) w := enters_of Tryz.func94 (by kernel_rfl) rfl
  have hlen := hO.len
  have HO : Hid _ := hO
  have HE : Hid _ := hE
  clear hO hE
  go_enter Tryz.func93, Tryz.ntmps93
  go_wp2_with fail
  go_loopw [9, 10, 11] (fun iv jv hv wr => ∃ i j : Nat, i ≤ j ∧ j ≤ bs.length ∧ iv = .int .i64 i ∧ jv = .int .i64 j ∧ (∀ q (hq : q < bs.length), q < i → ((bs[q].1 : Nat) : Int) < id) ∧ (∀ q (hq : q < bs.length), j ≤ q → id ≤ ((bs[q].1 : Nat) : Int)) ∧ Below w.heap.size w wr) (fun iv jv _ _ => (intOf jv).toNat - (intOf iv).toNat)
  case atStart => exact ⟨0, bs.length, Nat.zero_le _, Nat.le_refl _, rfl, rfl, fun q _ hq => by omega, fun q h1 h2 => by omega, Below.refl _ _⟩
  case round =>
    obtain ⟨i, j, hij, hj, rfl, rfl, hlo, hhi, hb⟩ := hrel
    have HLO : Hid _ := hlo
    have HHI : Hid _ := hhi
    clear hlo hhi
    by_cases hlt : i < j
    · have i1 : (i : Int) < (j : Int) := by omega
      obtain ⟨h, hh⟩ : ∃ h, h = (i + j) / 2 := ⟨_, rfl⟩
      have v1 : IntKind.i64.wrap ((i : Int) + (j : Int)) = (i : Int) + (j : Int) := by rw [IntKind.wrap_i64]; omega
      have hh1 : i ≤ h ∧ h < j := by omega
      obtain ⟨b, o, rfl, c0, c1⟩ := HE.out h (by omega)
      have d0 := (hb.cell (cell_lt c0)).trans c0
      have d1 := (hb.cell (cell_lt c1)).trans c1
      have hbl : h < bs.length := by omega
      obtain ⟨p, hp⟩ : ∃ p, p = bs[h]'hbl := ⟨_, rfl⟩
      have HP : Hid _ := hp
      rw [← hp] at d0 d1
      have eh : ((i : Int) + (j : Int)) / 2 = (h : Int) := by omega
      clear c0 c1 hp hh
      have i2 : (h : Int) < (bs.length : Int) := by omega
      have i3 : (0 : Int) ≤ (h : Int) := by omega
      have C := seekC_any p.1 p.2 id wr
      have HC : Hid _ := C
      clear C
      by_cases hc : ((p.1 : Nat) : Int) < id
      · have v2 : IntKind.i64.wrap ((h : Int) + 1) = (h : Int) + 1 := by rw [IntKind.wrap_i64]; omega
        have ec : cmpI p.1 id = -1 := by unfold cmpI; rw [if_pos hc]
        go_wp2_with (first | (go_at_fn 94; refine Calls.mono HC.out ?_; rintro e w2 ⟨rfl, hb2⟩; rw [ec]) | fail)
        go_roundw
        case rel =>
          refine ⟨h + 1, j, by omega, hj, by go_num, rfl, fun q hq hq' => ?_, HHI.out, Below.later hb hb2⟩
          by_cases e : q = h
          · subst e; rw [HP.out] at hc; exact hc
          · have := OKs.lt HO.out hq (show h < bs.length by omega) (by omega)
            rw [HP.out] at hc; omega
        case measure => simp [intOf]; omega
      · have ec : ∃ r : Int, cmpI p.1 id = r ∧ ¬ r < 0 := by
          refine ⟨_, rfl, ?_⟩
          unfold cmpI; rw [if_neg hc]; split <;> omega
        obtain ⟨r, ec, er⟩ := ec
        go_wp2_with (first | (go_at_fn 94; refine Calls.mono HC.out ?_; rintro e w2 ⟨rfl, hb2⟩; rw [ec]) | fail)
        go_roundw
        case rel =>
          refine ⟨i, h, by omega, by omega, rfl, rfl, HLO.out, fun q hq hq' => ?_, Below.later hb hb2⟩
          by_cases e : q = h
          · subst e; rw [HP.out] at hc; omega
          · have := OKs.lt HO.out (show h < bs.length by omega) hq (by omega)
            rw [HP.out] at hc; omega
        case measure => simp [intOf]; omega
    · have e : i = j := by omega
      subst e
      have i1 : ¬ (i : Int) < (i : Int) := by omega
      have el : lb bs id = i := lb_is hj (fun t ht h => HLO.out t ht h) (fun ht => by have := HHI.out i ht (Nat.le_refl _); omega)
      have hf := OKs.found (id := id) HO.out
      have HEL : Hid _ := el
      by_cases hn : i < bs.length
      · obtain ⟨b, o, rfl, c0, c1⟩ := HE.out i hn
        have d0 := (hb.cell (cell_lt c0)).trans c0
        have d1 := (hb.cell (cell_lt c1)).trans c1
        have hf2 : hasId bs id = decide (((bs[i].1 : Nat) : Int) = id) := by
          cases hq : decide (((bs[i].1 : Nat) : Int) = id) with
          | true => exact hf.2 ⟨by omega, by simp only [el]; exact of_decide_eq_true hq⟩
          | false =>
            refine Bool.eq_false_iff.2 fun q => ?_
            obtain ⟨_, q⟩ := hf.1 q
            simp only [el] at q
            exact absurd q (of_decide_eq_false hq)
        have hge := HHI.out i hn (Nat.le_refl _)
        generalize bs[i] = p at d0 d1 hge hf2
        have HF2 : Hid _ := hf2
        have i2 : (i : Int) < (bs.length : Int) := by omega
        have i3 : (0 : Int) ≤ (i : Int) := by omega
        have C := seekC_any p.1 p.2 id wr
        have HC : Hid _ := C
        clear C c0 c1 hf hf2 el
        by_cases hc : ((p.1 : Nat) : Int) = id
        · have ec : cmpI p.1 id = 0 := by unfold cmpI; rw [if_neg (by omega), if_neg (by omega)]
          have HF3 : Hid (hasId bs id = true) := HF2.out.trans (decide_eq_true hc)
          clear hc
          go_wp2_with (first | (go_at_fn 94; refine Calls.mono HC.out ?_; rintro e w2 ⟨rfl, hb2⟩; rw [ec]) | fail)
          go_ret2
          exact ⟨by rw [HEL.out, HF3.out]; rfl, Below.later hb hb2⟩
        · have ec : cmpI p.1 id = 1 := by unfold cmpI; rw [if_neg (by omega), if_pos (by omega)]
          have HF3 : Hid (hasId bs id = false) := HF2.out.trans (decide_eq_false hc)
          clear hc
          go_wp2_with (first | (go_at_fn 94; refine Calls.mono HC.out ?_; rintro e w2 ⟨rfl, hb2⟩; rw [ec]) | fail)
          go_ret2
          exact ⟨by rw [HEL.out, HF3.out]; rfl, Below.later hb hb2⟩
      · have hf2 : hasId bs id = false := Bool.eq_false_iff.2 fun q => by obtain ⟨q, _⟩ := hf.1 q; omega
        have HF3 : Hid _ := hf2
        have i2 : ¬ (i : Int) < (bs.length : Int) := by omega
        clear hf hf2 el
        go_wp2
        go_ret2
        exact ⟨by rw [HEL.out, HF3.out]; rfl, hb⟩

/-- A shelf's texts, as a value. -/
def txv (ad : Option Addr) (n c : Nat) : Value := .agg #[.slice ad n c]
set_option maxHeartbeats 1000000 in
theorem seek_any (bs : List Vol) (hO : OKs bs) (ad : Option Addr) (c : Nat) (id : Int) (w : World) (hE : ES w ad bs) :
    Calls Tryz.prog 58 #[txv ad bs.length c, .int .i64 id] w fun e w' => e = .returned (.tuple #[.int .i64 (lb bs id : Nat), .bool (hasId bs id)]) ∧ Below w.heap.size w w' := by
  have hb0 : Below w.heap.size w (w.alloc (Obj.cells #[.slice ad bs.length c] 90)) := (Below.refl _ _).alloc (Nat.le_refl _) _
  have C := bsearch_any bs hO ad c id _ (hE.later hb0)
  have HC : Hid _ := C
  clear C
  unfold txv
  go_enter Tryz.func58, Tryz.ntmps58
  go_wp2_with fail
  refine Calls.mono HC.out ?_
  rintro e w2 ⟨rfl, hb2⟩
  go_wp2
  go_ret2
  exact ⟨rfl, Below.later hb0 hb2⟩
set_option maxHeartbeats 1000000 in
theorem Has_any (bs : List Vol) (hO : OKs bs) (ad : Option Addr) (c : Nat) (id : Int) (w : World) (hE : ES w ad bs) :
    Calls Tryz.prog 39 #[txv ad bs.length c, .int .i64 id] w fun e w' => e = .returned (.bool (hasId bs id)) ∧ Below w.heap.size w w' := by
  have hb0 : Below w.heap.size w (w.alloc (Obj.cells #[.slice ad bs.length c] 90)) := (Below.refl _ _).alloc (Nat.le_refl _) _
  have C := seek_any bs hO ad c id _ (hE.later hb0)
  have HC : Hid _ := C
  clear C
  unfold txv at HC ⊢
  go_enter Tryz.func39, Tryz.ntmps39
  go_wp2_with fail
  refine Calls.mono HC.out ?_
  rintro e w2 ⟨rfl, hb2⟩
  go_wp2
  go_ret
  exact ⟨rfl, Below.later hb0 hb2⟩
theorem Count_any (n : Nat) (ad : Option Addr) (c : Nat) (w : World) :
    Calls Tryz.prog 40 #[txv ad n c] w fun e w' => e = .returned (.int .i64 (n : Nat)) ∧ Below w.heap.size w w' := by
  unfold txv
  go_enter Tryz.func40, Tryz.ntmps40
  go_wp2
  go_ret
  exact ⟨rfl, (Below.refl _ _).alloc (Nat.le_refl _) _⟩
end Go.Proofs.YtepklbboejnecaaGreat
