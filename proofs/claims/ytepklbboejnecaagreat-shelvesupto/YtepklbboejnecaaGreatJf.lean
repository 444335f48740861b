/- Shelves: in which texts a pattern stands most often. -/
import Derived.Test.YtepklbboejnecaaGreatJe
namespace Go.Proofs.YtepklbboejnecaaGreat
open Go.RowKit Go.Shelf Sedge
attribute [local go_sem ↓] Go.wp_at_zero Go.wp_at_succ

set_option maxHeartbeats 1000000 in
theorem isort_none (v : Value) (a b : Nat) (h : b ≤ a + 1) (ha : a ≤ 100) (w : World) :
    Calls Tryz.prog 134 #[v, .int .i64 a, .int .i64 b, .func (.func 74) #[] #[]] w fun e w' => e = .returned (.tuple #[]) ∧ w' = w := by
  have i1 : ¬ (a : Int) + 1 < (b : Int) := by omega
  have v1 : IntKind.i64.wrap ((a : Int) + 1) = (a : Int) + 1 := by rw [IntKind.wrap_i64]; omega
  go_enter Tryz.func134, Tryz.ntmps134
  go_wp2_with fail
  go_loopw [8, 9] (fun iv _ wr => iv = .int .i64 ((a : Int) + 1) ∧ wr = w) (fun _ _ _ => 0)
  case atStart => exact ⟨rfl, rfl⟩
  case round =>
    obtain ⟨rfl, hw⟩ := hrel
    subst hw
    go_wp2
    go_end0
    exact ⟨rfl, rfl⟩
/-- The same, of no element too. -/
theorem isort_all (X : List (Nat × Nat)) (ad : Option Addr) (c base : Nat) (w : World) (hown : w.ownsRow base 141 2 (.slice ad X.length c) X.length (HN X)) (hX : X.Pairwise fun a b => a.1 < b.1) (hn' : X.length ≤ 20) (hbase : base ≤ w.heap.size) :
    Calls Tryz.prog 134 #[.slice ad X.length c, .int .i64 0, .int .i64 X.length, .func (.func 74) #[] #[]] w fun e w' => e = .returned (.tuple #[]) ∧ (∃ L, L.Perm X ∧ L.Pairwise Bf ∧ w'.ownsRow base 141 2 (.slice ad X.length c) X.length (HN L)) ∧ Below base w w' := by
  by_cases hn : 0 < X.length
  · rcases own_form hown with ⟨_, h0⟩ | ⟨g, c', e⟩
    · omega
    · simp only [Value.slice.injEq, true_and] at e
      obtain ⟨rfl, rfl⟩ := e
      exact isort_any X g c base w hown hX hn hn' hbase
  · have e : X = [] := List.eq_nil_of_length_eq_zero (by omega)
    subst e
    refine (isort_none _ 0 0 (by omega) (by omega) w).mono ?_
    rintro e w' ⟨rfl, rfl⟩
    exact ⟨rfl, ⟨[], List.Perm.refl _, List.Pairwise.nil, hown⟩, Below.refl _ _⟩

set_option maxRecDepth 20000 in
set_option maxHeartbeats 2000000 in
theorem stable_any (X : List (Nat × Nat)) (ad : Option Addr) (c base : Nat) (w : World) (hown : w.ownsRow base 141 2 (.slice ad X.length c) X.length (HN X)) (hX : X.Pairwise fun a b => a.1 < b.1) (hn' : X.length ≤ 20) (hbase : base ≤ w.heap.size) :
    Calls Tryz.prog 103 #[.slice ad X.length c, .int .i64 X.length, .func (.func 74) #[] #[]] w fun e w' => e = .returned (.tuple #[]) ∧ (∃ L, L.Perm X ∧ L.Pairwise Bf ∧ w'.ownsRow base 141 2 (.slice ad X.length c) X.length (HN L)) ∧ Below base w w' := by
  have C := isort_all X ad c base w hown hX hn' hbase
  have HC : Hid _ := C
  have C2 := fun W => isort_none (.slice ad X.length c) 20 X.length (by omega) (by omega) W
  have HC2 : Hid _ := C2
  clear C C2 hX hown
  go_enter Tryz.func103, Tryz.ntmps103
  go_wp2_with fail
  go_loopw [7, 8] (fun av bv wr => (av = .int .i64 0 ∧ bv = .int .i64 20 ∧ wr = w) ∨ (X.length = 20 ∧ av = .int .i64 20 ∧ bv = .int .i64 40 ∧ (∃ L, L.Perm X ∧ L.Pairwise Bf ∧ wr.ownsRow base 141 2 (.slice ad X.length c) X.length (HN L)) ∧ Below base w wr)) (fun _ bv _ => 100 - (intOf bv).toNat)
  case atStart => exact .inl ⟨rfl, rfl, rfl⟩
  case round =>
    have hend : ∀ (wx : World), (∃ L, L.Perm X ∧ L.Pairwise Bf ∧ wx.ownsRow base 141 2 (.slice ad X.length c) X.length (HN L)) ∧ Below base w wx → (∃ L, L.Perm X ∧ L.Pairwise Bf ∧ wx.ownsRow base 141 2 (.slice ad X.length c) X.length (HN L)) ∧ Below base w wx := fun _ h => h
    clear hend
    rcases hrel with ⟨rfl, rfl, hw⟩ | ⟨h20, rfl, rfl, hL⟩
    · subst hw
      by_cases h20 : 20 ≤ X.length
      · have e20 : X.length = 20 := by omega
        have i1 : (20 : Int) ≤ (X.length : Int) := by omega
        have HC' : Hid (Calls Tryz.prog 134 #[.slice ad X.length c, .int .i64 0, .int .i64 20, .func (.func 74) #[] #[]] wr fun e w' => e = .returned (.tuple #[]) ∧ (∃ L, L.Perm X ∧ L.Pairwise Bf ∧ w'.ownsRow base 141 2 (.slice ad X.length c) X.length (HN L)) ∧ Below base wr w') := by
          have h := HC.out
          have e : (20 : Int) = ((X.length : Nat) : Int) := by omega
          unfold Hid
          rw [e]
          exact h
        have HE : Hid _ := e20
        clear e20
        go_wp2_with fail
        refine Calls.mono HC'.out ?_
        rintro e w1 ⟨rfl, hL⟩
        have HL : Hid _ := hL
        clear hL
        go_wp2
        go_roundw
        case rel => exact .inr ⟨HE.out, rfl, rfl, HL.out⟩
        case measure => simp [intOf]
      · have i1 : ¬ (20 : Int) ≤ (X.length : Int) := by omega
        have i2 : ¬ (20 : Int) < (X.length : Int) := by omega
        go_wp2_with fail
        refine Calls.mono HC.out ?_
        rintro e w1 ⟨rfl, hL⟩
        have HL : Hid _ := hL
        clear hL
        go_wp2_with fail
        go_loopw [6, 7, 8, 9] (fun sv _ _ _ wr => sv = .int .i64 20 ∧ wr = w1) (fun _ _ _ _ _ => 0)
        case atStart => exact ⟨rfl, rfl⟩
        case round =>
          obtain ⟨rfl, hw⟩ := hrel
          subst hw
          go_wp2
          go_end0
          exact ⟨rfl, HL.out⟩
    · have i1 : ¬ (40 : Int) ≤ (X.length : Int) := by omega
      have i2 : ¬ (20 : Int) < (X.length : Int) := by omega
      have HL : Hid _ := hL
      have HE : Hid _ := h20
      obtain ⟨wo, hwo⟩ : ∃ wo, wo = wr := ⟨_, rfl⟩
      subst hwo
      clear hL h20
      go_wp2_with fail
      refine Calls.mono (HC2.out wo) ?_
      rintro e w1 ⟨rfl, rfl⟩
      go_wp2_with fail
      go_loopw [6, 7, 8, 9] (fun sv _ _ _ wr => sv = .int .i64 20 ∧ wr = w1) (fun _ _ _ _ _ => 0)
      case atStart => exact ⟨rfl, rfl⟩
      case round =>
        obtain ⟨rfl, hw⟩ := hrel
        subst hw
        go_wp2
        go_end0
        exact ⟨rfl, HL.out⟩
set_option maxHeartbeats 1000000 in
/-- slices.SortStableFunc. -/
theorem sortStable_any (X : List (Nat × Nat)) (ad : Option Addr) (c base : Nat) (w : World) (hown : w.ownsRow base 141 2 (.slice ad X.length c) X.length (HN X)) (hX : X.Pairwise fun a b => a.1 < b.1) (hn' : X.length ≤ 20) (hbase : base ≤ w.heap.size) :
    Calls Tryz.prog 73 #[.slice ad X.length c, .func (.func 74) #[] #[]] w fun e w' => e = .returned (.tuple #[]) ∧ (∃ L, L.Perm X ∧ L.Pairwise Bf ∧ w'.ownsRow base 141 2 (.slice ad X.length c) X.length (HN L)) ∧ Below base w w' := by
  have C := stable_any X ad c base w hown hX hn' hbase
  have HC : Hid _ := C
  clear C hX hown
  go_enter Tryz.func73, Tryz.ntmps73
  go_wp2_with fail
  refine Calls.mono HC.out ?_
  rintro e w1 ⟨rfl, hL⟩
  have HL : Hid _ := hL
  clear hL
  go_wp2
  go_end0
  exact ⟨rfl, HL.out⟩

/-- What Top tells. -/
def topL (L : List (Nat × Nat)) (n : Int) : List Nat := (L.take n.toNat).map (·.1)
theorem own_pair {w : World} {base : Nat} {e : TypeId} {v : Value} {l : List (Nat × Nat)} (h : w.ownsRow base e 2 v l.length (HN l)) {i : Nat} (hi : i < l.length) : ∃ g c, v = .slice (some ⟨g, 0, none⟩) l.length c ∧ w.cell? ⟨g, i * 2, none⟩ = some (.int .i64 (l[i].1 : Nat)) ∧ w.cell? ⟨g, i * 2 + 1, none⟩ = some (.int .i64 (l[i].2 : Nat)) := by
  rcases h.2 with ⟨_, h0⟩ | ⟨g, cap, cur, rfl, _⟩
  · omega
  · refine ⟨g, cap, rfl, ?_, ?_⟩
    · rw [h.cellAt (i * 2) (by omega)]; exact (HN_at l i hi).1
    · rw [h.cellAt (i * 2 + 1) (by omega)]; exact (HN_at l i hi).2
theorem cnts_up {bs : List Vol} (h : OKs bs) (pat : ByteArray) : (cnts pat bs).Pairwise fun a b => a.1 < b.1 := List.pairwise_map.2 h.up
theorem scL_up {bs : List Vol} (h : OKs bs) (pat : ByteArray) : (scL pat bs).Pairwise fun a b => a.1 < b.1 := (cnts_up h pat).sublist List.filter_sublist

set_option maxRecDepth 20000 in
set_option maxHeartbeats 2000000 in
/-- 'Top' of texts. -/
theorem tTop_any (bs : List Vol) (hO : OKs bs) (ad : Option Addr) (c : Nat) (pat : ByteArray) (n : Int) (w : World) (hE : ES w ad bs) (hp : pat.size ≤ 1000) (hq : 0 < pat.size) (hN : -9223372036854775808 ≤ n ∧ n ≤ 9223372036854775807) :
    Calls Tryz.prog 52 #[txv ad bs.length c, .string pat, .int .i64 n] w fun e w' => ∃ v L, e = .returned v ∧ Tops (cnts pat bs) L ∧ w'.ownsRow w.heap.size 3 1 v (topL L n).length (IV (topL L n)) ∧ Below w.heap.size w w' := by
  have hb0 : Below w.heap.size w (w.alloc (Obj.cells #[.slice ad bs.length c] 90)) := (Below.refl _ _).alloc (Nat.le_refl _) _
  have C := scores_any bs hO ad c pat _ (hE.later hb0) hp hq
  have hup := scL_up hO pat
  have hsl := scL_len pat bs
  have hlen := hO.len
  have hcu := cnts_up hO pat
  have HC : Hid _ := C
  have HCU : Hid _ := hcu
  have HUP : Hid _ := hup
  have HSD : Hid (scL pat bs = (cnts pat bs).filter fun p => decide (0 < p.2)) := rfl
  clear C hcu hup hO hE
  unfold txv at HC ⊢
  generalize scL pat bs = X at HC HUP HSD hsl
  go_enter Tryz.func52, Tryz.ntmps52
  go_wp2_with fail
  refine Calls.mono HC.out ?_
  rintro e w1 ⟨v, rfl, hown, hb1⟩
  obtain ⟨ad1, c1, rfl⟩ := own_val hown
  have hs1 := hb1.size
  have hB1 := Below.later hb0 hb1
  have hcap := capE_own hown
  have CS := sortStable_any X ad1 c1 w.heap.size w1 (own_dnJ hown hb0.size) HUP.out (by omega) hB1.size
  have HCS : Hid _ := CS
  have HB1 : Hid _ := hB1
  clear CS hown hb1 hB1 HC
  go_wp2_with fail
  refine Calls.mono HCS.out ?_
  rintro e w2 ⟨rfl, ⟨L, hperm, hsrt, hown⟩, hb2⟩
  have hLl : L.length = X.length := hperm.length_eq
  have HT : Hid (Tops (cnts pat bs) L) := ⟨HCU.out, by rw [← HSD.out]; exact hperm, hsrt⟩
  have HB2 : Hid _ := Below.trans HB1.out hb2
  have hs2 := Below.size HB2.out
  rw [← hLl] at hown
  have HOW : Hid _ := hown
  have HLL : Hid _ := hLl
  have hLn : X.length = L.length := hLl.symm
  rw [hLn] at *
  obtain ⟨m, hm⟩ : ∃ m, m = min n.toNat L.length := ⟨_, rfl⟩
  have HTL : Hid (topL L n = (L.take m).map (·.1)) := by unfold Hid topL; rw [hm]; congr 1; rw [List.take_eq_take_iff]; omega
  have hmL : m ≤ L.length := by omega
  have i1 : min (max n 0) (L.length : Int) = (m : Int) := by omega
  clear hm hb2 hperm hsrt HCS HSD HCU HUP hown
  rcases hcap with ⟨rfl, h0, rfl⟩ | ⟨g, rfl, hc1, hc2⟩
  · have hm0 : m = 0 := by omega
    subst hm0
    go_wp2_with fail
    go_loopw [8, 10, 24] (fun v _ iv wr => v = .slice none 0 0 ∧ iv = .int .i64 0 ∧ wr = w2) (fun _ _ _ _ => 0)
    case atStart => exact ⟨rfl, rfl, rfl⟩
    case round =>
      obtain ⟨rfl, rfl, hw⟩ := hrel
      subst hw
      go_wp2
      go_ret
      exact ⟨_, L, rfl, HT.out, by rw [HTL.out]; exact World.ownsRow_nil _ _ _ _, HB2.out⟩
  · have i2 : (m : Int) ≤ (c1 : Int) := by omega
    have i3 : (0 : Int) ≤ (m : Int) := by omega
    go_wp2_with fail
    go_loopw [8, 10, 24] (fun v _ iv wr => ∃ k : Nat, k ≤ m ∧ iv = .int .i64 k ∧ wr.ownsRow w2.heap.size 3 1 v ((L.take k).map (·.1)).length (IV ((L.take k).map (·.1))) ∧ Below w2.heap.size w2 wr) (fun _ _ iv _ => m - (intOf iv).toNat)
    case atStart => exact ⟨0, Nat.zero_le _, rfl, World.ownsRow_nil _ _ _ _, Below.refl _ _⟩
    case round =>
      obtain ⟨k, hk, rfl, hown, hb⟩ := hrel
      have hws := hb.size
      by_cases hlt : k < m
      · have hkL : k < L.length := by omega
        obtain ⟨g', c', e', d0, d1⟩ := own_pair HOW.out hkL
        simp only [Value.slice.injEq, Option.some.injEq, Addr.mk.injEq, and_true, true_and] at e'
        obtain ⟨rfl, rfl⟩ := e'
        have x0 := (hb.cell (cell_lt d0)).trans d0
        have x1 := (hb.cell (cell_lt d1)).trans d1
        have HTS : Hid ((L.take (k + 1)).map (·.1) = (L.take k).map (·.1) ++ [L[k].1]) := by unfold Hid; rw [List.take_add_one, List.getElem?_eq_getElem hkL, List.map_append]; rfl
        have HTk : Hid (((L.take k).map (·.1)).length = k) := by unfold Hid; rw [List.length_map, List.length_take]; omega
        generalize L[k] = y at x0 x1 HTS
        have HOK : Hid _ := hown
        have i4 : (k : Int) < (m : Int) := by omega
        have i5 : (0 : Int) ≤ (k : Int) := by omega
        clear d0 d1 hown
        generalize (L.take k).map (·.1) = A at HTS HTk HOK
        have hAl : A.length ≤ 1000 := by rw [HTk.out]; omega
        go_wp2_with (first | (at_builtin; refine wpList_push _ rfl _ _ rfl w2.heap.size _ A rfl (World.ownsRow.alloc (World.ownsRow.alloc HOK.out _) _) ⟨wr.heap.size + 1, 0, none⟩ y.1 rfl (by simp) (by omega) (by simp; omega) ?_; intro v' w3 hown3 hb4) | fail)
        go_roundw
        case rel => exact ⟨k + 1, by omega, by go_num, by rw [HTS.out]; exact hown3, ((hb.alloc (by omega) _).alloc (by simp; omega) _).trans hb4⟩
        case measure => simp [intOf]; omega
      · have ek : k = m := by omega
        subst ek
        have i4 : ¬ (k : Int) < (k : Int) := by omega
        have HOK : Hid _ := hown
        clear hown
        go_wp2
        go_ret
        exact ⟨_, rfl, L, HT.out, by rw [HTL.out]; exact own_mono HOK.out hs2, Below.trans HB2.out (Below.mono hb hs2)⟩
end Go.Proofs.YtepklbboejnecaaGreat
