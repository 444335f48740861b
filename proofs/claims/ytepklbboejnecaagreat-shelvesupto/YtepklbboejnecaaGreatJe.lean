/- Shelves: sorting by counts. -/
import Derived.Test.YtepklbboejnecaaGreatJd
import Derived.Test.YtepklbboejnecaaGreatM
namespace Go.Proofs.YtepklbboejnecaaGreat
open Go.RowKit Go.Shelf Sedge
attribute [local go_sem ↓] Go.wp_at_zero Go.wp_at_succ

set_option maxHeartbeats 1000000 in
/-- The closure of 'Top'. -/
theorem topC_any (a b : Nat × Nat) (w : World) : Calls Tryz.prog 74 #[.agg #[.int .i64 (a.1 : Nat), .int .i64 (a.2 : Nat)], .agg #[.int .i64 (b.1 : Nat), .int .i64 (b.2 : Nat)]] w fun e w' => e = .returned (.int .i64 (cmpI b.2 a.2)) ∧ Below w.heap.size w w' := by
  go_enter Tryz.func74, Tryz.ntmps74
  go_wp2_with (first | (go_at_call 75; refine (cmpInt_any _ _ _).mono ?_; rintro e w1 ⟨rfl, rfl⟩) | fail)
  go_ret
  exact ⟨rfl, ((Below.refl _ _).alloc (Nat.le_refl _) _).alloc (by simp) _⟩
theorem HN_set (l : List (Nat × Nat)) (j : Nat) (p : Nat × Nat) (hj : j < l.length) : ((HN l).set (j * 2) (.int .i64 (p.1 : Nat))).set (j * 2 + 1) (.int .i64 (p.2 : Nat)) = HN (l.set j p) := by
  induction l generalizing j with
  | nil => simp at hj
  | cons a r ih =>
    cases j with
    | zero => simp [HN]
    | succ j =>
      have := ih j (by simpa using hj)
      unfold HN at this ⊢
      rw [show (j + 1) * 2 = j * 2 + 2 by omega]
      simp only [List.flatMap_cons, List.set_cons_succ]
      rw [List.set_append_right _ _ (by simp), List.set_append_right _ _ (by simp)]
      simp only [List.length_cons, List.length_nil]
      rw [show j * 2 + 2 - (0 + 1 + 1) = j * 2 by omega, show j * 2 + 2 + 1 - (0 + 1 + 1) = j * 2 + 1 by omega, this]
/-- What lies in a row while an element moves to its place. -/
def mv (S : List (Nat × Nat)) (x : Nat × Nat) (R : List (Nat × Nat)) (j : Nat) : List (Nat × Nat) := S.take j ++ x :: S.drop j ++ R
theorem mv_length (S : List (Nat × Nat)) (x : Nat × Nat) (R : List (Nat × Nat)) {j : Nat} (hj : j ≤ S.length) : (mv S x R j).length = S.length + 1 + R.length := by simp [mv]; omega
theorem mv_x {S : List (Nat × Nat)} {x : Nat × Nat} {R : List (Nat × Nat)} {j : Nat} (hj : j ≤ S.length) : (mv S x R j)[j]? = some x := by
  unfold mv
  rw [List.append_assoc, List.getElem?_append_right (by simp; omega)]
  simp [Nat.min_eq_left hj]
theorem mv_left {S : List (Nat × Nat)} {x : Nat × Nat} {R : List (Nat × Nat)} {j : Nat} (hj : j < S.length) : (mv S x R (j + 1))[j]? = some S[j] := by
  unfold mv
  rw [List.append_assoc, List.getElem?_append_left (by simp; omega), List.getElem?_take, if_pos (by omega), List.getElem?_eq_getElem hj]
theorem mv_swap {S : List (Nat × Nat)} {x : Nat × Nat} {R : List (Nat × Nat)} {j : Nat} (hj : j < S.length) : ((mv S x R (j + 1)).set (j + 1) S[j]).set j x = mv S x R j := by
  have e1 : S.drop j = S[j] :: S.drop (j + 1) := List.drop_eq_getElem_cons hj
  have e2 : S.take (j + 1) = S.take j ++ [S[j]] := by rw [List.take_add_one, List.getElem?_eq_getElem hj]; rfl
  have l1 : (S.take j).length = j := by rw [List.length_take]; omega
  unfold mv
  rw [e1, e2]
  simp only [List.append_assoc, List.cons_append, List.nil_append]
  rw [List.set_append_right _ _ (by omega), List.set_append_right _ _ (by omega), l1]
  rw [show j + 1 - j = 1 by omega, show j - j = 0 by omega]
  rfl
theorem mv_top {S : List (Nat × Nat)} {x : Nat × Nat} {R : List (Nat × Nat)} : mv S x R S.length = S ++ x :: R := by simp [mv]

theorem own_frD {w : World} {base : Nat} {e : TypeId} {s n : Nat} {v : Value} {xs : List Value} (h : w.ownsRow base e s v n xs) (k : Nat) : (w.drewN k).ownsRow base e s v n xs := own_fr h (Fr.drewN w k) (fun _ _ _ h => by cases h)

set_option maxRecDepth 20000 in
set_option maxHeartbeats 1000000 in
/-- slices.insertionSortCmpFunc, of a whole row. -/
theorem isort_any (X : List (Nat × Nat)) (g c base : Nat) (w : World) (hown : w.ownsRow base 141 2 (.slice (some ⟨g, 0, none⟩) X.length c) X.length (HN X)) (hX : X.Pairwise fun a b => a.1 < b.1) (hn : 0 < X.length) (hn' : X.length ≤ 20) (hbase : base ≤ w.heap.size) :
    Calls Tryz.prog 134 #[.slice (some ⟨g, 0, none⟩) X.length c, .int .i64 0, .int .i64 X.length, .func (.func 74) #[] #[]] w fun e w' => e = .returned (.tuple #[]) ∧ (∃ L, L.Perm X ∧ L.Pairwise Bf ∧ w'.ownsRow base 141 2 (.slice (some ⟨g, 0, none⟩) X.length c) X.length (HN L)) ∧ Below base w w' := by
  have hen : ∀ args w, Sem.run Tryz.prog (callFunc 74 args) w = .ok (.enter 74 args) w := enters_of Tryz.func74 (by kernel_rfl) rfl
  have HX : Hid _ := hX
  have HW : Hid _ := hown
  clear hX hown
  go_enter Tryz.func134, Tryz.ntmps134
  go_wp2_with fail
  go_loopw [8, 9] (fun iv _ wr => ∃ (i : Nat) (S : List (Nat × Nat)), 1 ≤ i ∧ i ≤ X.length ∧ iv = .int .i64 i ∧ S.Perm (X.take i) ∧ S.Pairwise Bf ∧ wr.ownsRow base 141 2 (.slice (some ⟨g, 0, none⟩) X.length c) X.length (HN (S ++ X.drop i)) ∧ Below base w wr) (fun iv _ _ => X.length - (intOf iv).toNat)
  case atStart =>
    refine ⟨1, X.take 1, Nat.le_refl _, by omega, rfl, List.Perm.refl _, ?_, by rw [List.take_append_drop]; exact HW.out, Below.refl _ _⟩
    match X, hn with
    | x :: r, _ => simp
  case round =>
    clear HW
    obtain ⟨i, S, hi1, hi, rfl, hperm, hsrt, hown, hb⟩ := hrel
    have HP : Hid _ := hperm
    have HS : Hid _ := hsrt
    have hSl : S.length = i := by rw [hperm.length_eq, List.length_take]; omega
    have HSL : Hid _ := hSl
    clear hperm hsrt hSl
    by_cases hlt : i < X.length
    · have hd : X.drop i = X[i] :: X.drop (i + 1) := List.drop_eq_getElem_cons hlt
      rw [hd, ← mv_top, HSL.out] at hown
      have HID : Hid (∀ p ∈ S, p.1 < (X[i]).1) := fun p hp => by
        have := HP.out.subset hp
        obtain ⟨k, hk, rfl⟩ := List.getElem_of_mem this
        rw [List.length_take] at hk
        rw [List.getElem_take]
        exact List.pairwise_iff_getElem.1 HX.out k i (by omega) hlt (by omega)
      have HPX : Hid (∀ j, j ≤ i → (S.take j ++ X[i] :: S.drop j).Perm (X.take (i + 1))) := fun j hj => by
        rw [List.take_add_one, List.getElem?_eq_getElem hlt]
        refine (List.perm_middle).trans ?_
        rw [List.take_append_drop]
        exact (List.Perm.cons _ HP.out).trans (List.perm_append_singleton _ _).symm
      have hRl : (X.drop (i + 1)).length = X.length - (i + 1) := List.length_drop
      generalize X[i] = x at hown HID HPX
      obtain ⟨R, hR⟩ : ∃ R, R = X.drop (i + 1) := ⟨_, rfl⟩
      rw [← hR] at hown hRl
      have HR : Hid _ := hR
      have HRL : Hid _ := hRl
      have HOW : Hid _ := hown
      have i1 : (i : Int) < (X.length : Int) := by omega
      clear hd hR hRl hown
      obtain ⟨wo, hwo⟩ : ∃ wo, wo = wr := ⟨_, rfl⟩
      subst hwo
      have HBo : Hid _ := hb
      clear hb
      go_wp2_with fail
      go_loopw [9] (fun jv wr => ∃ j : Nat, j ≤ i ∧ jv = .int .i64 j ∧ (∀ k (hk : k < S.length), j ≤ k → S[k].2 < x.2) ∧ wr.ownsRow base 141 2 (.slice (some ⟨g, 0, none⟩) X.length c) X.length (HN (mv S x R j)) ∧ Below base w wr) (fun jv _ => (intOf jv).toNat)
      case atStart => exact ⟨i, Nat.le_refl _, rfl, fun k hk hjk => by have := HSL.out; omega, HOW.out, HBo.out⟩
      case round =>
        clear HOW HBo
        obtain ⟨j, hj, rfl, hgt, hown, hb⟩ := hrel
        have HGT : Hid _ := hgt
        have HOW : Hid _ := hown
        have hbs := hb.size
        clear hgt
        have hfin : ∀ W : World, (∀ hj' : j - 1 < S.length, 0 < j → x.2 ≤ S[j - 1].2) → W.ownsRow base 141 2 (.slice (some ⟨g, 0, none⟩) X.length c) X.length (HN (mv S x R j)) → ∃ S' : List (Nat × Nat), S'.Perm (X.take (i + 1)) ∧ S'.Pairwise Bf ∧ W.ownsRow base 141 2 (.slice (some ⟨g, 0, none⟩) X.length c) X.length (HN (S' ++ X.drop (i + 1))) := fun W h1 h2 =>
          ⟨S.take j ++ x :: S.drop j, HPX.out j hj, Bf.put HS.out HID.out HGT.out h1 (by have := HSL.out; omega), by rw [← HR.out]; exact h2⟩
        have HFIN : Hid _ := hfin
        clear hfin
        by_cases hj0 : j = 0
        · subst hj0
          have j1 : ¬ (0 : Int) < (0 : Int) := by omega
          have v1 : IntKind.i64.wrap ((i : Int) + 1) = (i : Int) + 1 := by rw [IntKind.wrap_i64]; omega
          go_wp2
          go_quiet (fail)
          go_wp2
          go_roundw
          case rel =>
            obtain ⟨S', q1, q2, q3⟩ := HFIN.out _ (fun _ h => by omega) (own_frD HOW.out _)
            exact ⟨i + 1, S', by omega, by omega, by go_num, q1, q2, q3, hb.drewN _⟩
          case measure => simp [intOf]; omega
        · obtain ⟨q, rfl⟩ : ∃ q, j = q + 1 := ⟨j - 1, by omega⟩
          have hqS : q < S.length := by have := HSL.out; omega
          obtain ⟨y, hy⟩ : ∃ y, S[q]'hqS = y := ⟨_, rfl⟩
          have hml := mv_length S x R (j := q + 1) (by omega)
          have hSl := HSL.out
          have hRl := HRL.out
          have a1 := HN_at (mv S x R (q + 1)) (q + 1) (by omega)
          have a2 := HN_at (mv S x R (q + 1)) q (by omega)
          have e1 : (mv S x R (q + 1))[q + 1]'(by omega) = x := by have := mv_x (S := S) (x := x) (R := R) (j := q + 1) (by omega); rw [List.getElem?_eq_getElem (by omega)] at this; simpa using this
          have e2 : (mv S x R (q + 1))[q]'(by omega) = y := by have := mv_left (S := S) (x := x) (R := R) (j := q) hqS; rw [List.getElem?_eq_getElem (by omega), hy] at this; simpa using this
          rw [e1] at a1
          rw [e2] at a2
          have c0 := (hown.cellAt ((q + 1) * 2) (by omega)).trans a1.1
          have c1 := (hown.cellAt ((q + 1) * 2 + 1) (by omega)).trans a1.2
          have c2 := (hown.cellAt (q * 2) (by omega)).trans a2.1
          have c3 := (hown.cellAt (q * 2 + 1) (by omega)).trans a2.2
          have f0 := hown.frozenAt ((q + 1) * 2)
          have f1 := hown.frozenAt ((q + 1) * 2 + 1)
          have f2 := hown.frozenAt (q * 2)
          have f3 := hown.frozenAt (q * 2 + 1)
          have hsw := mv_swap (S := S) (x := x) (R := R) hqS
          rw [hy] at hsw
          have HSW : Hid _ := hsw
          have HQS : Hid _ := hqS
          have HML : Hid _ := hml
          have i2 : (q : Int) + 1 < (X.length : Int) := by omega
          have i3 : (q : Int) < (X.length : Int) := by omega
          have i4 : (0 : Int) ≤ (q : Int) := by omega
          have i5 : (0 : Int) ≤ (q : Int) + 1 := by omega
          have i6 : (0 : Int) < (q : Int) + 1 := by omega
          have v1 : IntKind.i64.wrap ((q : Int) + 1 - 1) = (q : Int) := by rw [IntKind.wrap_i64]; omega
          have v2 : ((q : Int) + 1).toNat = q + 1 := by omega
          have v3 : IntKind.i64.wrap (q : Int) = (q : Int) := by rw [IntKind.wrap_i64]; omega
          have hgl := (hown.lt g rfl).2
          have C := topC_any x y wr.drew
          have HY : Hid _ := hy
          clear hml hSl hRl a1 a2 e1 e2 hy hown hj0 hsw
          by_cases hs : y.2 < x.2
          · have ec : cmpI y.2 x.2 = -1 := by unfold cmpI; rw [if_pos (by omega)]
            rw [ec] at C
            have HC : Hid _ := C
            clear C ec
            go_wp2_with fail
            go_region_held3 (fun w' => w'.cell? ⟨g, (q + 1) * 2, none⟩ = some (.int .i64 (x.1 : Nat)) ∧ w'.cell? ⟨g, (q + 1) * 2 + 1, none⟩ = some (.int .i64 (x.2 : Nat)) ∧ w'.cell? ⟨g, q * 2, none⟩ = some (.int .i64 (y.1 : Nat)) ∧ w'.cell? ⟨g, q * 2 + 1, none⟩ = some (.int .i64 (y.2 : Nat))) (go_keep)
              (first
                | (go_at_fn 74; refine Calls.mono HC.out ?_; rintro e w2 ⟨rfl, hb2⟩; have hB2 := Below.later (Below.refl _ wr).drew hb2; have y0 := (hB2.cell (p := ⟨g, (q + 1) * 2, none⟩) hgl).trans c0; have y1 := (hB2.cell (p := ⟨g, (q + 1) * 2 + 1, none⟩) hgl).trans c1; have y2 := (hB2.cell (p := ⟨g, q * 2, none⟩) hgl).trans c2; have y3 := (hB2.cell (p := ⟨g, q * 2 + 1, none⟩) hgl).trans c3))
            have how2 := own_fr HOW.out (Fr.of_below hB2) (fun _ _ _ h => by cases h)
            have g0 := World.ownsRow.frozenAt how2 ((q + 1) * 2)
            have g1 := World.ownsRow.frozenAt how2 ((q + 1) * 2 + 1)
            have g2 := World.ownsRow.frozenAt how2 (q * 2)
            have g3 := World.ownsRow.frozenAt how2 (q * 2 + 1)
            have HOW2 : Hid _ := how2
            clear how2 HC c0 c1 c2 c3 f0 f1 f2 f3
            go_wp2_with fail
            go_region
            have s1 := World.ownsRow.stored HOW2.out ((q + 1) * 2) (.int .i64 (y.1 : Nat))
            have s2 := World.ownsRow.stored s1.1 ((q + 1) * 2 + 1) (.int .i64 (y.2 : Nat))
            have s3 := World.ownsRow.stored s2.1 (q * 2) (.int .i64 (x.1 : Nat))
            have s4 := World.ownsRow.stored s3.1 (q * 2 + 1) (.int .i64 (x.2 : Nat))
            have hs4 := s4.1
            rw [HN_set _ _ _ (by have := HML.out; have := HQS.out; omega), HN_set _ _ _ (by rw [List.length_set]; have := HML.out; have := HQS.out; omega), HSW.out] at hs4
            have HS4 : Hid _ := own_frD hs4 1
            have hgb : base ≤ g := (World.ownsRow.lt HOW2.out g rfl).1
            have HB4 : Hid _ := ((((hb.trans (Below.mono hB2 (by omega))).setCell (p := ⟨g, (q + 1) * 2, none⟩) hgb (.int .i64 (y.1 : Nat))).setCell (p := ⟨g, (q + 1) * 2 + 1, none⟩) hgb (.int .i64 (y.2 : Nat))).setCell (p := ⟨g, q * 2, none⟩) hgb (.int .i64 (x.1 : Nat))).setCell (p := ⟨g, q * 2 + 1, none⟩) hgb (.int .i64 (x.2 : Nat))
            clear s1 s2 s3 s4 hs4 y0 y1 y2 y3 g0 g1 g2 g3
            go_wp2
            go_roundw
            case rel =>
              refine ⟨q, by omega, by go_num, fun k hk hqk => ?_, HS4.out, Below.drew HB4.out⟩
              by_cases e : k = q
              · subst e; rw [HY.out]; exact hs
              · exact HGT.out k hk (by omega)
            case measure => simp [intOf]
          · have ec : ∃ r : Int, cmpI y.2 x.2 = r ∧ ¬ r < 0 := by
              refine ⟨_, rfl, ?_⟩
              unfold cmpI; rw [if_neg (by omega)]; split <;> omega
            obtain ⟨r, ec, er⟩ := ec
            rw [ec] at C
            have HC : Hid _ := C
            clear C ec
            have w1 : IntKind.i64.wrap ((i : Int) + 1) = (i : Int) + 1 := by rw [IntKind.wrap_i64]; omega
            go_wp2_with fail
            go_region_held3 (fun w' => w'.cell? ⟨g, (q + 1) * 2, none⟩ = some (.int .i64 (x.1 : Nat)) ∧ w'.cell? ⟨g, (q + 1) * 2 + 1, none⟩ = some (.int .i64 (x.2 : Nat)) ∧ w'.cell? ⟨g, q * 2, none⟩ = some (.int .i64 (y.1 : Nat)) ∧ w'.cell? ⟨g, q * 2 + 1, none⟩ = some (.int .i64 (y.2 : Nat))) (go_keep)
              (first
                | (go_at_fn 74; refine Calls.mono HC.out ?_; rintro e w2 ⟨rfl, hb2⟩; have hB2 := Below.later (Below.refl _ wr).drew hb2; have y0 := (hB2.cell (p := ⟨g, (q + 1) * 2, none⟩) hgl).trans c0; have y1 := (hB2.cell (p := ⟨g, (q + 1) * 2 + 1, none⟩) hgl).trans c1; have y2 := (hB2.cell (p := ⟨g, q * 2, none⟩) hgl).trans c2; have y3 := (hB2.cell (p := ⟨g, q * 2 + 1, none⟩) hgl).trans c3))
            have how2 := own_fr HOW.out (Fr.of_below hB2) (fun _ _ _ h => by cases h)
            have HOW2 : Hid _ := how2
            clear how2 HC c0 c1 c2 c3 f0 f1 f2 f3 y0 y1 y2 y3
            go_wp2
            go_roundw
            case rel =>
              obtain ⟨S', q1, q2, q3⟩ := HFIN.out _ (fun _ _ => by
                have := HY.out
                simp only [Nat.add_sub_cancel]
                rw [this]; omega) HOW2.out
              exact ⟨i + 1, S', by omega, by omega, by go_num, q1, q2, q3, hb.trans (Below.mono hB2 (by omega))⟩
            case measure => simp [intOf]; omega
    · have ei : i = X.length := by omega
      subst ei
      have i1 : ¬ (X.length : Int) < (X.length : Int) := by omega
      rw [List.drop_length, List.append_nil] at hown
      have hp := HP.out
      rw [List.take_length] at hp
      have HP2 : Hid _ := hp
      have HOW : Hid _ := hown
      clear hown hp
      go_wp2
      go_end0
      exact ⟨rfl, ⟨S, HP2.out, HS.out, HOW.out⟩, hb⟩
end Go.Proofs.YtepklbboejnecaaGreat
