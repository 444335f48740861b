/- What is held: a list is marked: the walk. -/
import Derived.Test.YtmmbljcjeianfaaYe
namespace Go.Proofs.Ytmmbljcjeianfaa
open Go.RowKit Go.Shelf Sedge
attribute [local go_sem ↓] Go.wp_at_zero Go.wp_at_succ

/-- What marking asks. -/
structure MPre (B : Nat) (W : World) (hb N : Nat) (vI vT vR : Value) (E : List (Value × Int)) (v : Value) (n : Nat) (xs : List Value) : Prop where
  base : B ≤ hb
  box : Blk W hb 30 [.int .i64 (N : Int), vI, nl, nl, vT, vR, nl, nl, nl, nl]
  rI : W.ownsRow B 117 2 vI E.length (cellsE E)
  rv : W.ownsRow B 3 1 v n xs
  rd : ∀ e ∈ E, Rd W e.1 e.2
  lt : ∀ e ∈ E, ∀ k, e.1.ownBlock = some k → k < W.heap.size
  oI : vI.ownBlock ≠ some hb
  ov : v.ownBlock ≠ some hb
  oE : ∀ e ∈ E, e.1.ownBlock ≠ some hb
  aIv : Apart vI v
  aEI : ∀ e ∈ E, Apart e.1 vI
  aEv : ∀ e ∈ E, Apart e.1 v
  nE : E.length ≤ 9000
  nn : n ≤ 100000
  nN : N ≤ 1000

theorem own_val3 {w : World} {base n : Nat} {e : TypeId} {s : Nat} {v : Value} {xs : List Value} (h : w.ownsRow base e s v n xs) : ∃ ad n c, v = .slice ad n c := by
  obtain ⟨ad, c, h⟩ := own_val h
  exact ⟨ad, _, c, h⟩
theorem set_marks {k n : Nat} {u : Value} {xs : List Value} (hx : xs.length = n) (hk : k < n) : (List.replicate k u ++ xs.drop k).set k u = List.replicate (k + 1) u ++ xs.drop (k + 1) := by
  rw [List.set_append, if_neg (by simp), List.length_replicate, Nat.sub_self, List.drop_eq_getElem_cons (by omega), List.set_cons_zero, List.replicate_succ', List.append_assoc]
  rfl

/-- All its places are marked: the marking's start. -/
theorem MPre.start {B : Nat} {W wr : World} {hb N : Nat} {vI vT vR v : Value} {E : List (Value × Int)} {n : Nat} {xs : List Value} {m : Int} (h : MPre B W hb N vI vT vR E v n xs)
    (q1 : wr.ownsRow B 3 1 v n (List.replicate n (.int .i64 m))) (q2 : Fr (W.setCell ⟨hb, 0, none⟩ (.int .i64 ((N : Int) + 1))) wr [v.ownBlock]) (q3 : Below B (W.setCell ⟨hb, 0, none⟩ (.int .i64 ((N : Int) + 1))) wr) :
    MK B W hb (N + 1) vI vT vR v n m E wr vI v [] 0 := by
  have F : Fr W wr [some hb, v.ownBlock] := (Fr.set W hb 0 _).trans q2
  have fE : ∀ e ∈ E, Free e.1 [some hb, v.ownBlock] := fun e he => free_cons (free_of_off (h.oE e he)) (free_of_apart (h.aEv e he))
  refine ⟨h.base, ?_, ?_, q1, ?_, ?_, (fun e he => by cases he), (fun e he => by cases he), fun k hk => .inl hk, fun k hk => .inl hk, h.oI, h.ov, ?_, h.aIv, ?_, h.aEv, ?_, ?_, by simp, h.nE, h.nn⟩
  · exact Blk.fr (Blk.set h.box 0 (.int .i64 ((N : Int) + 1))) q2 (fun r hr => by simp at hr; subst hr; exact fun e => h.ov e.symm)
  · rw [List.append_nil]
    exact own_fr h.rI F (free_cons (free_of_off h.oI) (free_of_apart h.aIv))
  · rw [List.append_nil]; exact fun e he => (h.rd e he).fr F (fE e he)
  · rw [List.append_nil]; exact fun e he k hk => by have := h.lt e he k hk; have := F.1; omega
  · rw [List.append_nil]; exact h.oE
  · rw [List.append_nil]; exact h.aEI
  · exact F.sub fun r hr => by simp at hr ⊢; rcases hr with hr | hr <;> simp [hr]
  · exact ((Below.refl B W).setCell (p := ⟨hb, 0, none⟩) h.base _).trans q3

set_option maxRecDepth 20000 in
set_option maxHeartbeats 4000000 in
/-- 'markInts'. -/
theorem markInts_any (B : Nat) (W : World) (hb N : Nat) (vI vT vR : Value) (E : List (Value × Int)) (v : Value) (n : Nat) (xs : List Value) (H : MPre B W hb N vI vT vR E v n xs) :
    Calls Try.prog 43 #[.pointer (some ⟨hb, 0, none⟩), v] W fun e w' => e = .returned (.tuple #[]) ∧ ∃ m vI' g G, MK B W hb (N + 1) vI vT vR v n m E w' vI' g G 3 ∧ G.length ≤ 4 := by
  obtain ⟨ad, cv, rfl⟩ := own_val H.rv
  have HH : Hid _ := H
  have c0 : W.cell? ⟨hb, 0, none⟩ = some (.int .i64 (N : Int)) := H.box.cell (k := 0) (by simp)
  have f0 := Blk.free H.box 0
  have hsz : B ≤ W.heap.size := by have := H.base; have := H.box.lt; omega
  have nN := H.nN
  have nn := H.nn
  have v1 : IntKind.i64.wrap ((N : Int) + 1) = (N : Int) + 1 := by rw [IntKind.wrap_i64]; omega
  have v2 : IntKind.i64.wrap (-1000 - ((N : Int) + 1)) = -1000 - ((N : Int) + 1) := by rw [IntKind.wrap_i64]; omega
  clear H
  go_enter Try.func43, Try.ntmps43
  go_wp2_with fail
  clear v2
  generalize (-1000 : Int) - ((N : Int) + 1) = m
  go_loopw [5] (fun i wr => ∃ k : Nat, k ≤ n ∧ i = .int .i64 k ∧ wr.ownsRow B 3 1 (.slice ad n cv) n (List.replicate k (.int .i64 m) ++ xs.drop k) ∧ Fr (W.setCell ⟨hb, 0, none⟩ (.int .i64 ((N : Int) + 1))) wr [Value.ownBlock (.slice ad n cv)] ∧ Below B (W.setCell ⟨hb, 0, none⟩ (.int .i64 ((N : Int) + 1))) wr) (fun i _ => n - (intOf i).toNat)
  case atStart =>
    refine ⟨0, Nat.zero_le _, rfl, ?_, ⟨Nat.le_refl _, fun _ _ _ => rfl⟩, Below.refl _ _⟩
    exact own_fr (MPre.rv HH.out) (Fr.set W hb 0 _) (free_of_off (MPre.ov HH.out))
  case round =>
    clear c0 f0 v1
    obtain ⟨k, hk, rfl, hown, hF, hB⟩ := hrel
    have hxl : xs.length = n := by have := (MPre.rv HH.out).1; omega
    have HXL : Hid _ := hxl
    clear hxl
    by_cases hlt : k < n
    · obtain ⟨g, c', e1, hx1, hc⟩ := own_at hown hlt
      simp only [Value.slice.injEq, true_and] at e1
      obtain ⟨rfl, rfl⟩ := e1
      have hf := hown.frozenAt k
      have hst := hown.stored k (.int .i64 m)
      rw [set_marks HXL.out hlt] at hst
      have HST : Hid _ := hst
      have HF : Hid _ := hF
      have i1 : (k : Int) < (n : Int) := by omega
      have i2 : (0 : Int) ≤ (k : Int) := by omega
      have hg := (hown.lt g rfl).1
      clear hst hF hown
      go_wp2
      go_roundw
      case rel =>
        refine ⟨k + 1, by omega, by go_num, HST.out.1, (Fr.trans HF.out (Fr.of_grown HST.out.2)).sub (fun r hr => by simpa [Value.ownBlock] using hr), hB.setCell (p := ⟨g, k, none⟩) hg _⟩
      case measure => simp [intOf]; omega
    · have hkn : k = n := by omega
      subst hkn
      rw [List.drop_of_length_le (Nat.le_of_eq HXL.out), List.append_nil] at hown
      have hMK := MPre.start HH.out hown hF hB
      have i1 : ¬ (k : Int) < (k : Int) := by omega
      clear hown hF hB
      go_wp2_with fail
      go_loopw [6, 7] (fun g i wr => ∃ (t : Nat) (vI' : Value) (G : List (Value × Int)), t ≤ 3 ∧ i = .int .i64 t ∧ MK B W hb (N + 1) vI vT vR (.slice ad k cv) k m E wr vI' g G t ∧ G.length ≤ t) (fun _ i _ => 3 - (intOf i).toNat)
      case atStart => exact ⟨0, vI, [], by omega, rfl, hMK, by simp⟩
      case round =>
        clear hMK
        obtain ⟨t, vI', G, ht, rfl, hM, hG⟩ := hrel
        obtain ⟨adI, nI, cI, rfl⟩ := own_val3 hM.rI
        obtain ⟨adg, cg, rfl⟩ := own_val hM.rg
        have c1 : wr.cell? ⟨hb, 1, none⟩ = some (.slice adI nI cI) := hM.box.cell (k := 1) (by simp)
        have HM : Hid _ := hM
        have hszr : B ≤ wr.heap.size := Nat.le_trans hsz hM.fr.1
        have nE := hM.nE
        have hEG : (E ++ G).length ≤ 10000 := by rw [List.length_append]; omega
        clear hM
        by_cases ht3 : t < 3
        · have i3 : (t : Int) < 3 := by omega
          go_wp2_with (first
            | (at_builtin; refine wpList_push_held _ rfl (.tmp 40) (.tmp 44) rfl B (.slice adI nI cI) (E ++ G) rfl ((MK.rI HM.out).alloc _) wr.heap.size (.slice adg (k + t) cg) m rfl (Blk.new wr _ _ rfl) rfl hEG (by simp; omega) ?_; intro vI2 w2 q1 q2 q3; obtain ⟨adI2, nI2, cI2, rfl⟩ := own_val3 q1; have HK : Hid _ := MK.kept HM.out (by omega) hG q1 q2 q3 hszr; have hbx2 := (MK.keep HM.out (by omega) q1 q2 q3 hszr).1; have d1 := hbx2.cell (k := 1) (by simp); have f1 := Blk.free hbx2 1; have HCN : Hid (World.cell? ((w2.setCell ⟨hb, 1, none⟩ (.slice adI2 nI2 cI2)).alloc (Obj.cells #[.int .i64 m] 3)) ⟨w2.heap.size, 0, none⟩ = some (.int .i64 m)) := (by have q := cell_new (w2.setCell ⟨hb, 1, none⟩ (.slice adI2 nI2 cI2)) (.int .i64 m) 3; rwa [World.size_setCell] at q); have hs2 := q2.size; simp only [World.size_alloc] at hs2; clear q1 q2 q3 hbx2 c1)
            | (at_builtin; refine wpList_push_mark _ rfl (.tmp 48) (.tmp 50) rfl B (.slice adg (k + t) cg) (k + t) m rfl ((MK.rg HK.out).alloc _) ⟨w2.heap.size, 0, none⟩ rfl HCN.out (by omega) (by simp; omega) ?_; intro g2 w3 r1 r2 r3; have HM3 : Hid _ := MK.grow HK.out (by omega) r1 r2 r3 (by simp; omega); clear r1 r2 r3)
            | fail)
          go_roundw
          case rel => exact ⟨t + 1, _, _, by omega, by go_num, HM3.out, by rw [List.length_append]; simp; omega⟩
          case measure => simp [intOf]; omega
        · have ht' : t = 3 := by omega
          subst ht'
          have i3 : ¬ ((3 : Nat) : Int) < 3 := by omega
          go_wp2_with (first
            | (at_builtin; refine wpList_push_held _ rfl (.tmp 56) (.tmp 60) rfl B (.slice adI nI cI) (E ++ G) rfl ((MK.rI HM.out).alloc _) wr.heap.size (.slice adg (k + 3) cg) m rfl (Blk.new wr _ _ rfl) rfl hEG (by simp; omega) ?_; intro vI2 w2 q1 q2 q3; obtain ⟨adI2, nI2, cI2, rfl⟩ := own_val3 q1; have HK : Hid _ := MK.kept HM.out (by omega) hG q1 q2 q3 hszr; have hbx2 := (MK.keep HM.out (by omega) q1 q2 q3 hszr).1; have d1 := hbx2.cell (k := 1) (by simp); have f1 := Blk.free hbx2 1; have HCN : Hid (World.cell? ((w2.setCell ⟨hb, 1, none⟩ (.slice adI2 nI2 cI2)).alloc (Obj.cells #[.int .i64 m] 3)) ⟨w2.heap.size, 0, none⟩ = some (.int .i64 m)) := (by have q := cell_new (w2.setCell ⟨hb, 1, none⟩ (.slice adI2 nI2 cI2)) (.int .i64 m) 3; rwa [World.size_setCell] at q); have hs2 := q2.size; simp only [World.size_alloc] at hs2; clear q1 q2 q3 hbx2 c1)
            | fail)
          go_end0
          exact ⟨rfl, m, _, _, _, HK.out, by rw [List.length_append]; simp; omega⟩
end Go.Proofs.Ytmmbljcjeianfaa
