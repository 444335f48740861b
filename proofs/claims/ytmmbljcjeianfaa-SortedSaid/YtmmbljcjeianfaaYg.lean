/- What is held: all lists that wait are marked. -/
import Derived.Test.YtmmbljcjeianfaaYf
namespace Go.Proofs.Ytmmbljcjeianfaa
open Go.RowKit Go.Shelf Sedge
attribute [local go_sem ↓] Go.wp_at_zero Go.wp_at_succ

/-- What holds while the lists are marked one by one. -/
structure SInv (B : Nat) (hb : Nat) (vT vR : Value) (T : List (Value × Value × List Nat)) (W : World) (i N : Nat) (vI : Value) (E : List (Value × Int)) : Prop where
  base : B ≤ hb
  box : Blk W hb 30 [.int .i64 (N : Int), vI, nl, nl, vT, vR, nl, nl, nl, nl]
  rI : W.ownsRow B 117 2 vI E.length (cellsE E)
  rT : W.ownsRow B 36 1 vT T.length (T.map (·.1))
  own : ∀ t ∈ T.drop i, ∃ xs, W.ownsRow B 3 1 t.1 t.2.2.length xs
  small : ∀ t ∈ T, t.2.2.length ≤ 100000
  rd : ∀ e ∈ E, Rd W e.1 e.2
  lt : ∀ e ∈ E, ∀ g, e.1.ownBlock = some g → g < W.heap.size
  oI : vI.ownBlock ≠ some hb
  oT : vT.ownBlock ≠ some hb
  oE : ∀ e ∈ E, e.1.ownBlock ≠ some hb
  ot : ∀ t ∈ T, t.1.ownBlock ≠ some hb
  aIT : Apart vI vT
  aEI : ∀ e ∈ E, Apart e.1 vI
  atI : ∀ t ∈ T.drop i, Apart t.1 vI
  atT : ∀ t ∈ T, Apart t.1 vT
  pw : T.Pairwise fun t t' => Apart t.1 t'.1
  te : ∀ t ∈ T.drop i, ∀ e ∈ E, Apart e.1 t.1
  nN : N ≤ 1000
  nE : E.length ≤ 4 * N

section
variable {B : Nat} {W w' : World} {hb N i : Nat} {vI vT vR : Value} {E : List (Value × Int)} {T : List (Value × Value × List Nat)}
theorem SInv.start (h : HInv B W hb N vI vT vR E T) : SInv B hb vT vR T W 0 N vI E where
  base := h.base
  box := h.box
  rI := h.rI
  rT := h.rT
  own := fun t ht => ⟨_, (h.own t ht).1⟩
  small := h.small
  rd := h.rd
  lt := h.lt
  oI := h.oI
  oT := h.oT
  oE := fun e he => (h.cE e he).off
  ot := fun t ht => (h.cT t ht).1.off
  aIT := h.aIT
  aEI := fun e he => (h.cE e he).i
  atI := fun t ht => (h.cT t ht).1.i
  atT := fun t ht => (h.cT t ht).1.t
  pw := h.pw
  te := h.te
  nN := h.nN
  nE := h.nE
theorem SInv.pre (h : SInv B hb vT vR T W i N vI E) (hi : i < T.length) : ∃ xs, MPre B W hb N vI vT vR E T[i].1 T[i].2.2.length xs := by
  have hd : T[i] ∈ T.drop i := by rw [List.drop_eq_getElem_cons hi]; exact List.mem_cons_self
  obtain ⟨xs, hx⟩ := h.own _ hd
  exact ⟨xs, h.base, h.box, h.rI, hx, h.rd, h.lt, h.oI, h.ot _ (List.getElem_mem hi), h.oE, (h.atI _ hd).symm, h.aEI, h.te _ hd, by have := h.nE; have := h.nN; omega, h.small _ (List.getElem_mem hi), h.nN⟩
theorem SInv.next (h : SInv B hb vT vR T W i N vI E) (hi : i < T.length) {m : Int} {vI' g : Value} {G : List (Value × Int)} (hN : N + 1 ≤ 1000) (hG : G.length ≤ 4)
    (k : MK B W hb (N + 1) vI vT vR T[i].1 T[i].2.2.length m E w' vI' g G 3) : SInv B hb vT vR T w' (i + 1) (N + 1) vI' (E ++ G) := by
  have hd : T[i] ∈ T.drop i := by rw [List.drop_eq_getElem_cons hi]; exact List.mem_cons_self
  have hsub : ∀ t, t ∈ T.drop (i + 1) → t ∈ T.drop i := fun t ht => by rw [List.drop_eq_getElem_cons hi]; exact List.mem_cons_of_mem _ ht
  have hpw : ∀ t ∈ T.drop (i + 1), Apart T[i].1 t.1 := by
    have := h.pw.sublist (List.drop_sublist i T)
    rw [List.drop_eq_getElem_cons hi] at this
    exact (List.pairwise_cons.1 this).1
  have hmem : ∀ t ∈ T.drop (i + 1), t ∈ T := fun t ht => List.mem_of_mem_drop ht
  have hlt : ∀ t ∈ T.drop (i + 1), ∀ b, t.1.ownBlock = some b → b < W.heap.size := fun t ht b hb => by
    obtain ⟨xs, hx⟩ := h.own t (hsub t ht)
    exact own_lt hx b hb
  refine ⟨h.base, k.box, k.rI, ?_, ?_, h.small, k.rd, k.lt, k.oI, h.oT, k.oE, h.ot, ?_, k.aEI, ?_, h.atT, h.pw, ?_, hN, by rw [List.length_append]; have := h.nE; omega⟩
  · exact own_fr h.rT k.fr (free_cons (free_of_off h.oT) (free_cons (free_of_apart h.aIT.symm) (free_of_apart (h.atT _ (List.getElem_mem hi)).symm)))
  · intro t ht
    obtain ⟨xs, hx⟩ := h.own t (hsub t ht)
    exact ⟨xs, own_fr hx k.fr (free_cons (free_of_off (h.ot t (hmem t ht))) (free_cons (free_of_apart (h.atI t (hsub t ht))) (free_of_apart (hpw t ht).symm)))⟩
  · intro b h1 h2
    rcases k.vIl b h1 with q | q
    · exact h.aIT b q h2
    · have := own_lt h.rT b h2; omega
  · intro t ht b h1 h2
    rcases k.vIl b h2 with q | q
    · exact h.atI t (hsub t ht) b h1 q
    · have := hlt t ht b h1; omega
  · intro t ht e he b h1 h2
    rcases List.mem_append.1 he with he | he
    · exact h.te t (hsub t ht) e he b h1 h2
    · rcases k.gl e he b h1 with q | q
      · exact hpw t ht b q h2
      · have := hlt t ht b h2; omega
/-- Nothing waits any more. -/
theorem SInv.done (h : SInv B hb vT vR T W T.length N vI E) : HInv B ((((((W.setCell ⟨hb, 4, none⟩ nl).setCell ⟨hb, 5, none⟩ nl).setCell ⟨hb, 6, none⟩ nl).setCell ⟨hb, 7, none⟩ nl).setCell ⟨hb, 8, none⟩ nl).setCell ⟨hb, 9, none⟩ nl) hb N vI nl nl E [] := by
  have F : Fr W ((((((W.setCell ⟨hb, 4, none⟩ nl).setCell ⟨hb, 5, none⟩ nl).setCell ⟨hb, 6, none⟩ nl).setCell ⟨hb, 7, none⟩ nl).setCell ⟨hb, 8, none⟩ nl).setCell ⟨hb, 9, none⟩ nl) [some hb] :=
    ((((((Fr.set W hb 4 nl).trans (Fr.set _ hb 5 nl)).trans (Fr.set _ hb 6 nl)).trans (Fr.set _ hb 7 nl)).trans (Fr.set _ hb 8 nl)).trans (Fr.set _ hb 9 nl)).sub (fun r hr => by simpa using hr)
  refine ⟨h.base, ((((((Blk.set h.box 4 nl).set 5 nl).set 6 nl).set 7 nl).set 8 nl).set 9 nl), own_fr h.rI F (free_of_off h.oI), World.ownsRow_nil _ _ _ _, World.ownsRow_nil _ _ _ _, (fun t ht => by cases ht), (fun t ht => by cases ht), fun e he => (h.rd e he).fr F (free_of_off (h.oE e he)), fun e he g hg => Nat.lt_of_lt_of_le (h.lt e he g hg) F.1, h.oI, (fun e => by cases e), (fun e => by cases e), apart_nl _, apart_nl _, apart_nl _, (fun t ht => by cases ht), fun e he => ⟨h.oE e he, h.aEI e he, apart_nl _, apart_nl _⟩, List.Pairwise.nil, (fun t ht => by cases ht), h.nN, h.nE, by simp⟩
end

set_option maxRecDepth 20000 in
set_option maxHeartbeats 4000000 in
/-- 'settles'. -/
theorem settles_any (B : Nat) (W : World) (hb N : Nat) (vI vT vR : Value) (E : List (Value × Int)) (T : List (Value × Value × List Nat)) (H : HInv B W hb N vI vT vR E T) (hN : N + T.length ≤ 1000) :
    Calls Try.prog 15 #[.pointer (some ⟨hb, 0, none⟩)] W fun e w' => e = .returned (.bool true) ∧ ∃ vI' E', HInv B w' hb (N + T.length) vI' nl nl E' [] ∧ Below B W w' := by
  obtain ⟨adT, cT, rfl⟩ := own_val H.rT
  have HH : Hid _ := H
  have hsz : B ≤ W.heap.size := by have := H.base; have := H.box.lt; omega
  have nT := H.nT
  clear H
  go_enter Try.func15, Try.ntmps15
  go_wp2_with fail
  refine (waits_any B W hb N vI (.slice adT T.length cT) vR E T HH.out).mono ?_
  rintro e w1 ⟨rfl, hb1⟩
  have HB1 : Hid _ := hb1
  have HS1 : Hid _ := SInv.start (HInv.later HH.out hb1)
  clear hb1
  go_wp2_with fail
  go_loopw [4] (fun i wr => ∃ (k : Nat) (vI' : Value) (E' : List (Value × Int)), k ≤ T.length ∧ i = .int .i64 k ∧ SInv B hb (.slice adT T.length cT) vR T wr k (N + k) vI' E' ∧ Below B W wr) (fun i _ => T.length - (intOf i).toNat)
  case atStart => exact ⟨0, vI, E, Nat.zero_le _, rfl, HS1.out, HB1.out.mono hsz⟩
  case round =>
    obtain ⟨k, vI', E', hk, rfl, hS, hB⟩ := hrel
    obtain ⟨adI, nI, cI, rfl⟩ := own_val3 hS.rI
    have c4 : wr.cell? ⟨hb, 4, none⟩ = some (.slice adT T.length cT) := hS.box.cell (k := 4) (by simp)
    have c6 : wr.cell? ⟨hb, 6, none⟩ = some nl := hS.box.cell (k := 6) (by simp)
    have c8 : wr.cell? ⟨hb, 8, none⟩ = some nl := hS.box.cell (k := 8) (by simp)
    by_cases hlt : k < T.length
    · obtain ⟨gT, cT', eT, hx1, d1⟩ := own_at hS.rT hlt
      rw [List.getElem_map] at d1
      simp only [Value.slice.injEq, true_and] at eT
      obtain ⟨rfl, rfl⟩ := eT
      obtain ⟨xs, hP⟩ := hS.pre hlt
      have C := markInts_any _ _ _ _ _ _ _ _ _ _ _ hP
      obtain ⟨ad1, n1, c1, e1⟩ := own_val3 hP.rv
      have HC : Hid _ := C
      have HS : Hid _ := hS
      have HB : Hid _ := hB
      rw [e1] at d1
      have i1 : (k : Int) < (T.length : Int) := by omega
      have i2 : (0 : Int) ≤ (k : Int) := by omega
      have HE1 : Hid _ := e1
      clear C hS hB hP e1 hx1
      go_wp2_with fail
      rw [← HE1.out]
      refine Calls.mono HC.out ?_
      rintro e w2 ⟨rfl, m, vI2, g2, G, hMK, hG⟩
      clear c4 c6 c8 d1
      go_wp2_with fail
      go_roundw
      case rel => exact ⟨k + 1, vI2, E' ++ G, by omega, by go_num, by rw [← Nat.add_assoc]; exact SInv.next HS.out hlt (by omega) hG hMK, HB.out.trans hMK.blw⟩
      case measure => simp [intOf]; omega
    · have hkT : k = T.length := by omega
      subst hkT
      have i1 : ¬ (T.length : Int) < (T.length : Int) := by omega
      have HS : Hid _ := hS
      have HB : Hid _ := hB
      have c5 : wr.cell? ⟨hb, 5, none⟩ = some vR := hS.box.cell (k := 5) (by simp)
      have c7 : wr.cell? ⟨hb, 7, none⟩ = some nl := hS.box.cell (k := 7) (by simp)
      have c9 : wr.cell? ⟨hb, 9, none⟩ = some nl := hS.box.cell (k := 9) (by simp)
      have f4 := Blk.free hS.box 4
      have f5 := Blk.free hS.box 5
      have f6 := Blk.free hS.box 6
      have f7 := Blk.free hS.box 7
      have f8 := Blk.free hS.box 8
      have f9 := Blk.free hS.box 9
      clear hS hB
      go_wp2_with fail
      go_loopw [5] (fun i w2 => i = .int .i64 0 ∧ w2 = wr) (fun _ _ => 0)
      case atStart => exact ⟨rfl, rfl⟩
      case round =>
        obtain ⟨rfl, rfl⟩ := hrel
        go_wp2_with fail
        go_loopw [6] (fun i w2 => i = .int .i64 0 ∧ w2 = wr) (fun _ _ => 0)
        case atStart => exact ⟨rfl, rfl⟩
        case round =>
          obtain ⟨rfl, rfl⟩ := hrel
          have HD : Hid _ := SInv.done HS.out
          go_wp2_with fail
          refine (dry_any B _ hb (N + T.length) _ nl nl E' [] HD.out).mono ?_
          rintro e w3 ⟨rfl, hb3⟩
          have hbs := SInv.base HS.out
          have hB6 := (((((HB.out.setCell (p := ⟨hb, 4, none⟩) hbs nl).setCell (p := ⟨hb, 5, none⟩) hbs nl).setCell (p := ⟨hb, 6, none⟩) hbs nl).setCell (p := ⟨hb, 7, none⟩) hbs nl).setCell (p := ⟨hb, 8, none⟩) hbs nl).setCell (p := ⟨hb, 9, none⟩) hbs nl
          have HB6 : Hid _ := hB6
          have HB3 : Hid _ := hb3
          clear hB6 hb3 c4 c5 c6 c7 c8 c9 f4 f5 f6 f7 f8 f9
          go_wp2
          go_ret
          refine ⟨rfl, _, _, HInv.later HD.out HB3.out, Below.trans HB6.out (Below.mono HB3.out ?_)⟩
          have := HB6.out.size
          omega
end Go.Proofs.Ytmmbljcjeianfaa
