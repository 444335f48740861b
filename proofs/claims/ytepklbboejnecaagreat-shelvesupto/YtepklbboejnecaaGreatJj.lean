/- Together: texts with the numbers 0, 7, 14 ..; the shelf is emptied. -/
import Derived.Test.YtepklbboejnecaaGreatJi
namespace Go.Proofs.YtepklbboejnecaaGreat
open Go.RowKit Go.Shelf Sedge
attribute [local go_sem ↓] Go.wp_at_zero Go.wp_at_succ

/-- Texts with every seventh number. -/
def nb : Nat → List ByteArray → List Vol
  | _, [] => []
  | i, t :: ts => (7 * i, t) :: nb (i + 1) ts
theorem nb_length : ∀ (i : Nat) (ts : List ByteArray), (nb i ts).length = ts.length
  | _, [] => rfl
  | i, t :: ts => by rw [nb, List.length_cons, List.length_cons, nb_length]
theorem nb_at : ∀ (i : Nat) (ts : List ByteArray) (k : Nat) (h : k < ts.length), (nb i ts)[k]'(by rw [nb_length]; exact h) = (7 * (i + k), ts[k])
  | i, t :: ts, 0, _ => rfl
  | i, t :: ts, k + 1, h => by
    have := nb_at (i + 1) ts k (by simpa using h)
    simp only [nb, List.getElem_cons_succ]
    rw [this]; congr 2; omega
theorem nb_append : ∀ (i : Nat) (ts : List ByteArray) (t : ByteArray), nb i (ts ++ [t]) = nb i ts ++ [(7 * (i + ts.length), t)]
  | i, [], t => rfl
  | i, s :: ts, t => by
    have := nb_append (i + 1) ts t
    simp only [List.cons_append, nb, this, List.length_cons]
    rw [show i + 1 + ts.length = i + (ts.length + 1) by omega]
theorem nb_ge (i : Nat) (ts : List ByteArray) : ∀ p ∈ nb i ts, 7 * i ≤ p.1 := fun p hp => by
  obtain ⟨k, hk, rfl⟩ := List.getElem_of_mem hp
  rw [nb_length] at hk
  rw [nb_at i ts k hk]; simp; omega
theorem hasId_false {bs : List Vol} {id : Int} (h : ∀ p ∈ bs, ((p.1 : Nat) : Int) ≠ id) : hasId bs id = false := by
  unfold hasId
  rw [List.any_eq_false]
  intro p hp
  simpa using h p hp
theorem nb_hasnt {i j : Nat} (ts : List ByteArray) (h : j < i) : hasId (nb i ts) ((7 * j : Nat) : Int) = false := hasId_false fun p hp => by have := nb_ge i ts p hp; omega
theorem nb_new (ts : List ByteArray) : hasId (nb 0 ts) ((7 * ts.length : Nat) : Int) = false := hasId_false fun p hp => by
  obtain ⟨k, hk, rfl⟩ := List.getElem_of_mem hp
  rw [nb_length] at hk
  rw [nb_at 0 ts k hk]; simp; omega
theorem nb_has (i : Nat) (t : ByteArray) (ts : List ByteArray) : hasId (nb i (t :: ts)) ((7 * i : Nat) : Int) = true := by
  unfold hasId
  rw [List.any_eq_true]
  exact ⟨(7 * i, t), by simp [nb], by simp⟩
theorem nb_ins (ts : List ByteArray) (t : ByteArray) : ins (nb 0 ts) (7 * ts.length) t = nb 0 (ts ++ [t]) := by
  have e : lb (nb 0 ts) ((7 * ts.length : Nat) : Int) = ts.length := by
    refine lb_is (by rw [nb_length]; exact Nat.le_refl _) (fun k hk hlt => ?_) (fun hk => ?_)
    · rw [nb_at 0 ts k hlt]; simp; omega
    · rw [nb_length] at hk; omega
  unfold ins
  rw [e, nb_append, List.take_of_length_le (by rw [nb_length]; exact Nat.le_refl _), List.drop_of_length_le (by rw [nb_length]; exact Nat.le_refl _)]
  simp
theorem nb_del (i : Nat) (t : ByteArray) (ts : List ByteArray) : del (nb i (t :: ts)) ((7 * i : Nat) : Int) = nb (i + 1) ts := by
  have e : lb (nb i (t :: ts)) ((7 * i : Nat) : Int) = 0 := lb_is (Nat.zero_le _) (fun k _ h => by omega) (fun _ => by simp [nb])
  unfold del
  rw [e]
  simp [nb]
theorem nb_hits {pat : ByteArray} {i : Nat} {ts : List ByteArray} : ∀ p ∈ hitsL pat (nb i ts), 7 * i ≤ p.1 := fun p hp => by
  unfold hitsL at hp
  obtain ⟨q, hq, hp⟩ := List.mem_flatMap.1 hp
  unfold hits1 at hp
  obtain ⟨a, _, rfl⟩ := List.mem_map.1 hp
  exact nb_ge i ts q hq
theorem tops_len {pat : ByteArray} {bs : List Vol} {L : List (Nat × Nat)} (h : Tops (cnts pat bs) L) (n : Int) : (topL L n).length ≤ bs.length := by
  have h1 := h.perm.length_eq
  have h2 := List.length_filter_le (fun p : Nat × Nat => decide (0 < p.2)) (cnts pat bs)
  have h3 : (cnts pat bs).length = bs.length := by unfold cnts; rw [List.length_map]
  unfold topL
  rw [List.length_map, List.length_take]
  omega
theorem Left.trans {a b c : World} {sb : Nat} (h : Left a b sb) (k : Left b c sb) : Left a c sb := ⟨by have := h.fr.trans k.fr; exact ⟨this.1, fun i hi hr => this.2 i hi (fun r hr' => by simp at hr'; subst hr'; exact hr _ (by simp))⟩, h.bl.trans k.bl⟩

set_option maxRecDepth 50000 in
set_option maxHeartbeats 4000000 in
/-- 'emptied'. -/
theorem emptied_any (ts : List ByteArray) (part : ByteArray) (hts : ts.length ≤ 6) (hp1 : 0 < part.size) (hp2 : part.size ≤ 60) (sb : Nat) (w : World) (h : SH w sb 92 129 (nb 0 ts)) :
    Calls Tryz.prog 20 #[.pointer (some ⟨sb, 0, none⟩), .int .i64 ts.length, .string part] w fun e w' => e = .returned (.bool true) ∧ Below sb w w' := by
  have hpe : patE part = 0 := by unfold patE; rw [if_neg (by omega), if_neg (by omega)]
  have HPE : Hid _ := hpe
  have HH : Hid _ := h
  have hsl := h.lt
  clear hpe h
  go_enter Tryz.func20, Tryz.ntmps20
  go_wp2_with fail
  go_loopw [7, 8, 9, 10, 11, 12, 13, 14] (fun iv _ _ _ _ _ _ _ wr => ∃ i : Nat, i ≤ ts.length ∧ iv = .int .i64 i ∧ SH wr sb 92 129 (nb i (ts.drop i)) ∧ Below sb w wr) (fun iv _ _ _ _ _ _ _ _ => ts.length - (intOf iv).toNat)
  case atStart => exact ⟨0, Nat.zero_le _, rfl, by rw [List.drop_zero]; exact HH.out, Below.refl _ _⟩
  case round =>
    clear HH
    obtain ⟨i, hi, rfl, hS, hb⟩ := hrel
    have hbs := hb.size
    by_cases hlt : i < ts.length
    · have hd : ts.drop i = ts[i] :: ts.drop (i + 1) := List.drop_eq_getElem_cons hlt
      rw [hd] at hS
      have C1 := Drop_any wr sb _ ((7 * i : Nat) : Int) hS
      have e1 : dropE (nb i (ts[i] :: ts.drop (i + 1))) ((7 * i : Nat) : Int) = 0 := by unfold dropE; rw [if_pos (nb_has _ _ _)]
      have e2 : dropB (nb i (ts[i] :: ts.drop (i + 1))) ((7 * i : Nat) : Int) = nb (i + 1) (ts.drop (i + 1)) := by unfold dropB; rw [if_pos (nb_has _ _ _), nb_del]
      rw [e1, e2] at C1
      have C2 := fun W h => Drop_any W sb (nb (i + 1) (ts.drop (i + 1))) ((7 * i : Nat) : Int) h
      have e3 : dropE (nb (i + 1) (ts.drop (i + 1))) ((7 * i : Nat) : Int) = 3 := by unfold dropE; rw [if_neg (by rw [nb_hasnt _ (by omega)]; simp)]
      have e4 : dropB (nb (i + 1) (ts.drop (i + 1))) ((7 * i : Nat) : Int) = nb (i + 1) (ts.drop (i + 1)) := by unfold dropB; rw [if_neg (by rw [nb_hasnt _ (by omega)]; simp)]
      simp only [e3, e4] at C2
      have e7 : ((7 * i : Nat) : Int) = 7 * (i : Int) := by omega
      rw [e7] at C1
      simp only [e7] at C2
      have C3 := fun W h => sFind_any W sb (nb (i + 1) (ts.drop (i + 1))) part h
      have C4 := fun W h => sTop_any W sb (nb (i + 1) (ts.drop (i + 1))) part 99 h (by omega)
      unfold sfindL at C3
      unfold stopL at C4
      simp only [HPE.out, if_true] at C3 C4
      have HHI : Hid _ := nb_hits (pat := part) (i := i + 1) (ts := ts.drop (i + 1))
      have hnl : (nb (i + 1) (ts.drop (i + 1))).length = ts.length - i - 1 := by rw [nb_length, List.length_drop]; omega
      have hhl : (hitsL part (nb (i + 1) (ts.drop (i + 1)))).length ≤ 100000 := by
        have := hitsL_len (pat := part) (bs := nb (i + 1) (ts.drop (i + 1))) (fun p hp => by
          have ho := hS.ok.sz
          obtain ⟨k, hk, rfl⟩ := List.getElem_of_mem hp
          rw [nb_length] at hk
          rw [nb_at _ _ k hk]
          have := ho (7 * (i + (k + 1)), (ts.drop (i + 1))[k]) (by
            refine List.mem_iff_getElem.2 ⟨k + 1, by rw [nb_length, List.length_cons]; omega, ?_⟩
            rw [nb_at i _ (k + 1) (by rw [List.length_cons]; omega)]; rfl)
          exact this)
        rw [hnl] at this; omega
      have HTL : Hid (∀ L, Tops (cnts part (nb (i + 1) (ts.drop (i + 1)))) L → (topL L 99).length ≤ ts.length - i - 1) := fun L hL => by have := tops_len hL 99; rw [hnl] at this; exact this
      have HC1 : Hid _ := C1
      have HC2 : Hid _ := C2
      have HC3 : Hid _ := C3
      have HC4 : Hid _ := C4
      have HHL : Hid _ := hhl
      have i1 : (i : Int) < (ts.length : Int) := by omega
      have v1 : IntKind.i64.wrap (7 * (i : Int)) = 7 * (i : Int) := by rw [IntKind.wrap_i64]; omega
      have v2 : IntKind.i64.wrap ((ts.length : Int) - (i : Int)) = (ts.length : Int) - (i : Int) := by rw [IntKind.wrap_i64]; omega
      have v3 : IntKind.i64.wrap ((ts.length : Int) - (i : Int) - 1) = (ts.length : Int) - (i : Int) - 1 := by rw [IntKind.wrap_i64]; omega
      clear C1 C2 C3 C4 e1 e2 e3 e4 e7 hd hS hnl hhl
      generalize hbs' : nb (i + 1) (ts.drop (i + 1)) = bs at *
      have HBS : Hid _ := hbs'
      clear hbs'
      generalize hitsL part bs = HL at *
      go_wp2_with fail
      refine Calls.mono HC1.out ?_
      rintro e w1 ⟨rfl, hS1, hL1⟩
      have HB1 : Hid _ := hb.trans hL1.bl
      have C2 := HC2.out w1 hS1
      have HC2' : Hid _ := C2
      clear HC1 HC2 C2 hS1 hL1 hb
      go_wp2_with fail
      refine Calls.mono HC2'.out ?_
      rintro e w2 ⟨rfl, hS2, hL2⟩
      have HB2 : Hid _ := HB1.out.trans hL2.bl
      have HS2 : Hid _ := hS2
      have C3 := HC3.out w2 hS2
      have HC3' : Hid _ := C3
      clear HC2' HC3 C3 hS2 hL2 HB1
      go_wp2_with fail
      refine Calls.mono HC3'.out ?_
      rintro e w3 ⟨vl, rfl, hl, hb3⟩
      obtain ⟨adl, cl, rfl⟩ := own_val hl
      have HS3 : Hid _ := SH.later HS2.out hb3
      have HB3 : Hid _ := HB2.out.trans (Below.mono hb3 (Nat.le_of_lt (SH.lt HS2.out)))
      have HL3 : Hid _ := hl
      have C4 := HC4.out w3 HS3.out
      have HC4' : Hid _ := C4
      clear HC3' HC4 C4 HS2 HB2 hb3 hl
      go_wp2_with fail
      refine Calls.mono HC4'.out ?_
      rintro e w4 ⟨vt, L, rfl, hT, ht, hb4⟩
      obtain ⟨adt, ct, rfl⟩ := own_val ht
      have HS4 : Hid _ := SH.later HS3.out hb4
      have HB4 : Hid _ := HB3.out.trans (Below.mono hb4 (Nat.le_of_lt (SH.lt HS3.out)))
      have HL4 : Hid _ := own_fr HL3.out (Fr.of_below hb4) (fun _ _ _ h => by cases h)
      have htl := HTL.out L (by simpa using hT)
      generalize (topL L 99).length = m at htl ⊢
      have j1 : ¬ (ts.length : Int) - (i : Int) - 1 < (m : Int) := by omega
      clear HC4' HS3 HB3 HL3 hT ht hb4 HTL htl
      obtain ⟨wo, hwo⟩ : ∃ wo, wo = wr := ⟨_, rfl⟩
      subst hwo
      go_wp2_with fail
      go_loopw [14] (fun kv wr => wr = w4 ∧ ∃ k : Nat, k ≤ HL.length ∧ kv = .int .i64 k) (fun kv _ => HL.length - (intOf kv).toNat)
      case atStart => exact ⟨rfl, 0, Nat.zero_le _, rfl⟩
      case round =>
        obtain ⟨hw, k, hk, rfl⟩ := hrel
        subst hw
        by_cases hkl : k < HL.length
        · obtain ⟨g, c', e', d0, d1⟩ := own_pair HL4.out hkl
          simp only [Value.slice.injEq, true_and] at e'
          obtain ⟨rfl, rfl⟩ := e'
          have hge := HHI.out _ (List.getElem_mem hkl)
          generalize HL[k] = q at d0 d1 hge
          have j2 : (k : Int) < (HL.length : Int) := by omega
          have j3 : (0 : Int) ≤ (k : Int) := by omega
          have j4 : ¬ (q.1 : Int) ≤ 7 * (i : Int) := by omega
          have hHl := HHL.out
          go_wp2
          go_roundw
          case rel => exact ⟨trivial, k + 1, by omega, by go_num⟩
          case measure => simp [intOf]; omega
        · have ek : k = HL.length := by omega
          subst ek
          have j2 : ¬ (HL.length : Int) < (HL.length : Int) := by omega
          go_wp2
          go_roundw
          case rel => exact ⟨i + 1, by omega, by go_num, by rw [HBS.out]; exact HS4.out, HB4.out⟩
          case measure => simp [intOf]; omega
    · have ei : i = ts.length := by omega
      subst ei
      have i1 : ¬ (ts.length : Int) < (ts.length : Int) := by omega
      rw [List.drop_length] at hS
      have C3 := sFind_any wr sb (nb ts.length []) part hS
      unfold sfindL at C3
      simp only [HPE.out, if_true] at C3
      have e : (hitsL part (nb ts.length [])) = [] := rfl
      rw [e] at C3
      have HC3 : Hid _ := C3
      clear C3 e hS
      go_wp2_with fail
      refine Calls.mono HC3.out ?_
      rintro e w3 ⟨vl, rfl, hl, hb3⟩
      obtain ⟨adl, cl, rfl⟩ := own_val hl
      clear hl HC3
      go_wp2
      go_ret
      exact ⟨rfl, hb.trans (Below.mono hb3 (by omega))⟩
end Go.Proofs.YtepklbboejnecaaGreat
