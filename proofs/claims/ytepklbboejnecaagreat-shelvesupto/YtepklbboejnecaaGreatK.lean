/- Several texts as one. -/
import Derived.Test.YtepklbboejnecaaGreatJi
import Derived.Deep.RegionHeldLaw
import Derived.Test.YtepklbboejnecaaGreatM
import Derived.Test.YtepklbboejnecaaGreatH
import Derived.Test.YtepklbboejnecaaGreatJj
import Derived.Deep.RegionHeld3
/- The document's own shelf: where a number stands; a text more, a text less. -/
namespace Go.Proofs.YtepklbboejnecaaGreat
open Go.RowKit Go.Shelf Sedge
attribute [local go_sem ↓] Go.wp_at_zero Go.wp_at_succ

/-- The place of a number, or -1. -/
def rfind (bs : List Vol) (id : Int) : Int := if hasId bs id = true then (lb bs id : Nat) else -1
theorem rfind_at {bs : List Vol} (h : OKs bs) {id : Int} {k : Nat} (hk : k < bs.length) (e : ((bs[k].1 : Nat) : Int) = id) : rfind bs id = (k : Int) := by
  have hl : lb bs id = k := lb_is (by omega) (fun t ht hlt => by have := h.lt ht hk hlt; omega) (fun _ => by omega)
  have hh : hasId bs id = true := h.found.2 ⟨by omega, by simp only [hl]; exact e⟩
  unfold rfind
  rw [if_pos hh, hl]
theorem rfind_none {bs : List Vol} {id : Int} (h : ∀ k (hk : k < bs.length), ((bs[k].1 : Nat) : Int) ≠ id) : rfind bs id = -1 := by
  have : hasId bs id = false := by
    unfold hasId
    rw [List.any_eq_false]
    intro p hp
    obtain ⟨k, hk, rfl⟩ := List.getElem_of_mem hp
    simpa using h k hk
  unfold rfind
  rw [this, if_neg (by simp)]

set_option maxRecDepth 20000 in
set_option maxHeartbeats 2000000 in
/-- 'find'. -/
theorem rfind_any (w : World) (sb : Nat) (bs : List Vol) (id : Int) (h : SH w sb 43 105 bs) :
    Calls Tryz.prog 48 #[.pointer (some ⟨sb, 0, none⟩), .int .i64 id] w fun e w' => e = .returned (.int .i64 (rfind bs id)) ∧ w' = w := by
  obtain ⟨ad, c, hbk, hel⟩ := h.ex
  have x0 := cell1 hbk
  have HE : Hid _ := hel.es
  have HO : Hid _ := h.ok
  have hlen := h.ok.len
  clear hel hbk h
  go_enter Tryz.func48, Tryz.ntmps48
  go_wp2_with fail
  go_loopw [5] (fun iv wr => wr = w ∧ ∃ k : Nat, k ≤ bs.length ∧ iv = .int .i64 k ∧ (∀ t (ht : t < bs.length), t < k → ((bs[t].1 : Nat) : Int) ≠ id)) (fun iv _ => bs.length - (intOf iv).toNat)
  case atStart => exact ⟨rfl, 0, Nat.zero_le _, rfl, fun t _ h => by omega⟩
  case round =>
    obtain ⟨hw, k, hk, rfl, hno⟩ := hrel
    subst hw
    have HNO : Hid _ := hno
    clear hno
    by_cases hlt : k < bs.length
    · obtain ⟨b, o, rfl, c0, c1⟩ := HE.out k hlt
      have hb : bs[k] = bs[k] := rfl
      by_cases e : ((bs[k].1 : Nat) : Int) = id
      · have hR := rfind_at HO.out hlt e
        have HR : Hid _ := hR
        rw [e] at c0
        have i1 : (k : Int) < (bs.length : Int) := by omega
        have i2 : (0 : Int) ≤ (k : Int) := by omega
        clear hR e c1 hb
        go_wp2
        go_ret
        exact ⟨by rw [HR.out]; rfl, rfl⟩
      · have HN2 : Hid (∀ t (ht : t < bs.length), t < k + 1 → ((bs[t].1 : Nat) : Int) ≠ id) := fun t ht h => by
          by_cases q : t = k
          · subst q; exact e
          · exact HNO.out t ht (by omega)
        generalize ((bs[k].1 : Nat) : Int) = y at c0 e
        have i1 : (k : Int) < (bs.length : Int) := by omega
        have i2 : (0 : Int) ≤ (k : Int) := by omega
        have i3 : (y == id) = false := beq_eq_false_iff_ne.2 e
        clear c1 hb
        go_wp2
        go_roundw
        case rel => exact ⟨trivial, k + 1, by omega, by go_num, HN2.out⟩
        case measure => simp [intOf]; omega
    · have ek : k = bs.length := by omega
      subst ek
      have i1 : ¬ (bs.length : Int) < (bs.length : Int) := by omega
      have HR : Hid _ := rfind_none (bs := bs) (id := id) (fun t ht => HNO.out t ht ht)
      go_wp2
      go_ret
      exact ⟨by rw [HR.out]; rfl, rfl⟩

theorem Tryz.infoBook : (Tryz.prog.info? 105).map (fun i => (i.zero, i.size, i.bytes)) = some (some (.agg #[.int .i64 0, .string ⟨#[]⟩]), 2, 24) := by kernel_rfl

set_option maxRecDepth 20000 in
set_option maxHeartbeats 2000000 in
/-- 'Drop'. -/
theorem rDrop_any (w : World) (sb : Nat) (bs : List Vol) (id : Int) (h : SH w sb 43 105 bs) :
    Calls Tryz.prog 24 #[.pointer (some ⟨sb, 0, none⟩), .int .i64 id] w fun e w' => e = .returned (.int .i64 (dropE bs id)) ∧ SH w' sb 43 105 (dropB bs id) ∧ Left w w' sb := by
  have hlt := h.lt
  have HH : Hid _ := h
  obtain ⟨ad, c, hbk, hel⟩ := h.ex
  have ho := h.ok
  have hlen := ho.len
  have CF := rfind_any w sb bs id h
  have x0 := cell1 hbk
  unfold dropB dropE
  unfold rfind at CF
  cases hh : hasId bs id with
  | false =>
    rw [hh, if_neg (by simp)] at CF
    rw [if_neg (by simp), if_neg (by simp)]
    have HC : Hid _ := CF
    clear CF hh hbk hel ho h
    go_enter Tryz.func24, Tryz.ntmps24
    go_wp2_with fail
    refine Calls.mono HC.out ?_
    rintro e w1 ⟨rfl, rfl⟩
    go_wp2
    go_ret
    exact ⟨rfl, HH.out, Left.of_below (Below.refl _ _) (Nat.le_of_lt hlt)⟩
  | true =>
    rw [hh, if_pos rfl] at CF
    rw [if_pos rfl, if_pos rfl]
    have hlb := (ho.found.1 hh).1
    have HC : Hid _ := CF
    have HO2 : Hid _ := OKs.del (id := id) ho
    have HIL : Hid _ := del_length hlb
    have HDD : Hid (del bs id = bs.take (lb bs id) ++ bs.drop (lb bs id + 1)) := rfl
    have HBK : Hid _ := hbk
    have HEL : Hid _ := hel
    clear CF hh h ho
    obtain ⟨l, hl⟩ : ∃ l, l = lb bs id := ⟨_, rfl⟩
    rw [← hl] at hlb HC HDD
    clear hl
    rcases hel.cap with ⟨rfl, hn, rfl⟩ | ⟨b, rfl, hnc, hcm⟩
    · omega
    · clear hel hbk
      have i1 : (l : Int) ≤ (c : Int) := by omega
      have i2 : (0 : Int) ≤ (l : Int) := by omega
      have i3 : (l : Int) + 1 ≤ (bs.length : Int) := by omega
      have i4 : (0 : Int) ≤ (l : Int) + 1 := by omega
      have i5 : (l : Int) + 1 ≤ (c : Int) := by omega
      have i6 : ¬ (l : Int) < 0 := by omega
      have v1 : IntKind.i64.wrap ((l : Int) + 1) = (l : Int) + 1 := by rw [IntKind.wrap_i64]; omega
      have v2 : ((l : Int) + 1).toNat = l + 1 := by omega
      have htl : (bs.take l).length = l := by rw [List.length_take]; omega
      have hdl : (bs.drop (l + 1)).length = bs.length - (l + 1) := List.length_drop
      have HT : Hid _ := htl
      have HD : Hid _ := hdl
      have HE1 : Hid (∀ W, Below w.heap.size w W → ES W (some ⟨b, 0, none⟩) (bs.take l)) := fun W hW => (ES.later HEL.out.es hW).take l
      have HE2 : Hid (∀ W, Below w.heap.size w W → ES W (endA b c (l + 1)) (bs.drop (l + 1))) := fun W hW => (ES.later HEL.out.es hW).end hnc (l + 1)
      clear htl hdl
      unfold endA at HE2
      by_cases hcl : c = l + 1
      · subst hcl
        have HE3 : Hid _ := HE2.out
        simp only [if_true] at HE3
        clear HE2
        go_enter Tryz.func24, Tryz.ntmps24
        go_wp2_with (first
          | (go_at_call 48; refine Calls.mono HC.out ?_; rintro e w1 ⟨rfl, rfl⟩)
          | (at_builtin; (refine wpList_appendE 41 105 Tryz.underlying41 Tryz.infoBook _ rfl (.tmp 12) (.tmp 18) rfl w1.heap.size (.slice none 0 0) [] rfl (World.ownsRow_nil _ _ _ _) (some ⟨b, 0, none⟩) (l + 1) (bs.take l) (by rw [HT.out]; rfl) (HE1.out _ (Below.refl _ _)) (fun h => by cases h) (by rw [HT.out]; simp; omega) (Nat.le_refl _) ?_; intro v3 w3 hown3 hb3; have x1 := cell1 (Blk.later HBK.out hb3); have HB3 : Hid _ := hb3; have HO3 : Hid _ := hown3; have hs3 := hb3.size; clear hown3 hb3))
          | (at_builtin; (refine wpList_appendE 41 105 Tryz.underlying41 Tryz.infoBook _ rfl (.tmp 20) (.tmp 27) rfl w1.heap.size v3 ([] ++ bs.take l) rfl HO3.out (some ⟨b, 0, none⟩) 0 (bs.drop (l + 1)) (by rw [HD.out]; first | rfl | (rw [show bs.length - (l + 1) = 0 by omega]; rfl)) (HE3.out _ HB3.out) (fun h => by cases h) (by rw [List.nil_append, HT.out, HD.out]; omega) hs3 ?_; intro v4 w4 hown4 hb4; have hB4 := Below.trans HB3.out hb4; have hbk4 := Blk.later HBK.out hB4; have x2 := cell1 hbk4; have f2 := Blk.free hbk4 0; rw [List.nil_append, ← HDD.out] at hown4; obtain ⟨ad5, c5, rfl, hel5⟩ := EL.own hown4; have HF : Hid _ := SH.stored HH.out (by decide) hB4 hel5 HO2.out; clear hown4 hb4 hB4 hbk4 hel5))
          | fail)
        go_ret
        exact ⟨rfl, HF.out⟩
      · have HE3 : Hid (∀ W, Below w.heap.size w W → ES W (some ⟨b, (l + 1) * 2, none⟩) (bs.drop (l + 1))) := by have := HE2.out; simp only [if_neg hcl] at this; exact this
        clear HE2
        go_enter Tryz.func24, Tryz.ntmps24
        go_wp2_with (first
          | (go_at_call 48; refine Calls.mono HC.out ?_; rintro e w1 ⟨rfl, rfl⟩)
          | (at_builtin; (refine wpList_appendE 41 105 Tryz.underlying41 Tryz.infoBook _ rfl (.tmp 12) (.tmp 18) rfl w1.heap.size (.slice none 0 0) [] rfl (World.ownsRow_nil _ _ _ _) (some ⟨b, 0, none⟩) c (bs.take l) (by rw [HT.out]; rfl) (HE1.out _ (Below.refl _ _)) (fun h => by cases h) (by rw [HT.out]; simp; omega) (Nat.le_refl _) ?_; intro v3 w3 hown3 hb3; have x1 := cell1 (Blk.later HBK.out hb3); have HB3 : Hid _ := hb3; have HO3 : Hid _ := hown3; have hs3 := hb3.size; clear hown3 hb3))
          | (at_builtin; (refine wpList_appendE 41 105 Tryz.underlying41 Tryz.infoBook _ rfl (.tmp 20) (.tmp 27) rfl w1.heap.size v3 ([] ++ bs.take l) rfl HO3.out (some ⟨b, (l + 1) * 2, none⟩) (c - (l + 1)) (bs.drop (l + 1)) (by rw [HD.out]; first | rfl | (rw [show bs.length - (l + 1) = 0 by omega]; rfl)) (HE3.out _ HB3.out) (fun h => by cases h) (by rw [List.nil_append, HT.out, HD.out]; omega) hs3 ?_; intro v4 w4 hown4 hb4; have hB4 := Below.trans HB3.out hb4; have hbk4 := Blk.later HBK.out hB4; have x2 := cell1 hbk4; have f2 := Blk.free hbk4 0; rw [List.nil_append, ← HDD.out] at hown4; obtain ⟨ad5, c5, rfl, hel5⟩ := EL.own hown4; have HF : Hid _ := SH.stored HH.out (by decide) hB4 hel5 HO2.out; clear hown4 hb4 hB4 hbk4 hel5))
          | fail)
        go_ret
        exact ⟨rfl, HF.out⟩

set_option maxRecDepth 20000 in
set_option maxHeartbeats 4000000 in
/-- 'Put', where there is room. -/
theorem rPut_ok (w : World) (sb : Nat) (bs : List Vol) (id : Nat) (t : ByteArray) (h : SH w sb 43 105 bs) (hid : id ≤ 999) (hh : hasId bs (id : Int) = false) (ht : t.size ≤ 200) (hl : bs.length < 20) :
    Calls Tryz.prog 21 #[.pointer (some ⟨sb, 0, none⟩), .int .i64 (id : Nat), .string t] w fun e w' => e = .returned (.int .i64 0) ∧ SH w' sb 43 105 (ins bs id t) ∧ Left w w' sb := by
  have HH : Hid _ := h
  have hslt := h.lt
  obtain ⟨ad, c, hbk, hel⟩ := h.ex
  have ho := h.ok
  have CF := rfind_any w sb bs (id : Int) h
  unfold rfind at CF
  rw [hh, if_neg (by simp)] at CF
  have HC : Hid _ := CF
  have x0 := cell1 hbk
  have HO2 : Hid _ := OKs.ins ho hh hid ht hl
  have HDD : Hid (ins bs id t = bs.take (lb bs (id : Int)) ++ [(id, t)] ++ bs.drop (lb bs (id : Int))) := rfl
  have HBK : Hid _ := hbk
  have HEL : Hid _ := hel
  have HOK : Hid _ := ho
  have j1 : ¬ (id : Int) < 0 := by omega
  have j2 : ¬ (999 : Int) < (id : Int) := by omega
  have j3 : ¬ (200 : Int) < (t.size : Int) := by omega
  have j4 : ¬ (20 : Int) ≤ (bs.length : Int) := by omega
  clear CF hh h ho hbk
  go_enter Tryz.func21, Tryz.ntmps21
  go_wp2_with fail
  refine Calls.mono HC.out ?_
  rintro e w1 ⟨rfl, hw1⟩
  subst hw1
  go_wp2_with fail
  go_loopw [8] (fun iv wr => wr = w1 ∧ ∃ k : Nat, k ≤ bs.length ∧ iv = .int .i64 k ∧ (∀ q (hq : q < bs.length), q < k → ((bs[q].1 : Nat) : Int) < (id : Int))) (fun iv _ => bs.length - (intOf iv).toNat)
  case atStart => exact ⟨rfl, 0, Nat.zero_le _, rfl, fun t _ h => by omega⟩
  case round =>
    obtain ⟨hw, k, hk, rfl, hno⟩ := hrel
    subst hw
    have HNO : Hid _ := hno
    clear hno
    by_cases hgo : ∃ hlt : k < bs.length, ((bs[k].1 : Nat) : Int) < (id : Int)
    · obtain ⟨hlt, hy⟩ := hgo
      obtain ⟨b, o, rfl, c0, c1⟩ := HEL.out.es k hlt
      have HN2 : Hid (∀ q (hq : q < bs.length), q < k + 1 → ((bs[q].1 : Nat) : Int) < (id : Int)) := fun q hq h => by
        by_cases e : q = k
        · subst e; exact hy
        · exact HNO.out q hq (by omega)
      generalize (bs[k].1 : Nat) = y at c0 hy
      have i1 : (k : Int) < (bs.length : Int) := by omega
      have i2 : (0 : Int) ≤ (k : Int) := by omega
      have i3 : (y : Int) < (id : Int) := hy
      clear c1 hel
      go_wp2
      go_roundw
      case rel => exact ⟨trivial, k + 1, by omega, by go_num, HN2.out⟩
      case measure => simp [intOf]; omega
    · have hlb : lb bs (id : Int) = k := lb_is hk (fun q hq h => HNO.out q hq h) (fun hq h => hgo ⟨hq, h⟩)
      have HDD2 := HDD.out
      rw [hlb] at HDD2
      obtain ⟨l, hlk⟩ : ∃ l, l = k := ⟨_, rfl⟩
      subst hlk
      have HDDx : Hid _ := HDD2
      have htl : (bs.take l).length = l := by rw [List.length_take]; omega
      have hdl : (bs.drop l).length = bs.length - l := List.length_drop
      have HT : Hid _ := htl
      have HD : Hid _ := hdl
      clear htl hdl HDD HDD2 hlb HC
      have HDD : Hid _ := HDDx.out
      clear HDDx
      rcases HEL.out.cap with ⟨rfl, hn, rfl⟩ | ⟨b, rfl, hnc, hcm⟩
      · have hl0 : l = 0 := by omega
        have e0 : bs = [] := List.eq_nil_of_length_eq_zero hn
        subst hl0
        subst e0
        have HE1 : Hid (∀ W : World, Below wr.heap.size wr W → ES W none (List.take 0 ([] : List Vol))) := fun W hW k hk => by simp at hk
        have HE2 : Hid (∀ W : World, Below wr.heap.size wr W → ES W none (List.drop 0 ([] : List Vol))) := fun W hW k hk => by simp at hk
        clear hgo hel HNO hn
        go_wp2_with (first
          | (at_builtin; refine wpList_appendE 41 105 Tryz.underlying41 Tryz.infoBook _ rfl (.tmp 51) (.tmp 57) rfl wr.heap.size (.slice none 0 0) [] rfl (World.ownsRow_nil _ _ _ _) (none) 0 (List.take 0 ([] : List Vol)) rfl (HE1.out _ (Below.refl _ _)) (fun h => by first | rfl | cases h) (by simp) (Nat.le_refl _) ?_; intro v3 w3 hown3 hb3; have x1 := cell1 (Blk.later HBK.out hb3); have HB3 : Hid _ := hb3; have HO3 : Hid _ := hown3; have hs3 := hb3.size; clear hown3 hb3)
          | (at_builtin; refine wpList_appendE 41 105 Tryz.underlying41 Tryz.infoBook _ rfl (.tmp 59) (.tmp 63) rfl wr.heap.size v3 ([] ++ List.take 0 ([] : List Vol)) rfl (World.ownsRow.alloc HO3.out _) (some ⟨w3.heap.size, 0, none⟩) 1 [(id, t)] rfl (ES.one (T := 105) (p := (id, t)) (Blk.new w3 _ _ rfl)) (fun h => by cases h) (by simp) (by simp; omega) ?_; intro v4 w4 hown4 hb4; have hB4 := Below.trans (Below.alloc HB3.out hs3 (Obj.cells #[.int .i64 (id : Nat), .string t] 105)) hb4; have x2 := cell1 (Blk.later HBK.out hB4); have HB4 : Hid _ := hB4; have HO4 : Hid _ := hown4; have hs4 := hB4.size; clear hown4 hb4 hB4)
          | (at_builtin; refine wpList_appendE 41 105 Tryz.underlying41 Tryz.infoBook _ rfl (.tmp 65) (.tmp 71) rfl wr.heap.size v4 ([] ++ List.take 0 ([] : List Vol) ++ [(id, t)]) rfl HO4.out (none) 0 (List.drop 0 ([] : List Vol)) rfl (HE2.out _ HB4.out) (fun h => by first | rfl | cases h) (by simp) hs4 ?_; intro v5 w5 hown5 hb5; have hB5 := Below.trans HB4.out hb5; have hbk5 := Blk.later HBK.out hB5; have x3 := cell1 hbk5; have f3 := Blk.free hbk5 0; rw [List.nil_append, ← HDD.out] at hown5; obtain ⟨ad6, c6, rfl, hel6⟩ := EL.own hown5; have HF : Hid _ := SH.stored HH.out (by decide) hB5 hel6 HO2.out; clear hown5 hb5 hB5 hbk5 hel6)
          | fail)
        go_ret
        exact ⟨rfl, HF.out⟩
      · have i1 : (l : Int) ≤ (c : Int) := by omega
        have i2 : (0 : Int) ≤ (l : Int) := by omega
        have i3 : (l : Int) ≤ (bs.length : Int) := by omega
        have HE1 : Hid (∀ W, Below wr.heap.size wr W → ES W (some ⟨b, 0, none⟩) (bs.take l)) := fun W hW => (ES.later HEL.out.es hW).take l
        have HE0 : Hid (∀ W, Below wr.heap.size wr W → ES W (endA b c l) (bs.drop l)) := fun W hW => (ES.later HEL.out.es hW).end hnc l
        by_cases hlt : l < bs.length
        · obtain ⟨b', o', e', c0, c1⟩ := HEL.out.es l hlt
          simp only [Option.some.injEq, Addr.mk.injEq, and_true] at e'
          obtain ⟨rfl, rfl⟩ := e'
          have hy : ¬ ((bs[l].1 : Nat) : Int) < (id : Int) := fun h => hgo ⟨hlt, h⟩
          rw [Nat.zero_add] at c0
          generalize (bs[l].1 : Nat) = y at c0 hy
          have i4 : (l : Int) < (bs.length : Int) := by omega
          have i5 : ¬ (y : Int) < (id : Int) := hy
          have hcl : ¬ c = l := by omega
          have HE2 : Hid (∀ W, Below wr.heap.size wr W → ES W (some ⟨b, l * 2, none⟩) (bs.drop l)) := by have := HE0.out; unfold endA at this; simp only [if_neg hcl] at this; exact this
          clear hgo hel HNO HE0 c1 hy
          go_wp2_with (first
            | (at_builtin; refine wpList_appendE 41 105 Tryz.underlying41 Tryz.infoBook _ rfl (.tmp 51) (.tmp 57) rfl wr.heap.size (.slice none 0 0) [] rfl (World.ownsRow_nil _ _ _ _) (some ⟨b, 0, none⟩) c (bs.take l) (by rw [HT.out]; rfl) (HE1.out _ (Below.refl _ _)) (fun h => by first | rfl | cases h) (by rw [HT.out]; simp; omega) (Nat.le_refl _) ?_; intro v3 w3 hown3 hb3; have x1 := cell1 (Blk.later HBK.out hb3); have HB3 : Hid _ := hb3; have HO3 : Hid _ := hown3; have hs3 := hb3.size; clear hown3 hb3)
            | (at_builtin; refine wpList_appendE 41 105 Tryz.underlying41 Tryz.infoBook _ rfl (.tmp 59) (.tmp 63) rfl wr.heap.size v3 ([] ++ bs.take l) rfl (World.ownsRow.alloc HO3.out _) (some ⟨w3.heap.size, 0, none⟩) 1 [(id, t)] rfl (ES.one (T := 105) (p := (id, t)) (Blk.new w3 _ _ rfl)) (fun h => by cases h) (by rw [List.nil_append, HT.out]; simp; omega) (by simp; omega) ?_; intro v4 w4 hown4 hb4; have hB4 := Below.trans (Below.alloc HB3.out hs3 (Obj.cells #[.int .i64 (id : Nat), .string t] 105)) hb4; have x2 := cell1 (Blk.later HBK.out hB4); have HB4 : Hid _ := hB4; have HO4 : Hid _ := hown4; have hs4 := hB4.size; clear hown4 hb4 hB4)
            | (at_builtin; refine wpList_appendE 41 105 Tryz.underlying41 Tryz.infoBook _ rfl (.tmp 65) (.tmp 71) rfl wr.heap.size v4 ([] ++ bs.take l ++ [(id, t)]) rfl HO4.out (some ⟨b, l * 2, none⟩) (c - l) (bs.drop l) (by rw [HD.out]; rfl) (HE2.out _ HB4.out) (fun h => by first | rfl | cases h) (by rw [List.nil_append, List.length_append, HT.out, HD.out]; simp; omega) hs4 ?_; intro v5 w5 hown5 hb5; have hB5 := Below.trans HB4.out hb5; have hbk5 := Blk.later HBK.out hB5; have x3 := cell1 hbk5; have f3 := Blk.free hbk5 0; rw [List.nil_append, ← HDD.out] at hown5; obtain ⟨ad6, c6, rfl, hel6⟩ := EL.own hown5; have HF : Hid _ := SH.stored HH.out (by decide) hB5 hel6 HO2.out; clear hown5 hb5 hB5 hbk5 hel6)
            | fail)
          go_ret
          exact ⟨rfl, HF.out⟩
        · have i4 : ¬ (l : Int) < (bs.length : Int) := by omega
          by_cases hcl : c = l
          · subst hcl
            have HE2 : Hid (∀ W, Below wr.heap.size wr W → ES W (some ⟨b, 0, none⟩) (bs.drop c)) := by have := HE0.out; unfold endA at this; simp only [if_true] at this; exact this
            clear hgo hel HNO HE0
            go_wp2_with (first
              | (at_builtin; refine wpList_appendE 41 105 Tryz.underlying41 Tryz.infoBook _ rfl (.tmp 51) (.tmp 57) rfl wr.heap.size (.slice none 0 0) [] rfl (World.ownsRow_nil _ _ _ _) (some ⟨b, 0, none⟩) c (bs.take c) (by rw [HT.out]; rfl) (HE1.out _ (Below.refl _ _)) (fun h => by first | rfl | cases h) (by rw [HT.out]; simp; omega) (Nat.le_refl _) ?_; intro v3 w3 hown3 hb3; have x1 := cell1 (Blk.later HBK.out hb3); have HB3 : Hid _ := hb3; have HO3 : Hid _ := hown3; have hs3 := hb3.size; clear hown3 hb3)
              | (at_builtin; refine wpList_appendE 41 105 Tryz.underlying41 Tryz.infoBook _ rfl (.tmp 59) (.tmp 63) rfl wr.heap.size v3 ([] ++ bs.take c) rfl (World.ownsRow.alloc HO3.out _) (some ⟨w3.heap.size, 0, none⟩) 1 [(id, t)] rfl (ES.one (T := 105) (p := (id, t)) (Blk.new w3 _ _ rfl)) (fun h => by cases h) (by rw [List.nil_append, HT.out]; simp; omega) (by simp; omega) ?_; intro v4 w4 hown4 hb4; have hB4 := Below.trans (Below.alloc HB3.out hs3 (Obj.cells #[.int .i64 (id : Nat), .string t] 105)) hb4; have x2 := cell1 (Blk.later HBK.out hB4); have HB4 : Hid _ := hB4; have HO4 : Hid _ := hown4; have hs4 := hB4.size; clear hown4 hb4 hB4)
              | (at_builtin; refine wpList_appendE 41 105 Tryz.underlying41 Tryz.infoBook _ rfl (.tmp 65) (.tmp 71) rfl wr.heap.size v4 ([] ++ bs.take c ++ [(id, t)]) rfl HO4.out (some ⟨b, 0, none⟩) 0 (bs.drop c) (by rw [HD.out, show bs.length - c = 0 by omega]; rfl) (HE2.out _ HB4.out) (fun h => by first | rfl | cases h) (by rw [List.nil_append, List.length_append, HT.out, HD.out]; simp; omega) hs4 ?_; intro v5 w5 hown5 hb5; have hB5 := Below.trans HB4.out hb5; have hbk5 := Blk.later HBK.out hB5; have x3 := cell1 hbk5; have f3 := Blk.free hbk5 0; rw [List.nil_append, ← HDD.out] at hown5; obtain ⟨ad6, c6, rfl, hel6⟩ := EL.own hown5; have HF : Hid _ := SH.stored HH.out (by decide) hB5 hel6 HO2.out; clear hown5 hb5 hB5 hbk5 hel6)
              | fail)
            go_ret
            exact ⟨rfl, HF.out⟩
          · have HE2 : Hid (∀ W, Below wr.heap.size wr W → ES W (some ⟨b, l * 2, none⟩) (bs.drop l)) := by have := HE0.out; unfold endA at this; simp only [if_neg hcl] at this; exact this
            clear hgo hel HNO HE0
            go_wp2_with (first
              | (at_builtin; refine wpList_appendE 41 105 Tryz.underlying41 Tryz.infoBook _ rfl (.tmp 51) (.tmp 57) rfl wr.heap.size (.slice none 0 0) [] rfl (World.ownsRow_nil _ _ _ _) (some ⟨b, 0, none⟩) c (bs.take l) (by rw [HT.out]; rfl) (HE1.out _ (Below.refl _ _)) (fun h => by first | rfl | cases h) (by rw [HT.out]; simp; omega) (Nat.le_refl _) ?_; intro v3 w3 hown3 hb3; have x1 := cell1 (Blk.later HBK.out hb3); have HB3 : Hid _ := hb3; have HO3 : Hid _ := hown3; have hs3 := hb3.size; clear hown3 hb3)
              | (at_builtin; refine wpList_appendE 41 105 Tryz.underlying41 Tryz.infoBook _ rfl (.tmp 59) (.tmp 63) rfl wr.heap.size v3 ([] ++ bs.take l) rfl (World.ownsRow.alloc HO3.out _) (some ⟨w3.heap.size, 0, none⟩) 1 [(id, t)] rfl (ES.one (T := 105) (p := (id, t)) (Blk.new w3 _ _ rfl)) (fun h => by cases h) (by rw [List.nil_append, HT.out]; simp; omega) (by simp; omega) ?_; intro v4 w4 hown4 hb4; have hB4 := Below.trans (Below.alloc HB3.out hs3 (Obj.cells #[.int .i64 (id : Nat), .string t] 105)) hb4; have x2 := cell1 (Blk.later HBK.out hB4); have HB4 : Hid _ := hB4; have HO4 : Hid _ := hown4; have hs4 := hB4.size; clear hown4 hb4 hB4)
              | (at_builtin; refine wpList_appendE 41 105 Tryz.underlying41 Tryz.infoBook _ rfl (.tmp 65) (.tmp 71) rfl wr.heap.size v4 ([] ++ bs.take l ++ [(id, t)]) rfl HO4.out (some ⟨b, l * 2, none⟩) (c - l) (bs.drop l) (by rw [HD.out]; rfl) (HE2.out _ HB4.out) (fun h => by first | rfl | cases h) (by rw [List.nil_append, List.length_append, HT.out, HD.out]; simp; omega) hs4 ?_; intro v5 w5 hown5 hb5; have hB5 := Below.trans HB4.out hb5; have hbk5 := Blk.later HBK.out hB5; have x3 := cell1 hbk5; have f3 := Blk.free hbk5 0; rw [List.nil_append, ← HDD.out] at hown5; obtain ⟨ad6, c6, rfl, hel6⟩ := EL.own hown5; have HF : Hid _ := SH.stored HH.out (by decide) hB5 hel6 HO2.out; clear hown5 hb5 hB5 hbk5 hel6)
              | fail)
            go_ret
            exact ⟨rfl, HF.out⟩
end Go.Proofs.YtepklbboejnecaaGreat

/- The document's own shelf: Put; where a pattern stands. -/
namespace Go.Proofs.YtepklbboejnecaaGreat
open Go.RowKit Go.Shelf Sedge
attribute [local go_sem ↓] Go.wp_at_zero Go.wp_at_succ

set_option maxRecDepth 20000 in
set_option maxHeartbeats 2000000 in
/-- 'Put'. -/
theorem rPut_any (w : World) (sb : Nat) (bs : List Vol) (id : Int) (t : ByteArray) (h : SH w sb 43 105 bs) :
    Calls Tryz.prog 21 #[.pointer (some ⟨sb, 0, none⟩), .int .i64 id, .string t] w fun e w' => e = .returned (.int .i64 (putE bs id t)) ∧ SH w' sb 43 105 (putB bs id t) ∧ Left w w' sb := by
  have hlt := h.lt
  have HH : Hid _ := h
  obtain ⟨ad, c, hbk, hel⟩ := h.ex
  have ho := h.ok
  have hlen := ho.len
  have HSS : Hid (SH w sb 43 105 bs ∧ Left w w sb) := ⟨h, Left.of_below (Below.refl _ _) (Nat.le_of_lt hlt)⟩
  unfold putB putE
  by_cases h1 : id < 0 ∨ 999 < id
  · rw [if_pos h1, if_neg (show ¬ (8 : Int) = 0 by omega)]
    clear h ho hel hbk
    by_cases h0 : id < 0
    · clear h1
      go_enter Tryz.func21, Tryz.ntmps21
      go_wp2
      go_ret
      exact ⟨rfl, HSS.out⟩
    · have i1 : 999 < id := by omega
      clear h1
      go_enter Tryz.func21, Tryz.ntmps21
      go_wp2
      go_ret
      exact ⟨rfl, HSS.out⟩
  · have i1 : ¬ id < 0 := by omega
    have i2 : ¬ 999 < id := by omega
    rw [if_neg h1]
    clear h1
    obtain ⟨k, rfl⟩ : ∃ k : Nat, id = (k : Int) := ⟨id.toNat, by omega⟩
    have x0 := cell1 hbk
    have CF := rfind_any w sb bs (k : Int) h
    unfold rfind at CF
    cases hh : hasId bs (k : Int) with
    | true =>
      rw [hh, if_pos rfl] at CF
      have HC : Hid _ := CF
      rw [if_pos rfl, if_neg (show ¬ (9 : Int) = 0 by omega)]
      obtain ⟨l, hl⟩ : ∃ l, l = lb bs (k : Int) := ⟨_, rfl⟩
      rw [← hl] at HC
      have i3 : (0 : Int) ≤ (l : Int) := by omega
      clear CF hh hbk hel ho h hl
      go_enter Tryz.func21, Tryz.ntmps21
      go_wp2_with fail
      refine Calls.mono HC.out ?_
      rintro e w1 ⟨rfl, rfl⟩
      go_wp2
      go_ret
      exact ⟨rfl, HSS.out⟩
    | false =>
      have hh' := hh
      rw [hh, if_neg (by simp)] at CF
      have HC : Hid _ := CF
      rw [if_neg (show ¬ false = true by simp)]
      by_cases h3 : 200 < t.size
      · have i3 : (200 : Int) < (t.size : Int) := by omega
        rw [if_pos h3, if_neg (show ¬ (2 : Int) = 0 by omega)]
        clear h3 hbk hel ho h CF hh hh'
        go_enter Tryz.func21, Tryz.ntmps21
        go_wp2_with fail
        refine Calls.mono HC.out ?_
        rintro e w1 ⟨rfl, rfl⟩
        go_wp2
        go_ret
        exact ⟨rfl, HSS.out⟩
      · have i3 : ¬ (200 : Int) < (t.size : Int) := by omega
        rw [if_neg h3]
        by_cases h4 : 20 ≤ bs.length
        · have i4 : (20 : Int) ≤ (bs.length : Int) := by omega
          rw [if_pos h4, if_neg (show ¬ (10 : Int) = 0 by omega)]
          clear h4 h3 hel ho hbk h CF hh hh'
          go_enter Tryz.func21, Tryz.ntmps21
          go_wp2_with fail
          refine Calls.mono HC.out ?_
          rintro e w1 ⟨rfl, rfl⟩
          go_wp2
          go_ret
          exact ⟨rfl, HSS.out⟩
        · rw [if_neg h4, if_pos rfl, Int.toNat_natCast]
          exact rPut_ok w sb bs k t h (by omega) hh' (by omega) (by omega)

set_option maxHeartbeats 2000000 in
/-- 'refused'. -/
theorem refused_any (pat : ByteArray) (w : World) : Calls Tryz.prog 50 #[.string pat] w fun e w' => e = .returned (.int .i64 (patE pat)) ∧ w' = w := by
  unfold patE
  by_cases h2 : 1000 < pat.size
  · have i2 : (1000 : Int) < (pat.size : Int) := by omega
    rw [if_pos h2]
    go_enter Tryz.func50, Tryz.ntmps50
    go_wp2
    go_ret
    exact ⟨rfl, rfl⟩
  · have i2 : ¬ (1000 : Int) < (pat.size : Int) := by omega
    rw [if_neg h2]
    by_cases h3 : pat.size = 0
    · rw [if_pos h3]
      have he := empty_of_size h3
      subst he
      clear h3 h2 i2
      go_enter Tryz.func50, Tryz.ntmps50
      go_wp2
      go_ret
      exact ⟨rfl, rfl⟩
    · rw [if_neg h3]
      have hne := isEmpty_size (show 0 < pat.size by omega)
      clear h3
      go_enter Tryz.func50, Tryz.ntmps50
      go_wp2
      go_ret
      exact ⟨rfl, rfl⟩

theorem Tryz.infoRHit : (Tryz.prog.info? 109).map (fun i => (i.zero, i.size, i.bytes)) = some (some (.agg #[.int .i64 0, .int .i64 0]), 2, 16) := by kernel_rfl
/-- 'append(l, x)' of two numbers, inside a region that draws its order. -/
theorem step_push2 (t e : TypeId) (hu : Tryz.prog.underlying t = some (.slice e)) (hinf : (Tryz.prog.info? e).map (fun i => (i.zero, i.size, i.bytes)) = some (some (.agg #[.int .i64 0, .int .i64 0]), 2, 16))
    {ops : Array Oper} {o : Oper} {a : Act} {w : World} {K : Act → World → Prop} {Q : Exit → Act → World → Prop} {E : Prop} (hg : o.guard = none) (d : Option Tmp) (hd : o.dst = d)
    (s x : Operand) (hop : o.op = Op.call { callee := Callee.builtin Builtin.append, args := #[s, x], argTypes := #[t, t] })
    (base : Nat) (v : Value) (l : List (Nat × Nat)) (hs : a.eval s = v) (hown : w.ownsRow base e 2 v l.length (HN l))
    (b : Nat) (p : Nat × Nat) (T : TypeId) (hx : a.eval x = .slice (some ⟨b, 0, none⟩) 1 1) (hc : Blk w b T [.int .i64 (p.1 : Nat), .int .i64 (p.2 : Nat)]) (hn : l.length ≤ 1000000) (hbase : base ≤ w.heap.size)
    (hK : ∀ v' w', w'.ownsRow base e 2 v' (l ++ [p]).length (HN (l ++ [p])) → w.grownBy w' v.ownBlock → Lies w w' v v' → K (a.put d v') w') :
    if Region.wanted o (yielded ops a.tmps) = true then Oper.wp Tryz.prog o a w K Q else E := by
  subst hd
  have hw : Region.wanted o (yielded ops a.tmps) = true := by simp [Region.wanted, hg]
  rw [if_pos hw]
  obtain ⟨i0, hi, hz0, hz1, hz2⟩ := info_parts hinf
  obtain ⟨v', w', hr, h2, h3, h4⟩ := run_push (P := Tryz.prog) w t o.type e i0 (.agg #[.int .i64 0, .int .i64 0]) 2 16 hu hi hz0 hz1 hz2 rfl (by decide) base v l.length (HN l) hown ⟨b, 0, none⟩ 1 [.int .i64 (p.1 : Nat), .int .i64 (p.2 : Nat)] rfl (by
    intro j u hj
    match j, hj with
    | 0, hj => simp at hj; subst hj; simpa [Addr.add] using hc.cell (k := 0) (by simp)
    | 1, hj => simp at hj; subst hj; simpa [Addr.add] using hc.cell (k := 1) (by simp)) (by
    intro u hu; simp at hu; rcases hu with rfl | rfl <;> rfl) (by unfold maxLen; omega) (by omega) hbase
  unfold Oper.wp execOp
  simp only [hop, resolve, invoke, builtin, Sem.run_bind, Sem.run_pure, Result.andThen_ok, List.map_toArray, List.map_cons, List.map_nil, hs, hx, hr]
  exact hK v' w' (by rw [List.length_append, HN_append]; exact h2) h3 h4
end Go.Proofs.YtepklbboejnecaaGreat

/- The document's own shelf: Find; how many texts have a part. -/
namespace Go.Proofs.YtepklbboejnecaaGreat
open Go.RowKit Go.Shelf Sedge
attribute [local go_sem ↓] Go.wp_at_zero Go.wp_at_succ

set_option maxRecDepth 20000 in
set_option maxHeartbeats 4000000 in
/-- 'Find'. -/
theorem rFind_any (w : World) (sb : Nat) (bs : List Vol) (pat : ByteArray) (h : SH w sb 43 105 bs) :
    Calls Tryz.prog 25 #[.pointer (some ⟨sb, 0, none⟩), .string pat] w fun e w' => ∃ v, e = .returned (.tuple #[v, .int .i64 (patE pat)]) ∧ w'.ownsRow w.heap.size 109 2 v (sfindL bs pat).length (HN (sfindL bs pat)) ∧ Below w.heap.size w w' := by
  have HH : Hid _ := h
  have hsl := h.lt
  have hlen := h.ok.len
  have C := refused_any pat w
  unfold sfindL
  by_cases hp : patE pat = 0
  · obtain ⟨hq1, hq2⟩ := patE_ok hp
    rw [hp] at C ⊢
    rw [if_pos rfl]
    have HC : Hid _ := C
    obtain ⟨ad, c, hbk0, hel0⟩ := h.ex
    have HBK : Hid _ := hbk0
    have HEL : Hid _ := hel0
    have HOK : Hid _ := h.ok
    clear C hp h hbk0 hel0
    go_enter Tryz.func25, Tryz.ntmps25
    go_wp2_with fail
    refine Calls.mono HC.out ?_
    rintro e w1 ⟨rfl, hw1⟩
    subst hw1
    go_wp2_with fail
    go_loopw [7, 8, 9, 10] (fun v iv _ _ wr => ∃ k : Nat, k ≤ bs.length ∧ iv = .int .i64 k ∧ wr.ownsRow w1.heap.size 109 2 v (hitsL pat (bs.take k)).length (HN (hitsL pat (bs.take k))) ∧ Below w1.heap.size w1 wr) (fun _ iv _ _ _ => bs.length - (intOf iv).toNat)
    case atStart => exact ⟨0, Nat.zero_le _, rfl, World.ownsRow_nil _ _ _ _, Below.refl _ _⟩
    case round =>
      obtain ⟨k, hk, rfl, hown, hb⟩ := hrel
      have x0 := cell1 (Blk.later HBK.out hb)
      by_cases hlt : k < bs.length
      · obtain ⟨b, o, rfl, c0, c1⟩ := (EL.later HEL.out hb).es k hlt
        have hsz := HOK.out.sz _ (List.getElem_mem hlt)
        have hsu := hitsL_succ (pat := pat) hlt
        have hl1 := hitsL_len (pat := pat) (bs := bs.take k) (fun p h => HOK.out.sz p (List.mem_of_mem_take h))
        rw [List.length_take, Nat.min_eq_left hk] at hl1
        have HSU : Hid _ := hsu
        have HW : Hid _ := hown
        have HBB : Hid _ := hb
        have hbs := hb.size
        obtain ⟨y0, hy0⟩ : ∃ y0 : Nat, y0 = bs[k].1 := ⟨_, rfl⟩
        have HCID : Hid (∀ W : World, Below w1.heap.size w1 W → W.cell? ⟨b, o + k * 2, none⟩ = some (.int .i64 (y0 : Nat))) := fun W hW => by
          obtain ⟨b', o', e', d0, _⟩ := (EL.later HEL.out hW).es k hlt
          simp only [Option.some.injEq, Addr.mk.injEq, and_true] at e'
          obtain ⟨rfl, rfl⟩ := e'
          rw [hy0]; exact d0
        have hpp : bs[k] = (y0, bs[k].2) := by rw [hy0]
        rw [hpp] at HSU
        rw [← hy0] at c0
        generalize bs[k].2 = tx at c1 hsz HSU
        generalize hitsL pat (bs.take k) = A at HSU HW hl1
        have i1 : (k : Int) < (bs.length : Int) := by omega
        have i2 : (0 : Int) ≤ (k : Int) := by omega
        clear hsu hown hb hy0 hpp
        go_wp2_with fail
        refine (refPlaces_any tx pat _ (by omega) hq1 hq2).mono ?_
        rintro e w2 ⟨vL, rfl, hL, hb2⟩
        obtain ⟨L, hLd⟩ : ∃ L, L = plcs (bl tx) (bl pat) := ⟨_, rfl⟩
        have hH : hits1 pat (y0, tx) = L.map fun a => (y0, a) := by unfold hits1; rw [hLd]
        have hLl : L.length ≤ 200 := by have := plcs_le (bl tx) (bl pat); rw [← hLd, bl_length] at this; omega
        rw [← hLd] at hL
        have HHI : Hid _ := hH
        have HL2 : Hid (w2.ownsRow 0 3 1 vL L.length (IV L)) := own_mono hL (Nat.zero_le _)
        have HW2 : Hid (w2.ownsRow w1.heap.size 109 2 u7 A.length (HN A)) := own_fr HW.out (Fr.of_below hb2) (fun _ _ _ h => by cases h)
        have HB2 : Hid _ := Below.trans HBB.out (Below.mono hb2 hbs)
        obtain ⟨adL, cL, rfl⟩ := own_val hL
        obtain ⟨wo, hwo⟩ : ∃ wo, wo = wr := ⟨_, rfl⟩
        subst hwo
        clear hb2 hH hLd hL HW HBB x0 c0 c1
        have x0 := cell1 (Blk.later HBK.out HB2.out)
        go_wp2_with fail
        clear x0
        go_loopw [7, 10] (fun v jv wr => ∃ j : Nat, j ≤ L.length ∧ jv = .int .i64 j ∧ wr.ownsRow w1.heap.size 109 2 v (A ++ (L.take j).map fun a => (y0, a)).length (HN (A ++ (L.take j).map fun a => (y0, a))) ∧ wr.ownsRow 0 3 1 (.slice adL L.length cL) L.length (IV L) ∧ Below w1.heap.size w1 wr) (fun _ jv _ => L.length - (intOf jv).toNat)
        case atStart => exact ⟨0, Nat.zero_le _, rfl, by rw [List.take_zero, List.map_nil, List.append_nil]; exact HW2.out, HL2.out, HB2.out⟩
        case round =>
          clear HW2 HB2 HL2
          obtain ⟨j, hj, rfl, hown, hL, hb⟩ := hrel
          by_cases hjl : j < L.length
          · obtain ⟨gL, cL', eL, d3⟩ := own_int hL hjl
            simp only [Value.slice.injEq, true_and] at eL
            obtain ⟨rfl, rfl⟩ := eL
            have d1 := cell1 (Blk.later HBK.out hb)
            have d2 := HCID.out _ hb
            have HTS : Hid (L.take (j + 1) = L.take j ++ [L[j]]) := by unfold Hid; rw [List.take_add_one, List.getElem?_eq_getElem hjl]; rfl
            have HTL : Hid ((L.take j).length = j) := by unfold Hid; rw [List.length_take]; omega
            have HLc : Hid (∀ W : World, W.ownsRow 0 3 1 (.slice (some ⟨gL, 0, none⟩) L.length cL) L.length (IV L) → W.cell? ⟨gL, j, none⟩ = some (.int .i64 (L[j] : Nat))) := fun W hW => by
              obtain ⟨g', c', e', d⟩ := own_int hW hjl
              simp only [Value.slice.injEq, Option.some.injEq, Addr.mk.injEq, and_true, true_and] at e'
              obtain ⟨rfl, rfl⟩ := e'
              exact d
            generalize L[j] = a at d3 HTS HLc
            have i3 : (j : Int) < (L.length : Int) := by omega
            have i4 : (0 : Int) ≤ (j : Int) := by omega
            have hAl : (A ++ (L.take j).map fun a => (y0, a)).length ≤ 1000000 := by rw [List.length_append, List.length_map, HTL.out]; omega
            have HXX : Hid (A ++ (L.take (j + 1)).map (fun a => (y0, a)) = (A ++ (L.take j).map fun a => (y0, a)) ++ [(y0, a)]) := by unfold Hid; rw [HTS.out, List.map_append, ← List.append_assoc]; rfl
            generalize (A ++ (L.take j).map fun a => (y0, a)) = X at hown hAl HXX
            have HOW : Hid _ := hown
            have HOW1 : Hid _ := own_fr hown (Fr.of_below ((Below.refl _ wr).drew)) (fun _ _ _ h => by cases h)
            have HLL : Hid _ := hL
            have HBB : Hid _ := hb
            have hws := hb.size
            have HAl : Hid _ := hAl
            obtain ⟨advv, cvv, hvv⟩ := own_val hown
            subst hvv
            clear hown hL hAl hb
            go_wp2_with fail
            go_region_held_law (fun w' => w'.cell? ⟨sb, 0, none⟩ = some (.slice (some ⟨b, o, none⟩) bs.length c) ∧ w'.cell? ⟨b, o + k * 2, none⟩ = some (.int .i64 (y0 : Nat)) ∧ w'.cell? ⟨gL, j, none⟩ = some (.int .i64 (a : Nat))) (go_keep)
              (first
                | (refine step_push2 73 109 Tryz.underlying73 Tryz.infoRHit rfl (some 56) rfl (.tmp 41) (.tmp 55) rfl w1.heap.size (.slice advv X.length cvv) X rfl (World.ownsRow.alloc HOW1.out _) wr.heap.size (y0, a) 109 rfl (Blk.new _ _ _ (by simp)) HAl.out (by simp; omega) ?_; intro v4 w4 q1 q2 q3; have F4 : Fr wr w4 [_] := (Fr.of_below (((Below.refl _ wr).drew).alloc (by simp) _)).trans (Fr.of_grown q2); have hB4 := HBB.out.trans ((((Below.refl w1.heap.size wr).drew).alloc (by simp; omega) _).grown q2 (by simp; omega) (fun k e => (World.ownsRow.lt HOW.out k e).1)); have hL4 := own_fr HLL.out F4 (free_of_apart (own_ty2 HLL.out HOW.out (by decide))); have z1 := cell1 (Blk.later HBK.out hB4); have z2 := HCID.out _ hB4; have z3 := HLc.out _ hL4; have HQ1 : Hid _ := q1; have HB4 : Hid _ := hB4; have HL4 : Hid _ := hL4; clear q1 q2 q3 F4 hB4 hL4))
            go_wp2_with fail
            go_roundw
            case rel => exact ⟨j + 1, by omega, by go_num, by rw [HXX.out]; exact HQ1.out, HL4.out, HB4.out⟩
            case measure => simp [intOf]; omega
          · have ej : j = L.length := by omega
            subst ej
            have i3 : ¬ (L.length : Int) < (L.length : Int) := by omega
            rw [List.take_length] at hown
            have HOW : Hid _ := hown
            clear hown hL
            go_wp2
            go_roundw
            case rel => exact ⟨k + 1, by omega, by go_num, by rw [HSU.out, HHI.out]; exact HOW.out, hb⟩
            case measure => simp [intOf]; omega
      · have ek : k = bs.length := by omega
        subst ek
        rw [List.take_length] at hown
        have HOW : Hid _ := hown
        have i1 : ¬ (bs.length : Int) < (bs.length : Int) := by omega
        clear hown
        go_wp2
        go_ret2
        exact ⟨_, rfl, HOW.out, hb⟩
  · rw [if_neg hp]
    have hp2 := patE_no hp
    obtain ⟨m, hm⟩ : ∃ m, m = patE pat := ⟨_, rfl⟩
    rw [← hm] at hp hp2 C ⊢
    have HC : Hid _ := C
    have i1 : (m == 0) = false := by simp; omega
    clear C hm hp2 h
    go_enter Tryz.func25, Tryz.ntmps25
    go_wp2_with fail
    refine Calls.mono HC.out ?_
    rintro e w1 ⟨rfl, rfl⟩
    go_wp2
    go_ret2
    exact ⟨_, rfl, World.ownsRow_nil _ _ _ _, Below.refl _ _⟩
end Go.Proofs.YtepklbboejnecaaGreat

/- The document's own shelf: how many texts have a part; the widest one. -/
namespace Go.Proofs.YtepklbboejnecaaGreat
open Go.RowKit Go.Shelf Sedge
attribute [local go_sem ↓] Go.wp_at_zero Go.wp_at_succ

theorem plcs_has {l q : List Nat} (_hq : 0 < q.length) : decide (0 < (plcs l q).length) = hasB l q := by
  have key : 0 < (plcs l q).length ↔ hasB l q = true := by
    rw [hasB_iff, List.length_pos_iff_exists_mem]
    unfold plcs
    constructor
    · rintro ⟨p, hp⟩
      rw [List.mem_filter, List.mem_range] at hp
      have h1 := of_decide_eq_true (show decide (q = (l.drop p).take q.length) = true from hp.2)
      have hl := congrArg List.length h1
      rw [List.length_take, List.length_drop] at hl
      refine ⟨p, hp.1, ?_⟩
      rw [lcp_eq_iff]
      refine ⟨by rw [List.length_drop]; omega, Nat.le_refl _, fun j hj => ?_⟩
      have e : num ((l.drop p).take q.length) j = num (l.drop p) j := by simp [num, List.getD, hj]
      rw [← e, ← h1]
    · rintro ⟨p, hp, h⟩
      refine ⟨p, ?_⟩
      rw [List.mem_filter, List.mem_range]
      refine ⟨hp, ?_⟩
      have := take_of_lcp _ _ _ h
      rw [List.take_length] at this
      exact decide_eq_true this.symm
  cases h : hasB l q with
  | true => exact decide_eq_true (key.2 h)
  | false => exact decide_eq_false (fun q => by rw [key.1 q] at h; cases h)
theorem holdN_succ {bs : List Vol} {k : Nat} (h : k < bs.length) (q : List Nat) : holdN (txs (bs.take (k + 1))) q = holdN (txs (bs.take k)) q + if hasB (bl bs[k].2) q = true then 1 else 0 := by
  unfold holdN txs
  rw [List.take_add_one, List.getElem?_eq_getElem h, List.map_append, List.countP_append]
  simp [List.countP_cons]
theorem holdN_le (bs : List Vol) (q : List Nat) : holdN (txs bs) q ≤ bs.length := by
  unfold holdN
  have := List.countP_le_length (p := fun l => hasB l q) (l := txs bs)
  rwa [txs_length] at this

set_option maxRecDepth 20000 in
set_option maxHeartbeats 2000000 in
/-- 'holders'. -/
theorem holders_any (w : World) (sb : Nat) (bs : List Vol) (part : ByteArray) (h : SH w sb 43 105 bs) (hp1 : part.size ≤ 1000) (hp2 : 0 < part.size) :
    Calls Tryz.prog 53 #[.pointer (some ⟨sb, 0, none⟩), .string part] w fun e w' => e = .returned (.int .i64 (holdN (txs bs) (bl part) : Nat)) ∧ Below w.heap.size w w' := by
  have hlen := h.ok.len
  obtain ⟨ad, c, hbk0, hel0⟩ := h.ex
  have HBK : Hid _ := hbk0
  have HEL : Hid _ := hel0
  have HOK : Hid _ := h.ok
  clear h hbk0 hel0
  go_enter Tryz.func53, Tryz.ntmps53
  go_wp2_with fail
  go_loopw [5, 6] (fun nv iv wr => ∃ k : Nat, k ≤ bs.length ∧ iv = .int .i64 k ∧ nv = .int .i64 (holdN (txs (bs.take k)) (bl part) : Nat) ∧ Below w.heap.size w wr) (fun _ iv _ => bs.length - (intOf iv).toNat)
  case atStart => exact ⟨0, Nat.zero_le _, rfl, rfl, Below.refl _ _⟩
  case round =>
    obtain ⟨k, hk, rfl, rfl, hb⟩ := hrel
    have x0 := cell1 (Blk.later HBK.out hb)
    by_cases hlt : k < bs.length
    · obtain ⟨b, o, rfl, c0, c1⟩ := (EL.later HEL.out hb).es k hlt
      have hsz := HOK.out.sz _ (List.getElem_mem hlt)
      have hsu := holdN_succ hlt (bl part)
      have hle := holdN_le (bs.take k) (bl part)
      rw [List.length_take, Nat.min_eq_left hk] at hle
      rw [← plcs_has (l := bl bs[k].2) (q := bl part) (by rw [bl_length]; exact hp2)] at hsu
      generalize bs[k].2 = tx at c1 hsz hsu
      generalize holdN (txs (bs.take k)) (bl part) = q at hsu hle ⊢
      have HSU : Hid _ := hsu
      have C := refPlaces_any tx part wr (by omega) hp1 hp2
      generalize plcs (bl tx) (bl part) = P at C HSU
      have HC : Hid _ := C
      have HBB : Hid _ := hb
      have hbs := hb.size
      have i1 : (k : Int) < (bs.length : Int) := by omega
      have i2 : (0 : Int) ≤ (k : Int) := by omega
      clear hsu C hb c0
      go_wp2_with fail
      refine Calls.mono HC.out ?_
      rintro e w2 ⟨vL, rfl, hL, hb2⟩
      obtain ⟨adL, cL, rfl⟩ := own_val hL
      clear hL HC
      by_cases hn : 0 < P.length
      · have hsu := HSU.out
        rw [decide_eq_true hn, if_pos rfl] at hsu
        have HS2 : Hid _ := hsu
        have i3 : (0 : Int) < (P.length : Int) := by omega
        clear hsu
        go_wp2
        go_roundw
        case rel => exact ⟨k + 1, by omega, by go_num, by rw [HS2.out]; go_num, Below.trans HBB.out (Below.mono hb2 hbs)⟩
        case measure => simp [intOf]; omega
      · have hsu := HSU.out
        rw [decide_eq_false hn, if_neg (by simp), Nat.add_zero] at hsu
        have HS2 : Hid _ := hsu
        have i3 : ¬ (0 : Int) < (P.length : Int) := by omega
        clear hsu
        go_wp2
        go_roundw
        case rel => exact ⟨k + 1, by omega, by go_num, congrArg (fun x : Nat => Value.int .i64 (x : Int)) HS2.out.symm, Below.trans HBB.out (Below.mono hb2 hbs)⟩
        case measure => simp [intOf]; omega
    · have ek : k = bs.length := by omega
      subst ek
      have i1 : ¬ (bs.length : Int) < (bs.length : Int) := by omega
      rw [List.take_length]
      go_wp2
      go_ret
      exact ⟨rfl, hb⟩
end Go.Proofs.YtepklbboejnecaaGreat

/- The document's own shelf: the widest part. -/
namespace Go.Proofs.YtepklbboejnecaaGreat
open Go.RowKit Go.Shelf Sedge
attribute [local go_sem ↓] Go.wp_at_zero Go.wp_at_succ

set_option maxRecDepth 20000 in
set_option maxHeartbeats 4000000 in
/-- 'Wide', where there are so many texts. -/
theorem rWide_ok (w : World) (sb : Nat) (bs : List Vol) (n : Nat) (h : SH w sb 43 105 bs) (hn1 : 1 ≤ n) (hn2 : n ≤ bs.length) :
    Calls Tryz.prog 32 #[.pointer (some ⟨sb, 0, none⟩), .int .i64 n] w fun e w' => ∃ r, e = .returned (.tuple #[.string r, .int .i64 0]) ∧ WideIs (txs bs) n (bl r) ∧ Below w.heap.size w w' := by
  have HH : Hid _ := h
  have hlen := h.ok.len
  obtain ⟨ad, c, hbk0, hel0⟩ := h.ex
  have x0 := cell1 hbk0
  have HBK : Hid _ := hbk0
  have HEL : Hid _ := hel0
  have HOK : Hid _ := h.ok
  have HM : Hid (∀ l ∈ txs bs, l.length ≤ 200) := fun l hl => by
    unfold txs at hl
    obtain ⟨p, hp, rfl⟩ := List.mem_map.1 hl
    rw [bl_length]; exact HOK.out.sz p hp
  have j1 : ¬ (n : Int) < 1 := by omega
  have j2 : ¬ (bs.length : Int) < (n : Int) := by omega
  clear h hbk0 hel0
  go_enter Tryz.func32, Tryz.ntmps32
  go_wp2_with fail
  go_loopw [6, 7, 8, 9, 10, 11, 12, 13] (fun bv mv sv _ _ _ _ _ wr => ∃ (s : Nat) (bst : ByteArray) (more : Bool), s ≤ 201 ∧ sv = .int .i64 ((s : Int) + 1) ∧ bv = .string bst ∧ mv = .bool more ∧ (more = true → DWide (txs bs) n s (bl bst)) ∧ (more = false → WideIs (txs bs) n (bl bst)) ∧ Below w.heap.size w wr) (fun _ _ sv _ _ _ _ _ _ => 300 - (intOf sv).toNat)
  case atStart => exact ⟨0, ⟨#[]⟩, true, by omega, rfl, rfl, rfl, fun _ => DWide.start _ _, fun q => (by cases q), Below.refl _ _⟩
  case round =>
    clear x0
    obtain ⟨s, bst, more, hs, rfl, rfl, rfl, hD, hW, hb⟩ := hrel
    cases more with
    | false =>
      have HW : Hid _ := hW rfl
      clear hW hD
      go_wp2
      go_ret2
      exact ⟨_, rfl, HW.out, hb⟩
    | true =>
      have hd := hD rfl
      have hs2 := hd.le hn1 HM.out
      have HE0 : Hid _ := EWide.start hd
      obtain ⟨b0, hb0⟩ : ∃ b0, b0 = bl bst := ⟨_, rfl⟩
      have HE1 : Hid (EWide (txs bs) n s 0 0 b0 (bl bst) false) := by unfold Hid; rw [hb0]; exact HE0.out
      have HBB : Hid _ := hb
      clear hD hW hd hb0 HE0 hb
      go_wp2_with fail
      go_loopw [6, 7, 9, 10, 11, 12, 13] (fun bv mv iv _ _ _ _ wr => ∃ (i : Nat) (bst : ByteArray) (more : Bool), i ≤ bs.length ∧ iv = .int .i64 i ∧ bv = .string bst ∧ mv = .bool more ∧ EWide (txs bs) n s i 0 b0 (bl bst) more ∧ Below w.heap.size w wr) (fun _ _ iv _ _ _ _ _ => bs.length - (intOf iv).toNat)
      case atStart => exact ⟨0, bst, false, Nat.zero_le _, rfl, rfl, rfl, HE1.out, HBB.out⟩
      case round =>
        clear HE1 HBB
        obtain ⟨i, bst, more, hi, rfl, rfl, rfl, hE, hb⟩ := hrel
        have HE : Hid _ := hE
        have x0 := cell1 (Blk.later HBK.out hb)
        clear hE
        by_cases hlt : i < bs.length
        · obtain ⟨b, o, rfl, c0, c1⟩ := (EL.later HEL.out hb).es i hlt
          have hsz := HOK.out.sz _ (List.getElem_mem hlt)
          have hxi := txs_at bs hlt
          have hix : i < (txs bs).length := by rw [txs_length]; exact hlt
          generalize (bs[i]'hlt).2 = tx at c1 hsz hxi
          have HXI : Hid _ := hxi
          have HIX : Hid _ := hix
          have HBB : Hid _ := hb
          have i1 : (i : Int) < (bs.length : Int) := by omega
          have i2 : (0 : Int) ≤ (i : Int) := by omega
          clear hxi hix hb c0
          obtain ⟨wo, hwo⟩ : ∃ wo, wo = wr := ⟨_, rfl⟩
          subst hwo
          go_wp2_with fail
          clear x0 c1
          go_loopw [6, 7, 11, 12, 13] (fun bv mv kv _ _ wr => ∃ (k : Nat) (bst : ByteArray) (more : Bool), k ≤ tx.size + 1 ∧ kv = .int .i64 k ∧ bv = .string bst ∧ mv = .bool more ∧ EWide (txs bs) n s i k b0 (bl bst) more ∧ Below w.heap.size w wr) (fun _ _ kv _ _ _ => tx.size + 1 - (intOf kv).toNat)
          case atStart => exact ⟨0, bst, more, Nat.zero_le _, rfl, rfl, rfl, HE.out, HBB.out⟩
          case round =>
            clear HE HBB
            obtain ⟨k, bst, more, hk, rfl, rfl, rfl, hE, hb⟩ := hrel
            have HE : Hid _ := hE
            have HBB : Hid _ := hb
            have v1 : IntKind.i64.wrap ((k : Int) + ((s : Int) + 1)) = (k : Int) + ((s : Int) + 1) := by rw [IntKind.wrap_i64]; omega
            clear hE
            by_cases hkl : k + (s + 1) ≤ tx.size
            · have j3 : (k : Int) + ((s : Int) + 1) ≤ (tx.size : Int) := by omega
              have j4 : (0 : Int) ≤ (k : Int) := by omega
              have j5 : (k : Int) ≤ (k : Int) + ((s : Int) + 1) := by omega
              have v2 : ((k : Int) + ((s : Int) + 1)).toNat = k + (s + 1) := by omega
              obtain ⟨p, hp⟩ : ∃ p, p = tx.extract k (k + (s + 1)) := ⟨_, rfl⟩
              have ep : bl p = (((txs bs)[i]'HIX.out).drop k).take (s + 1) := by rw [HXI.out, hp]; exact bl_extract2 tx k (s + 1)
              have eps : p.size = s + 1 := by rw [hp, ByteArray.size_extract]; omega
              have hless := less_bl p bst
              have hkx : k + (s + 1) ≤ ((txs bs)[i]'HIX.out).length := by rw [HXI.out, bl_length]; exact hkl
              have HEP : Hid _ := ep
              have HKX : Hid _ := hkx
              have HPS : Hid _ := eps
              have hbl : (bl bst).length = bst.size := bl_length bst
              have HBLs : Hid _ := hbl
              by_cases hskip : bst.size = s + 1 ∧ ¬ bl p < bl bst
              · have HN : Hid (EWide (txs bs) n s i (k + 1) b0 (bl bst) more) := EWide.skip HE.out HIX.out (by rw [HBLs.out]; exact hskip.1) (by rw [← HEP.out]; exact hskip.2)
                rw [decide_eq_false hskip.2, hp] at hless
                have i3 : (bst.size : Int) = (s : Int) + 1 := by omega
                clear hskip hbl ep eps hkx hp
                go_wp2
                go_roundw
                case rel => exact ⟨k + 1, bst, more, by omega, by go_num, rfl, rfl, HN.out, hb⟩
                case measure => simp [intOf]; omega
              · have CH := fun W h => holders_any W sb bs p h (by omega) (by omega)
                rw [hp] at CH
                have HCH : Hid _ := CH
                have hq : ∃ q, q = holdN (txs bs) (bl (tx.extract k (k + (s + 1)))) := ⟨_, rfl⟩
                obtain ⟨q, hq⟩ := hq
                have HQ : Hid (q = holdN (txs bs) ((((txs bs)[i]'HIX.out).drop k).take (s + 1))) := by unfold Hid; rw [← HEP.out, hp]; exact hq
                rw [← hq] at HCH
                have HNS : Hid (¬ ((bl bst).length = s + 1 ∧ ¬ (((txs bs)[i]'HIX.out).drop k).take (s + 1) < bl bst)) := fun h => hskip ⟨by rw [← HBLs.out]; exact h.1, by rw [HEP.out]; exact h.2⟩
                have HPE : Hid (bl (tx.extract k (k + (s + 1))) = (((txs bs)[i]'HIX.out).drop k).take (s + 1)) := by unfold Hid; rw [← HEP.out, hp]
                have hx : (¬ bst.size = s + 1) ∨ (bst.size = s + 1 ∧ bl p < bl bst) := by
                  by_cases e : bst.size = s + 1
                  · exact .inr ⟨e, Classical.byContradiction fun q => hskip ⟨e, q⟩⟩
                  · exact .inl e
                have HX0 : Hid _ := HCH.out wr (SH.later HH.out HBB.out)
                have hbs := hb.size
                clear hskip hbl ep eps hkx CH hq HCH hb
                by_cases hnq : n ≤ q
                · have HN : Hid (EWide (txs bs) n s i (k + 1) b0 (bl (tx.extract k (k + (s + 1)))) true) := by unfold Hid; rw [HPE.out]; exact EWide.take HE.out HIX.out HKX.out HNS.out (by rw [← HQ.out]; exact hnq)
                  have k1 : (n : Int) ≤ (q : Int) := by omega
                  rcases hx with e | ⟨e, e2⟩
                  · have i3 : ¬ (bst.size : Int) = (s : Int) + 1 := by omega
                    have i4 : ((bst.size : Int) == (s : Int) + 1) = false := beq_eq_false_iff_ne.2 i3
                    clear e hless hp
                    go_wp2_with fail
                    refine Calls.mono HX0.out ?_
                    rintro e w2 ⟨rfl, hb2⟩
                    go_wp2
                    go_roundw
                    case rel => exact ⟨k + 1, _, true, by omega, by go_num, rfl, rfl, HN.out, Below.trans HBB.out (Below.mono hb2 hbs)⟩
                    case measure => simp [intOf]; omega
                  · have i3 : (bst.size : Int) = (s : Int) + 1 := by omega
                    rw [decide_eq_true e2, hp] at hless
                    clear e e2 hp
                    go_wp2_with fail
                    refine Calls.mono HX0.out ?_
                    rintro e w2 ⟨rfl, hb2⟩
                    go_wp2
                    go_roundw
                    case rel => exact ⟨k + 1, _, true, by omega, by go_num, rfl, rfl, HN.out, Below.trans HBB.out (Below.mono hb2 hbs)⟩
                    case measure => simp [intOf]; omega
                · have HN : Hid (EWide (txs bs) n s i (k + 1) b0 (bl bst) more) := EWide.few HE.out HIX.out (by rw [← HQ.out]; omega)
                  have k1 : ¬ (n : Int) ≤ (q : Int) := by omega
                  rcases hx with e | ⟨e, e2⟩
                  · have i3 : ¬ (bst.size : Int) = (s : Int) + 1 := by omega
                    have i4 : ((bst.size : Int) == (s : Int) + 1) = false := beq_eq_false_iff_ne.2 i3
                    clear e hless hp
                    go_wp2_with fail
                    refine Calls.mono HX0.out ?_
                    rintro e w2 ⟨rfl, hb2⟩
                    go_wp2
                    go_roundw
                    case rel => exact ⟨k + 1, bst, more, by omega, by go_num, rfl, rfl, HN.out, Below.trans HBB.out (Below.mono hb2 hbs)⟩
                    case measure => simp [intOf]; omega
                  · have i3 : (bst.size : Int) = (s : Int) + 1 := by omega
                    rw [decide_eq_true e2, hp] at hless
                    clear e e2 hp
                    go_wp2_with fail
                    refine Calls.mono HX0.out ?_
                    rintro e w2 ⟨rfl, hb2⟩
                    go_wp2
                    go_roundw
                    case rel => exact ⟨k + 1, bst, more, by omega, by go_num, rfl, rfl, HN.out, Below.trans HBB.out (Below.mono hb2 hbs)⟩
                    case measure => simp [intOf]; omega
            · have j3 : ¬ (k : Int) + ((s : Int) + 1) ≤ (tx.size : Int) := by omega
              have HN : Hid (EWide (txs bs) n s (i + 1) 0 b0 (bl bst) more) := EWide.line HE.out (fun hi => by have := HXI.out; rw [this, bl_length]; omega)
              go_wp2
              go_roundw
              case rel => exact ⟨i + 1, bst, more, by omega, by go_num, rfl, rfl, HN.out, hb⟩
              case measure => simp [intOf]; omega
        · have ei : i = bs.length := by omega
          subst ei
          have i1 : ¬ (bs.length : Int) < (bs.length : Int) := by omega
          have v3 : IntKind.i64.wrap ((s : Int) + 1 + 1) = (s : Int) + 1 + 1 := by rw [IntKind.wrap_i64]; omega
          have hE := HE.out
          rw [← txs_length bs] at hE
          have HND : Hid (more = true → DWide (txs bs) n (s + 1) (bl bst)) := fun q => by subst q; exact EWide.again hE hn1
          have HNW : Hid (more = false → WideIs (txs bs) n (bl bst)) := fun q => by subst q; exact EWide.done hE hn1
          clear hE
          go_wp2
          go_roundw
          case rel => exact ⟨s + 1, bst, more, by omega, by go_num, rfl, rfl, HND.out, HNW.out, hb⟩
          case measure => simp [intOf]; omega
end Go.Proofs.YtepklbboejnecaaGreat

/- The document's own shelf: Wide; in which texts a pattern stands most often. -/
namespace Go.Proofs.YtepklbboejnecaaGreat
open Go.RowKit Go.Shelf Sedge
attribute [local go_sem ↓] Go.wp_at_zero Go.wp_at_succ

set_option maxRecDepth 20000 in
set_option maxHeartbeats 2000000 in
theorem rWide_any (w : World) (sb : Nat) (bs : List Vol) (n : Int) (h : SH w sb 43 105 bs) :
    Calls Tryz.prog 32 #[.pointer (some ⟨sb, 0, none⟩), .int .i64 n] w fun e w' => ∃ r, e = .returned (.tuple #[.string r, .int .i64 (wideE bs n)]) ∧ WideR bs n r ∧ Below w.heap.size w w' := by
  obtain ⟨ad, c, hbk, hel⟩ := h.ex
  have x0 := cell1 hbk
  unfold wideE WideR
  by_cases h1 : n < 1
  · rw [if_pos (.inl h1)]
    simp only [if_pos (show n < 1 ∨ (bs.length : Int) < n from .inl h1)]
    clear hel hbk h
    go_enter Tryz.func32, Tryz.ntmps32
    go_wp2
    go_ret2
    exact ⟨_, rfl, rfl, Below.refl _ _⟩
  · by_cases h2 : (bs.length : Int) < n
    · rw [if_pos (.inr h2)]
      simp only [if_pos (show n < 1 ∨ (bs.length : Int) < n from .inr h2)]
      clear hel hbk h
      go_enter Tryz.func32, Tryz.ntmps32
      go_wp2
      go_ret2
      exact ⟨_, rfl, rfl, Below.refl _ _⟩
    · rw [if_neg (by omega)]
      simp only [if_neg (show ¬ (n < 1 ∨ (bs.length : Int) < n) by omega)]
      obtain ⟨m, rfl⟩ : ∃ m : Nat, n = (m : Int) := ⟨n.toNat, by omega⟩
      rw [Int.toNat_natCast]
      exact rWide_ok w sb bs m h (by omega) (by omega)

/-- What the scan has found, as a number. -/
def bestI : Option Nat → Int
  | none => -1
  | some b => (b : Nat)
def slenV : Value → Nat
  | .slice _ n _ => n
  | _ => 0
theorem cnts_succ {pat : ByteArray} {bs : List Vol} {k : Nat} (h : k < bs.length) : (cnts pat (bs.take (k + 1))).map (·.2) = (cnts pat (bs.take k)).map (·.2) ++ [cnt1 pat bs[k]] := by
  unfold cnts
  rw [List.take_add_one, List.getElem?_eq_getElem h, List.map_append, List.map_append]
  rfl
theorem cnts_len (pat : ByteArray) (bs : List Vol) : (cnts pat bs).length = bs.length := by unfold cnts; rw [List.length_map]

set_option maxRecDepth 50000 in
set_option maxHeartbeats 4000000 in
/-- 'Top'. -/
theorem rTop_any (w : World) (sb : Nat) (bs : List Vol) (pat : ByteArray) (n : Int) (L : List (Nat × Nat)) (h : SH w sb 43 105 bs) (hT : patE pat = 0 → Tops (cnts pat bs) L) :
    Calls Tryz.prog 29 #[.pointer (some ⟨sb, 0, none⟩), .string pat, .int .i64 n] w fun e w' => ∃ v, e = .returned (.tuple #[v, .int .i64 (patE pat)]) ∧ w'.ownsRow w.heap.size 3 1 v (stopL L pat n).length (IV (stopL L pat n)) ∧ Below w.heap.size w w' := by
  have hlen := h.ok.len
  have C := refused_any pat w
  unfold stopL
  by_cases hp : patE pat = 0
  · obtain ⟨hq1, hq2⟩ := patE_ok hp
    have hTT := hT hp
    rw [hp] at C ⊢
    rw [if_pos rfl]
    have HC : Hid _ := C
    have HT : Hid _ := hTT
    obtain ⟨ad, c, hbk0, hel0⟩ := h.ex
    have HBK : Hid _ := hbk0
    have HEL : Hid _ := hel0
    have HOK : Hid _ := h.ok
    have hLl : L.length ≤ bs.length := by
      have h1 := hTT.perm.length_eq
      have h2 := List.length_filter_le (fun p : Nat × Nat => decide (0 < p.2)) (cnts pat bs)
      rw [cnts_len] at h2
      omega
    clear C hp h hbk0 hel0 hT hTT
    go_enter Tryz.func29, Tryz.ntmps29
    go_wp2_with fail
    refine Calls.mono HC.out ?_
    rintro e w1 ⟨rfl, hw1⟩
    subst hw1
    go_wp2_with fail
    go_loopw [9, 10] (fun v iv wr => ∃ k : Nat, k ≤ bs.length ∧ iv = .int .i64 k ∧ wr.ownsRow w1.heap.size 3 1 v ((cnts pat (bs.take k)).map (·.2)).length (IV ((cnts pat (bs.take k)).map (·.2))) ∧ Below w1.heap.size w1 wr) (fun _ iv _ => bs.length - (intOf iv).toNat)
    case atStart => exact ⟨0, Nat.zero_le _, rfl, World.ownsRow_nil _ _ _ _, Below.refl _ _⟩
    case round =>
      obtain ⟨k, hk, rfl, hown, hb⟩ := hrel
      have x0 := cell1 (Blk.later HBK.out hb)
      by_cases hlt : k < bs.length
      · obtain ⟨b, o, rfl, c0, c1⟩ := (EL.later HEL.out hb).es k hlt
        have hsz := HOK.out.sz _ (List.getElem_mem hlt)
        have hsu := cnts_succ (pat := pat) hlt
        have hl1 : ((cnts pat (bs.take k)).map (·.2)).length = k := by rw [List.length_map, cnts_len, List.length_take]; omega
        have hcn : cnt1 pat bs[k] = (plcs (bl bs[k].2) (bl pat)).length := rfl
        rw [hcn] at hsu
        generalize (bs[k]'hlt).2 = tx at c1 hsz hsu
        generalize (cnts pat (bs.take k)).map (·.2) = A at hsu hown hl1
        have HSU : Hid _ := hsu
        have HW : Hid _ := hown
        have HBB : Hid _ := hb
        have HAl : Hid _ := hl1
        have hbs := hb.size
        have C := refPlaces_any tx pat wr (by omega) hq1 hq2
        generalize plcs (bl tx) (bl pat) = P at C HSU
        have HC : Hid _ := C
        have i1 : (k : Int) < (bs.length : Int) := by omega
        have i2 : (0 : Int) ≤ (k : Int) := by omega
        clear hsu hown hb hcn c0 C hl1
        go_wp2_with fail
        refine Calls.mono HC.out ?_
        rintro e w2 ⟨vL, rfl, hL, hb2⟩
        obtain ⟨adL, cL, rfl⟩ := own_val hL
        have HW2 : Hid (w2.ownsRow w1.heap.size 3 1 u9 A.length (IV A)) := own_fr HW.out (Fr.of_below hb2) (fun _ _ _ h => by cases h)
        have hB2 := Below.trans HBB.out (Below.mono hb2 hbs)
        have hs2 := hB2.size
        clear hL HC HW HBB hb2 x0 c1
        go_wp2_with (first | (at_builtin; refine wpList_push _ rfl _ _ rfl w1.heap.size _ A rfl (World.ownsRow.alloc HW2.out _) ⟨w2.heap.size, 0, none⟩ P.length rfl (by simp) (by rw [HAl.out]; omega) (by simp; omega) ?_; intro v' w3 hown3 hb4) | fail)
        go_roundw
        case rel => exact ⟨k + 1, by omega, by go_num, by rw [HSU.out]; exact hown3, (hB2.alloc hs2 _).trans hb4⟩
        case measure => simp [intOf]; omega
      · have ek : k = bs.length := by omega
        subst ek
        have i1 : ¬ (bs.length : Int) < (bs.length : Int) := by omega
        rw [List.take_length, ← oft_zero (cnts pat bs) L] at hown
        have hol : (oft (cnts pat bs) L 0).length = bs.length := by rw [oft_length, cnts_len]
        rw [hol] at hown
        obtain ⟨adO, cO, hvO⟩ := own_val hown
        subst hvO
        have HO0 : Hid _ := hown
        have HB0 : Hid _ := hb
        clear hown hb hol
        obtain ⟨wo, hwo⟩ : ∃ wo, wo = wr := ⟨_, rfl⟩
        subst hwo
        go_wp2_with fail
        clear x0
        go_loopw [11, 12, 13] (fun lv _ _ wr => ∃ j : Nat, j ≤ L.length ∧ j ≤ n.toNat ∧ wr.ownsRow w1.heap.size 3 1 lv ((L.take j).map (·.1)).length (IV ((L.take j).map (·.1))) ∧ wr.ownsRow w1.heap.size 3 1 (.slice adO bs.length cO) bs.length (IV (oft (cnts pat bs) L j)) ∧ Apart (.slice adO bs.length cO) lv ∧ Below w1.heap.size w1 wr) (fun lv _ _ _ => L.length + 1 - slenV lv)
        case atStart => exact ⟨0, Nat.zero_le _, Nat.zero_le _, World.ownsRow_nil _ _ _ _, HO0.out, fun _ _ h => (by cases h), HB0.out⟩
        case round =>
          clear HO0 HB0
          obtain ⟨j, hjL, hjn, hl, hO, hap, hb⟩ := hrel
          have htl : ((L.take j).map (·.1)).length = j := by rw [List.length_map, List.length_take]; omega
          rw [htl] at hl
          obtain ⟨adl, cl, hvl⟩ := own_val hl
          subst hvl
          have HLL : Hid _ := hl
          have HOO : Hid _ := hO
          have HAP : Hid _ := hap
          have HBB : Hid _ := hb
          have hol : (oft (cnts pat bs) L j).length = bs.length := by rw [oft_length, cnts_len]
          have HOL : Hid _ := hol
          have HTL : Hid _ := htl
          have hbs := hb.size
          clear hl hO hap hb hol htl
          by_cases hgo : (j : Int) < n
          · obtain ⟨wi, hwi⟩ : ∃ wi, wi = wr := ⟨_, rfl⟩
            subst hwi
            go_wp2_with fail
            go_loopw [12, 13] (fun bv iv wr => ∃ i : Nat, i ≤ bs.length ∧ iv = .int .i64 i ∧ bv = .int .i64 (bestI (scan (oft (cnts pat bs) L j) i)) ∧ Below wi.heap.size wi wr) (fun _ iv _ => bs.length - (intOf iv).toNat)
            case atStart => exact ⟨0, Nat.zero_le _, rfl, rfl, Below.refl _ _⟩
            case round =>
              obtain ⟨i, hi, rfl, rfl, hbi⟩ := hrel
              have HBI : Hid _ := hbi
              have hsc := scan_is (oft (cnts pat bs) L j) i (by rw [HOL.out]; exact hi)
              by_cases hlt : i < bs.length
              · have hO2 := own_fr HOO.out (Fr.of_below hbi) (fun _ _ _ h => by cases h)
                have hio : i < (oft (cnts pat bs) L j).length := by rw [HOL.out]; exact hlt
                rw [← HOL.out] at hO2
                have hcell : ∀ q, q < bs.length → ∃ g, adO = some ⟨g, 0, none⟩ ∧ wr.cell? ⟨g, q, none⟩ = some (.int .i64 ((oft (cnts pat bs) L j).getD q 0 : Nat)) := fun q hq => by
                  have hq2 : q < (oft (cnts pat bs) L j).length := by rw [HOL.out]; exact hq
                  rcases hO2.2 with ⟨_, h0⟩ | ⟨g, cap, cur, hv, _⟩
                  · omega
                  · rw [HOL.out] at hv
                    simp only [Value.slice.injEq, true_and] at hv
                    obtain ⟨rfl, rfl⟩ := hv
                    refine ⟨g, rfl, ?_⟩
                    rw [hO2.cellAt q (by omega)]
                    simp [IV, hq2, List.getD]
                obtain ⟨g, rfl, d0⟩ := hcell i hlt
                have HSS : Hid (scan (oft (cnts pat bs) L j) (i + 1) = match scan (oft (cnts pat bs) L j) i with
                    | none => if 0 < (oft (cnts pat bs) L j).getD i 0 then some i else none
                    | some b => if (oft (cnts pat bs) L j).getD b 0 < (oft (cnts pat bs) L j).getD i 0 then some i else some b) := rfl
                have i3 : (i : Int) < (bs.length : Int) := by omega
                have i4 : (0 : Int) ≤ (i : Int) := by omega
                have HCE : Hid _ := hcell
                clear hO2 hio hcell hbi
                obtain ⟨oi, hoi⟩ : ∃ oi, oi = (oft (cnts pat bs) L j).getD i 0 := ⟨_, rfl⟩
                rw [← hoi] at d0 HSS
                cases hs : scan (oft (cnts pat bs) L j) i with
                | none =>
                  rw [hs] at HSS
                  by_cases hpos : 0 < oi
                  · have HN : Hid (scan (oft (cnts pat bs) L j) (i + 1) = some i) := by have := HSS.out; simp only [if_pos hpos] at this; exact this
                    have hd : decide (0 < oi) = true := decide_eq_true hpos
                    have hd2 : (0 : Int) < (oi : Int) := by omega
                    clear hs hsc hoi hpos
                    unfold bestI
                    go_wp2
                    go_quiet (fail)
                    go_wp2_with fail
                    go_roundw
                    case rel => exact ⟨i + 1, by omega, by go_num, by rw [HN.out]; first | done | rfl, Below.drewN HBI.out _⟩
                    case measure => simp [intOf]; omega
                  · have HN : Hid (scan (oft (cnts pat bs) L j) (i + 1) = none) := by have := HSS.out; simp only [if_neg hpos] at this; exact this
                    have hz : oi = 0 := by omega
                    subst hz
                    clear hs hsc hoi hpos
                    unfold bestI
                    go_wp2
                    go_quiet (fail)
                    go_wp2_with fail
                    go_roundw
                    case rel => exact ⟨i + 1, by omega, by go_num, by rw [HN.out]; first | done | rfl, Below.drewN HBI.out _⟩
                    case measure => simp [intOf]; omega
                | some b =>
                  rw [hs] at HSS hsc
                  obtain ⟨q1, q2, q3, q4⟩ := hsc
                  obtain ⟨g', e', d1⟩ := HCE.out b (by omega)
                  simp only [Option.some.injEq, Addr.mk.injEq, and_true] at e'
                  subst e'
                  obtain ⟨ob, hob⟩ : ∃ ob, ob = (oft (cnts pat bs) L j).getD b 0 := ⟨_, rfl⟩
                  rw [← hob] at d1 q2
                  have HSS2 : Hid (scan (oft (cnts pat bs) L j) (i + 1) = if ob < oi then some i else some b) := by have := HSS.out; simp only at this; rw [hob]; exact this
                  have i5 : (b : Int) < (bs.length : Int) := by omega
                  have i6 : (0 : Int) ≤ (b : Int) := by omega
                  have i7 : ¬ (b : Int) < 0 := by omega
                  by_cases hpos : ob < oi
                  · have HN : Hid (scan (oft (cnts pat bs) L j) (i + 1) = some i) := by have := HSS2.out; rw [if_pos hpos] at this; exact this
                    have hd : decide (0 < oi) = true := decide_eq_true (by omega)
                    have hd3 : decide (ob < oi) = true := decide_eq_true hpos
                    have hd2 : (0 : Int) < (oi : Int) := by omega
                    have hd4 : (ob : Int) < (oi : Int) := by omega
                    clear hs hoi hpos q1 q2 q3 q4 hob
                    unfold bestI
                    go_wp2
                    go_quiet (fail)
                    go_wp2_with fail
                    go_roundw
                    case rel => exact ⟨i + 1, by omega, by go_num, by rw [HN.out]; first | done | rfl, Below.drewN HBI.out _⟩
                    case measure => simp [intOf]; omega
                  · have HN : Hid (scan (oft (cnts pat bs) L j) (i + 1) = some b) := by have := HSS2.out; rw [if_neg hpos] at this; exact this
                    by_cases hz : 0 < oi
                    · have hd : decide (0 < oi) = true := decide_eq_true hz
                      have hd3 : decide (ob < oi) = false := decide_eq_false hpos
                      have hd2 : (0 : Int) < (oi : Int) := by omega
                      have hd4 : ¬ (ob : Int) < (oi : Int) := by omega
                      clear hs hoi hpos q1 q2 q3 q4 hob
                      unfold bestI
                      go_wp2
                      go_quiet (fail)
                      go_wp2_with fail
                      go_roundw
                      case rel => exact ⟨i + 1, by omega, by go_num, by rw [HN.out]; first | done | rfl, Below.drewN HBI.out _⟩
                      case measure => simp [intOf]; omega
                    · have hz : oi = 0 := by omega
                      subst hz
                      clear hs hoi hpos q1 q2 q3 q4 hob
                      unfold bestI
                      go_wp2
                      go_quiet (fail)
                      go_wp2_with fail
                      go_roundw
                      case rel => exact ⟨i + 1, by omega, by go_num, by rw [HN.out]; first | done | rfl, Below.drewN HBI.out _⟩
                      case measure => simp [intOf]; omega
              · have ei : i = bs.length := by omega
                subst ei
                have i3 : ¬ (bs.length : Int) < (bs.length : Int) := by omega
                have hBn := Below.trans HBB.out (Below.mono hbi hbs)
                have hO2 := own_fr HOO.out (Fr.of_below hbi) (fun _ _ _ h => by cases h)
                have hL2 := own_fr HLL.out (Fr.of_below hbi) (fun _ _ _ h => by cases h)
                have hol := HOL.out
                cases hs : scan (oft (cnts pat bs) L j) bs.length with
                | none =>
                  have hz := scan_none (o := oft (cnts pat bs) L j) (by rw [hol]; exact hs)
                  have hjl : ¬ j < L.length := fun q => by
                    obtain ⟨i', hi', hp'⟩ := Tops.some HT.out q
                    rw [hz i' (by rw [oft_length]; exact hi')] at hp'; omega
                  have HTE : Hid (topL L n = (L.take j).map (·.1)) := by unfold Hid topL; rw [List.take_of_length_le (by omega), List.take_of_length_le (by omega)]
                  have HL2 : Hid _ := hL2
                  clear hs hsc hz hO2 hL2 hjl
                  unfold bestI
                  go_wp2
                  go_ret2
                  exact ⟨_, rfl, by rw [HTE.out, HTL.out]; exact HL2.out, hBn⟩
                | some b =>
                  have hB := scan_some (o := oft (cnts pat bs) L j) (by rw [hol]; exact hs)
                  have hbN : b < bs.length := by have := hB.lt; rwa [hol] at this
                  have hjl : j < L.length := by
                    by_cases q : j < L.length
                    · exact q
                    · have h1 := Tops.none HT.out (j := j) (by omega) (i := b) (by rw [cnts_len]; exact hbN)
                      have h2 := hB.pos
                      rw [h1] at h2; omega
                  obtain ⟨hbc, hnx⟩ := Tops.next HT.out hjl hB
                  have hset := Tops.set HT.out hjl hbc hnx
                  have hid : (cnts pat bs)[b].1 = (bs[b]'hbN).1 := by simp [cnts]
                  obtain ⟨b', o', ead, c0, c1⟩ := (EL.later HEL.out hBn).es b hbN
                  have x0 := cell1 (Blk.later HBK.out hBn)
                  have hts : (L.take (j + 1)).map (·.1) = (L.take j).map (·.1) ++ [(bs[b]'hbN).1] := by
                    rw [List.take_add_one, List.getElem?_eq_getElem hjl, List.map_append, ← hid, hnx]; rfl
                  generalize (bs[b]'hbN).1 = idb at c0 hts
                  subst ead
                  obtain ⟨g, cO', eO⟩ : ∃ g cO', Value.slice adO bs.length cO = .slice (some ⟨g, 0, none⟩) bs.length cO' := by
                    rcases own_form HOO.out with ⟨_, h0⟩ | ⟨g, c', e⟩
                    · omega
                    · exact ⟨g, c', e⟩
                  simp only [Value.slice.injEq, true_and] at eO
                  obtain ⟨rfl, rfl⟩ := eO
                  obtain ⟨i0, hi0, hz0, hz1, hz2⟩ := info_parts Tryz.infoInt
                  have HI0 : Hid _ := hi0
                  have HZ0 : Hid _ := hz0
                  have HZ1 : Hid _ := hz1
                  have HZ2 : Hid _ := hz2
                  have HO2 : Hid _ := hO2
                  have HL2 : Hid _ := hL2
                  have HST : Hid _ := hset
                  have HTS : Hid _ := hts
                  have HBN : Hid _ := hBn
                  have hsz2 := hBn.size
                  have i5 : (b : Int) < (bs.length : Int) := by omega
                  have i6 : (0 : Int) ≤ (b : Int) := by omega
                  have i7 : ¬ (b : Int) < 0 := by omega
                  have hXl : ((L.take j).map (·.1)).length = j := HTL.out
                  generalize (L.take j).map (·.1) = X at HL2 HTS hXl
                  have HXL : Hid _ := hXl
                  clear hs hsc hB hnx hset hid c1 hts hi0 hz0 hz1 hz2 hO2 hL2 hBn hbi hbc hXl hol
                  unfold bestI
                  go_wp2_with (first
                    | (at_builtin; refine wpList_push_at _ rfl _ _ 55 rfl 3 i0 (.int .i64 0) 1 8 Tryz.underlying55 HI0.out HZ0.out HZ1.out HZ2.out rfl (by decide) w1.heap.size (.slice adl j cl) j (IV X) rfl (World.ownsRow.alloc HL2.out _) ⟨wr.heap.size, 0, none⟩ 1 [.int .i64 (idb : Nat)] rfl rfl (fun q u hq => by match q, hq with | 0, hq => simp at hq; subst hq; simp [Addr.add]) (fun u hu => by simp at hu; subst hu; rfl) (by unfold maxLen; omega) (by omega) (by simp; omega) ?_; intro v3 w3 hown3 hg3 hl3; have F3 : Fr wr w3 [_] := (Fr.alloc wr _).trans (Fr.of_grown hg3); have hO3 := own_fr HO2.out F3 (free_of_apart HAP.out); have y0 := World.ownsRow.cellAt hO3 b (by omega); have yf := World.ownsRow.frozenAt hO3 b; obtain ⟨z0, hz0⟩ : ∃ z, w3.cell? ⟨g, b, none⟩ = some z := ⟨_, y0.trans (List.getElem?_eq_getElem (by rw [hO3.1]; omega))⟩; have hap3 : Apart (.slice (some ⟨g, 0, none⟩) bs.length cO) v3 := Apart.lies HAP.out (fun q hq => by have := own_lt HO2.out q hq; simp; omega) hl3; have HO3 : Hid _ := hO3; have HL3 : Hid _ := hown3; have HAP3 : Hid _ := hap3; have HB3 : Hid _ := (Below.alloc HBN.out hsz2 _).grown hg3 (by simp; omega) (fun k e => (World.ownsRow.lt HL2.out k e).1); clear F3 hO3 y0 hap3 hown3 hg3 hl3)
                    | fail)
                  have HS3 := World.ownsRow.stored HO3.out b (.int .i64 (0 : Nat))
                  have hS3 := HS3.1
                  rw [IV_set, HST.out] at hS3
                  have hgb : w1.heap.size ≤ g := (World.ownsRow.lt HO2.out g rfl).1
                  have hL4 : World.ownsRow (w3.setCell ⟨g, b, none⟩ (.int .i64 0)) w1.heap.size 3 1 v3 (j + 1) (IV X ++ [.int .i64 (idb : Nat)]) := own_fr HL3.out (Fr.set w3 g b _) (free_of_off (fun q => HAP3.out g rfl q))
                  go_roundw
                  case rel =>
                    refine ⟨j + 1, by omega, by omega, ?_, hS3, HAP3.out, Below.setCell HB3.out (p := ⟨g, b, none⟩) hgb _⟩
                    rw [HTS.out, List.length_append, HXL.out]
                    have e : IV (X ++ [idb]) = IV X ++ [.int .i64 (idb : Nat)] := by simp [IV]
                    rw [e]
                    exact hL4
                  case measure =>
                    obtain ⟨ad5, c5, hv5⟩ := own_val hL4
                    subst hv5
                    simp [slenV]; omega
          · have HTE : Hid (topL L n = (L.take j).map (·.1)) := by unfold Hid topL; rw [show n.toNat = j by omega]
            go_wp2
            go_ret2
            exact ⟨_, rfl, by rw [HTE.out, HTL.out]; exact HLL.out, HBB.out⟩
  · rw [if_neg hp]
    have hp2 := patE_no hp
    obtain ⟨m, hm⟩ : ∃ m, m = patE pat := ⟨_, rfl⟩
    rw [← hm] at hp hp2 C ⊢
    have HC : Hid _ := C
    have i1 : (m == 0) = false := by simp; omega
    clear C hm hp2 h hT
    go_enter Tryz.func29, Tryz.ntmps29
    go_wp2_with fail
    refine Calls.mono HC.out ?_
    rintro e w1 ⟨rfl, rfl⟩
    go_wp2
    go_ret2
    exact ⟨_, rfl, World.ownsRow_nil _ _ _ _, Below.refl _ _⟩
end Go.Proofs.YtepklbboejnecaaGreat

/- Shelves: a list of hits waits, a list of numbers waits. -/
namespace Go.Proofs.YtepklbboejnecaaGreat
open Go.RowKit Go.Shelf Sedge
attribute [local go_sem ↓] Go.wp_at_zero Go.wp_at_succ

theorem clr_free {hb : Bx} {R : List Value} {x : Value} (h : Clr hb R x) {i j : Nat} (hi : i < R.length) (hj : j < R.length) : Free x [(row R i).ownBlock, some hb.g, (row R j).ownBlock, some hb.g] :=
  free_cons (free_of_apart (h.2 _ (row_mem hi))) (free_cons (free_of_off h.1) (free_cons (free_of_apart (h.2 _ (row_mem hj))) (free_of_off h.1)))
theorem HN_HV (l : List (Nat × Nat)) : HN l = HV (l.map fun p => ((p.1 : Int), (p.2 : Int))) := by
  unfold HN HV
  rw [List.flatMap_map]
theorem IV_one (l : List Nat) : ∀ u ∈ IV l, u.oneCell' = true := fun u hu => by
  unfold IV at hu
  obtain ⟨p, _, rfl⟩ := List.mem_map.1 hu
  rfl
theorem Tryz.infoSH : (Tryz.prog.info? 52).map (fun i => (i.zero, i.size, i.bytes)) = some (some (.slice none 0 0), 1, 24) := by kernel_rfl
theorem Tryz.infoSI : (Tryz.prog.info? 55).map (fun i => (i.zero, i.size, i.bytes)) = some (some (.slice none 0 0), 1, 24) := by kernel_rfl
theorem HI.keepM {P : TypeId → Prop} {κ : Nat} (hκ : κ < 3) {B : Nat} {W w' : World} {hb : Bx} {N : Nat} {R : List Value} {E : Nat → List (Value × Int)} {T : Nat → List It} (h : HI B W hb N R E T) (F : Fr W w' [(row R (3 + 2 * κ)).ownBlock, some hb.g, (row R (4 + 2 * κ)).ownBlock, some hb.g]) (hP : Off P hb) : Keep P W w' := by
  refine Keep.of_fr F fun r hr g hg cs t f hc => ?_
  simp only [List.mem_cons, List.not_mem_nil, or_false] at hr
  rcases hr with rfl | rfl | rfl | rfl
  · rw [own_tyP (h.rT κ hκ) hg hc]; exact hP.sl κ hκ
  · simp only [Option.some.injEq] at hg
    subst hg
    rw [blk_tyP h.rw'.box hc]; exact hP.ty
  · rw [own_tyP (h.rR κ hκ) hg hc]; exact hP.sl κ hκ
  · simp only [Option.some.injEq] at hg
    subst hg
    rw [blk_tyP h.rw'.box hc]; exact hP.ty

set_option maxRecDepth 20000 in
set_option maxHeartbeats 4000000 in
/-- 'hits': one list more waits. -/
theorem hitsK_any (B : Nat) (W : World) (hb : Bx) (N : Nat) (R : List Value) (E : Nat → List (Value × Int)) (T : Nat → List It) (H : HI B W hb N R E T) (v : Value) (l : List (Nat × Nat)) (hv : W.ownsRow B 59 2 v l.length (HN l)) (hL : l.length ≤ 100000)
    (hc : Clr hb R v) (hct : ∀ κ, κ < 3 → ∀ t ∈ T κ, Apart t.v v) (hce : ∀ κ, κ < 3 → ∀ e ∈ E κ, Apart e.1 v) (hT : (T 1).length < 10000000) :
    Calls Tryz.prog 27 #[.pointer (some ⟨hb.g, hb.o, none⟩), v] W fun e w' => e = .returned (.tuple #[]) ∧ ∃ u R', HI B w' hb N R' E (upd T 1 (T 1 ++ [⟨v, u, l.length, HN l⟩])) ∧ Below B W w' ∧ (∀ P, Off P hb → Keep P W w') ∧ ∀ x, Clr hb R x → ∀ b e s n xs, W.ownsRow b e s x n xs → w'.ownsRow b e s x n xs := by
  obtain ⟨ad, cv, rfl⟩ := own_val hv
  obtain ⟨adT, cT, eT⟩ : ∃ a c, row R 5 = .slice a (T 1).length c := own_val (H.rT 1 (by omega))
  obtain ⟨adR, cR, eR⟩ : ∃ a c, row R 6 = .slice a (T 1).length c := own_val (H.rR 1 (by omega))
  have HH : Hid _ := H
  have hsz : B ≤ W.heap.size := H.rw'.sz
  have hlt := H.rw'.box.lt
  have hlen := H.rw'.len
  have HLEN : Hid _ := hlen
  have HV : Hid _ := hv
  have HC : Hid _ := hc
  have HCT : Hid _ := hct
  have HCE : Hid _ := hce
  have HET : Hid _ := eT
  have HER : Hid _ := eR
  obtain ⟨nT, hnT⟩ : ∃ n, n = (T 1).length := ⟨_, rfl⟩
  rw [← hnT] at HET HER hT
  have HNT : Hid _ := hnT
  clear H hv hc hct hce eT eR hlen hnT
  go_enter Tryz.func27, Tryz.ntmps27
  go_wp2_with (first
    | (at_builtin; refine wpList_cloneK 52 59 (.agg #[.int .i64 0, .int .i64 0]) 2 16 Tryz.underlying52 Tryz.infoHitJ rfl (by decide) (by decide) _ rfl (.tmp 5) (.tmp 6) rfl rfl B (.slice ad l.length cv) l.length (HN l) rfl HV.out (HN_one l) (by omega) ?_; intro u w1 hu hb1; have HH1 : Hid _ := HI.later HH.out hb1; have c4 := RW.cell (HI.rw' HH1.out) (j := 5) (by omega); have c5 := RW.cell (HI.rw' HH1.out) (j := 6) (by omega); rw [HET.out] at c4; rw [HER.out] at c5; have hs1 := hb1.size; obtain ⟨adu, cu, rfl⟩ := own_val hu; have HU : Hid _ := hu; have HRT1 : Hid (w1.ownsRow B 52 1 (.slice adT nT cT) nT ((T 1).map (·.v))) := (by have := HI.rT HH1.out 1 (by omega); rw [show row R (3 + 2 * 1) = .slice adT nT cT from HET.out, ← HNT.out] at this; exact this); have HRR1 : Hid (w1.ownsRow B 52 1 (.slice adR nT cR) nT ((T 1).map (·.u))) := (by have := HI.rR HH1.out 1 (by omega); rw [show row R (4 + 2 * 1) = .slice adR nT cR from HER.out, ← HNT.out] at this; exact this); clear hu)
    | (at_builtin; refine wpList_push_slK 30 52 Tryz.underlying30 Tryz.infoSH _ rfl (.tmp 12) (.tmp 14) rfl B (.slice adT nT cT) nT ((T 1).map (·.v)) rfl (World.ownsRow.alloc HRT1.out _) ⟨w1.heap.size, 0, none⟩ (.slice ad l.length cv) rfl (by simp) rfl (by omega) (by simp; omega) ?_; intro vT' w2 hT2 hg2 hl2; obtain ⟨adT2, cT2, rfl⟩ := own_val hT2; have hbx2 := Blk.fr (Blk.alloc (RW.box (HI.rw' HH1.out)) (Obj.cells #[.slice ad l.length cv] 52)) (Fr.of_grown hg2) (fun r hr => by simp at hr; subst hr; rw [← HET.out]; exact fun e => RW.oR (HI.rw' HH1.out) _ (row_mem (by have := HLEN.out; omega)) e.symm); have d4 := Blk.cellP hbx2 (RW.po (HI.rw' HH1.out)) (k := 6) (by simp [HLEN.out]); have d5 := Blk.cellP hbx2 (RW.po (HI.rw' HH1.out)) (k := 7) (by simp [HLEN.out]); have d5' : w2.cell? ⟨hb.g, hb.o + 7, none⟩ = some (.slice adR nT cR) := (by rw [d5, ← HER.out]; have := HLEN.out; simp [row, List.getD_eq_getElem?_getD, this]); have f4 := Blk.free hbx2 (hb.o + 6); have f5 := Blk.free hbx2 (hb.o + 7); have HT2 : Hid _ := hT2; have HG2 : Hid _ := hg2; have HL2 : Hid _ := hl2; have HB2 : Hid _ := hbx2; have HR3 : Hid (World.ownsRow (w2.setCell ⟨hb.g, hb.o + 6, none⟩ (.slice adT2 (nT + 1) cT2)) B 52 1 (.slice adR nT cR) nT ((T 1).map (·.u))) := own_fr (own_fr (World.ownsRow.alloc HRR1.out _) (Fr.of_grown hg2) (free_of_apart (by rw [← HET.out, ← HER.out]; exact pw_row (RW.pR (HI.rw' HH1.out)) (by have := HLEN.out; omega) (by have := HLEN.out; omega) (by omega)))) (Fr.set w2 hb.g (hb.o + 6) _) (free_of_off (by rw [← HER.out]; exact RW.oR (HI.rw' HH1.out) _ (row_mem (by have := HLEN.out; omega)))); have HCN : Hid (World.cell? ((w2.setCell ⟨hb.g, hb.o + 6, none⟩ (.slice adT2 (nT + 1) cT2)).alloc (Obj.cells #[.slice adu l.length cu] 52)) ⟨w2.heap.size, 0, none⟩ = some (.slice adu l.length cu)) := (by have q := cell_new (w2.setCell ⟨hb.g, hb.o + 6, none⟩ (.slice adT2 (nT + 1) cT2)) (.slice adu l.length cu) 52; rwa [World.size_setCell] at q); have hs2 := hg2.size; simp only [World.size_alloc] at hs2; clear hT2 hg2 hl2 hbx2 c4 c5 d5)
    | (at_builtin; refine wpList_push_slK 30 52 Tryz.underlying30 Tryz.infoSH _ rfl (.tmp 22) (.tmp 24) rfl B (.slice adR nT cR) nT ((T 1).map (·.u)) rfl (World.ownsRow.alloc HR3.out _) ⟨w2.heap.size, 0, none⟩ (.slice adu l.length cu) rfl HCN.out rfl (by omega) (by simp; omega) ?_; intro vR' w4 hR4 hg4 hl4; obtain ⟨adR4, cR4, rfl⟩ := own_val hR4; have hbx4 := Blk.fr (Blk.alloc (Blk.setP HB2.out (RW.po (HI.rw' HH1.out)) (k := 6) (.slice adT2 (nT + 1) cT2)) (Obj.cells #[.slice adu l.length cu] 52)) (Fr.of_grown hg4) (fun r hr => by simp at hr; subst hr; rw [← HER.out]; exact fun e => RW.oR (HI.rw' HH1.out) _ (row_mem (by have := HLEN.out; omega)) e.symm); have e5 := Blk.cellP hbx4 (RW.po (HI.rw' HH1.out)) (k := 7) (by simp [HLEN.out]); have g5 := Blk.free hbx4 (hb.o + 7); clear d4 d5' f4 f5)
    | fail)
  have F := HI.fresh HH.out (x := .slice adu l.length cu) (fun g hg => (World.ownsRow.lt HU.out g hg).1)
  have hu1 : w1.ownsRow B 59 2 (.slice adu l.length cu) l.length (HN l) := own_dn HU.out hsz
  have hT2 := HT2.out
  have hg2 := HG2.out
  have hl2 := HL2.out
  have hnt : nT = (T 1).length := HNT.out
  subst hnt
  rw [← HET.out] at hg2 hl2
  rw [← HER.out] at hg4 hl4
  have hm := HI.more (κ := 1) (by omega) HH1.out (n := l.length) (xs := HN l) ⟨l.map (fun p => ((p.1 : Int), (p.2 : Int))), HN_HV l, by simp⟩ hL hT (own_fr HV.out (Fr.of_below hb1) (free_nil _)) hu1 HC.out F.1 HCT.out HCE.out hT2 hg2 hl2 hR4 hg4 hl4
  go_end0
  refine ⟨rfl, _, _, hm.1, (Below.mono hb1 hsz).trans hm.2.1, fun P hP => Keep.trans (Keep.below hb1) (HI.keepM (κ := 1) (by omega) HH1.out hm.2.2 hP), fun x hx b e s n xs ho => own_fr (own_fr ho (Fr.of_below hb1) (free_nil _)) hm.2.2 (clr_free hx (by have := HLEN.out; omega) (by have := HLEN.out; omega))⟩

set_option maxRecDepth 20000 in
set_option maxHeartbeats 4000000 in
/-- 'ints': one list more waits. -/
theorem intsK_any (B : Nat) (W : World) (hb : Bx) (N : Nat) (R : List Value) (E : Nat → List (Value × Int)) (T : Nat → List It) (H : HI B W hb N R E T) (v : Value) (l : List Nat) (hv : W.ownsRow B 3 1 v l.length (IV l)) (hL : l.length ≤ 100000)
    (hc : Clr hb R v) (hct : ∀ κ, κ < 3 → ∀ t ∈ T κ, Apart t.v v) (hce : ∀ κ, κ < 3 → ∀ e ∈ E κ, Apart e.1 v) (hT : (T 0).length < 10000000) :
    Calls Tryz.prog 31 #[.pointer (some ⟨hb.g, hb.o, none⟩), v] W fun e w' => e = .returned (.tuple #[]) ∧ ∃ u R', HI B w' hb N R' E (upd T 0 (T 0 ++ [⟨v, u, l.length, IV l⟩])) ∧ Below B W w' ∧ (∀ P, Off P hb → Keep P W w') ∧ ∀ x, Clr hb R x → ∀ b e s n xs, W.ownsRow b e s x n xs → w'.ownsRow b e s x n xs := by
  obtain ⟨ad, cv, rfl⟩ := own_val hv
  obtain ⟨adT, cT, eT⟩ : ∃ a c, row R 3 = .slice a (T 0).length c := own_val (H.rT 0 (by omega))
  obtain ⟨adR, cR, eR⟩ : ∃ a c, row R 4 = .slice a (T 0).length c := own_val (H.rR 0 (by omega))
  have HH : Hid _ := H
  have hsz : B ≤ W.heap.size := H.rw'.sz
  have hlt := H.rw'.box.lt
  have hlen := H.rw'.len
  have HLEN : Hid _ := hlen
  have HV : Hid _ := hv
  have HC : Hid _ := hc
  have HCT : Hid _ := hct
  have HCE : Hid _ := hce
  have HET : Hid _ := eT
  have HER : Hid _ := eR
  obtain ⟨nT, hnT⟩ : ∃ n, n = (T 0).length := ⟨_, rfl⟩
  rw [← hnT] at HET HER hT
  have HNT : Hid _ := hnT
  clear H hv hc hct hce eT eR hlen hnT
  go_enter Tryz.func31, Tryz.ntmps31
  go_wp2_with (first
    | (at_builtin; refine wpList_cloneK 55 3 (.int .i64 0) 1 8 Tryz.underlying55 Tryz.infoInt rfl (by decide) (by decide) _ rfl (.tmp 5) (.tmp 6) rfl rfl B (.slice ad l.length cv) l.length (IV l) rfl HV.out (IV_one l) (by omega) ?_; intro u w1 hu hb1; have HH1 : Hid _ := HI.later HH.out hb1; have c4 := RW.cell (HI.rw' HH1.out) (j := 3) (by omega); have c5 := RW.cell (HI.rw' HH1.out) (j := 4) (by omega); rw [HET.out] at c4; rw [HER.out] at c5; have hs1 := hb1.size; obtain ⟨adu, cu, rfl⟩ := own_val hu; have HU : Hid _ := hu; have HRT1 : Hid (w1.ownsRow B 55 1 (.slice adT nT cT) nT ((T 0).map (·.v))) := (by have := HI.rT HH1.out 0 (by omega); rw [show row R (3 + 2 * 0) = .slice adT nT cT from HET.out, ← HNT.out] at this; exact this); have HRR1 : Hid (w1.ownsRow B 55 1 (.slice adR nT cR) nT ((T 0).map (·.u))) := (by have := HI.rR HH1.out 0 (by omega); rw [show row R (4 + 2 * 0) = .slice adR nT cR from HER.out, ← HNT.out] at this; exact this); clear hu)
    | (at_builtin; refine wpList_push_slK 29 55 Tryz.underlying29 Tryz.infoSI _ rfl (.tmp 12) (.tmp 14) rfl B (.slice adT nT cT) nT ((T 0).map (·.v)) rfl (World.ownsRow.alloc HRT1.out _) ⟨w1.heap.size, 0, none⟩ (.slice ad l.length cv) rfl (by simp) rfl (by omega) (by simp; omega) ?_; intro vT' w2 hT2 hg2 hl2; obtain ⟨adT2, cT2, rfl⟩ := own_val hT2; have hbx2 := Blk.fr (Blk.alloc (RW.box (HI.rw' HH1.out)) (Obj.cells #[.slice ad l.length cv] 55)) (Fr.of_grown hg2) (fun r hr => by simp at hr; subst hr; rw [← HET.out]; exact fun e => RW.oR (HI.rw' HH1.out) _ (row_mem (by have := HLEN.out; omega)) e.symm); have d4 := Blk.cellP hbx2 (RW.po (HI.rw' HH1.out)) (k := 4) (by simp [HLEN.out]); have d5 := Blk.cellP hbx2 (RW.po (HI.rw' HH1.out)) (k := 5) (by simp [HLEN.out]); have d5' : w2.cell? ⟨hb.g, hb.o + 5, none⟩ = some (.slice adR nT cR) := (by rw [d5, ← HER.out]; have := HLEN.out; simp [row, List.getD_eq_getElem?_getD, this]); have f4 := Blk.free hbx2 (hb.o + 4); have f5 := Blk.free hbx2 (hb.o + 5); have HT2 : Hid _ := hT2; have HG2 : Hid _ := hg2; have HL2 : Hid _ := hl2; have HB2 : Hid _ := hbx2; have HR3 : Hid (World.ownsRow (w2.setCell ⟨hb.g, hb.o + 4, none⟩ (.slice adT2 (nT + 1) cT2)) B 55 1 (.slice adR nT cR) nT ((T 0).map (·.u))) := own_fr (own_fr (World.ownsRow.alloc HRR1.out _) (Fr.of_grown hg2) (free_of_apart (by rw [← HET.out, ← HER.out]; exact pw_row (RW.pR (HI.rw' HH1.out)) (by have := HLEN.out; omega) (by have := HLEN.out; omega) (by omega)))) (Fr.set w2 hb.g (hb.o + 4) _) (free_of_off (by rw [← HER.out]; exact RW.oR (HI.rw' HH1.out) _ (row_mem (by have := HLEN.out; omega)))); have HCN : Hid (World.cell? ((w2.setCell ⟨hb.g, hb.o + 4, none⟩ (.slice adT2 (nT + 1) cT2)).alloc (Obj.cells #[.slice adu l.length cu] 55)) ⟨w2.heap.size, 0, none⟩ = some (.slice adu l.length cu)) := (by have q := cell_new (w2.setCell ⟨hb.g, hb.o + 4, none⟩ (.slice adT2 (nT + 1) cT2)) (.slice adu l.length cu) 55; rwa [World.size_setCell] at q); have hs2 := hg2.size; simp only [World.size_alloc] at hs2; clear hT2 hg2 hl2 hbx2 c4 c5 d5)
    | (at_builtin; refine wpList_push_slK 29 55 Tryz.underlying29 Tryz.infoSI _ rfl (.tmp 22) (.tmp 24) rfl B (.slice adR nT cR) nT ((T 0).map (·.u)) rfl (World.ownsRow.alloc HR3.out _) ⟨w2.heap.size, 0, none⟩ (.slice adu l.length cu) rfl HCN.out rfl (by omega) (by simp; omega) ?_; intro vR' w4 hR4 hg4 hl4; obtain ⟨adR4, cR4, rfl⟩ := own_val hR4; have hbx4 := Blk.fr (Blk.alloc (Blk.setP HB2.out (RW.po (HI.rw' HH1.out)) (k := 4) (.slice adT2 (nT + 1) cT2)) (Obj.cells #[.slice adu l.length cu] 55)) (Fr.of_grown hg4) (fun r hr => by simp at hr; subst hr; rw [← HER.out]; exact fun e => RW.oR (HI.rw' HH1.out) _ (row_mem (by have := HLEN.out; omega)) e.symm); have e5 := Blk.cellP hbx4 (RW.po (HI.rw' HH1.out)) (k := 5) (by simp [HLEN.out]); have g5 := Blk.free hbx4 (hb.o + 5); clear d4 d5' f4 f5)
    | fail)
  have F := HI.fresh HH.out (x := .slice adu l.length cu) (fun g hg => (World.ownsRow.lt HU.out g hg).1)
  have hu1 : w1.ownsRow B 3 1 (.slice adu l.length cu) l.length (IV l) := own_dn HU.out hsz
  have hT2 := HT2.out
  have hg2 := HG2.out
  have hl2 := HL2.out
  have hnt : nT = (T 0).length := HNT.out
  subst hnt
  rw [← HET.out] at hg2 hl2
  rw [← HER.out] at hg4 hl4
  have hm := HI.more (κ := 0) (by omega) HH1.out (n := l.length) (xs := IV l) ⟨l, rfl, rfl⟩ hL hT (own_fr HV.out (Fr.of_below hb1) (free_nil _)) hu1 HC.out F.1 HCT.out HCE.out hT2 hg2 hl2 hR4 hg4 hl4
  go_end0
  refine ⟨rfl, _, _, hm.1, (Below.mono hb1 hsz).trans hm.2.1, fun P hP => Keep.trans (Keep.below hb1) (HI.keepM (κ := 0) (by omega) HH1.out hm.2.2 hP), fun x hx b e s n xs ho => own_fr (own_fr ho (Fr.of_below hb1) (free_nil _)) hm.2.2 (clr_free hx (by have := HLEN.out; omega) (by have := HLEN.out; omega))⟩
end Go.Proofs.YtepklbboejnecaaGreat

/- Shelves: behind a step; two lists of hits against one another; which shelf a number speaks of. -/
namespace Go.Proofs.YtepklbboejnecaaGreat
open Go.RowKit Go.Shelf Sedge
attribute [local go_sem ↓] Go.wp_at_zero Go.wp_at_succ

set_option maxRecDepth 20000 in
set_option maxHeartbeats 4000000 in
/-- 'looks'. -/
theorem looks_any (B : Nat) (W : World) (hb : Bx) (N : Nat) (R : List Value) (E : Nat → List (Value × Int)) (T : Nat → List It) (H : HI B W hb N R E T) (P : TypeId → Prop) (hP : Off P hb) (hN : N + (T 0).length + (T 1).length + (T 2).length ≤ 100000000) :
    Calls Tryz.prog 8 #[.pointer (some ⟨hb.g, hb.o, none⟩)] W fun e w' => e = .returned (.bool true) ∧ (∃ N' R' E' T', HI B w' hb N' R' E' T' ∧ N' ≤ N + (T 0).length + (T 1).length + (T 2).length ∧ N' + (T' 0).length + (T' 1).length + (T' 2).length ≤ N + (T 0).length + (T 1).length + (T 2).length ∧ (T' 0).length + (T' 1).length + (T' 2).length ≤ 7) ∧ Below B W w' ∧ Keep P W w' := by
  have HH : Hid _ := H
  have hsz : B ≤ W.heap.size := H.rw'.sz
  have n0 := H.nT 0 (by omega)
  have n1 := H.nT 1 (by omega)
  have n2 := H.nT 2 (by omega)
  obtain ⟨a3, x3, e3⟩ : ∃ a c, row R 3 = .slice a (T 0).length c := own_val (H.rT 0 (by omega))
  obtain ⟨a5, x5, e5⟩ : ∃ a c, row R 5 = .slice a (T 1).length c := own_val (H.rT 1 (by omega))
  obtain ⟨a7, x7, e7⟩ : ∃ a c, row R 7 = .slice a (T 2).length c := own_val (H.rT 2 (by omega))
  have c3 := H.rw'.cell (j := 3) (by omega)
  have c5 := H.rw'.cell (j := 5) (by omega)
  have c7 := H.rw'.cell (j := 7) (by omega)
  rw [e3] at c3
  rw [e5] at c5
  rw [e7] at c7
  have HOFF : Hid _ := hP
  have CS := fun W' (hW : Below W.heap.size W W') => settlesK_any B W' hb N R E T (HI.later H hW) P hP hN
  have HCS : Hid _ := CS
  obtain ⟨t0, ht0⟩ : ∃ t, t = (T 0).length := ⟨_, rfl⟩
  obtain ⟨t1, ht1⟩ : ∃ t, t = (T 1).length := ⟨_, rfl⟩
  obtain ⟨t2, ht2⟩ : ∃ t, t = (T 2).length := ⟨_, rfl⟩
  rw [← ht0] at c3 n0 HCS hN
  rw [← ht1] at c5 n1 HCS hN
  rw [← ht2] at c7 n2 HCS hN
  have HT0 : Hid _ := ht0
  have HT1 : Hid _ := ht1
  have HT2 : Hid _ := ht2
  clear H hP e3 e5 e7 CS ht0 ht1 ht2
  have v1 : IntKind.i64.wrap ((t0 : Int) + (t1 : Int)) = (t0 : Int) + (t1 : Int) := by rw [IntKind.wrap_i64]; omega
  have v2 : IntKind.i64.wrap ((t0 : Int) + (t1 : Int) + (t2 : Int)) = (t0 : Int) + (t1 : Int) + (t2 : Int) := by rw [IntKind.wrap_i64]; omega
  by_cases hg : 7 < t0 + t1 + t2
  · have i1 : (7 : Int) < (t0 : Int) + (t1 : Int) + (t2 : Int) := by omega
    go_enter Tryz.func8, Tryz.ntmps8
    go_wp2
    go_quiet (fail)
    go_wp2_with fail
    refine Calls.mono (HCS.out _ ((Below.refl _ W).drewN _)) ?_
    rintro e w2 ⟨rfl, R', E', hI, hB, hK⟩
    have HI2 : Hid _ := hI
    have HB2 : Hid _ := Below.trans (Below.mono ((Below.refl _ W).drewN _) hsz) hB
    have HK2 : Hid _ := Keep.trans (Keep.below (P := P) ((Below.refl _ W).drewN _)) hK
    clear hI hB hK
    go_wp2
    go_ret
    have h0 := HT0.out
    have h1 := HT1.out
    have h2 := HT2.out
    exact ⟨rfl, ⟨_, R', E', _, HI2.out, by omega, by simp; omega, by simp⟩, HB2.out, HK2.out⟩
  · have i1 : ¬ (7 : Int) < (t0 : Int) + (t1 : Int) + (t2 : Int) := by omega
    go_enter Tryz.func8, Tryz.ntmps8
    go_wp2
    go_quiet (fail)
    go_wp2_with fail
    refine (waitsK_any B _ hb N R E T (HI.later HH.out ((Below.refl _ W).drewN _))).mono ?_
    rintro e w1 ⟨rfl, hb1⟩
    have HB1 : Hid _ := Below.later ((Below.refl _ W).drewN _) hb1
    clear hb1
    go_wp2_with fail
    refine (dryK_any B _ hb N R E T (HI.later HH.out HB1.out)).mono ?_
    rintro e w2 ⟨rfl, hb2⟩
    have HB2 : Hid _ := Below.later HB1.out hb2
    clear hb2
    go_wp2
    go_ret
    have h0 := HT0.out
    have h1 := HT1.out
    have h2 := HT2.out
    exact ⟨rfl, ⟨N, R, E, T, HI.later HH.out HB2.out, by omega, by omega, by omega⟩, Below.mono HB2.out hsz, Keep.below HB2.out⟩

set_option maxRecDepth 20000 in
set_option maxHeartbeats 2000000 in
/-- 'sameHits', of two lists that are one. -/
theorem sameHits_any (X : List (Nat × Nat)) (v v' : Value) (b b' : Nat) (w : World) (h : w.ownsRow b 59 2 v X.length (HN X)) (h' : w.ownsRow b' 109 2 v' X.length (HN X)) (hn : X.length ≤ 100000) :
    Calls Tryz.prog 26 #[v, v'] w fun e w' => e = .returned (.bool true) ∧ Below w.heap.size w w' := by
  obtain ⟨ad, c, rfl⟩ := own_val h
  obtain ⟨ad', c', rfl⟩ := own_val h'
  have HX : Hid _ := h
  have HY : Hid _ := h'
  have i0 : ((X.length : Int) == (X.length : Int)) = true := by simp
  clear h h'
  go_enter Tryz.func26, Tryz.ntmps26
  go_wp2_with fail
  go_loopw [5] (fun iv wr => ∃ k : Nat, k ≤ X.length ∧ iv = .int .i64 k ∧ Below w.heap.size w wr) (fun iv _ => X.length - (intOf iv).toNat)
  case atStart => exact ⟨0, Nat.zero_le _, rfl, Below.refl _ _⟩
  case round =>
    obtain ⟨k, hk, rfl, hb⟩ := hrel
    by_cases hlt : k < X.length
    · obtain ⟨g, c1, e, d0, d1⟩ := own_pair (own_fr HX.out (Fr.of_below hb) (fun _ _ _ h => by cases h)) hlt
      obtain ⟨g', c2, e', y0, y1⟩ := own_pair (own_fr HY.out (Fr.of_below hb) (fun _ _ _ h => by cases h)) hlt
      simp only [Value.slice.injEq, true_and] at e e'
      obtain ⟨rfl, rfl⟩ := e
      obtain ⟨rfl, rfl⟩ := e'
      generalize X[k] = p at d0 d1 y0 y1
      have i1 : (k : Int) < (X.length : Int) := by omega
      have i2 : (0 : Int) ≤ (k : Int) := by omega
      have HBB : Hid _ := hb
      clear hb
      go_wp2
      go_quiet (fail)
      go_wp2_with fail
      go_roundw
      case rel => exact ⟨k + 1, by omega, by go_num, Below.drewN HBB.out _⟩
      case measure => simp [intOf]; omega
    · have ek : k = X.length := by omega
      subst ek
      have i1 : ¬ (X.length : Int) < (X.length : Int) := by omega
      go_wp2
      go_ret
      exact ⟨rfl, hb⟩

set_option maxHeartbeats 1000000 in
/-- 'pick'. -/
theorem lpick_any (c : Int) (n : Nat) (w : World) (h1 : -9223372036854775808 ≤ c) (h2 : c ≤ 9223372036854775807) (hn : 0 < n) (hn2 : n ≤ 10000000) :
    Calls Tryz.prog 7 #[.int .i64 c, .int .i64 n] w fun e w' => (∃ k : Nat, k < n ∧ e = .returned (.int .i64 k)) ∧ w' = w := by
  have hz : ¬ (n : Int) = 0 := by omega
  by_cases h : c < 0
  · have v1 : IntKind.i64.wrap (c + 1) = c + 1 := by rw [IntKind.wrap_i64]; omega
    have v2 : IntKind.i64.wrap (-(c + 1)) = -(c + 1) := by rw [IntKind.wrap_i64]; omega
    go_enter Tryz.func7, Tryz.ntmps7
    go_wp2
    go_ret
    obtain ⟨m, hm⟩ : ∃ m : Nat, c + 1 = -(m : Int) := ⟨(-(c + 1)).toNat, by omega⟩
    refine ⟨⟨m % n, Nat.mod_lt _ hn, ?_⟩, rfl⟩
    show Ending.returned (Value.int .i64 (-((c + 1).tmod n))) = _
    rw [hm, Int.neg_tmod, Int.neg_neg, ← Int.ofNat_tmod]
  · have h' : 0 ≤ c := by omega
    go_enter Tryz.func7, Tryz.ntmps7
    go_wp2
    go_ret
    obtain ⟨m, rfl⟩ := Int.eq_ofNat_of_zero_le h'
    exact ⟨⟨m % n, Nat.mod_lt _ hn, rfl⟩, rfl⟩
end Go.Proofs.YtepklbboejnecaaGreat

/- Shelves: all shelves side by side, and what is held. -/
namespace Go.Proofs.YtepklbboejnecaaGreat
open Go.RowKit Go.Shelf Sedge
attribute [local go_sem ↓] Go.wp_at_zero Go.wp_at_succ

/-- The types of shelves, of their lists, and of the lists of shelves. -/
abbrev shP (T : TypeId) : Prop := T = 92 ∨ T = 129 ∨ T = 43 ∨ T = 105 ∨ T = 47 ∨ T = 44
theorem shP_off {hb : Bx} (h : hb.ty = 35) : Off shP hb where
  ty := by rw [h]; decide
  hd κ hκ := by match κ, hκ with | 0, _ => decide | 1, _ => decide | 2, _ => decide
  el κ hκ := by match κ, hκ with | 0, _ => decide | 1, _ => decide | 2, _ => decide
  sl κ hκ := by match κ, hκ with | 0, _ => decide | 1, _ => decide | 2, _ => decide
theorem own_keep {P : TypeId → Prop} {w w' : World} {base n : Nat} {e : TypeId} {s : Nat} {v : Value} {xs : List Value} (h : w.ownsRow base e s v n xs) (hP : P e) (k : Keep P w w') : w'.ownsRow base e s v n xs := by
  refine ⟨h.1, ?_⟩
  rcases h.2 with h' | ⟨g, cap, cur, h1, h2, h3, h4⟩
  · exact .inl h'
  · exact .inr ⟨g, cap, cur, h1, h2, (k g _ _ _ h3 hP).trans h3, h4⟩
theorem Blk.keep {P : TypeId → Prop} {w w' : World} {g : Nat} {T : TypeId} {vs : List Value} (h : Blk w g T vs) (hP : P T) (k : Keep P w w') : Blk w' g T vs := by
  unfold Blk at h ⊢
  exact (k g _ _ _ h hP).trans h
theorem SH.keep {P : TypeId → Prop} {w w' : World} {sb : Nat} {T ET : TypeId} {bs : List Vol} (h : SH w sb T ET bs) (hT : P T) (hE : P ET) (k : Keep P w w') : SH w' sb T ET bs := by
  obtain ⟨ad, c, h1, h2⟩ := h.ex
  exact ⟨h.ok, ad, c, h1.keep hT k, ⟨own_keep h2.own' hE k⟩⟩

/-- A list that reads as a mark, where only a shelf has changed. -/
theorem RdK.fr1 {κ : Nat} (hκ : κ < 3) {w w' : World} {sb : Nat} {T : TypeId} {ad : Option Addr} {n c : Nat} {v : Value} {m : Int} (h : RdK κ w v m) (hB : Blk w sb T [.slice ad n c]) (hf : Fr w w' [some sb]) : RdK κ w' v m := by
  obtain ⟨a1, n1, c1, rfl, hn, h⟩ := h
  refine ⟨a1, n1, c1, rfl, hn, fun i hi => ?_⟩
  obtain ⟨b, o, rfl, hc⟩ := h i hi
  have hne : b ≠ sb := fun e => by
    subst e
    have h0 := hc 0 (.int .i64 m) (by match κ, hκ with | 0, _ => rfl | 1, _ => rfl | 2, _ => rfl)
    generalize o + (i * wd κ + 0) = q at h0
    cases q with
    | zero => rw [hB.cell (k := 0) (by simp)] at h0; simp at h0
    | succ q => rw [hB.one q] at h0; cases h0
  refine ⟨b, o, rfl, fun j u hu => ?_⟩
  have h1 := hc j u hu
  have hb : w'.heap[b]? = w.heap[b]? := hf.2 b (cell_lt h1) (fun r hr => by simp at hr; subst hr; simpa using hne)
  rw [World.cell?_of_block hb]; exact h1
/-- What is held, where only a shelf has changed. -/
theorem HI.fr1 {B : Nat} {W W' : World} {hb : Bx} {N : Nat} {R : List Value} {E : Nat → List (Value × Int)} {T : Nat → List It} {sb : Nat} {Ty : TypeId} {ad : Option Addr} {n c : Nat} (h : HI B W hb N R E T) (hB : Blk W sb Ty [.slice ad n c]) (hP : Off (fun t => t = Ty) hb) (hf : Fr W W' [some sb]) : HI B W' hb N R E T := by
  have hne : hb.g ≠ sb := fun e => by
    have h1 := h.rw'.box
    rw [e] at h1
    unfold Blk at h1 hB
    rw [h1] at hB
    simp only [Option.some.injEq, Obj.cells.injEq] at hB
    exact hP.ty hB.2.1
  have fo : ∀ {base : Nat} {e : TypeId} {s : Nat} {v : Value} {k : Nat} {xs : List Value}, W.ownsRow base e s v k xs → ¬ e = Ty → W'.ownsRow base e s v k xs := fun ho he => own_fr ho hf (free_of_off (own_ty ho hB he))
  refine { h with rw' := ?_, rI := fun κ hκ => fo (h.rI κ hκ) (hP.hd κ hκ), rT := fun κ hκ => fo (h.rT κ hκ) (hP.sl κ hκ), rR := fun κ hκ => fo (h.rR κ hκ) (hP.sl κ hκ), own := fun κ hκ t ht => ⟨fo (h.own κ hκ t ht).1 (hP.el κ hκ), fo (h.own κ hκ t ht).2 (hP.el κ hκ)⟩, rd := fun κ hκ e he => (h.rd κ hκ e he).fr1 hκ hB hf, lt := fun κ hκ e he g hg => Nat.lt_of_lt_of_le (h.lt κ hκ e he g hg) hf.1 }
  exact RW.other h.rw' hf (fun r hr q => by simp at hr; subst hr; simp at q; exact hne q.symm)

/-- The shelves: where each lies, where the document's lies, what both have. -/
abbrev Shs := List (Nat × Nat × List Vol)
def ptrs (l : List Nat) : List Value := l.map fun g => .pointer (some ⟨g, 0, none⟩)
structure WI (B : Nat) (W : World) (wb : Nat) (sv rv : Value) (S : Shs) (N : Nat) (R : List Value) (E : Nat → List (Value × Int)) (T : Nat → List It) : Prop where
  hi : HI B W ⟨wb, 35, 2, [sv, rv]⟩ N R E T
  ss : W.ownsRow B 47 1 sv S.length (ptrs (S.map (·.1)))
  rs : W.ownsRow B 44 1 rv S.length (ptrs (S.map (·.2.1)))
  sh : ∀ s ∈ S, SH W s.1 92 129 s.2.2 ∧ SH W s.2.1 43 105 s.2.2
  nd : S.Pairwise fun a b => a.1 ≠ b.1 ∧ a.2.1 ≠ b.2.1
  ge : ∀ s ∈ S, B ≤ s.1 ∧ B ≤ s.2.1
section
variable {B : Nat} {W W' : World} {wb : Nat} {sv rv : Value} {S : Shs} {N : Nat} {R : List Value} {E : Nat → List (Value × Int)} {T : Nat → List It}
theorem WI.later (h : WI B W wb sv rv S N R E T) (hb : Below W.heap.size W W') : WI B W' wb sv rv S N R E T :=
  { h with
    hi := h.hi.later hb
    ss := own_fr h.ss (Fr.of_below hb) (free_nil _)
    rs := own_fr h.rs (Fr.of_below hb) (free_nil _)
    sh := fun s hs => ⟨(h.sh s hs).1.later hb, (h.sh s hs).2.later hb⟩ }
/-- What is held has changed, not the shelves. -/
theorem WI.held {N' : Nat} {R' : List Value} {E' : Nat → List (Value × Int)} {T' : Nat → List It} (h : WI B W wb sv rv S N R E T) (k : Keep shP W W') (hi : HI B W' ⟨wb, 35, 2, [sv, rv]⟩ N' R' E' T') : WI B W' wb sv rv S N' R' E' T' :=
  { h with
    hi := hi
    ss := own_keep h.ss (by decide) k
    rs := own_keep h.rs (by decide) k
    sh := fun s hs => ⟨(h.sh s hs).1.keep (by decide) (by decide) k, (h.sh s hs).2.keep (by decide) (by decide) k⟩ }
/-- Where the shelves stand. -/
theorem WI.at' (h : WI B W wb sv rv S N R E T) {k : Nat} (hk : k < S.length) : ∃ g c g' c', sv = .slice (some ⟨g, 0, none⟩) S.length c ∧ rv = .slice (some ⟨g', 0, none⟩) S.length c' ∧ W.cell? ⟨g, k, none⟩ = some (.pointer (some ⟨S[k].1, 0, none⟩)) ∧ W.cell? ⟨g', k, none⟩ = some (.pointer (some ⟨S[k].2.1, 0, none⟩)) := by
  have h1 := h.ss
  have h2 := h.rs
  rcases h1.2 with ⟨_, h0⟩ | ⟨g, cap, cur, e, _⟩
  · omega
  · rcases h2.2 with ⟨_, h0⟩ | ⟨g', cap', cur', e', _⟩
    · omega
    · refine ⟨g, cap, g', cap', e, e', ?_, ?_⟩
      · rw [e] at h1
        rw [h1.cellAt k (by omega)]
        simp [ptrs, hk]
      · rw [e'] at h2
        rw [h2.cellAt k (by omega)]
        simp [ptrs, hk]
/-- Both shelves of one number have changed alike, one after the other. -/
theorem WI.changed {W1 : World} {k : Nat} {bs : List Vol} (h : WI B W wb sv rv S N R E T) (hk : k < S.length)
    (s1 : SH W1 S[k].1 92 129 bs) (l1 : Left W W1 S[k].1)
    (s2 : SH W' S[k].2.1 43 105 bs) (l2 : Left W1 W' S[k].2.1) :
    WI B W' wb sv rv (S.set k (S[k].1, S[k].2.1, bs)) N R E T ∧ Below B W W' := by
  obtain ⟨p1, p2⟩ := h.sh _ (List.getElem_mem hk)
  obtain ⟨g1, g2⟩ := h.ge _ (List.getElem_mem hk)
  obtain ⟨ad1, c1, b1, _⟩ := p1.ex
  -- the document's shelf, behind the program's call
  have p2' : SH W1 S[k].2.1 43 105 S[k].2.2 := p2.fr1 p1 (fun e => by
    obtain ⟨ad2, c2, b2, _⟩ := p2.ex
    rw [e] at b2
    unfold Blk at b1 b2
    rw [b1] at b2
    simp at b2) (by decide) l1.fr
  obtain ⟨ad2, c2, b2, _⟩ := p2'.ex
  have hi1 := h.hi.fr1 b1 (Ty := 92) ⟨by show ¬ ((35 : TypeId) = 92); decide, fun κ hκ => (by match κ, hκ with | 0, _ => decide | 1, _ => decide | 2, _ => decide), fun κ hκ => (by match κ, hκ with | 0, _ => decide | 1, _ => decide | 2, _ => decide), fun κ hκ => (by match κ, hκ with | 0, _ => decide | 1, _ => decide | 2, _ => decide)⟩ l1.fr
  have hi2 := hi1.fr1 b2 (Ty := 43) ⟨by show ¬ ((35 : TypeId) = 43); decide, fun κ hκ => (by match κ, hκ with | 0, _ => decide | 1, _ => decide | 2, _ => decide), fun κ hκ => (by match κ, hκ with | 0, _ => decide | 1, _ => decide | 2, _ => decide), fun κ hκ => (by match κ, hκ with | 0, _ => decide | 1, _ => decide | 2, _ => decide)⟩ l2.fr
  have fo : ∀ {base : Nat} {e : TypeId} {s : Nat} {v : Value} {k : Nat} {xs : List Value}, W.ownsRow base e s v k xs → e ≠ 92 → e ≠ 43 → W'.ownsRow base e s v k xs := fun ho he he' => by
    have o1 := own_fr ho l1.fr (free_of_off (own_ty ho b1 he))
    exact own_fr o1 l2.fr (free_of_off (own_ty o1 b2 he'))
  have s1' : SH W' S[k].1 92 129 bs := s1.fr1 p2' (fun e => by
    obtain ⟨ad3, c3, b3, _⟩ := s1.ex
    rw [e] at b3
    unfold Blk at b2 b3
    rw [b2] at b3
    simp at b3) (by decide) l2.fr
  refine ⟨⟨hi2, ?_, ?_, ?_, ?_, ?_⟩, (Below.mono l1.bl g1).trans (Below.mono l2.bl g2)⟩
  · have := fo h.ss (by decide) (by decide)
    rw [List.length_set]
    have e : (S.set k (S[k].1, S[k].2.1, bs)).map (·.1) = S.map (·.1) := by
      refine List.ext_getElem (by simp) fun i h1 h2 => ?_
      rw [List.getElem_map, List.getElem_map, List.getElem_set]
      by_cases q : k = i
      · subst q; rw [if_pos rfl]
      · rw [if_neg q]
    rw [e]; exact this
  · have := fo h.rs (by decide) (by decide)
    rw [List.length_set]
    have e : (S.set k (S[k].1, S[k].2.1, bs)).map (·.2.1) = S.map (·.2.1) := by
      refine List.ext_getElem (by simp) fun i h1 h2 => ?_
      rw [List.getElem_map, List.getElem_map, List.getElem_set]
      by_cases q : k = i
      · subst q; rw [if_pos rfl]
      · rw [if_neg q]
    rw [e]; exact this
  · intro s hs
    obtain ⟨i, hi, rfl⟩ := List.getElem_of_mem hs
    rw [List.length_set] at hi
    rw [List.getElem_set]
    by_cases e : k = i
    · subst e
      rw [if_pos rfl]
      exact ⟨s1', s2⟩
    · rw [if_neg e]
      obtain ⟨q1, q2⟩ := h.sh _ (List.getElem_mem hi)
      have hn : S[i].1 ≠ S[k].1 ∧ S[i].2.1 ≠ S[k].2.1 := by
        rcases Nat.lt_or_gt_of_ne e with c | c
        · have := List.pairwise_iff_getElem.1 h.nd k i hk hi c
          exact ⟨fun q => this.1 q.symm, fun q => this.2 q.symm⟩
        · exact List.pairwise_iff_getElem.1 h.nd i k hi hk c
      have cross1 : S[i].1 ≠ S[k].2.1 := fun q => by
        obtain ⟨ad3, c3, b3, _⟩ := (q1.fr1 p1 hn.1 (by decide) l1.fr).ex
        rw [q] at b3
        unfold Blk at b2 b3
        rw [b2] at b3
        simp at b3
      have cross2 : S[i].2.1 ≠ S[k].1 := fun q => by
        obtain ⟨ad3, c3, b3, _⟩ := q2.ex
        rw [q] at b3
        unfold Blk at b1 b3
        rw [b1] at b3
        simp at b3
      exact ⟨(q1.fr1 p1 hn.1 (by decide) l1.fr).fr1 p2' cross1 (by decide) l2.fr, (q2.fr1 p1 cross2 (by decide) l1.fr).fr1 p2' hn.2 (by decide) l2.fr⟩
  · rw [List.pairwise_iff_getElem]
    intro i j hi hj hij
    rw [List.length_set] at hi hj
    have h1 : ∀ q (hq : q < S.length), ((S.set k (S[k].1, S[k].2.1, bs))[q]'(by rw [List.length_set]; exact hq)).1 = S[q].1 ∧ ((S.set k (S[k].1, S[k].2.1, bs))[q]'(by rw [List.length_set]; exact hq)).2.1 = S[q].2.1 := fun q hq => by
      rw [List.getElem_set]
      by_cases e : k = q
      · subst e; rw [if_pos rfl]; exact ⟨rfl, rfl⟩
      · rw [if_neg e]; exact ⟨rfl, rfl⟩
    rw [(h1 i hi).1, (h1 j hj).1, (h1 i hi).2, (h1 j hj).2]
    exact List.pairwise_iff_getElem.1 h.nd i j hi hj hij
  · intro s hs
    obtain ⟨i, hi, rfl⟩ := List.getElem_of_mem hs
    rw [List.length_set] at hi
    rw [List.getElem_set]
    by_cases e : k = i
    · subst e; rw [if_pos rfl]; exact ⟨g1, g2⟩
    · rw [if_neg e]; exact h.ge _ (List.getElem_mem hi)
end
end Go.Proofs.YtepklbboejnecaaGreat

/- Shelves: a step on a shelf: Put, Drop, Wide. -/
namespace Go.Proofs.YtepklbboejnecaaGreat
open Go.RowKit Go.Shelf Sedge
attribute [local go_sem ↓] Go.wp_at_zero Go.wp_at_succ

theorem WI.second {B : Nat} {W W1 : World} {wb : Nat} {sv rv : Value} {S : Shs} {N : Nat} {R : List Value} {E : Nat → List (Value × Int)} {T : Nat → List It} (h : WI B W wb sv rv S N R E T) {k : Nat} (hk : k < S.length) (l1 : Left W W1 S[k].1) : SH W1 S[k].2.1 43 105 S[k].2.2 := by
  obtain ⟨p1, p2⟩ := h.sh _ (List.getElem_mem hk)
  obtain ⟨ad1, c1, b1, _⟩ := p1.ex
  exact p2.fr1 p1 (fun e => by
    obtain ⟨ad2, c2, b2, _⟩ := p2.ex
    rw [e] at b2
    unfold Blk at b1 b2
    rw [b1] at b2
    simp at b2) (by decide) l1.fr
/-- How many lists wait. -/
def wt (T : Nat → List It) : Nat := (T 0).length + (T 1).length + (T 2).length
/-- What a step leaves. -/
def Stp (B : Nat) (W : World) (wb : Nat) (sv rv : Value) (S : Shs) (N : Nat) (T : Nat → List It) (w' : World) : Prop := (∃ S' R' E' T', WI B w' wb sv rv S' N R' E' T' ∧ S'.length = S.length ∧ wt T' ≤ wt T + 2) ∧ Below B W w'
section
variable {B : Nat} {W : World} {wb : Nat} {sv rv : Value} {S : Shs} {N : Nat} {R : List Value} {E : Nat → List (Value × Int)} {T : Nat → List It}
theorem WI.base (h : WI B W wb sv rv S N R E T) : B ≤ W.heap.size := h.hi.rw'.sz
theorem WI.ssC (h : WI B W wb sv rv S N R E T) : W.cell? ⟨wb, 0, none⟩ = some sv ∧ W.cell? ⟨wb, 1, none⟩ = some rv := ⟨h.hi.rw'.box.cell (k := 0) (by simp), h.hi.rw'.box.cell (k := 1) (by simp)⟩

set_option maxRecDepth 50000 in
set_option maxHeartbeats 4000000 in
/-- A step of no kind. -/
theorem step_none (h : WI B W wb sv rv S N R E T) {k : Nat} (hk : k < S.length) (kind n g : Int) (s : ByteArray) (hno : ¬ kind = 2 ∧ ¬ kind = 3 ∧ ¬ kind = 4 ∧ ¬ kind = 5 ∧ ¬ kind = 6) :
    Calls Tryz.prog 6 #[.pointer (some ⟨wb, 0, none⟩), .int .i64 (k : Nat), .agg #[.int .i64 kind, .int .i64 n, .int .i64 g, .string s]] W fun e w' => e = .returned (.bool true) ∧ Stp B W wb sv rv S N T w' := by
  obtain ⟨g1, c1, g2, c2, rfl, rfl, d1, d2⟩ := h.at' hk
  obtain ⟨x0, x1⟩ := h.ssC
  have HW : Hid _ := h.later ((Below.refl _ W).alloc (Nat.le_refl _) (Obj.cells #[.int .i64 kind, .int .i64 n, .int .i64 g, .string s] 38))
  have HB : Hid _ := (Below.refl B W).alloc h.base (Obj.cells #[.int .i64 kind, .int .i64 n, .int .i64 g, .string s] 38)
  obtain ⟨n2, n3, n4, n5, n6⟩ := hno
  have i1 : (k : Int) < (S.length : Int) := by omega
  have i2 : (0 : Int) ≤ (k : Int) := by omega
  have l1 := cell_lt d1
  have l2 := cell_lt d2
  have l3 := cell_lt x0
  simp only at l1 l2 l3
  clear h
  go_enter Tryz.func6, Tryz.ntmps6
  go_wp2
  go_ret
  exact ⟨rfl, ⟨S, R, E, T, HW.out, rfl, by omega⟩, HB.out⟩

set_option maxRecDepth 50000 in
set_option maxHeartbeats 4000000 in
/-- A step: Put. -/
theorem step_put (h : WI B W wb sv rv S N R E T) {k : Nat} (hk : k < S.length) (n g : Int) (s : ByteArray) :
    Calls Tryz.prog 6 #[.pointer (some ⟨wb, 0, none⟩), .int .i64 (k : Nat), .agg #[.int .i64 2, .int .i64 n, .int .i64 g, .string s]] W fun e w' => e = .returned (.bool true) ∧ Stp B W wb sv rv S N T w' := by
  obtain ⟨g1, c1, g2, c2, rfl, rfl, d1, d2⟩ := h.at' hk
  obtain ⟨x0, x1⟩ := h.ssC
  have h0 := h.later ((Below.refl _ W).alloc (Nat.le_refl _) (Obj.cells #[.int .i64 2, .int .i64 n, .int .i64 g, .string s] 38))
  have hbx : Blk (W.alloc (Obj.cells #[.int .i64 2, .int .i64 n, .int .i64 g, .string s] 38)) W.heap.size 38 [.int .i64 2, .int .i64 n, .int .i64 g, .string s] := Blk.new W _ _ rfl
  have hB0 := (Below.refl B W).alloc h.base (Obj.cells #[.int .i64 2, .int .i64 n, .int .i64 g, .string s] 38)
  have hsl := (h.sh _ (List.getElem_mem hk)).1.lt
  obtain ⟨w0, hw0⟩ : ∃ w0, w0 = W.alloc (Obj.cells #[.int .i64 2, .int .i64 n, .int .i64 g, .string s] 38) := ⟨_, rfl⟩
  obtain ⟨sb, hsb⟩ : ∃ sb, sb = S[k].1 := ⟨_, rfl⟩
  obtain ⟨rb, hrb⟩ : ∃ rb, rb = S[k].2.1 := ⟨_, rfl⟩
  obtain ⟨bs, hbs⟩ : ∃ bs, bs = S[k].2.2 := ⟨_, rfl⟩
  rw [← hw0] at h0 hbx hB0
  have HCH : Hid (∀ W1 W', SH W1 sb 92 129 (putB bs n s) → Left w0 W1 sb → SH W' rb 43 105 (putB bs n s) → Left W1 W' rb → WI B W' wb (.slice (some ⟨g1, 0, none⟩) S.length c1) (.slice (some ⟨g2, 0, none⟩) S.length c2) (S.set k (S[k].1, S[k].2.1, putB bs n s)) N R E T ∧ Below B w0 W') := fun W1 W' s1 l1 s2 l2 => by
    subst hsb
    subst hrb
    exact WI.changed h0 hk s1 l1 s2 l2
  have HC1 : Hid (Calls Tryz.prog 13 #[.pointer (some ⟨sb, 0, none⟩), .int .i64 n, .string s] w0 fun e w' => e = .returned (.int .i64 (putE bs n s)) ∧ SH w' sb 92 129 (putB bs n s) ∧ Left w0 w' sb) := by
    subst hsb
    subst hbs
    exact Put_any _ _ _ n s (h0.sh _ (List.getElem_mem hk)).1
  have HC2 : Hid (∀ W1, Left w0 W1 sb → Calls Tryz.prog 21 #[.pointer (some ⟨rb, 0, none⟩), .int .i64 n, .string s] W1 fun e w' => e = .returned (.int .i64 (putE bs n s)) ∧ SH w' rb 43 105 (putB bs n s) ∧ Left W1 w' rb) := fun W1 l1 => by
    subst hsb
    subst hrb
    subst hbs
    exact rPut_any W1 _ _ n s (h0.second hk l1)
  rw [← hsb] at d1 hsl
  rw [← hrb] at d2
  have HBX : Hid _ := hbx
  have HB0 : Hid _ := hB0
  have HW0 : Hid _ := hw0
  have i1 : (k : Int) < (S.length : Int) := by omega
  have i2 : (0 : Int) ≤ (k : Int) := by omega
  have l1 := cell_lt d1
  have l2 := cell_lt d2
  have l3 := cell_lt x0
  simp only at l1 l2 l3
  have HLS : Hid ((S.set k (S[k].1, S[k].2.1, putB bs n s)).length = S.length) := List.length_set
  clear h h0 hbx hB0 hsb hrb hbs hw0
  go_enter Tryz.func6, Tryz.ntmps6
  go_wp2_with fail
  rw [← HW0.out]
  refine Calls.mono HC1.out ?_
  rintro e w1 ⟨rfl, hs1, hl1⟩
  have hbx1 := Blk.fr HBX.out hl1.fr (fun r hr => by simp at hr; subst hr; simp; omega)
  have y1 := hbx1.cell (k := 1) (by simp)
  have y3 := hbx1.cell (k := 3) (by simp)
  have HC2' : Hid _ := HC2.out w1 hl1
  have HS1 : Hid _ := hs1
  have HL1 : Hid _ := hl1
  clear hs1 hl1 hbx1
  go_wp2_with fail
  refine Calls.mono HC2'.out ?_
  rintro e w2 ⟨rfl, hs2, hl2⟩
  have HF : Hid _ := HCH.out w1 w2 HS1.out HL1.out hs2 hl2
  clear hs2 hl2 HC2'
  generalize putE bs n s = er
  go_wp2_with (first | (go_at_call 22; refine (num_any er _).mono ?_; rintro e w3 ⟨rfl, rfl⟩) | fail)
  go_ret
  exact ⟨by simp, ⟨_, R, E, T, HF.out.1, HLS.out, by omega⟩, HB0.out.trans HF.out.2⟩

set_option maxRecDepth 50000 in
set_option maxHeartbeats 4000000 in
/-- A step: Drop. -/
theorem step_drop (h : WI B W wb sv rv S N R E T) {k : Nat} (hk : k < S.length) (n g : Int) (s : ByteArray) :
    Calls Tryz.prog 6 #[.pointer (some ⟨wb, 0, none⟩), .int .i64 (k : Nat), .agg #[.int .i64 3, .int .i64 n, .int .i64 g, .string s]] W fun e w' => e = .returned (.bool true) ∧ Stp B W wb sv rv S N T w' := by
  obtain ⟨g1, c1, g2, c2, rfl, rfl, d1, d2⟩ := h.at' hk
  obtain ⟨x0, x1⟩ := h.ssC
  have h0 := h.later ((Below.refl _ W).alloc (Nat.le_refl _) (Obj.cells #[.int .i64 3, .int .i64 n, .int .i64 g, .string s] 38))
  have hbx : Blk (W.alloc (Obj.cells #[.int .i64 3, .int .i64 n, .int .i64 g, .string s] 38)) W.heap.size 38 [.int .i64 3, .int .i64 n, .int .i64 g, .string s] := Blk.new W _ _ rfl
  have hB0 := (Below.refl B W).alloc h.base (Obj.cells #[.int .i64 3, .int .i64 n, .int .i64 g, .string s] 38)
  have hsl := (h.sh _ (List.getElem_mem hk)).1.lt
  obtain ⟨w0, hw0⟩ : ∃ w0, w0 = W.alloc (Obj.cells #[.int .i64 3, .int .i64 n, .int .i64 g, .string s] 38) := ⟨_, rfl⟩
  obtain ⟨sb, hsb⟩ : ∃ sb, sb = S[k].1 := ⟨_, rfl⟩
  obtain ⟨rb, hrb⟩ : ∃ rb, rb = S[k].2.1 := ⟨_, rfl⟩
  obtain ⟨bs, hbs⟩ : ∃ bs, bs = S[k].2.2 := ⟨_, rfl⟩
  rw [← hw0] at h0 hbx hB0
  have HCH : Hid (∀ W1 W', SH W1 sb 92 129 (dropB bs n) → Left w0 W1 sb → SH W' rb 43 105 (dropB bs n) → Left W1 W' rb → WI B W' wb (.slice (some ⟨g1, 0, none⟩) S.length c1) (.slice (some ⟨g2, 0, none⟩) S.length c2) (S.set k (S[k].1, S[k].2.1, dropB bs n)) N R E T ∧ Below B w0 W') := fun W1 W' s1 l1 s2 l2 => by
    subst hsb
    subst hrb
    exact WI.changed h0 hk s1 l1 s2 l2
  have HC1 : Hid (Calls Tryz.prog 23 #[.pointer (some ⟨sb, 0, none⟩), .int .i64 n] w0 fun e w' => e = .returned (.int .i64 (dropE bs n)) ∧ SH w' sb 92 129 (dropB bs n) ∧ Left w0 w' sb) := by
    subst hsb
    subst hbs
    exact Drop_any _ _ _ n (h0.sh _ (List.getElem_mem hk)).1
  have HC2 : Hid (∀ W1, Left w0 W1 sb → Calls Tryz.prog 24 #[.pointer (some ⟨rb, 0, none⟩), .int .i64 n] W1 fun e w' => e = .returned (.int .i64 (dropE bs n)) ∧ SH w' rb 43 105 (dropB bs n) ∧ Left W1 w' rb) := fun W1 l1 => by
    subst hsb
    subst hrb
    subst hbs
    exact rDrop_any W1 _ _ n (h0.second hk l1)
  rw [← hsb] at d1 hsl
  rw [← hrb] at d2
  have HBX : Hid _ := hbx
  have HB0 : Hid _ := hB0
  have HW0 : Hid _ := hw0
  have i1 : (k : Int) < (S.length : Int) := by omega
  have i2 : (0 : Int) ≤ (k : Int) := by omega
  have l1 := cell_lt d1
  have l2 := cell_lt d2
  have l3 := cell_lt x0
  simp only at l1 l2 l3
  have HLS : Hid ((S.set k (S[k].1, S[k].2.1, dropB bs n)).length = S.length) := List.length_set
  clear h h0 hbx hB0 hsb hrb hbs hw0
  go_enter Tryz.func6, Tryz.ntmps6
  go_wp2_with fail
  rw [← HW0.out]
  refine Calls.mono HC1.out ?_
  rintro e w1 ⟨rfl, hs1, hl1⟩
  have hbx1 := Blk.fr HBX.out hl1.fr (fun r hr => by simp at hr; subst hr; simp; omega)
  have y1 := hbx1.cell (k := 1) (by simp)
  have HC2' : Hid _ := HC2.out w1 hl1
  have HS1 : Hid _ := hs1
  have HL1 : Hid _ := hl1
  clear hs1 hl1 hbx1
  go_wp2_with fail
  refine Calls.mono HC2'.out ?_
  rintro e w2 ⟨rfl, hs2, hl2⟩
  have HF : Hid _ := HCH.out w1 w2 HS1.out HL1.out hs2 hl2
  clear hs2 hl2 HC2'
  generalize dropE bs n = er
  go_wp2_with (first | (go_at_call 22; refine (num_any er _).mono ?_; rintro e w3 ⟨rfl, rfl⟩) | fail)
  go_ret
  exact ⟨by simp, ⟨_, R, E, T, HF.out.1, HLS.out, by omega⟩, HB0.out.trans HF.out.2⟩
end
end Go.Proofs.YtepklbboejnecaaGreat

/- Shelves: a step on a shelf: Wide, Find, Top. -/
namespace Go.Proofs.YtepklbboejnecaaGreat
open Go.RowKit Go.Shelf Sedge
attribute [local go_sem ↓] Go.wp_at_zero Go.wp_at_succ

theorem WideR.unique {bs : List Vol} {n : Int} {a b : ByteArray} (h : WideR bs n a) (k : WideR bs n b) : a = b := by
  unfold WideR at h k
  by_cases c : n < 1 ∨ (bs.length : Int) < n
  · rw [if_pos c] at h k; rw [h, k]
  · rw [if_neg c] at h k; exact bl_inj (h.unique k)
theorem HI.clr_ty {B : Nat} {W : World} {hb : Bx} {N : Nat} {R : List Value} {E : Nat → List (Value × Int)} {T : Nat → List It} (h : HI B W hb N R E T) {base n : Nat} {e : TypeId} {s : Nat} {x : Value} {xs : List Value} (hx : W.ownsRow base e s x n xs) (he : ∀ κ, κ < 3 → e ≠ hdT κ ∧ e ≠ slT κ) (ht : e ≠ hb.ty) : Clr hb R x := by
  refine ⟨own_ty hx h.rw'.box ht, fun r hr => ?_⟩
  obtain ⟨i, hi, rfl⟩ := List.getElem_of_mem hr
  have hl := h.rw'.len
  have er : R[i] = row R i := by unfold row; rw [List.getD_eq_getElem?_getD, List.getElem?_eq_getElem hi]; rfl
  rw [er]
  rw [hl] at hi
  have a0 := own_ty2 hx (h.rI 0 (by omega)) (he 0 (by omega)).1
  have a1 := own_ty2 hx (h.rI 1 (by omega)) (he 1 (by omega)).1
  have a2 := own_ty2 hx (h.rI 2 (by omega)) (he 2 (by omega)).1
  have t0 := own_ty2 hx (h.rT 0 (by omega)) (he 0 (by omega)).2
  have t1 := own_ty2 hx (h.rT 1 (by omega)) (he 1 (by omega)).2
  have t2 := own_ty2 hx (h.rT 2 (by omega)) (he 2 (by omega)).2
  have r0 := own_ty2 hx (h.rR 0 (by omega)) (he 0 (by omega)).2
  have r1 := own_ty2 hx (h.rR 1 (by omega)) (he 1 (by omega)).2
  have r2 := own_ty2 hx (h.rR 2 (by omega)) (he 2 (by omega)).2
  match i, hi with
  | 0, _ => exact a0
  | 1, _ => exact a1
  | 2, _ => exact a2
  | 3, _ => exact t0
  | 4, _ => exact r0
  | 5, _ => exact t1
  | 6, _ => exact r1
  | 7, _ => exact t2
  | 8, _ => exact r2
theorem wt_upd {T : Nat → List It} {κ : Nat} (hκ : κ < 3) (x : It) : wt (upd T κ (T κ ++ [x])) = wt T + 1 := by
  unfold wt upd
  match κ, hκ with
  | 0, _ => simp; omega
  | 1, _ => simp; omega
  | 2, _ => simp; omega
section
variable {B : Nat} {W : World} {wb : Nat} {sv rv : Value} {S : Shs} {N : Nat} {R : List Value} {E : Nat → List (Value × Int)} {T : Nat → List It}

set_option maxRecDepth 50000 in
set_option maxHeartbeats 4000000 in
/-- A step: Wide. -/
theorem step_wide (h : WI B W wb sv rv S N R E T) {k : Nat} (hk : k < S.length) (n g : Int) (s : ByteArray) :
    Calls Tryz.prog 6 #[.pointer (some ⟨wb, 0, none⟩), .int .i64 (k : Nat), .agg #[.int .i64 6, .int .i64 n, .int .i64 g, .string s]] W fun e w' => e = .returned (.bool true) ∧ Stp B W wb sv rv S N T w' := by
  obtain ⟨g1, c1, g2, c2, rfl, rfl, d1, d2⟩ := h.at' hk
  obtain ⟨x0, x1⟩ := h.ssC
  have hb0 := (Below.refl _ W).alloc (Nat.le_refl _) (Obj.cells #[.int .i64 6, .int .i64 n, .int .i64 g, .string s] 38)
  have hbx : Blk (W.alloc (Obj.cells #[.int .i64 6, .int .i64 n, .int .i64 g, .string s] 38)) W.heap.size 38 [.int .i64 6, .int .i64 n, .int .i64 g, .string s] := Blk.new W _ _ rfl
  obtain ⟨p1, p2⟩ := h.sh _ (List.getElem_mem hk)
  obtain ⟨w0, hw0⟩ : ∃ w0, w0 = W.alloc (Obj.cells #[.int .i64 6, .int .i64 n, .int .i64 g, .string s] 38) := ⟨_, rfl⟩
  rw [← hw0] at hb0 hbx
  generalize S[k].1 = sb at d1 p1
  generalize S[k].2.1 = rb at d2 p2
  generalize S[k].2.2 = bs at p1 p2
  have HC1 : Hid _ := sWide_any w0 sb bs n (p1.later hb0)
  have HC2 : Hid (∀ W1, Below w0.heap.size w0 W1 → _) := fun W1 hW => rWide_any W1 rb bs n (p2.later (Below.later hb0 hW))
  have HBX : Hid _ := hbx
  have HB0 : Hid _ := hb0
  have HW0 : Hid _ := hw0
  have HWI : Hid _ := h
  have hbase := h.base
  have i1 : (k : Int) < (S.length : Int) := by omega
  have i2 : (0 : Int) ≤ (k : Int) := by omega
  have l1 := cell_lt d1
  have l2 := cell_lt d2
  have l3 := cell_lt x0
  simp only at l1 l2 l3
  clear h hbx hb0 hw0 p1 p2
  go_enter Tryz.func6, Tryz.ntmps6
  go_wp2_with fail
  rw [← HW0.out]
  refine Calls.mono HC1.out ?_
  rintro e w1 ⟨r1, rfl, hr1, hb1⟩
  have hbx1 := Blk.later HBX.out hb1
  have y1 := hbx1.cell (k := 1) (by simp)
  have HC2' : Hid _ := HC2.out w1 hb1
  have HR1 : Hid _ := hr1
  have HB1 : Hid _ := hb1
  clear hr1 hb1 hbx1
  go_wp2_with fail
  refine Calls.mono HC2'.out ?_
  rintro e w2 ⟨r2, rfl, hr2, hb2⟩
  have er : r1 = r2 := WideR.unique HR1.out hr2
  subst er
  have HB2 : Hid _ := Below.later HB0.out (Below.later HB1.out hb2)
  have he : (r1.toList == r1.toList) = true := by simp
  clear hr2 hb2 HC2'
  generalize wideE bs n = er
  go_wp2_with (first | (go_at_call 22; refine (num_any er _).mono ?_; rintro e w3 ⟨rfl, rfl⟩) | fail)
  go_ret
  exact ⟨by simp, ⟨S, R, E, T, HWI.out.later HB2.out, rfl, by omega⟩, Below.mono HB2.out hbase⟩
end
end Go.Proofs.YtepklbboejnecaaGreat

/- Shelves: a step on a shelf: Find, Top. -/
namespace Go.Proofs.YtepklbboejnecaaGreat
open Go.RowKit Go.Shelf Sedge
attribute [local go_sem ↓] Go.wp_at_zero Go.wp_at_succ

theorem sfindL_len {bs : List Vol} (h : OKs bs) (pat : ByteArray) : (sfindL bs pat).length ≤ 4000 := by
  unfold sfindL
  split
  · have := hitsL_len (pat := pat) (bs := bs) h.sz
    have := h.len
    omega
  · simp
theorem stopL_unique {bs : List Vol} {pat : ByteArray} {L L' : List (Nat × Nat)} (n : Int) (h : patE pat = 0 → Tops (cnts pat bs) L) (h' : patE pat = 0 → Tops (cnts pat bs) L') : stopL L' pat n = stopL L pat n := by
  unfold stopL
  by_cases c : patE pat = 0
  · rw [if_pos c, if_pos c, Bf.unique (h' c).srt (h c).srt ((h' c).perm.trans (h c).perm.symm)]
  · rw [if_neg c, if_neg c]
theorem stopL_len {bs : List Vol} (ho : OKs bs) {pat : ByteArray} {L : List (Nat × Nat)} (n : Int) (h : patE pat = 0 → Tops (cnts pat bs) L) : (stopL L pat n).length ≤ 4000 := by
  unfold stopL
  split
  · rename_i c
    have := tops_len (h c) n
    have := ho.len
    omega
  · simp
/-- What two lists that wait one behind the other ask. -/
theorem two_apart {B : Nat} {w0 : World} {hb : Bx} {N : Nat} {R : List Value} {E : Nat → List (Value × Int)} {T : Nat → List It} {κ : Nat} {va vc u : Value} {n : Nat} {xs : List Value} (h : HI B w0 hb N R E T) {s1 : Nat} (h1 : w0.heap.size ≤ s1) (ha : ∀ g, va.ownBlock = some g → g < s1) (hc : ∀ g, vc.ownBlock = some g → s1 ≤ g) :
    ∀ κ', κ' < 3 → ∀ t ∈ upd T κ (T κ ++ [⟨va, u, n, xs⟩]) κ', Apart t.v vc := fun κ' hκ' t ht => by
  have hf := (h.fresh (x := vc) (fun g hg => Nat.le_trans h1 (hc g hg))).2.1
  by_cases e : κ' = κ
  · subst e
    rw [upd_same] at ht
    rcases List.mem_append.1 ht with ht | ht
    · exact hf κ' hκ' t ht
    · simp at ht; subst ht
      intro g q1 q2
      have := ha g q1
      have := hc g q2
      omega
  · rw [upd_other _ _ e] at ht; exact hf κ' hκ' t ht
section
variable {B : Nat} {W : World} {wb : Nat} {sv rv : Value} {S : Shs} {N : Nat} {R : List Value} {E : Nat → List (Value × Int)} {T : Nat → List It}

set_option maxRecDepth 50000 in
set_option maxHeartbeats 4000000 in
/-- A step: Find. -/
theorem step_find (h : WI B W wb sv rv S N R E T) {k : Nat} (hk : k < S.length) (n g : Int) (s : ByteArray) (hT : wt T ≤ 9000000) :
    Calls Tryz.prog 6 #[.pointer (some ⟨wb, 0, none⟩), .int .i64 (k : Nat), .agg #[.int .i64 4, .int .i64 n, .int .i64 g, .string s]] W fun e w' => e = .returned (.bool true) ∧ Stp B W wb sv rv S N T w' := by
  obtain ⟨g1, c1, g2, c2, rfl, rfl, d1, d2⟩ := h.at' hk
  obtain ⟨x0, x1⟩ := h.ssC
  have hb0 := (Below.refl _ W).alloc (Nat.le_refl _) (Obj.cells #[.int .i64 4, .int .i64 n, .int .i64 g, .string s] 38)
  have hbx : Blk (W.alloc (Obj.cells #[.int .i64 4, .int .i64 n, .int .i64 g, .string s] 38)) W.heap.size 38 [.int .i64 4, .int .i64 n, .int .i64 g, .string s] := Blk.new W _ _ rfl
  obtain ⟨p1, p2⟩ := h.sh _ (List.getElem_mem hk)
  obtain ⟨w0, hw0⟩ : ∃ w0, w0 = W.alloc (Obj.cells #[.int .i64 4, .int .i64 n, .int .i64 g, .string s] 38) := ⟨_, rfl⟩
  rw [← hw0] at hb0 hbx
  generalize S[k].1 = sb at d1 p1
  generalize S[k].2.1 = rb at d2 p2
  generalize S[k].2.2 = bs at p1 p2
  have HP1 : Hid _ := p1
  have HP2 : Hid _ := p2
  have HOK : Hid _ := p1.ok
  have HBX : Hid _ := hbx
  have HB0 : Hid _ := hb0
  have HW0 : Hid _ := hw0
  have HWI : Hid _ := h
  have HWI0 : Hid _ := h.later hb0
  have hbase := h.base
  have i1 : (k : Int) < (S.length : Int) := by omega
  have i2 : (0 : Int) ≤ (k : Int) := by omega
  have l1 := cell_lt d1
  have l2 := cell_lt d2
  have l3 := cell_lt x0
  simp only at l1 l2 l3
  have hwt : (T 1).length ≤ 9000000 := by unfold wt at hT; omega
  have HC1 : Hid _ := sFind_any w0 sb bs s (HP1.out.later HB0.out)
  clear h hbx hb0 hw0 p1 p2 hT
  go_enter Tryz.func6, Tryz.ntmps6
  go_wp2_with fail
  rw [← HW0.out]
  refine Calls.mono HC1.out ?_
  rintro e w1 ⟨va, rfl, ha, hb1⟩
  obtain ⟨ada, ca, rfl⟩ := own_val ha
  have HB1 : Hid _ := hb1
  have HA1 : Hid _ := ha
  have hbx1 := Blk.later HBX.out hb1
  have y1 := hbx1.cell (k := 3) (by simp)
  have HC2 : Hid _ := sFind_any w1 sb bs s (HP1.out.later (Below.later HB0.out HB1.out))
  clear ha hb1 hbx1 HC1
  go_wp2_with fail
  refine Calls.mono HC2.out ?_
  rintro e w2 ⟨vc, rfl, hc, hb2⟩
  obtain ⟨adc, cc, rfl⟩ := own_val hc
  have HB2 : Hid _ := Below.later HB1.out hb2
  have HC2c : Hid _ := hc
  have hbx2 := Blk.later HBX.out HB2.out
  have y2 := hbx2.cell (k := 3) (by simp)
  have HC3 : Hid _ := rFind_any w2 rb bs s (HP2.out.later (Below.later HB0.out HB2.out))
  have HA2 : Hid _ := own_fr HA1.out (Fr.of_below hb2) (fun _ _ _ h => by cases h)
  clear hc hb2 hbx2 HC2
  go_wp2_with fail
  refine Calls.mono HC3.out ?_
  rintro e w3 ⟨vb, rfl, hb', hb3⟩
  obtain ⟨adb, cb, rfl⟩ := own_val hb'
  have HB3 : Hid _ := Below.later HB2.out hb3
  have HA3 : Hid _ := own_fr HA2.out (Fr.of_below hb3) (fun _ _ _ h => by cases h)
  have HC3c : Hid _ := own_fr HC2c.out (Fr.of_below hb3) (fun _ _ _ h => by cases h)
  have HBb : Hid _ := hb'
  clear hb' hb3 HC3
  have hxl : (sfindL bs s).length ≤ 4000 := sfindL_len HOK.out s
  have HXL : Hid _ := hxl
  have C4 := sameHits_any (sfindL bs s) _ _ _ _ w3 HA3.out HBb.out (by omega)
  have HC4 : Hid _ := C4
  clear C4 hxl
  go_wp2_with fail
  refine Calls.mono HC4.out ?_
  rintro e w4 ⟨rfl, hb4⟩
  have HB4 : Hid _ := Below.later HB3.out hb4
  have HA4 : Hid _ := own_fr HA3.out (Fr.of_below hb4) (fun _ _ _ h => by cases h)
  have HC4c : Hid _ := own_fr HC3c.out (Fr.of_below hb4) (fun _ _ _ h => by cases h)
  have HB4b : Hid _ := own_fr HBb.out (Fr.of_below hb4) (fun _ _ _ h => by cases h)
  have C5 := sameHits_any (sfindL bs s) _ _ _ _ w4 HC4c.out HB4b.out (by have := HXL.out; omega)
  have HC5 : Hid _ := C5
  clear C5 hb4 HC4
  go_wp2_with fail
  refine Calls.mono HC5.out ?_
  rintro e w5 ⟨rfl, hb5⟩
  have HB5 : Hid _ := Below.later HB4.out hb5
  have HA5 : Hid (w5.ownsRow B 59 2 (.slice ada (sfindL bs s).length ca) (sfindL bs s).length (HN (sfindL bs s))) := own_dn (own_fr HA4.out (Fr.of_below hb5) (fun _ _ _ h => by cases h)) (Nat.le_trans hbase (Below.size HB0.out))
  have HC5c : Hid (w5.ownsRow B 59 2 (.slice adc (sfindL bs s).length cc) (sfindL bs s).length (HN (sfindL bs s))) := own_dn (own_fr HC4c.out (Fr.of_below hb5) (fun _ _ _ h => by cases h)) (Nat.le_trans (Nat.le_trans hbase (Below.size HB0.out)) (Below.size HB1.out))
  have HWI5 : Hid _ := HWI0.out.later HB5.out
  have hfa := HWI0.out.hi.fresh (x := .slice ada (sfindL bs s).length ca) (fun g hg => (World.ownsRow.lt HA1.out g hg).1)
  have hfc := HWI0.out.hi.fresh (x := .slice adc (sfindL bs s).length cc) (fun g hg => Nat.le_trans (Below.size HB1.out) (World.ownsRow.lt HC2c.out g hg).1)
  have HFC : Hid _ := hfc
  have C6 := hitsK_any B w5 ⟨wb, 35, 2, [.slice (some ⟨g1, 0, none⟩) S.length c1, .slice (some ⟨g2, 0, none⟩) S.length c2]⟩ N R E T HWI5.out.hi _ (sfindL bs s) HA5.out (by have := HXL.out; omega) hfa.1 hfa.2.1 hfa.2.2 (by omega)
  have HC6 : Hid _ := C6
  have HLTa : Hid (∀ g, (Value.slice ada (sfindL bs s).length ca).ownBlock = some g → g < w1.heap.size) := own_lt HA1.out
  have HGEc : Hid (∀ g, (Value.slice adc (sfindL bs s).length cc).ownBlock = some g → w1.heap.size ≤ g) := fun g hg => (World.ownsRow.lt HC2c.out g hg).1
  have x05 := (HWI5.out.ssC).1
  clear hb5 HC5 C6 hfa hfc HA1 HA2 HA3 HA4 HC2c HC3c HC4c HBb HB4b
  go_wp2_with fail
  refine Calls.mono HC6.out ?_
  rintro e w6 ⟨rfl, u6, R6, hI6, hb6, hk6, ho6⟩
  have HWI6 : Hid _ := HWI5.out.held (hk6 shP (shP_off rfl)) hI6
  have HC6c : Hid _ := ho6 _ HFC.out.1 _ _ _ _ _ HC5c.out
  have hcl := hI6.clr_ty HC6c.out (fun κ hκ => (by match κ, hκ with | 0, _ => exact ⟨by decide, by decide⟩ | 1, _ => exact ⟨by decide, by decide⟩ | 2, _ => exact ⟨by decide, by decide⟩)) (by show ¬ ((59 : TypeId) = 35); decide)
  have C7 := hitsK_any B w6 ⟨wb, 35, 2, [.slice (some ⟨g1, 0, none⟩) S.length c1, .slice (some ⟨g2, 0, none⟩) S.length c2]⟩ N R6 E _ hI6 _ (sfindL bs s) HC6c.out (by have := HXL.out; omega) hcl (two_apart HWI0.out.hi (Below.size HB1.out) HLTa.out HGEc.out) HFC.out.2.2 (by rw [upd_same, List.length_append]; simp; omega)
  have HC7 : Hid _ := C7
  have HB6 : Hid _ := hb6
  clear hI6 hb6 hk6 ho6 hcl C7 HC6
  go_wp2_with fail
  refine Calls.mono HC7.out ?_
  rintro e w7 ⟨rfl, u7, R7, hI7, hb7, hk7, ho7⟩
  have HWI7 : Hid _ := HWI6.out.held (hk7 shP (shP_off rfl)) hI7
  have HB7 : Hid (Below B W w7) := Below.trans (Below.trans (Below.mono (Below.later HB0.out HB5.out) hbase) HB6.out) hb7
  clear hI7 hb7 hk7 ho7 HC7
  generalize patE s = er
  go_wp2_with (first | (go_at_call 22; refine (num_any er _).mono ?_; rintro e w8 ⟨rfl, rfl⟩) | fail)
  go_ret
  exact ⟨by simp, ⟨S, _, _, _, HWI7.out, rfl, by rw [wt_upd (by omega), wt_upd (by omega)]; omega⟩, HB7.out⟩

theorem topsame (X : List Nat) (v v' : Value) (b b' : Nat) (w : World) (h : w.ownsRow b 3 1 v X.length (IV X)) (h' : w.ownsRow b' 3 1 v' X.length (IV X)) (hn : X.length ≤ 100000) :
    Calls Tryz.prog 30 #[v, v'] w fun e w' => e = .returned (.bool true) ∧ Below w.heap.size w w' := by
  obtain ⟨ad, c, rfl, hs⟩ := own_sl h
  obtain ⟨ad', c', rfl, hs'⟩ := own_sl h'
  exact sameInts_any ad ad' X X c c' w hs hs' rfl (by omega)

set_option maxRecDepth 50000 in
set_option maxHeartbeats 4000000 in
/-- A step: Top. -/
theorem step_top (h : WI B W wb sv rv S N R E T) {k : Nat} (hk : k < S.length) (n g : Int) (s : ByteArray) (hN : -9223372036854775808 ≤ n ∧ n ≤ 9223372036854775807) (hT : wt T ≤ 9000000) :
    Calls Tryz.prog 6 #[.pointer (some ⟨wb, 0, none⟩), .int .i64 (k : Nat), .agg #[.int .i64 5, .int .i64 n, .int .i64 g, .string s]] W fun e w' => e = .returned (.bool true) ∧ Stp B W wb sv rv S N T w' := by
  obtain ⟨g1, c1, g2, c2, rfl, rfl, d1, d2⟩ := h.at' hk
  obtain ⟨x0, x1⟩ := h.ssC
  have hb0 := (Below.refl _ W).alloc (Nat.le_refl _) (Obj.cells #[.int .i64 5, .int .i64 n, .int .i64 g, .string s] 38)
  have hbx : Blk (W.alloc (Obj.cells #[.int .i64 5, .int .i64 n, .int .i64 g, .string s] 38)) W.heap.size 38 [.int .i64 5, .int .i64 n, .int .i64 g, .string s] := Blk.new W _ _ rfl
  obtain ⟨p1, p2⟩ := h.sh _ (List.getElem_mem hk)
  obtain ⟨w0, hw0⟩ : ∃ w0, w0 = W.alloc (Obj.cells #[.int .i64 5, .int .i64 n, .int .i64 g, .string s] 38) := ⟨_, rfl⟩
  rw [← hw0] at hb0 hbx
  generalize S[k].1 = sb at d1 p1
  generalize S[k].2.1 = rb at d2 p2
  generalize S[k].2.2 = bs at p1 p2
  have HP1 : Hid _ := p1
  have HP2 : Hid _ := p2
  have HOK : Hid _ := p1.ok
  have HBX : Hid _ := hbx
  have HB0 : Hid _ := hb0
  have HW0 : Hid _ := hw0
  have HWI : Hid _ := h
  have HWI0 : Hid _ := h.later hb0
  have hbase := h.base
  have i1 : (k : Int) < (S.length : Int) := by omega
  have i2 : (0 : Int) ≤ (k : Int) := by omega
  have l1 := cell_lt d1
  have l2 := cell_lt d2
  have l3 := cell_lt x0
  simp only at l1 l2 l3
  have hwt : (T 0).length ≤ 9000000 := by unfold wt at hT; omega
  have HC1 : Hid _ := sTop_any w0 sb bs s n (HP1.out.later HB0.out) hN
  clear h hbx hb0 hw0 p1 p2 hT
  go_enter Tryz.func6, Tryz.ntmps6
  go_wp2_with fail
  rw [← HW0.out]
  refine Calls.mono HC1.out ?_
  rintro e w1 ⟨va, L1, rfl, hTops1, ha, hb1⟩
  obtain ⟨ada, ca, rfl⟩ := own_val ha
  have HB1 : Hid _ := hb1
  have HA1 : Hid _ := ha
  have HTP : Hid _ := hTops1
  clear hTops1
  have hbx1 := Blk.later HBX.out hb1
  have y1 := hbx1.cell (k := 3) (by simp)
  have z1 := hbx1.cell (k := 1) (by simp)
  have HC2 : Hid _ := sTop_any w1 sb bs s n (HP1.out.later (Below.later HB0.out HB1.out)) hN
  clear ha hb1 hbx1 HC1
  go_wp2_with fail
  refine Calls.mono HC2.out ?_
  rintro e w2 ⟨vc, L2, rfl, hTops2, hc, hb2⟩
  rw [stopL_unique n HTP.out hTops2] at hc
  obtain ⟨adc, cc, rfl⟩ := own_val hc
  have HB2 : Hid _ := Below.later HB1.out hb2
  have HC2c : Hid _ := hc
  have hbx2 := Blk.later HBX.out HB2.out
  have y2 := hbx2.cell (k := 3) (by simp)
  have z2 := hbx2.cell (k := 1) (by simp)
  have HC3 : Hid _ := rTop_any w2 rb bs s n L1 (HP2.out.later (Below.later HB0.out HB2.out)) HTP.out
  have HA2 : Hid _ := own_fr HA1.out (Fr.of_below hb2) (fun _ _ _ h => by cases h)
  clear hc hb2 hbx2 HC2
  go_wp2_with fail
  refine Calls.mono HC3.out ?_
  rintro e w3 ⟨vb, rfl, hb', hb3⟩
  obtain ⟨adb, cb, rfl⟩ := own_val hb'
  have HB3 : Hid _ := Below.later HB2.out hb3
  have HA3 : Hid _ := own_fr HA2.out (Fr.of_below hb3) (fun _ _ _ h => by cases h)
  have HC3c : Hid _ := own_fr HC2c.out (Fr.of_below hb3) (fun _ _ _ h => by cases h)
  have HBb : Hid _ := hb'
  clear hb' hb3 HC3
  have hxl : (stopL L1 s n).length ≤ 4000 := stopL_len HOK.out n HTP.out
  have HXL : Hid _ := hxl
  have C4 := topsame (stopL L1 s n) _ _ _ _ w3 HA3.out HBb.out (by omega)
  have HC4 : Hid _ := C4
  clear C4 hxl
  go_wp2_with fail
  refine Calls.mono HC4.out ?_
  rintro e w4 ⟨rfl, hb4⟩
  have HB4 : Hid _ := Below.later HB3.out hb4
  have HA4 : Hid _ := own_fr HA3.out (Fr.of_below hb4) (fun _ _ _ h => by cases h)
  have HC4c : Hid _ := own_fr HC3c.out (Fr.of_below hb4) (fun _ _ _ h => by cases h)
  have HB4b : Hid _ := own_fr HBb.out (Fr.of_below hb4) (fun _ _ _ h => by cases h)
  have C5 := topsame (stopL L1 s n) _ _ _ _ w4 HC4c.out HB4b.out (by have := HXL.out; omega)
  have HC5 : Hid _ := C5
  clear C5 hb4 HC4
  go_wp2_with fail
  refine Calls.mono HC5.out ?_
  rintro e w5 ⟨rfl, hb5⟩
  have HB5 : Hid _ := Below.later HB4.out hb5
  have HA5 : Hid (w5.ownsRow B 3 1 (.slice ada (stopL L1 s n).length ca) (stopL L1 s n).length (IV (stopL L1 s n))) := own_dn (own_fr HA4.out (Fr.of_below hb5) (fun _ _ _ h => by cases h)) (Nat.le_trans hbase (Below.size HB0.out))
  have HC5c : Hid (w5.ownsRow B 3 1 (.slice adc (stopL L1 s n).length cc) (stopL L1 s n).length (IV (stopL L1 s n))) := own_dn (own_fr HC4c.out (Fr.of_below hb5) (fun _ _ _ h => by cases h)) (Nat.le_trans (Nat.le_trans hbase (Below.size HB0.out)) (Below.size HB1.out))
  have HWI5 : Hid _ := HWI0.out.later HB5.out
  have hfa := HWI0.out.hi.fresh (x := .slice ada (stopL L1 s n).length ca) (fun g hg => (World.ownsRow.lt HA1.out g hg).1)
  have hfc := HWI0.out.hi.fresh (x := .slice adc (stopL L1 s n).length cc) (fun g hg => Nat.le_trans (Below.size HB1.out) (World.ownsRow.lt HC2c.out g hg).1)
  have HFC : Hid _ := hfc
  have C6 := intsK_any B w5 ⟨wb, 35, 2, [.slice (some ⟨g1, 0, none⟩) S.length c1, .slice (some ⟨g2, 0, none⟩) S.length c2]⟩ N R E T HWI5.out.hi _ (stopL L1 s n) HA5.out (by have := HXL.out; omega) hfa.1 hfa.2.1 hfa.2.2 (by omega)
  have HC6 : Hid _ := C6
  have HLTa : Hid (∀ g, (Value.slice ada (stopL L1 s n).length ca).ownBlock = some g → g < w1.heap.size) := own_lt HA1.out
  have HGEc : Hid (∀ g, (Value.slice adc (stopL L1 s n).length cc).ownBlock = some g → w1.heap.size ≤ g) := fun g hg => (World.ownsRow.lt HC2c.out g hg).1
  have x05 := (HWI5.out.ssC).1
  clear hb5 HC5 C6 hfa hfc HA1 HA2 HA3 HA4 HC2c HC3c HC4c HBb HB4b
  go_wp2_with fail
  refine Calls.mono HC6.out ?_
  rintro e w6 ⟨rfl, u6, R6, hI6, hb6, hk6, ho6⟩
  have HWI6 : Hid _ := HWI5.out.held (hk6 shP (shP_off rfl)) hI6
  have HC6c : Hid _ := ho6 _ HFC.out.1 _ _ _ _ _ HC5c.out
  have hcl := hI6.clr_ty HC6c.out (fun κ hκ => (by match κ, hκ with | 0, _ => exact ⟨by decide, by decide⟩ | 1, _ => exact ⟨by decide, by decide⟩ | 2, _ => exact ⟨by decide, by decide⟩)) (by show ¬ ((3 : TypeId) = 35); decide)
  have C7 := intsK_any B w6 ⟨wb, 35, 2, [.slice (some ⟨g1, 0, none⟩) S.length c1, .slice (some ⟨g2, 0, none⟩) S.length c2]⟩ N R6 E _ hI6 _ (stopL L1 s n) HC6c.out (by have := HXL.out; omega) hcl (two_apart HWI0.out.hi (Below.size HB1.out) HLTa.out HGEc.out) HFC.out.2.2 (by rw [upd_same, List.length_append]; simp; omega)
  have HC7 : Hid _ := C7
  have HB6 : Hid _ := hb6
  clear hI6 hb6 hk6 ho6 hcl C7 HC6
  go_wp2_with fail
  refine Calls.mono HC7.out ?_
  rintro e w7 ⟨rfl, u7, R7, hI7, hb7, hk7, ho7⟩
  have HWI7 : Hid _ := HWI6.out.held (hk7 shP (shP_off rfl)) hI7
  have HB7 : Hid (Below B W w7) := Below.trans (Below.trans (Below.mono (Below.later HB0.out HB5.out) hbase) HB6.out) hb7
  clear hI7 hb7 hk7 ho7 HC7
  generalize patE s = er
  go_wp2_with (first | (go_at_call 22; refine (num_any er _).mono ?_; rintro e w8 ⟨rfl, rfl⟩) | fail)
  go_ret
  exact ⟨by simp, ⟨S, _, _, _, HWI7.out, rfl, by rw [wt_upd (by omega), wt_upd (by omega)]; omega⟩, HB7.out⟩
end
end Go.Proofs.YtepklbboejnecaaGreat

/- Shelves: a shelf more. -/
namespace Go.Proofs.YtepklbboejnecaaGreat
open Go.RowKit Go.Shelf Sedge
attribute [local go_sem ↓] Go.wp_at_zero Go.wp_at_succ

theorem Tryz.infoPS : (Tryz.prog.info? 47).map (fun i => (i.zero, i.size, i.bytes)) = some (some (.pointer none), 1, 8) := by kernel_rfl
theorem Tryz.infoPR : (Tryz.prog.info? 44).map (fun i => (i.zero, i.size, i.bytes)) = some (some (.pointer none), 1, 8) := by kernel_rfl
/-- 'append(l, p)' of a pointer. -/
theorem wpList_pushP (t e : TypeId) (hu : Tryz.prog.underlying t = some (.slice e)) (hinf : (Tryz.prog.info? e).map (fun i => (i.zero, i.size, i.bytes)) = some (some (.pointer none), 1, 8))
    (w : World) {ops : Array Oper} {rest : List Oper} {o : Oper} {a : Act} {Q : Exit → Act → World → Prop} (hg : o.guard = none)
    (s x : Operand) (hop : o.op = Op.call { callee := Callee.builtin Builtin.append, args := #[s, x], argTypes := #[t, t] })
    (base : Nat) (v : Value) (l : List Nat) (hs : a.eval s = v) (hown : w.ownsRow base e 1 v l.length (ptrs l))
    (ad : Addr) (y : Nat) (hx : a.eval x = .slice (some ad) 1 1) (hc : w.cell? ad = some (.pointer (some ⟨y, 0, none⟩))) (hn : l.length ≤ 10000000) (hbase : base ≤ w.heap.size)
    (hK : ∀ v' w', w'.ownsRow base e 1 v' (l ++ [y]).length (ptrs (l ++ [y])) → w.grownBy w' v.ownBlock → Lies w w' v v' → wpList Tryz.prog ops Q rest (a.put o.dst v') w') :
    wpList Tryz.prog ops Q (o :: rest) a w := by
  obtain ⟨i0, hi, hz0, hz1, hz2⟩ := info_parts hinf
  refine wpList_push_at w hg s x t hop e i0 (.pointer none) 1 8 hu hi hz0 hz1 hz2 rfl (by decide) base v l.length (ptrs l) hs hown ad 1 [.pointer (some ⟨y, 0, none⟩)] hx rfl ?_ ?_ ?_ ?_ hbase ?_
  · intro j u hj
    match j, hj with
    | 0, hj => simp at hj; subst hj; simpa [Addr.add] using hc
  · intro u hu; simp at hu; subst hu; rfl
  · unfold maxLen; omega
  · omega
  · intro v' w' q1 q2 q3
    refine hK v' w' ?_ q2 q3
    rw [List.length_append]
    simpa [ptrs] using q1
/-- A list that reads as a mark, where only blocks have changed that it is not in, or that begin with a pointer. -/
theorem RdK.frP {κ : Nat} (hκ : κ < 3) {w w' : World} {v : Value} {m : Int} {bs : List (Option Nat)} (h : RdK κ w v m) (hf : Fr w w' bs) (hb : ∀ r ∈ bs, ∀ g, r = some g → v.ownBlock ≠ some g ∨ ∃ q, w.cell? ⟨g, 0, none⟩ = some (.pointer q)) : RdK κ w' v m := by
  obtain ⟨a1, n1, c1, rfl, ⟨hn, ho⟩, h⟩ := h
  refine ⟨a1, n1, c1, rfl, ⟨hn, ho⟩, fun i hi => ?_⟩
  obtain ⟨b, o, rfl, hc⟩ := h i hi
  have o0 := ho b o none rfl
  subst o0
  obtain ⟨b', o', e', hc0⟩ := h 0 (by omega)
  cases e'
  have h0 := hc0 0 (.int .i64 m) (by match κ, hκ with | 0, _ => rfl | 1, _ => rfl | 2, _ => rfl)
  simp only [Nat.zero_mul, Nat.add_zero] at h0
  refine ⟨b, 0, rfl, fun j u hu => ?_⟩
  have h1 := hc j u hu
  have hbk : w'.heap[b]? = w.heap[b]? := hf.2 b (cell_lt h1) (fun r hr e => by
    rcases hb r hr b e.symm with h' | ⟨q, h'⟩
    · exact h' rfl
    · rw [h0] at h'; cases h')
  rw [World.cell?_of_block hbk]; exact h1
/-- What is held, where a list of shelves has grown, and its head is stored ahead of the box. -/
theorem HI.head {B : Nat} {W W' : World} {wb : Nat} {sv rv sv' rv' : Value} {N : Nat} {R : List Value} {E : Nat → List (Value × Int)} {T : Nat → List It} {bs : List (Option Nat)} (h : HI B W ⟨wb, 35, 2, [sv, rv]⟩ N R E T)
    (hf : Fr W W' (some wb :: bs)) (hb : Blk W' wb 35 ([sv', rv'] ++ (.int .i64 (N : Int) :: R)))
    (hbs : ∀ r ∈ bs, ∀ g, r = some g → (∃ q, W.cell? ⟨g, 0, none⟩ = some (.pointer q)) ∧ ∀ (cs : Array Value) (t : TypeId) (f : Nat × Nat), W.heap[g]? = some (Obj.cells cs t f) → shP t) : HI B W' ⟨wb, 35, 2, [sv', rv']⟩ N R E T := by
  have off : ∀ {base : Nat} {e : TypeId} {s : Nat} {v : Value} {k : Nat} {xs : List Value}, W.ownsRow base e s v k xs → ¬ shP e → v.ownBlock ≠ some wb → W'.ownsRow base e s v k xs := fun ho he hw => own_fr ho hf (free_cons (free_of_off hw) (fun g hg r hr q => by
    rcases ho.2 with ⟨h1, _⟩ | ⟨g', cap, cur, h1, h2, h3, _⟩
    · rw [h1] at hg; cases hg
    · rw [h1] at hg
      simp only [Value.ownBlock, Option.some.injEq] at hg
      subst hg
      exact he ((hbs r hr g' q.symm).2 _ _ _ h3)))
  have hr := h.rw'
  have hlen := hr.len
  have hP : Off shP ⟨wb, 35, 2, [sv, rv]⟩ := shP_off rfl
  refine { h with rw' := ⟨hr.base, hlen, rfl, hb, hr.pR, hr.oR, fun r hr' g hg => Nat.lt_of_lt_of_le (hr.lR r hr' g hg) hf.1⟩, rI := fun κ hκ => off (h.rI κ hκ) (hP.hd κ hκ) (hr.oR _ (row_mem (by omega))), rT := fun κ hκ => off (h.rT κ hκ) (hP.sl κ hκ) (hr.oR _ (row_mem (by omega))), rR := fun κ hκ => off (h.rR κ hκ) (hP.sl κ hκ) (hr.oR _ (row_mem (by omega))), own := fun κ hκ t ht => ⟨off (h.own κ hκ t ht).1 (hP.el κ hκ) (h.cT κ hκ t ht).1.1, off (h.own κ hκ t ht).2 (hP.el κ hκ) (h.cT κ hκ t ht).2.1⟩, rd := fun κ hκ e he => (h.rd κ hκ e he).frP hκ hf (fun r hr' g hg => ?_), lt := fun κ hκ e he g hg => Nat.lt_of_lt_of_le (h.lt κ hκ e he g hg) hf.1 }
  rcases List.mem_cons.1 hr' with rfl | hr'
  · cases hg; exact .inl (h.cE κ hκ e he).1
  · exact .inr (hbs r hr' g hg).1
/-- The first cell of a list of shelves. -/
theorem ptrs_first {w : World} {base n : Nat} {e : TypeId} {v : Value} {l : List Nat} (h : w.ownsRow base e 1 v n (ptrs l)) (hl : n ≠ 0 ∨ v = nl) {g : Nat} (hg : v.ownBlock = some g) : ∃ q, w.cell? ⟨g, 0, none⟩ = some (.pointer q) := by
  have hll : l.length = n := by have := h.1; simpa [ptrs] using this
  rcases hl with hl | rfl
  · have := World.ownsRow.cells h hg 0 (.pointer (some ⟨l[0]'(by omega), 0, none⟩)) (by simp [ptrs])
    exact ⟨_, by simpa [Addr.add] using this⟩
  · cases hg
section
variable {B : Nat} {W : World} {wb : Nat} {sv rv : Value} {S : Shs} {N : Nat} {R : List Value} {E : Nat → List (Value × Int)} {T : Nat → List It}
/-- A shelf more: what stands behind it. -/
theorem WI.more (h : WI B W wb sv rv S N R E T) (hS : S.length ≠ 0 ∨ sv = nl ∧ rv = nl) (w1 w3 w7 : World) (sv' rv' : Value)
    (hb1 : Below W.heap.size W w1) (s1 : SH w1 W.heap.size 92 129 [])
    (o3 : w3.ownsRow B 47 1 sv' (S.map (·.1) ++ [W.heap.size]).length (ptrs (S.map (·.1) ++ [W.heap.size])))
    (g3 : (w1.alloc (Obj.cells #[.pointer (some ⟨W.heap.size, 0, none⟩)] 47)).grownBy w3 sv.ownBlock)
    (q3 : Lies (w1.alloc (Obj.cells #[.pointer (some ⟨W.heap.size, 0, none⟩)] 47)) w3 sv sv')
    (o7 : w7.ownsRow B 44 1 rv' (S.map (·.2.1) ++ [w3.heap.size]).length (ptrs (S.map (·.2.1) ++ [w3.heap.size])))
    (g7 : (((w3.setCell ⟨wb, 0, none⟩ sv').alloc (Obj.cells #[nl] 43)).alloc (Obj.cells #[.pointer (some ⟨w3.heap.size, 0, none⟩)] 44)).grownBy w7 rv.ownBlock)
    (q7 : Lies (((w3.setCell ⟨wb, 0, none⟩ sv').alloc (Obj.cells #[nl] 43)).alloc (Obj.cells #[.pointer (some ⟨w3.heap.size, 0, none⟩)] 44)) w7 rv rv') :
    WI B (w7.setCell ⟨wb, 1, none⟩ rv') wb sv' rv' (S ++ [(W.heap.size, w3.heap.size, [])]) N R E T ∧ Below B W (w7.setCell ⟨wb, 1, none⟩ rv') := by
  have hbase := h.base
  have hbg : B ≤ wb := h.hi.rw'.base
  have z1 := hb1.size
  have z3 := g3.size
  have z7 := g7.size
  simp only [World.size_alloc, World.size_setCell] at z3 z7
  have hbx : Blk W wb 35 ([sv, rv] ++ (.int .i64 (N : Int) :: R)) := h.hi.rw'.box
  have hwb := hbx.lt
  have nsv : sv.ownBlock ≠ some wb := own_ty h.ss hbx (by decide)
  have nrv : rv.ownBlock ≠ some wb := own_ty h.rs hbx (by decide)
  have sr : Apart sv rv := own_ty2 h.ss h.rs (by decide)
  -- how the worlds lie to one another
  have F13 : Fr w1 w3 [sv.ownBlock] := (Fr.alloc w1 _).trans (Fr.of_grown g3)
  have F0 : Fr W w1 [] := Fr.of_below hb1
  have F35 : Fr w3 ((w3.setCell ⟨wb, 0, none⟩ sv').alloc (Obj.cells #[nl] 43)) [some wb] := (Fr.set w3 wb 0 sv').trans (Fr.alloc _ _)
  have F57 : Fr ((w3.setCell ⟨wb, 0, none⟩ sv').alloc (Obj.cells #[nl] 43)) w7 [rv.ownBlock] := (Fr.alloc _ _).trans (Fr.of_grown g7)
  have F78 : Fr w7 (w7.setCell ⟨wb, 1, none⟩ rv') [some wb] := Fr.set w7 wb 1 rv'
  have F58 := F57.trans F78
  have F38 := F35.trans F58
  have F18 := F13.trans F38
  have F08 : Fr W (w7.setCell ⟨wb, 1, none⟩ rv') (some wb :: [sv.ownBlock, rv.ownBlock]) := (F0.trans F18).sub (fun r hr => by simp at hr ⊢; rcases hr with rfl | rfl | rfl | rfl <;> simp)
  -- World's block
  have b1 := hbx.later hb1
  have b3 : Blk w3 wb _ _ := Blk.fr b1 F13 (fun r hr => by simp at hr; subst hr; exact fun e => nsv e.symm)
  have b5 : Blk ((w3.setCell ⟨wb, 0, none⟩ sv').alloc (Obj.cells #[nl] 43)) wb _ _ := (b3.set 0 sv').alloc _
  have b7 : Blk w7 wb _ _ := Blk.fr b5 F57 (fun r hr => by simp at hr; subst hr; exact fun e => nrv e.symm)
  have b8 := b7.set 1 rv'
  have b8 : Blk (w7.setCell ⟨wb, 1, none⟩ rv') wb 35 ([sv', rv'] ++ (.int .i64 (N : Int) :: R)) := b8
  -- the lists of shelves
  have rs1 := own_fr h.rs F0 (free_nil _)
  have rs3 := own_fr rs1 F13 (free_of_apart sr.symm)
  have rs5 := own_fr rs3 F35 (free_of_off nrv)
  have ss1 := own_fr h.ss F0 (free_nil _)
  have nsv' : sv'.ownBlock ≠ some wb := off_lies nsv (by simp only [World.size_alloc]; omega) q3
  have nrv' : rv'.ownBlock ≠ some wb := off_lies nrv (by simp only [World.size_alloc, World.size_setCell]; omega) q7
  have sr' : Apart sv' rv := own_ty2 o3 rs3 (by decide)
  have ss8 := own_fr o3 F38 (free_cons (free_of_off nsv') (free_cons (free_of_apart sr') (free_of_off nsv')))
  have rs8 := own_fr o7 F78 (free_of_off nrv')
  -- types of what changes
  have tsv : ∀ g, sv.ownBlock = some g → ∀ (cs : Array Value) (t : TypeId) (f : Nat × Nat), W.heap[g]? = some (Obj.cells cs t f) → t = 47 := fun g hg cs t f hc => own_tyP h.ss hg hc
  have trv : ∀ g, rv.ownBlock = some g → ∀ (cs : Array Value) (t : TypeId) (f : Nat × Nat), W.heap[g]? = some (Obj.cells cs t f) → t = 44 := fun g hg cs t f hc => own_tyP h.rs hg hc
  have keep0 : Keep (fun t => t = 92 ∨ t = 129 ∨ t = 43 ∨ t = 105) W (w7.setCell ⟨wb, 1, none⟩ rv') := Keep.of_fr F08 fun r hr g hg cs t f hc => by
    simp only [List.mem_cons, List.not_mem_nil, or_false] at hr
    rcases hr with rfl | rfl | rfl
    · cases hg; rw [blk_tyP hbx hc]; decide
    · rw [tsv g hg cs t f hc]; decide
    · rw [trv g hg cs t f hc]; decide
  have keep1 : Keep (fun t => t = 92 ∨ t = 129 ∨ t = 43 ∨ t = 105) w1 (w7.setCell ⟨wb, 1, none⟩ rv') := Keep.of_fr F18 fun r hr g hg cs t f hc => by
    simp only [List.mem_cons, List.not_mem_nil, or_false, List.cons_append, List.nil_append] at hr
    rcases hr with rfl | rfl | rfl | rfl
    · rw [own_tyP ss1 hg hc]; decide
    · cases hg; rw [blk_tyP b1 hc]; decide
    · rw [own_tyP rs1 hg hc]; decide
    · cases hg; rw [blk_tyP b1 hc]; decide
  have keep5 : Keep (fun t => t = 92 ∨ t = 129 ∨ t = 43 ∨ t = 105) ((w3.setCell ⟨wb, 0, none⟩ sv').alloc (Obj.cells #[nl] 43)) (w7.setCell ⟨wb, 1, none⟩ rv') := Keep.of_fr F58 fun r hr g hg cs t f hc => by
    simp only [List.mem_cons, List.not_mem_nil, or_false, List.cons_append, List.nil_append] at hr
    rcases hr with rfl | rfl
    · rw [own_tyP rs5 hg hc]; decide
    · cases hg; rw [blk_tyP b5 hc]; decide
  have s5 : SH ((w3.setCell ⟨wb, 0, none⟩ sv').alloc (Obj.cells #[nl] 43)) w3.heap.size 43 105 [] := ⟨OKs.nil, none, 0, Blk.new _ _ _ (by simp), ⟨World.ownsRow_nil _ _ _ _⟩⟩
  refine ⟨⟨?_, ?_, ?_, ?_, ?_, ?_⟩, ?_⟩
  · refine h.hi.head F08 b8 fun r hr g hg => ?_
    simp only [List.mem_cons, List.not_mem_nil, or_false] at hr
    rcases hr with rfl | rfl
    · exact ⟨ptrs_first h.ss (hS.imp id (·.1)) hg, fun cs t f hc => by rw [tsv g hg cs t f hc]; decide⟩
    · exact ⟨ptrs_first h.rs (hS.imp id (·.2)) hg, fun cs t f hc => by rw [trv g hg cs t f hc]; decide⟩
  · simpa using ss8
  · simpa using rs8
  · intro s hs
    rcases List.mem_append.1 hs with hs | hs
    · obtain ⟨p1, p2⟩ := h.sh s hs
      exact ⟨p1.keep (by simp) (by simp) keep0, p2.keep (by simp) (by simp) keep0⟩
    · simp at hs; subst hs
      exact ⟨s1.keep (by simp) (by simp) keep1, s5.keep (by simp) (by simp) keep5⟩
  · rw [List.pairwise_append]
    refine ⟨h.nd, by simp, fun a ha b hb => ?_⟩
    simp at hb; subst hb
    have l1 := (h.sh a ha).1.lt
    have l2 := (h.sh a ha).2.lt
    exact ⟨by simp only; omega, by simp only; omega⟩
  · intro s hs
    rcases List.mem_append.1 hs with hs | hs
    · exact h.ge s hs
    · simp at hs; subst hs; exact ⟨hbase, by simp only; omega⟩
  · have B1 : Below B W w1 := Below.mono hb1 hbase
    have B3 : Below B W w3 := (B1.alloc (by omega) _).grown g3 (by simp only [World.size_alloc]; omega) (fun k hk => (World.ownsRow.lt h.ss k hk).1)
    have B5 := ((B3.setCell (p := ⟨wb, 0, none⟩) hbg sv').alloc (by simp only [World.size_setCell]; omega) (Obj.cells #[nl] 43)).alloc (by simp only [World.size_alloc, World.size_setCell]; omega) (Obj.cells #[.pointer (some ⟨w3.heap.size, 0, none⟩)] 44)
    exact (B5.grown g7 (by simp only [World.size_alloc, World.size_setCell]; omega) (fun k hk => (World.ownsRow.lt h.rs k hk).1)).setCell (p := ⟨wb, 1, none⟩) hbg rv'

set_option maxRecDepth 20000 in
set_option maxHeartbeats 4000000 in
/-- 'news'. -/
theorem news_any (h : WI B W wb sv rv S N R E T) (hS : S.length ≠ 0 ∨ sv = nl ∧ rv = nl) (hn : S.length ≤ 9000000) :
    Calls Tryz.prog 5 #[.pointer (some ⟨wb, 0, none⟩)] W fun e w' => e = .returned (.bool true) ∧ (∃ sv' rv' sb rb, WI B w' wb sv' rv' (S ++ [(sb, rb, [])]) N R E T) ∧ Below B W w' := by
  have HM := @WI.more _ _ _ _ _ _ _ _ _ _ h hS
  obtain ⟨ad1, c1, e1⟩ := own_val h.ss
  obtain ⟨ad2, c2, e2⟩ := own_val h.rs
  subst e1
  subst e2
  obtain ⟨L1, hL1⟩ : ∃ L, L = S.map (·.1) := ⟨_, rfl⟩
  obtain ⟨L2, hL2⟩ : ∃ L, L = S.map (·.2.1) := ⟨_, rfl⟩
  obtain ⟨nS, hnS⟩ : ∃ n, n = S.length := ⟨_, rfl⟩
  have l1 : L1.length = nS := by rw [hL1, hnS]; simp
  have l2 : L2.length = nS := by rw [hL2, hnS]; simp
  rw [← hL1, ← hL2] at HM
  rw [← hnS] at HM hn
  have HSS : Hid (W.ownsRow B 47 1 (.slice ad1 nS c1) L1.length (ptrs L1)) := by have := h.ss; rw [← hL1, ← hnS] at this; rw [l1]; exact this
  have HRS : Hid (W.ownsRow B 44 1 (.slice ad2 nS c2) L2.length (ptrs L2)) := by have := h.rs; rw [← hL2, ← hnS] at this; rw [l2]; exact this
  have hbx : Blk W wb 35 ([.slice ad1 S.length c1, .slice ad2 S.length c2] ++ (.int .i64 (N : Int) :: R)) := h.hi.rw'.box
  simp only [List.length_append, List.length_singleton, l1, l2] at HM
  have HM : Hid _ := HM
  rw [← hnS] at hbx
  have HBX : Hid _ := hbx
  have n1 : (Value.slice ad1 nS c1).ownBlock ≠ some wb := own_ty HSS.out hbx (by decide)
  have n2 : (Value.slice ad2 nS c2).ownBlock ≠ some wb := own_ty HRS.out hbx (by decide)
  have ap : Apart (Value.slice ad1 nS c1) (Value.slice ad2 nS c2) := own_ty2 HSS.out HRS.out (by decide)
  have HN1 : Hid _ := n1
  have HN2 : Hid _ := n2
  have HAP : Hid _ := ap
  have hbase := h.base
  have HSE : Hid _ := hL1
  have HRE : Hid _ := hL2
  clear h hbx n1 n2 ap hS hL1 hL2 hnS
  go_enter Tryz.func5, Tryz.ntmps5
  go_wp2_with fail
  refine Calls.mono (NewShelf_any _) ?_
  rintro e w1 ⟨rfl, s1, hb1⟩
  have b1 := Blk.later HBX.out hb1
  have x0 := b1.cell (k := 0) (by simp)
  have x1 := b1.cell (k := 1) (by simp)
  simp only [List.cons_append, List.getElem_cons_zero, List.getElem_cons_succ] at x0 x1
  have z1 := hb1.size
  have HS1 : Hid _ := s1
  have HB1 : Hid _ := hb1
  have HBX1 : Hid _ := b1
  have HSS1 : Hid _ := own_fr HSS.out (Fr.of_below hb1) (free_nil _)
  have HRS1 : Hid _ := own_fr HRS.out (Fr.of_below hb1) (free_nil _)
  clear s1 hb1 b1
  go_wp2_with (first
    | (at_builtin; refine wpList_pushP 24 47 Tryz.underlying24 Tryz.infoPS _ rfl (.tmp 11) (.tmp 13) rfl B (.slice ad1 nS c1) L1 rfl (World.ownsRow.alloc HSS1.out _) ⟨w1.heap.size, 0, none⟩ W.heap.size rfl (by simp) (by omega) (by simp; omega) ?_; intro v3 w3 o3 g3 q3; rw [List.length_append, List.length_singleton, l1] at o3; obtain ⟨ad3, c3, rfl⟩ := own_val o3; have F13 : Fr w1 w3 _ := (Fr.alloc w1 _).trans (Fr.of_grown g3); have b3 := Blk.fr HBX1.out F13 (fun r hr => by simp at hr; subst hr; exact fun e => HN1.out e.symm); have d0 := b3.cell (k := 0) (by simp); have d1 := b3.cell (k := 1) (by simp); simp only [List.cons_append, List.getElem_cons_zero, List.getElem_cons_succ] at d0 d1; have f0 := Blk.free b3 0; have f1 := Blk.free b3 1; have HRS3 : Hid _ := own_fr HRS1.out F13 (free_of_apart (Apart.symm HAP.out)); have HRS5 : Hid (World.ownsRow (((w3.setCell ⟨wb, 0, none⟩ (.slice ad3 (nS + 1) c3)).alloc (Obj.cells #[nl] 43)).alloc (Obj.cells #[.pointer (some ⟨w3.heap.size, 0, none⟩)] 44)) B 44 1 (.slice ad2 nS c2) L2.length (ptrs L2)) := World.ownsRow.alloc (World.ownsRow.alloc (own_fr HRS3.out (Fr.set w3 wb 0 _) (free_of_off HN2.out)) _) _; have HCN : Hid (World.cell? (((w3.setCell ⟨wb, 0, none⟩ (.slice ad3 (nS + 1) c3)).alloc (Obj.cells #[nl] 43)).alloc (Obj.cells #[.pointer (some ⟨w3.heap.size, 0, none⟩)] 44)) ⟨w3.heap.size + 1, 0, none⟩ = some (.pointer (some ⟨w3.heap.size, 0, none⟩))) := (by have q := cell_new ((w3.setCell ⟨wb, 0, none⟩ (.slice ad3 (nS + 1) c3)).alloc (Obj.cells #[nl] 43)) (.pointer (some ⟨w3.heap.size, 0, none⟩)) 44; rwa [World.size_alloc, World.size_setCell] at q); have z3 := g3.size; simp only [World.size_alloc] at z3; have HO3 : Hid _ := o3; have HG3 : Hid _ := g3; have HQ3 : Hid _ := q3; have HB3 : Hid _ := b3; clear o3 g3 q3 b3 F13 x0 x1)
    | (at_builtin; refine wpList_pushP 25 44 Tryz.underlying25 Tryz.infoPR _ rfl (.tmp 21) (.tmp 24) rfl B (.slice ad2 nS c2) L2 rfl HRS5.out ⟨w3.heap.size + 1, 0, none⟩ w3.heap.size rfl HCN.out (by omega) (by simp; omega) ?_; intro v7 w7 o7 g7 q7; rw [List.length_append, List.length_singleton, l2] at o7; have b7 := Blk.fr (Blk.alloc (Blk.alloc (Blk.set HB3.out 0 (.slice ad3 (nS + 1) c3)) (Obj.cells #[nl] 43)) (Obj.cells #[.pointer (some ⟨w3.heap.size, 0, none⟩)] 44)) (Fr.of_grown g7) (fun r hr => by simp at hr; subst hr; exact fun e => HN2.out e.symm); obtain ⟨ad7, c7, rfl⟩ := own_val o7; have e1 := b7.cell (k := 1) (by simp); simp only [List.cons_append, List.set_cons_zero, List.getElem_cons_zero, List.getElem_cons_succ] at e1; have k1 := Blk.free b7 1; have HF : Hid _ := HM.out _ _ _ _ _ HB1.out HS1.out HO3.out HG3.out HQ3.out o7 g7 q7; clear o7 g7 q7 b7 d0 d1 f0 f1)
    | fail)
  go_ret
  exact ⟨rfl, ⟨_, _, _, _, HF.out.1⟩, HF.out.2⟩
end
end Go.Proofs.YtepklbboejnecaaGreat

/- Shelves: the script, step by step. -/
namespace Go.Proofs.YtepklbboejnecaaGreat
open Go.RowKit Go.Shelf Sedge
attribute [local go_sem ↓] Go.wp_at_zero Go.wp_at_succ

/-- Which of n things a number speaks of. -/
def pk (c : Int) (n : Nat) : Nat := if c < 0 then (-(c + 1)).toNat % n else c.toNat % n
theorem pk_lt (c : Int) {n : Nat} (hn : 0 < n) : pk c n < n := by
  unfold pk
  split
  · exact Nat.mod_lt _ hn
  · exact Nat.mod_lt _ hn
set_option maxHeartbeats 1000000 in
/-- 'pick'. -/
theorem pick_pk (c : Int) (n : Nat) (w : World) (h1 : -9223372036854775808 ≤ c) (h2 : c ≤ 9223372036854775807) (hn : 0 < n) :
    Calls Tryz.prog 7 #[.int .i64 c, .int .i64 n] w fun e w' => e = .returned (.int .i64 (pk c n : Nat)) ∧ w' = w := by
  have hz : ¬ (n : Int) = 0 := by omega
  by_cases h : c < 0
  · have v1 : IntKind.i64.wrap (c + 1) = c + 1 := by rw [IntKind.wrap_i64]; omega
    have v2 : IntKind.i64.wrap (-(c + 1)) = -(c + 1) := by rw [IntKind.wrap_i64]; omega
    go_enter Tryz.func7, Tryz.ntmps7
    go_wp2
    go_ret
    obtain ⟨m, hm⟩ : ∃ m : Nat, c + 1 = -(m : Int) := ⟨(-(c + 1)).toNat, by omega⟩
    refine ⟨?_, rfl⟩
    show Ending.returned (Value.int .i64 (-((c + 1).tmod n))) = _
    have e : (-(c + 1)).toNat = m := by omega
    rw [pk, if_pos h, e, hm, Int.neg_tmod, Int.neg_neg, ← Int.ofNat_tmod]
  · have h' : 0 ≤ c := by omega
    go_enter Tryz.func7, Tryz.ntmps7
    go_wp2
    go_ret
    obtain ⟨m, rfl⟩ := Int.eq_ofNat_of_zero_le h'
    refine ⟨?_, rfl⟩
    rw [pk, if_neg (show ¬ (m : Int) < 0 by omega)]
    rfl

/-- A script that is read. -/
abbrev OpV := Int × Int × Int × ByteArray
def OS (w : World) (ad : Option Addr) (l : List OpV) : Prop := ∀ k (h : k < l.length), ∃ b o, ad = some ⟨b, o, none⟩ ∧ w.cell? ⟨b, o + k * 4, none⟩ = some (.int .i64 l[k].1) ∧ w.cell? ⟨b, o + k * 4 + 1, none⟩ = some (.int .i64 l[k].2.1) ∧ w.cell? ⟨b, o + k * 4 + 2, none⟩ = some (.int .i64 l[k].2.2.1) ∧ w.cell? ⟨b, o + k * 4 + 3, none⟩ = some (.string l[k].2.2.2) ∧ (-9223372036854775808 ≤ l[k].2.1 ∧ l[k].2.1 ≤ 9223372036854775807) ∧ (-9223372036854775808 ≤ l[k].2.2.1 ∧ l[k].2.2.1 ≤ 9223372036854775807)
theorem OS.below {w w' : World} {ad : Option Addr} {l : List OpV} (h : OS w ad l) (hb : Below w.heap.size w w') : OS w' ad l := fun k hk => by
  obtain ⟨b, o, e, h1, h2, h3, h4, h5⟩ := h k hk
  exact ⟨b, o, e, (hb.cell (cell_lt h1)).trans h1, (hb.cell (cell_lt h2)).trans h2, (hb.cell (cell_lt h3)).trans h3, (hb.cell (cell_lt h4)).trans h4, h5⟩

/-- All shelves, and what is held: so many shelves; so many lists were held at most, so many of them wait at most. -/
def SW (B wb n N t : Nat) (W : World) : Prop := ∃ sv rv S N0 R E T, WI B W wb sv rv S N0 R E T ∧ S.length = n ∧ (n ≠ 0 ∨ sv = nl ∧ rv = nl) ∧ N0 + wt T ≤ N ∧ wt T ≤ t
theorem SW.later {B wb n N t : Nat} {W W' : World} (h : SW B wb n N t W) (hb : Below W.heap.size W W') : SW B wb n N t W' := by
  obtain ⟨sv, rv, S, N0, R, E, T, h1, h2⟩ := h
  exact ⟨sv, rv, S, N0, R, E, T, h1.later hb, h2⟩
theorem SW.base {B wb n N t : Nat} {W : World} (h : SW B wb n N t W) : B ≤ W.heap.size := by
  obtain ⟨sv, rv, S, N0, R, E, T, h1, h2⟩ := h
  exact h1.base
theorem SW.lt {B wb n N t : Nat} {W : World} (h : SW B wb n N t W) : wb < W.heap.size := by
  obtain ⟨sv, rv, S, N0, R, E, T, h1, h2⟩ := h
  exact h1.hi.rw'.box.lt
/-- The two lists of shelves. -/
theorem SW.lists {B wb n N t : Nat} {W : World} (h : SW B wb n N t W) (hn : n ≠ 0) : ∃ g c g' c', W.cell? ⟨wb, 0, none⟩ = some (.slice (some ⟨g, 0, none⟩) n c) ∧ W.cell? ⟨wb, 1, none⟩ = some (.slice (some ⟨g', 0, none⟩) n c') ∧ ∀ k, k < n → ∃ rb ad m c'', W.cell? ⟨g', k, none⟩ = some (.pointer (some ⟨rb, 0, none⟩)) ∧ W.cell? ⟨rb, 0, none⟩ = some (.slice ad m c'') ∧ m ≤ 20 := by
  obtain ⟨sv, rv, S, N0, R, E, T, h1, rfl, h3, h4⟩ := h
  obtain ⟨g, c, g', c', rfl, rfl, _, _⟩ := h1.at' (k := 0) (by omega)
  obtain ⟨x0, x1⟩ := h1.ssC
  refine ⟨g, c, g', c', x0, x1, fun k hk => ?_⟩
  obtain ⟨g1, c1, g2, c2, e1, e2, d1, d2⟩ := h1.at' hk
  simp only [Value.slice.injEq, Option.some.injEq, Addr.mk.injEq] at e1 e2
  obtain ⟨⟨rfl, _⟩, _⟩ := e2
  obtain ⟨ad, c'', hb, _⟩ := (h1.sh _ (List.getElem_mem hk)).2.ex
  exact ⟨_, _, _, _, d2, hb.cell (k := 0) (by simp), (h1.sh _ (List.getElem_mem hk)).2.ok.len⟩

/-- Nothing is there at first. -/
theorem SW.first (w : World) : SW w.heap.size w.heap.size 0 0 0 (w.alloc (Obj.cells #[nl, nl, .int .i64 0, nl, nl, nl, nl, nl, nl, nl, nl, nl] 35)) := by
  have hr : ∀ j, row [nl, nl, nl, nl, nl, nl, nl, nl, nl] j = nl := fun j => by
    unfold row
    match j with
    | 0 => rfl
    | 1 => rfl
    | 2 => rfl
    | 3 => rfl
    | 4 => rfl
    | 5 => rfl
    | 6 => rfl
    | 7 => rfl
    | 8 => rfl
    | _ + 9 => rfl
  have hm : ∀ r ∈ [nl, nl, nl, nl, nl, nl, nl, nl, nl], r = nl := fun r h => by simpa using h
  have hi : HI w.heap.size (w.alloc (Obj.cells #[nl, nl, .int .i64 0, nl, nl, nl, nl, nl, nl, nl, nl, nl] 35)) ⟨w.heap.size, 35, 2, [nl, nl]⟩ 0 [nl, nl, nl, nl, nl, nl, nl, nl, nl] (fun _ => []) (fun _ => []) := by
    refine ⟨⟨Nat.le_refl _, rfl, rfl, Blk.new w _ _ rfl, ?_, ?_, ?_⟩, ?_, ?_, ?_, (fun κ _ t ht => by cases ht), (fun κ _ t ht => by cases ht), (fun κ _ t ht => by cases ht), (fun κ _ t ht => by cases ht), (fun κ _ t ht => by cases ht), (fun κ _ t ht => by cases ht), (fun κ _ t ht => by cases ht), (fun κ _ => List.Pairwise.nil), (fun κ κ' _ _ _ t ht => by cases ht), (fun κ κ' _ _ t ht => by cases ht), by omega, fun κ _ => by simp, fun κ _ => by simp⟩
    · rw [List.pairwise_iff_getElem]
      intro i j hi hj _
      rw [hm _ (List.getElem_mem hj)]; exact fun g _ e => by cases e
    · intro r h e; rw [hm r h] at e; cases e
    · intro r h g e; rw [hm r h] at e; cases e
    · intro κ _; rw [hr]; exact World.ownsRow_nil _ _ _ _
    · intro κ _; rw [hr]; exact World.ownsRow_nil _ _ _ _
    · intro κ _; rw [hr]; exact World.ownsRow_nil _ _ _ _
  exact ⟨nl, nl, [], 0, _, _, _, ⟨hi, World.ownsRow_nil _ _ _ _, World.ownsRow_nil _ _ _ _, (fun s hs => by cases hs), List.Pairwise.nil, (fun s hs => by cases hs)⟩, rfl, .inr ⟨rfl, rfl⟩, by simp [wt], by simp [wt]⟩

theorem news_holds (B wb n N t : Nat) (W : World) (h : SW B wb n N t W) (hn : n ≤ 9000000) :
    Calls Tryz.prog 5 #[.pointer (some ⟨wb, 0, none⟩)] W fun e w' => e = .returned (.bool true) ∧ SW B wb (n + 1) N t w' ∧ Below B W w' := by
  obtain ⟨sv, rv, S, N0, R, E, T, h1, rfl, h3, h4⟩ := h
  refine (news_any h1 h3 hn).mono ?_
  rintro e w' ⟨rfl, ⟨sv', rv', sb, rb, hw⟩, hb⟩
  exact ⟨rfl, ⟨sv', rv', _, N0, R, E, T, hw, by simp, .inl (by omega), h4⟩, hb⟩

theorem step_holds (B wb n N t : Nat) (W : World) (h : SW B wb n N t W) (ht : t ≤ 9000000) (k : Nat) (hk : k < n) (kind m g : Int) (s : ByteArray) (hm : -9223372036854775808 ≤ m ∧ m ≤ 9223372036854775807) :
    Calls Tryz.prog 6 #[.pointer (some ⟨wb, 0, none⟩), .int .i64 (k : Nat), .agg #[.int .i64 kind, .int .i64 m, .int .i64 g, .string s]] W fun e w' => e = .returned (.bool true) ∧ SW B wb n (N + 2) (t + 2) w' ∧ Below B W w' ∧ w'.cell? ⟨wb, 0, none⟩ = W.cell? ⟨wb, 0, none⟩ := by
  obtain ⟨sv, rv, S, N0, R, E, T, h1, rfl, h3, h4, h5⟩ := h
  have key : Calls Tryz.prog 6 #[.pointer (some ⟨wb, 0, none⟩), .int .i64 (k : Nat), .agg #[.int .i64 kind, .int .i64 m, .int .i64 g, .string s]] W fun e w' => e = .returned (.bool true) ∧ Stp B W wb sv rv S N0 T w' := by
    by_cases k2 : kind = 2
    · subst k2; exact step_put h1 hk m g s
    · by_cases k3 : kind = 3
      · subst k3; exact step_drop h1 hk m g s
      · by_cases k4 : kind = 4
        · subst k4; exact step_find h1 hk m g s (by omega)
        · by_cases k5 : kind = 5
          · subst k5; exact step_top h1 hk m g s hm (by omega)
          · by_cases k6 : kind = 6
            · subst k6; exact step_wide h1 hk m g s
            · exact step_none h1 hk kind m g s ⟨k2, k3, k4, k5, k6⟩
  refine key.mono ?_
  rintro e w' ⟨rfl, ⟨S', R', E', T', hw, hl, ht'⟩, hb⟩
  exact ⟨rfl, ⟨sv, rv, S', N0, R', E', T', hw, hl, h3, by omega, by omega⟩, hb, hw.ssC.1.trans h1.ssC.1.symm⟩

theorem looks_holds (B wb n N t : Nat) (W : World) (h : SW B wb n N t W) (hN : N ≤ 100000000) :
    Calls Tryz.prog 8 #[.pointer (some ⟨wb, 2, none⟩)] W fun e w' => e = .returned (.bool true) ∧ SW B wb n N 7 w' ∧ Below B W w' := by
  obtain ⟨sv, rv, S, N0, R, E, T, h1, rfl, h3, h4, h5⟩ := h
  refine (looks_any B W ⟨wb, 35, 2, [sv, rv]⟩ N0 R E T h1.hi shP (shP_off rfl) (by unfold wt at h4; omega)).mono ?_
  rintro e w' ⟨rfl, ⟨N', R', E', T', hi, _, h6, h7⟩, hb, hk⟩
  exact ⟨rfl, ⟨sv, rv, S, N', R', E', T', h1.held hk hi, rfl, h3, by unfold wt at h4 ⊢; omega, by unfold wt; omega⟩, hb⟩

theorem settles_holds (B wb n N t : Nat) (W : World) (h : SW B wb n N t W) (hN : N ≤ 100000000) :
    Calls Tryz.prog 9 #[.pointer (some ⟨wb, 2, none⟩)] W fun e w' => e = .returned (.bool true) ∧ Below B W w' := by
  obtain ⟨sv, rv, S, N0, R, E, T, h1, rfl, h3, h4, h5⟩ := h
  refine (settlesK_any B W ⟨wb, 35, 2, [sv, rv]⟩ N0 R E T h1.hi shP (shP_off rfl) (by unfold wt at h4; omega)).mono ?_
  rintro e w' ⟨rfl, R', E', hi, hb, hk⟩
  exact ⟨rfl, hb⟩
end Go.Proofs.YtepklbboejnecaaGreat

/- Shelves, whole. -/
namespace Go.Proofs.YtepklbboejnecaaGreat
open Go.RowKit Go.Shelf Sedge
attribute [local go_sem ↓] Go.wp_at_zero Go.wp_at_succ

set_option maxRecDepth 100000 in
set_option maxHeartbeats 8000000 in
theorem shelves_any (ad : Option Addr) (l : List OpV) (c : Nat) (W : World) (hO : OS W ad l) (hl : l.length ≤ 1048576) :
    Calls Tryz.prog 3 #[.slice ad l.length c] W fun e w' => e = .returned (.bool true) ∧ Below W.heap.size W w' := by
  have HF0 : Hid _ := SW.first W
  have HB0 : Hid (Below W.heap.size W (W.alloc (Obj.cells #[nl, nl, .int .i64 0, nl, nl, nl, nl, nl, nl, nl, nl, nl] 35))) := (Below.refl _ W).alloc (Nat.le_refl _) _
  have HO : Hid _ := hO
  obtain ⟨L, hL⟩ : ∃ L, L = l.length := ⟨_, rfl⟩
  have HL : Hid _ := hL
  rw [← hL] at hl ⊢
  clear hO hL
  go_enter Tryz.func3, Tryz.ntmps3
  go_wp2_with fail
  refine Calls.mono (news_holds W.heap.size W.heap.size 0 0 0 _ HF0.out (by omega)) ?_
  rintro e w1 ⟨rfl, H1, B1⟩
  have HS1 : Hid _ := H1
  have HB1 : Hid _ := HB0.out.trans B1
  clear HF0 HB0 H1 B1
  go_wp2_with fail
  go_loopw [4, 5, 6] (fun ok i _ wr => ∃ k n : Nat, k ≤ L ∧ 1 ≤ n ∧ n ≤ k + 1 ∧ ok = .bool true ∧ i = .int .i64 k ∧ SW W.heap.size W.heap.size n (2 * k) 7 wr ∧ Below W.heap.size W wr) (fun _ i _ _ => L - (intOf i).toNat)
  case atStart => exact ⟨0, 1, Nat.zero_le _, Nat.le_refl _, Nat.le_refl _, rfl, rfl, (by obtain ⟨sv, rv, S, N0, R, E, T, h1, h2, h3, h4, h5⟩ := HS1.out; exact ⟨sv, rv, S, N0, R, E, T, h1, h2, h3, h4, by omega⟩), HB1.out⟩
  case round =>
    clear HS1 HB1
    obtain ⟨k, n, hk, hn1, hn2, rfl, rfl, hS, hB⟩ := hrel
    by_cases hlt : k < L
    · obtain ⟨b, o, e0, d0, d1, d2, d3, hN, hG⟩ := HO.out k (by rw [← HL.out]; exact hlt)
      subst e0
      generalize l[k]'_ = p at d0 d1 d2 d3 hN hG
      obtain ⟨kd, m, g, s⟩ := p
      simp only at d0 d1 d2 d3 hN hG
      have lb : b < W.heap.size := cell_lt d0
      have c0 := (hB.cell (p := ⟨b, o + k * 4, none⟩) lb).trans d0
      have c1 := (hB.cell (p := ⟨b, o + k * 4 + 1, none⟩) lb).trans d1
      have c2 := (hB.cell (p := ⟨b, o + k * 4 + 2, none⟩) lb).trans d2
      have c3 := (hB.cell (p := ⟨b, o + k * 4 + 3, none⟩) lb).trans d3
      have D0 : Hid _ := d0
      have D1 : Hid _ := d1
      have D2 : Hid _ := d2
      have D3 : Hid _ := d3
      clear d0 d1 d2 d3
      have HS : Hid _ := hS
      have HB : Hid _ := hB
      have i1 : (k : Int) < (L : Int) := by omega
      have i2 : (0 : Int) ≤ (k : Int) := by omega
      by_cases hkd : kd = 1
      · subst hkd
        clear hS hB hN hG
        go_wp2_with fail
        refine Calls.mono (news_holds _ _ n (2 * k) 7 _ HS.out (by omega)) ?_
        rintro e w2 ⟨rfl, H2, B2⟩
        have HS2 : Hid _ := H2
        have HB2 : Hid _ := HB.out.trans B2
        clear HS HB H2 B2 c0 c1 c2 c3
        go_wp2_with fail
        refine Calls.mono (looks_holds _ _ (n + 1) (2 * k) 7 _ HS2.out (by omega)) ?_
        rintro e w3 ⟨rfl, H3, B3⟩
        have HS3 : Hid _ := H3
        have HB3 : Hid _ := HB2.out.trans B3
        clear HS2 HB2 H3 B3
        go_wp2_with fail
        go_roundw
        case rel => exact ⟨k + 1, n + 1, by omega, by omega, by omega, rfl, by go_num, (by obtain ⟨sv, rv, S, N0, R, E, T, h1, h2, h3, h4, h5⟩ := HS3.out; exact ⟨sv, rv, S, N0, R, E, T, h1, h2, h3, by omega, h5⟩), HB3.out⟩
        case measure => simp [intOf]; omega
      · obtain ⟨ga, ca, gb, cb, x0, x1, _⟩ := hS.lists (by omega)
        have hbd : Below wr.heap.size wr wr.drew := (Below.refl _ _).drew
        have HS' : Hid _ := hS.later hbd
        have HB' : Hid _ := hB.trans (hbd.mono hS.base)
        have hpk := pk_lt g (show 0 < n by omega)
        have lw := hS.lt
        have HN : Hid _ := hN
        have HG : Hid _ := hG
        clear hS hB hbd hN hG x1
        go_wp2_with fail
        go_region_held3 (fun w' => w'.cell? ⟨W.heap.size, 0, none⟩ = some (.slice (some ⟨ga, 0, none⟩) n ca) ∧ w'.cell? ⟨b, o + k * 4, none⟩ = some (.int .i64 kd) ∧ w'.cell? ⟨b, o + k * 4 + 1, none⟩ = some (.int .i64 m) ∧ w'.cell? ⟨b, o + k * 4 + 2, none⟩ = some (.int .i64 g) ∧ w'.cell? ⟨b, o + k * 4 + 3, none⟩ = some (.string s)) (go_keep)
          (first
            | (go_at_call 7; refine Calls.mono (pick_pk g n _ HG.out.1 HG.out.2 (by omega)) ?_; rintro e w2 ⟨rfl, rfl⟩)
            | (go_at_call 6; refine Calls.mono (step_holds _ _ n (2 * k) 7 _ HS'.out (by omega) (pk g n) hpk kd m g s HN.out) ?_; rintro e w2 ⟨rfl, H2, B2, q2⟩; have HB2 : Hid _ := HB'.out.trans B2; have HS2 : Hid _ := H2; have y0 := q2.trans x0; have y1 := (HB2.out.cell (p := ⟨b, o + k * 4, none⟩) lb).trans D0.out; have y2 := (HB2.out.cell (p := ⟨b, o + k * 4 + 1, none⟩) lb).trans D1.out; have y3 := (HB2.out.cell (p := ⟨b, o + k * 4 + 2, none⟩) lb).trans D2.out; have y4 := (HB2.out.cell (p := ⟨b, o + k * 4 + 3, none⟩) lb).trans D3.out; clear H2 B2 q2))
        clear y0 y1 y2 y3 y4 c0 c1 c2 c3 x0
        go_wp2_with fail
        refine Calls.mono (looks_holds _ _ n (2 * k + 2) (7 + 2) _ HS2.out (by omega)) ?_
        rintro e w3 ⟨rfl, H3, B3⟩
        have HS3 : Hid _ := H3
        have HB3 : Hid _ := HB2.out.trans B3
        clear HS2 HB2 H3 B3
        go_wp2_with fail
        go_roundw
        case rel => exact ⟨k + 1, n, by omega, by omega, by omega, rfl, by go_num, HS3.out, HB3.out⟩
        case measure => simp [intOf]; omega
    · have hkL : k = L := by omega
      have i1 : ¬ (k : Int) < (L : Int) := by omega
      have HS : Hid _ := hS
      have HB : Hid _ := hB
      have HKL : Hid _ := hkL
      clear hS hB hkL
      go_wp2_with fail
      go_loopw [4, 7, 8, 9, 10, 11, 12] (fun ok i _ _ _ _ _ wr => ∃ q : Nat, q ≤ n ∧ ok = .bool true ∧ i = .int .i64 q ∧ SW W.heap.size W.heap.size n (2 * L + 8 * q) (7 + 8 * q) wr ∧ Below W.heap.size W wr) (fun _ i _ _ _ _ _ _ => n - (intOf i).toNat)
      case atStart => exact ⟨0, Nat.zero_le _, rfl, rfl, (by rw [← HKL.out]; exact HS.out), HB.out⟩
      case round =>
        clear HS HB i1 hlt
        obtain ⟨q, hq, rfl, rfl, hS, hB⟩ := hrel
        obtain ⟨ga, ca, gb, cb, x0, x1, hx⟩ := hS.lists (by omega)
        have HS0 : Hid (SW W.heap.size W.heap.size n (2 * L + 8 * q + 0) (7 + 8 * q + 0) _) := hS
        have HB0 : Hid _ := hB
        have lw := hS.lt
        clear hS hB
        by_cases hlt2 : q < n
        · obtain ⟨rb, adr, mm, cr, x2, x3, hmm⟩ := hx q hlt2
          have j1 : (q : Int) < (n : Int) := by omega
          have j2 : (0 : Int) ≤ (q : Int) := by omega
          clear hx
          go_wp2_with fail
          refine Calls.mono (step_holds _ _ n (2 * L + 8 * q + 0) (7 + 8 * q + 0) _ HS0.out (by omega) q hlt2 6 1 0 _ ⟨by omega, by omega⟩) ?_
          rintro e w1 ⟨rfl, H2, B2, _⟩
          have HS1 : Hid _ := H2
          have HB1 : Hid _ := HB0.out.trans B2
          clear HS0 HB0 H2 B2
          clear x0 x1 x2 x3
          go_wp2_with fail
          refine Calls.mono (step_holds _ _ n (2 * L + 8 * q + 0 + 2) (7 + 8 * q + 0 + 2) _ HS1.out (by omega) q hlt2 6 mm 0 _ ⟨by omega, by omega⟩) ?_
          rintro e w2 ⟨rfl, H2, B2, _⟩
          have HS2 : Hid _ := H2
          have HB2 : Hid _ := HB1.out.trans B2
          clear HS1 HB1 H2 B2
          go_wp2_with fail
          refine Calls.mono (step_holds _ _ n (2 * L + 8 * q + 0 + 2 + 2) (7 + 8 * q + 0 + 2 + 2) _ HS2.out (by omega) q hlt2 4 0 0 _ ⟨by omega, by omega⟩) ?_
          rintro e w3 ⟨rfl, H2, B2, _⟩
          have HS3 : Hid _ := H2
          have HB3 : Hid _ := HB2.out.trans B2
          clear HS2 HB2 H2 B2
          go_wp2_with fail
          refine Calls.mono (step_holds _ _ n (2 * L + 8 * q + 0 + 2 + 2 + 2) (7 + 8 * q + 0 + 2 + 2 + 2) _ HS3.out (by omega) q hlt2 5 mm 0 _ ⟨by omega, by omega⟩) ?_
          rintro e w4 ⟨rfl, H2, B2, _⟩
          have HS4 : Hid _ := H2
          have HB4 : Hid _ := HB3.out.trans B2
          clear HS3 HB3 H2 B2
          go_wp2_with fail
          go_roundw
          case rel => exact ⟨q + 1, by omega, rfl, by go_num, (by obtain ⟨sv, rv, S, N0, R, E, T, h1, h2, h3, h4, h5⟩ := HS4.out; exact ⟨sv, rv, S, N0, R, E, T, h1, h2, h3, by omega, by omega⟩), HB4.out⟩
          case measure => simp [intOf]; omega
        · have j1 : ¬ (q : Int) < (n : Int) := by omega
          clear hx
          go_wp2_with fail
          refine Calls.mono (settles_holds _ _ n (2 * L + 8 * q + 0) (7 + 8 * q + 0) _ HS0.out (by omega)) ?_
          rintro e w2 ⟨rfl, B2⟩
          have HB2 : Hid _ := HB0.out.trans B2
          clear HS0 HB0 B2 x0 x1
          go_wp2
          go_ret
          exact ⟨rfl, HB2.out⟩
end Go.Proofs.YtepklbboejnecaaGreat
