/- Together, of six texts at the most. -/
import Derived.Test.YtepklbboejnecaaGreatJl
namespace Go.Proofs.YtepklbboejnecaaGreat
open Go.RowKit Go.Shelf Sedge
attribute [local go_sem ↓] Go.wp_at_zero Go.wp_at_succ
attribute [local go_sem ↓] eqHJ
attribute [local go_sem] guardHJ

set_option maxRecDepth 100000 in
set_option maxHeartbeats 8000000 in
theorem together_le (ad : Option Addr) (texts : List ByteArray) (c : Nat) (pat : ByteArray) (n : Int) (w : World) (hS : SS w ad texts) (hn1 : -9223372036854775808 ≤ n) (hn2 : n ≤ 9223372036854775807) (hA : texts.length ≤ 6) (_hlen : texts.length ≤ 9223372036854775807) :
    Calls Tryz.prog 4 #[.slice ad texts.length c, .string pat, .int .i64 n] w fun e w' => e = .returned (.bool true) ∧ Below w.heap.size w w' := by
  have HSS : Hid _ := hS
  clear hS
  go_enter Tryz.func4, Tryz.ntmps4
  go_wp2_with fail
  refine (awake_any w).mono ?_
  rintro e w1 ⟨rfl, hb1⟩
  go_wp2_with fail
  refine (NewShelf_any w1).mono ?_
  rintro e w2 ⟨rfl, hS2, hb2⟩
  have hs1 := hb1.size
  have HB2 : Hid _ := Below.later hb1 hb2
  have HS2 : Hid _ := hS2
  obtain ⟨sb, hsb⟩ : ∃ sb, sb = w1.heap.size := ⟨_, rfl⟩
  rw [← hsb] at HS2 hs1 ⊢
  clear hb1 hb2 hS2 hsb
  go_wp2_with fail
  go_loopw [9, 10, 11, 12, 13] (fun v iv _ _ _ wr => ∃ ts : List ByteArray, ts.length ≤ texts.length ∧ ts.length ≤ 6 ∧ iv = .int .i64 (ts.length : Nat) ∧ (∀ t ∈ ts, t.size ≤ 60) ∧ wr.ownsRow w.heap.size 9 1 v ts.length (SV ts) ∧ SH wr sb 92 129 (nb 0 ts) ∧ Below w.heap.size w wr) (fun _ iv _ _ _ _ => 6 - (intOf iv).toNat)
  case atStart => exact ⟨[], Nat.zero_le _, Nat.zero_le _, rfl, fun t h => (by simp at h), World.ownsRow_nil _ _ _ _, HS2.out, HB2.out⟩
  case round =>
    clear HS2 HB2
    obtain ⟨ts, ht1, ht2, rfl, ht3, hown, hS, hb⟩ := hrel
    have HT3 : Hid _ := ht3
    have HOW : Hid _ := hown
    have HSH : Hid _ := hS
    have HBB : Hid _ := hb
    clear ht3 hown hS
    by_cases hgo : ts.length < texts.length ∧ ts.length < 6
    · obtain ⟨g1, g2⟩ := hgo
      obtain ⟨b, o, rfl, c0⟩ := HSS.out ts.length g1
      have d0 := (hb.cell (cell_lt c0)).trans c0
      generalize texts[ts.length] = tx at d0
      have i1 : (ts.length : Int) < (texts.length : Int) := by omega
      have i2 : (ts.length : Int) < 6 := by omega
      have i3 : (0 : Int) ≤ (ts.length : Int) := by omega
      have v1 : IntKind.i64.wrap (7 * (ts.length : Int)) = 7 * (ts.length : Int) := by rw [IntKind.wrap_i64]; omega
      have hbs := hb.size
      clear c0 hb
      go_wp2_with fail
      refine (short60_any tx _).mono ?_
      rintro e w3 ⟨⟨t, ht, rfl⟩, rfl⟩
      have C1 := Put_any w3 sb (nb 0 ts) ((7 * ts.length : Nat) : Int) t HSH.out
      have C2 := fun W h => Put_any W sb (nb 0 (ts ++ [t])) ((7 * ts.length : Nat) : Int) ⟨#[]⟩ h
      rw [putE_new g2 ht, putB_new g2 ht] at C1
      simp only [putE_again g2, putB_again g2] at C2
      have e7 : ((7 * ts.length : Nat) : Int) = 7 * (ts.length : Int) := by omega
      rw [e7] at C1
      simp only [e7] at C2
      have HC1 : Hid _ := C1
      have HC2 : Hid _ := C2
      clear C1 C2 e7 d0
      go_wp2_with fail
      refine Calls.mono HC1.out ?_
      rintro e w4 ⟨rfl, hS4, hL4⟩
      have HC2' : Hid _ := HC2.out w4 hS4
      have HL4 : Hid _ := hL4
      have HOW4 : Hid (w4.ownsRow w.heap.size 9 1 u9 ts.length (SV ts)) := by
        obtain ⟨ad', c', hB', _⟩ := HSH.out.ex
        exact own_fr HOW.out hL4.fr (free_of_off (own_ty HOW.out hB' (by decide)))
      have HS4 : Hid _ := hS4
      clear HC1 HC2 hS4 hL4
      go_wp2_with fail
      refine Calls.mono HC2'.out ?_
      rintro e w5 ⟨rfl, hS5, hL5⟩
      have HOW5 : Hid (w5.ownsRow w.heap.size 9 1 u9 ts.length (SV ts)) := by
        obtain ⟨ad', c', hB', _⟩ := HS4.out.ex
        exact own_fr HOW4.out hL5.fr (free_of_off (own_ty HOW4.out hB' (by decide)))
      have HB5 : Hid (Below w.heap.size w w5) := (Below.trans HBB.out (Below.mono HL4.out.bl hs1)).trans (Below.mono hL5.bl hs1)
      have HS5 : Hid _ := hS5
      have hbs5 := Below.size HB5.out
      clear HC2' hS5 hL5 HOW4 HS4 HL4 HOW HSH HBB
      go_wp2_with (first | (at_builtin; refine wpList_pushS _ rfl _ _ rfl w.heap.size _ ts rfl (World.ownsRow.alloc HOW5.out _) ⟨w5.heap.size, 0, none⟩ t rfl (by simp) (by omega) (by simp; omega) ?_; intro v' w6 hown6 hg6) | fail)
      go_roundw
      case rel =>
        have hAl := World.ownsRow.alloc HOW5.out (Obj.cells #[Value.string t] 9)
        refine ⟨ts ++ [t], by rw [List.length_append]; simp; omega, by rw [List.length_append]; simp; omega, by rw [List.length_append]; go_num, fun t' h' => ?_, hown6, ?_, ?_⟩
        · rcases List.mem_append.1 h' with h' | h'
          · exact HT3.out t' h'
          · simp at h'; subst h'; exact ht
        · exact SH.frO (SH.later HS5.out ((Below.refl _ _).alloc (Nat.le_refl _) _)) hAl (by decide) (by decide) (Fr.of_grown hg6)
        · exact (Below.alloc HB5.out hbs5 _).grown hg6 (by simp; omega) (fun k e => (World.ownsRow.lt HOW5.out k e).1)
      case measure => simp [intOf]; omega
    · have i1 : ¬ (ts.length : Int) < (texts.length : Int) := by omega
      clear hgo hb
      go_wp2_with fail
      refine (short60_any pat _).mono ?_
      rintro e w3 ⟨⟨t0, ht0, rfl⟩, rfl⟩
      obtain ⟨be, hbe⟩ : ∃ be, t0.toList.isEmpty = be := ⟨_, rfl⟩
      have HBE : Hid (be = false → 0 < t0.size) := fun q => by
        by_cases h0 : t0.size = 0
        · have e0 := empty_of_size h0
          subst e0
          rw [q, ByteArray.toList_eq] at hbe
          simp at hbe
        · omega
      go_upto_if 77 with fail
      clear hbe
      go_cut [14] (fun pv wx => wx = w3 ∧ ∃ part : ByteArray, pv = .string part ∧ 0 < part.size ∧ part.size ≤ 60)
      case first =>
        cases be with
        | true =>
          go_wp2
          go_meet
          exact ⟨rfl, _, rfl, by decide, by decide⟩
        | false =>
          have h0 := HBE.out rfl
          go_wp2
          go_meet
          exact ⟨rfl, t0, rfl, h0, ht0⟩
      case rest =>
      obtain ⟨hwc, part, rfl, hp1, hp2⟩ := hcut
      subst hwc
      clear ht0
      have hpe : patE part = 0 := by unfold patE; rw [if_neg (by omega), if_neg (by omega)]
      obtain ⟨bs, hbs⟩ : ∃ bs, bs = nb 0 ts := ⟨_, rfl⟩
      have hSH := HSH.out
      have hbl : bs.length = ts.length := by rw [hbs, nb_length]
      rw [← hbs] at hSH
      have HSB : Hid _ := hSH
      have HBS : Hid _ := hbs
      have HBL : Hid _ := hbl
      have C1 := sFind_any wc sb bs part hSH
      unfold sfindL at C1
      simp only [hpe, if_true] at C1
      have HC1 : Hid _ := C1
      have hhl : (hitsL part bs).length ≤ 4000 := by
        have := hitsL_len (pat := part) (bs := bs) hSH.ok.sz
        have := hSH.ok.len
        omega
      have HHL : Hid _ := hhl
      obtain ⟨adA, cA, hvA⟩ := own_val HOW.out
      subst hvA
      clear C1 hSH hbs hbl hpe HSH hhl
      go_wp2_with fail
      refine Calls.mono HC1.out ?_
      rintro e w4 ⟨vl, rfl, hl, hb4⟩
      obtain ⟨adl, cl, rfl⟩ := own_val hl
      have HL4 : Hid _ := hl
      have HB4 : Hid _ := Below.trans HBB.out (Below.mono hb4 (Below.size HBB.out))
      have HS4 : Hid _ := SH.later HSB.out hb4
      have HA4 : Hid _ := own_fr HOW.out (Fr.of_below hb4) (fun _ _ _ h => by cases h)
      have hs4 := Below.size HB4.out
      clear HC1 hl hb4 HSB HOW HBB
      go_wp2_with fail
      go_loopw [17, 18, 19, 20, 21] (fun kv iv _ _ _ wr => ∃ i : Nat, i ≤ ts.length ∧ iv = .int .i64 i ∧ kv = .int .i64 ((hitsL part (bs.take i)).length : Nat) ∧ Below w4.heap.size w4 wr) (fun _ iv _ _ _ _ => ts.length - (intOf iv).toNat)
      case atStart => exact ⟨0, Nat.zero_le _, rfl, rfl, Below.refl _ _⟩
      case round =>
        obtain ⟨i, hi, rfl, rfl, hb⟩ := hrel
        by_cases hlt : i < ts.length
        · have hHA := own_fr HA4.out (Fr.of_below hb) (fun _ _ _ h => by cases h)
          obtain ⟨gA, cA', eA, d0⟩ := own_str hHA hlt
          simp only [Value.slice.injEq, true_and] at eA
          obtain ⟨rfl, rfl⟩ := eA
          have hib : i < bs.length := by rw [HBL.out]; exact hlt
          have hsz := HT3.out _ (List.getElem_mem hlt)
          have hbi : bs[i]'hib = (7 * (0 + i), ts[i]) := by have := nb_at 0 ts i hlt; have e := HBS.out; subst e; exact this
          have hsu := congrArg List.length (hitsL_succ (pat := part) hib)
          have hat : ∀ j, j < (plcs (bl ts[i]) (bl part)).length → (hitsL part bs)[(hitsL part (bs.take i)).length + j]? = some (7 * (0 + i), num (plcs (bl ts[i]) (bl part)) j) := fun j hj => by
            have h1 : hits1 part (bs[i]'hib) = (plcs (bl ts[i]) (bl part)).map fun a => (7 * (0 + i), a) := by rw [hbi]; rfl
            have h2 : j < (hits1 part (bs[i]'hib)).length := by rw [h1, List.length_map]; exact hj
            rw [hits_at hib h2]
            have h3 : (hits1 part (bs[i]'hib))[j]? = some (7 * (0 + i), num (plcs (bl ts[i]) (bl part)) j) := by
              rw [h1, List.getElem?_map, List.getElem?_eq_getElem hj, num_eq hj]; rfl
            rw [List.getElem?_eq_getElem h2] at h3
            exact h3
          rw [hbi] at hsu
          have eH : hits1 part (7 * (0 + i), ts[i]) = (plcs (bl ts[i]) (bl part)).map fun a => (7 * (0 + i), a) := rfl
          rw [eH, List.length_append, List.length_map] at hsu
          have C2 := Find_tell ts[i] part wr
          have e1 : findE ts[i] part = 0 := by unfold findE; rw [if_neg (by omega), if_neg (by omega)]
          have e2 : findL ts[i] part = plcs (bl ts[i]) (bl part) := by unfold findL; rw [if_neg (by omega), if_neg (by omega)]
          rw [e1, e2] at C2
          generalize plcs (bl ts[i]) (bl part) = P at hsu hat C2
          generalize ts[i] = tx at d0 C2
          have HC2 : Hid _ := C2
          have HSU : Hid _ := hsu
          have HAT : Hid _ := hat
          have i3 : (i : Int) < (ts.length : Int) := by omega
          have i4 : (0 : Int) ≤ (i : Int) := by omega
          have v1 : IntKind.i64.wrap (7 * (i : Int)) = 7 * (i : Int) := by rw [IntKind.wrap_i64]; omega
          have HBR : Hid _ := hb
          clear C2 hsu hat e1 e2 eH hbi hHA hsz hib
          obtain ⟨K, hK⟩ : ∃ K, K = (hitsL part (bs.take i)).length := ⟨_, rfl⟩
          rw [← hK] at HSU HAT ⊢
          have HKK : Hid _ := hK
          clear hK
          go_wp2_with fail
          refine Calls.mono HC2.out ?_
          rintro e w5 ⟨vp, rfl, hp, hb5⟩
          obtain ⟨adp, cp, rfl⟩ := own_val hp
          have HP5 : Hid _ := hp
          have hB5 := Below.later HBR.out hb5
          have HB5 : Hid _ := hB5
          have HL5 : Hid _ := own_fr HL4.out (Fr.of_below hB5) (fun _ _ _ h => by cases h)
          obtain ⟨wo, hwo⟩ : ∃ wo, wo = wr := ⟨_, rfl⟩
          subst hwo
          clear HC2 hp hb5 hB5 HBR hb
          go_wp2_with fail
          go_loopw [17, 21] (fun kv jv wr => ∃ j : Nat, j ≤ P.length ∧ jv = .int .i64 j ∧ kv = .int .i64 ((K + j : Nat) : Int) ∧ Below w5.heap.size w5 wr) (fun _ jv _ => P.length - (intOf jv).toNat)
          case atStart => exact ⟨0, Nat.zero_le _, rfl, rfl, Below.refl _ _⟩
          case round =>
            obtain ⟨j, hj, rfl, rfl, hbj⟩ := hrel
            have HBJ : Hid _ := hbj
            clear hbj
            by_cases hjl : j < P.length
            · obtain ⟨gp, cp', ep, x0⟩ := own_int (own_fr HP5.out (Fr.of_below HBJ.out) (fun _ _ _ h => by cases h)) hjl
              simp only [Value.slice.injEq, true_and] at ep
              obtain ⟨rfl, rfl⟩ := ep
              have hq := HAT.out j hjl
              rw [num_eq hjl] at hq
              obtain ⟨hq1, hq2⟩ := List.getElem?_eq_some_iff.1 hq
              obtain ⟨gl, cl', el, y0, y1⟩ := own_pair (own_fr HL5.out (Fr.of_below HBJ.out) (fun _ _ _ h => by cases h)) hq1
              rw [hq2] at y0 y1
              simp only [Value.slice.injEq, true_and] at el
              obtain ⟨rfl, rfl⟩ := el
              have e7 : ((7 * (0 + i) : Nat) : Int) = 7 * (i : Int) := by omega
              simp only [e7] at y0
              simp only at y1
              generalize P[j] = pj at x0 y1
              obtain ⟨q, hqq⟩ : ∃ q, q = K + j := ⟨_, rfl⟩
              rw [← hqq] at y0 y1 hq1 ⊢
              have HQ : Hid _ := hqq
              have j1 : (j : Int) < (P.length : Int) := by omega
              have j2 : (0 : Int) ≤ (j : Int) := by omega
              have j3 : (q : Int) < ((hitsL part bs).length : Int) := by omega
              have j4 : (0 : Int) ≤ (q : Int) := by omega
              have j5 : ¬ ((hitsL part bs).length : Int) ≤ (q : Int) := by omega
              have hd : decide ((hitsL part bs).length ≤ q) = false := decide_eq_false (by omega)
              have hhl := HHL.out
              have v2 : IntKind.i64.wrap ((q : Int) + 1) = (q : Int) + 1 := by rw [IntKind.wrap_i64]; omega
              have v3 : IntKind.i64.wrap ((j : Int) + 1) = (j : Int) + 1 := by rw [IntKind.wrap_i64]; have := HQ.out; omega
              clear hq hq1 hq2 hqq e7 hhl
              go_wp2
              go_quiet (fail)
              go_wp2_with fail
              go_roundw
              case rel => exact ⟨j + 1, by omega, by go_num, congrArg (fun x : Int => Value.int .i64 x) (by have := HQ.out; omega), Below.drewN HBJ.out _⟩
              case measure => simp [intOf]; omega
            · have ej : j = P.length := by omega
              subst ej
              have j1 : ¬ (P.length : Int) < (P.length : Int) := by omega
              go_wp2
              go_roundw
              case rel => exact ⟨i + 1, by omega, by go_num, congrArg (fun x : Nat => Value.int .i64 (x : Int)) HSU.out.symm, Below.later HB5.out HBJ.out⟩
              case measure => simp [intOf]; omega
        · have ei : i = ts.length := by omega
          subst ei
          have i3 : ¬ (ts.length : Int) < (ts.length : Int) := by omega
          have eT : bs.take ts.length = bs := List.take_of_length_le (by rw [HBL.out]; exact Nat.le_refl _)
          rw [eT]
          clear eT
          obtain ⟨wo, hwo⟩ : ∃ wo, wo = wr := ⟨_, rfl⟩
          subst hwo
          have HSo : Hid _ := SH.later HS4.out hb
          have HBo : Hid (Below w.heap.size w wo) := Below.trans HB4.out (Below.mono hb hs4)
          have HAo : Hid _ := own_fr HA4.out (Fr.of_below hb) (fun _ _ _ h => by cases h)
          have hso := Below.size HBo.out
          have k1 : (((hitsL part bs).length : Int) == ((hitsL part bs).length : Int)) = true := by simp
          clear HS4 HB4 HA4 HL4 hb
          generalize (hitsL part bs).length = hl at *
          by_cases h0 : ts.length = 0
          · have e0 : ts = [] := List.eq_nil_of_length_eq_zero h0
            have eb : bs = [] := by rw [HBS.out, e0]; rfl
            have C3 := sWide_any wo sb bs 1 HSo.out
            have e3 : wideE bs 1 = 3 := by rw [eb]; rfl
            rw [e3] at C3
            have HC3 : Hid _ := C3
            have HEB : Hid _ := eb
            have j1 : ((ts.length : Int) == 0) = true := beq_iff_eq.2 (by omega)
            have j2 : (ts.length : Int) = 0 := by omega
            clear C3 e3 eb e0 h0
            go_wp2_with fail
            refine Calls.mono HC3.out ?_
            rintro e w5 ⟨r, rfl, hr, hb5⟩
            have er : r = ⟨#[]⟩ := by have := hr; rw [HEB.out] at this; exact this
            subst er
            clear hr HC3
            go_wp2
            go_ret
            exact ⟨rfl, Below.trans HBo.out (Below.mono hb5 hso)⟩
          · have j1 : ((ts.length : Int) == 0) = false := beq_eq_false_iff_ne.2 (by omega)
            have j2 : ¬ (ts.length : Int) = 0 := by omega
            have CP := fun W => kpick_any n ts.length W hn1 hn2 (by omega) (by omega)
            have HCP : Hid _ := CP
            clear CP h0
            go_wp2_with fail
            refine Calls.mono (HCP.out wo) ?_
            rintro e w5 ⟨⟨k, hk, rfl⟩, rfl⟩
            obtain ⟨m, hm⟩ : ∃ m, m = k + 1 := ⟨_, rfl⟩
            have v1 : IntKind.i64.wrap (1 + (k : Int)) = (m : Int) := by rw [IntKind.wrap_i64]; omega
            have hbsl := HBL.out
            have C3 := sWide_any w5 sb bs (m : Int) HSo.out
            have e3 : wideE bs (m : Int) = 0 := by unfold wideE; rw [if_neg (by omega)]
            rw [e3] at C3
            have HC3 : Hid _ := C3
            have HM : Hid (1 ≤ m ∧ m ≤ ts.length) := by unfold Hid; omega
            clear C3 e3 HCP hm hk hbsl
            go_wp2_with fail
            refine Calls.mono HC3.out ?_
            rintro e w6 ⟨r, rfl, hr, hb6⟩
            have hW : WideIs (ts.map bl) m (bl r) := by
              have h1 := hr
              have h2 := HM.out
              unfold WideR at h1
              rw [if_neg (by rw [HBL.out]; omega), Int.toNat_natCast, HBS.out, txs_nb] at h1
              exact h1
            have hrs : r.size ≤ 60 := by
              rcases hW.has with q | q
              · rw [← bl_length, q]; simp
              · have := HM.out
                obtain ⟨i', hi', p', _, hp', _⟩ := holdN_at (show 0 < holdN (ts.map bl) (bl r) by omega)
                rw [List.length_map] at hi'
                rw [List.getElem_map, bl_length, bl_length] at hp'
                have := HT3.out _ (List.getElem_mem hi')
                omega
            have HW : Hid _ := hW
            have HS6 : Hid _ := SH.later HSo.out hb6
            have HB6 : Hid (Below w.heap.size w w6) := Below.trans HBo.out (Below.mono hb6 hso)
            have HA6 : Hid _ := own_fr HAo.out (Fr.of_below hb6) (fun _ _ _ h => by cases h)
            have hs6 := Below.size HB6.out
            clear hr hW hb6 HSo HBo HAo HC3
            go_wp2_with fail
            go_loopw [27, 28, 29] (fun nv iv _ wr => ∃ i : Nat, i ≤ ts.length ∧ iv = .int .i64 i ∧ nv = .int .i64 ((ts.take i).countP (fun t => hv t r) : Nat) ∧ Below w6.heap.size w6 wr) (fun _ iv _ _ => ts.length - (intOf iv).toNat)
            case atStart => exact ⟨0, Nat.zero_le _, rfl, rfl, Below.refl _ _⟩
            case round =>
              obtain ⟨i, hi, rfl, rfl, hb⟩ := hrel
              by_cases hlt : i < ts.length
              · have hHA := own_fr HA6.out (Fr.of_below hb) (fun _ _ _ h => by cases h)
                obtain ⟨gA, cA', eA, d0⟩ := own_str hHA hlt
                simp only [Value.slice.injEq, true_and] at eA
                obtain ⟨rfl, rfl⟩ := eA
                have hsz := HT3.out _ (List.getElem_mem hlt)
                have hcs : (ts.take (i + 1)).countP (fun t => hv t r) = (ts.take i).countP (fun t => hv t r) + if hv ts[i] r = true then 1 else 0 := by
                  rw [List.take_add_one, List.getElem?_eq_getElem hlt, List.countP_append]
                  simp [List.countP_cons]
                have hcl : (ts.take i).countP (fun t => hv t r) ≤ i := by
                  have := List.countP_le_length (p := fun t => hv t r) (l := ts.take i)
                  rw [List.length_take] at this; omega
                have C := has_all ts[i] r wr (by omega) (by omega)
                generalize ts[i] = tx at d0 C hcs
                generalize (ts.take i).countP (fun t => hv t r) = q at hcs hcl ⊢
                have HCS : Hid _ := hcs
                have k2 : (i : Int) < (ts.length : Int) := by omega
                have k3 : (0 : Int) ≤ (i : Int) := by omega
                have HBR : Hid _ := hb
                clear hHA hcs hb
                cases hvv : hv tx r with
                | true =>
                  rw [hvv] at C
                  have HC : Hid _ := C
                  have hcs := HCS.out
                  rw [hvv, if_pos rfl] at hcs
                  have HCS2 : Hid _ := hcs
                  clear C hvv hcs
                  go_wp2_with fail
                  refine Calls.mono HC.out ?_
                  rintro e w7 ⟨rfl, hb7⟩
                  go_wp2
                  go_roundw
                  case rel => exact ⟨i + 1, by omega, by go_num, by rw [HCS2.out]; go_num, Below.later HBR.out hb7⟩
                  case measure => simp [intOf]; omega
                | false =>
                  rw [hvv] at C
                  have HC : Hid _ := C
                  have hcs := HCS.out
                  rw [hvv, if_neg (by simp), Nat.add_zero] at hcs
                  have HCS2 : Hid _ := hcs
                  clear C hvv hcs
                  go_wp2_with fail
                  refine Calls.mono HC.out ?_
                  rintro e w7 ⟨rfl, hb7⟩
                  go_wp2
                  go_roundw
                  case rel => exact ⟨i + 1, by omega, by go_num, congrArg (fun x : Nat => Value.int .i64 (x : Int)) HCS2.out.symm, Below.later HBR.out hb7⟩
                  case measure => simp [intOf]; omega
              · have ei : i = ts.length := by omega
                subst ei
                have k2 : ¬ (ts.length : Int) < (ts.length : Int) := by omega
                have hmany := wide_many HW.out HM.out.2
                rw [List.take_length]
                generalize ts.countP (fun t => hv t r) = q at hmany ⊢
                have k3 : ¬ (q : Int) < (m : Int) := by omega
                have hHA := own_fr HA6.out (Fr.of_below hb) (fun _ _ _ h => by cases h)
                have HHA : Hid _ := hHA
                have hSx := SH.later HS6.out hb
                have HBx : Hid (Below w.heap.size w wr) := Below.trans HB6.out (Below.mono hb hs6)
                have hsx := Below.size HBx.out
                rw [HBS.out] at hSx
                have HSx : Hid _ := hSx
                have CE := fun k hk W h => emptied_at ts part ht2 hp1 hp2 sb k hk W h
                have HCE : Hid _ := CE
                clear CE hSx hHA hb HS6 HB6 HA6 hmany
                by_cases h22 : ts.length = 2 ∧ m = 2
                · obtain ⟨h2, hm2⟩ := h22
                  obtain ⟨ta, tb, hab⟩ := two_of h2
                  subst hm2
                  obtain ⟨gA, cA', eA, d0, d1⟩ := str_two HHA.out hab
                  simp only [Value.slice.injEq, true_and] at eA
                  obtain ⟨rfl, rfl⟩ := eA
                  have hsa := HT3.out ta (by rw [hab]; simp)
                  have hsb2 := HT3.out tb (by rw [hab]; simp)
                  have C := fun W => Shared_tell ta tb W
                  unfold TellS sharedE SharedAns at C
                  simp only [if_neg (show ¬ (1000 < ta.size ∨ 1000 < tb.size) by omega)] at C
                  have HC : Hid _ := C
                  have HW2 : Hid (∀ n A B, SharedIs (bl ta) (bl tb) n A B → r.size = n) := fun n A B h => by
                    have h1 := HW.out
                    rw [hab] at h1
                    have := wide_two h1 h
                    rwa [bl_length] at this
                  have hgl := World.block_lt_of_cell? wr _ d0
                  clear C hab
                  generalize hTL : ts.length = TL at *
                  subst h2
                  clear hTL
                  go_wp2_with fail
                  go_cut [30, 31] (fun xv ev wx => ev = .int .i64 0 ∧ ∃ g, xv = .pointer (some ⟨g, 0, none⟩) ∧ wx.cell? ⟨g, 0, none⟩ = some (.int .i64 (r.size : Nat)) ∧ Below wr.heap.size wr wx)
                  case first =>
                    go_region_with (first
                      | (go_at_call 19; refine Calls.mono (HC.out _) ?_; rintro e w7 ⟨n', A', B', rfl, hans, hb7⟩; have hn' := HW2.out _ _ _ hans; subst hn'; have HB7 : Hid _ := Below.later (((Below.refl _ wr).alloc (Nat.le_refl _) (Obj.cells #[.int .i64 0, .int .i64 0, .int .i64 0] 64)).drew) hb7; have hbk7 := Blk.later (Blk.drew (Blk.new wr [.int .i64 0, .int .i64 0, .int .i64 0] 64 rfl)) hb7; obtain ⟨z0, z1, z2⟩ := cells3 hbk7; have f0 := Blk.free hbk7 0; have f1 := Blk.free hbk7 1; have f2 := Blk.free hbk7 2; have HBK7 : Hid _ := hbk7; clear hans hb7 hbk7)
                      | (go_at_call 19; refine Calls.mono (HC.out _) ?_; rintro e w7 ⟨n', A', B', rfl, hans, hb7⟩; have hn' := HW2.out _ _ _ hans; subst hn'; have HB7 : Hid _ := Below.later (Below.refl _ wr).drew hb7; clear hans hb7)
                      | fail)
                    all_goals (go_wp2_with fail)
                    all_goals go_meet
                    all_goals
                      first
                        | exact ⟨rfl, wr.heap.size, rfl, (Blk.set (Blk.set (Blk.set HBK7.out 0 (.int .i64 (r.size : Nat))) 1 (.int .i64 (A' : Nat))) 2 (.int .i64 (B' : Nat))).cell (k := 0) (by simp), ((HB7.out.setCell (p := ⟨wr.heap.size, 0, none⟩) (by simp) (.int .i64 (r.size : Nat))).setCell (p := ⟨wr.heap.size, 1, none⟩) (by simp) (.int .i64 (A' : Nat))).setCell (p := ⟨wr.heap.size, 2, none⟩) (by simp) (.int .i64 (B' : Nat))⟩
                        | exact ⟨rfl, w7.heap.size, rfl, (Blk.new w7 [.int .i64 (r.size : Nat), .int .i64 (A' : Nat), .int .i64 (B' : Nat)] 64 rfl).cell (k := 0) (by simp), HB7.out.alloc (Below.size HB7.out) (Obj.cells #[.int .i64 (r.size : Nat), .int .i64 (A' : Nat), .int .i64 (B' : Nat)] 64)⟩
                  case rest =>
                    obtain ⟨rfl, g, rfl, y0, hbw⟩ := hcut
                    have HBW : Hid _ := hbw
                    clear hbw
                    go_wp2_with fail
                    refine Calls.mono (HCE.out 2 (by rfl) _ (SH.later HSx.out HBW.out)) ?_
                    rintro e w8 ⟨rfl, hb8⟩
                    go_wp2
                    go_ret
                    exact ⟨rfl, Below.trans (Below.trans HBx.out (Below.mono HBW.out hsx)) (Below.mono hb8 hs1)⟩
                · have k4 : (¬ (ts.length : Int) = 2) ∨ ((ts.length : Int) = 2 ∧ ¬ (m : Int) = 2) := by omega
                  clear h22
                  rcases k4 with k4 | ⟨k4, k5⟩
                  all_goals
                    go_wp2_with fail
                    refine Calls.mono (HCE.out _ (by omega) _ HSx.out) ?_
                    rintro e w8 ⟨rfl, hb8⟩
                    go_wp2
                    go_ret
                    exact ⟨rfl, Below.trans HBx.out (Below.mono hb8 hs1)⟩
end Go.Proofs.YtepklbboejnecaaGreat
