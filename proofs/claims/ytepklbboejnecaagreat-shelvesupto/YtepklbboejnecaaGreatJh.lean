/- Shelves: the widest part that so many texts have. -/
import Derived.Test.YtepklbboejnecaaGreatJg
namespace Go.Proofs.YtepklbboejnecaaGreat
open Go.RowKit Go.Shelf Sedge
attribute [local go_sem ↓] Go.wp_at_zero Go.wp_at_succ

/-- Is one part told rather than another? -/
def wider (a b : ByteArray) : Bool := decide (b.size < a.size) || (decide (a.size = b.size) && decide (bl a < bl b))
set_option maxHeartbeats 1000000 in
theorem isWider_any (a b : ByteArray) (w : World) : Calls Tryz.prog 70 #[.string a, .string b] w fun e w' => e = .returned (.bool (wider a b)) ∧ w' = w := by
  have hl := less_bl a b
  unfold wider
  by_cases h1 : b.size < a.size
  · have i1 : (b.size : Int) < (a.size : Int) := by omega
    rw [decide_eq_true h1, Bool.true_or]
    clear h1
    go_enter Tryz.func70, Tryz.ntmps70
    go_wp2
    go_ret
    exact ⟨rfl, rfl⟩
  · have i1 : ¬ (b.size : Int) < (a.size : Int) := by omega
    rw [decide_eq_false h1, Bool.false_or]
    by_cases h2 : a.size = b.size
    · have i2 : ((a.size : Int) == (b.size : Int)) = true := by simp [h2]
      have i3 : (a.size : Int) = (b.size : Int) := by omega
      rw [decide_eq_true h2, Bool.true_and]
      clear h1 h2
      go_enter Tryz.func70, Tryz.ntmps70
      go_wp2
      go_ret
      exact ⟨by rw [← hl]; rfl, rfl⟩
    · have i2 : ((a.size : Int) == (b.size : Int)) = false := by simp; omega
      have i3 : ¬ (a.size : Int) = (b.size : Int) := by omega
      rw [decide_eq_false h2, Bool.false_and]
      clear h1 h2
      go_enter Tryz.func70, Tryz.ntmps70
      go_wp2
      go_ret
      exact ⟨rfl, rfl⟩

set_option maxRecDepth 20000 in
set_option maxHeartbeats 2000000 in
/-- 'Wide' of texts. -/
theorem tWide_any (bs : List Vol) (hO : OKs bs) (ad : Option Addr) (c : Nat) (n : Nat) (w : World) (hE : ES w ad bs) (hn : 1 ≤ n) (hn' : n ≤ bs.length) :
    Calls Tryz.prog 46 #[txv ad bs.length c, .int .i64 n] w fun e w' => ∃ r, e = .returned (.string r) ∧ WideIs (txs bs) n (bl r) ∧ Below w.heap.size w w' := by
  have hbx : Blk (w.alloc (Obj.cells #[.slice ad bs.length c] 90)) w.heap.size 90 [.slice ad bs.length c] := Blk.new w _ _ rfl
  have hb0 : Below w.heap.size w (w.alloc (Obj.cells #[.slice ad bs.length c] 90)) := (Below.refl _ _).alloc (Nat.le_refl _) _
  have hlen := hO.len
  have C := tables_any bs hO ad c _ (hE.later hb0)
  have HC : Hid _ := C
  have HO : Hid _ := hO
  have HE : Hid _ := hE
  have HB0 : Hid _ := hb0
  have HBX : Hid _ := hbx
  clear C hO hE hb0 hbx
  unfold txv at HC ⊢
  go_enter Tryz.func46, Tryz.ntmps46
  go_wp2_with fail
  refine Calls.mono HC.out ?_
  rintro e w1 ⟨g, vs, rfl, hT, hb1⟩
  have hbx1 := Blk.later HBX.out hb1
  have x0 := cell1 hbx1
  have HT : Hid _ := hT
  have HB1 : Hid _ := Below.later HB0.out hb1
  clear hT hb1 hbx1 HC HBX HB0
  go_wp2_with fail
  go_loopw [6, 8, 9, 10, 11, 17] (fun v _ _ _ _ iv wr => ∃ (k : Nat) (r : ByteArray), k ≤ bs.length ∧ v = .string r ∧ iv = .int .i64 k ∧ r.size ≤ 200 ∧ PWide (txs bs) n k 0 (bl r) ∧ Below w1.heap.size w1 wr) (fun _ _ _ _ _ iv _ => bs.length - (intOf iv).toNat)
  case atStart => exact ⟨0, ⟨#[]⟩, Nat.zero_le _, rfl, rfl, by decide, PWide.start _ _, Below.refl _ _⟩
  case round =>
    clear x0
    obtain ⟨k, r, hk, rfl, rfl, hr, hP, hb⟩ := hrel
    have hB : Below w.heap.size w wr := Below.later HB1.out hb
    by_cases hlt : k < bs.length
    · obtain ⟨b, o, rfl, c0, c1⟩ := HE.out k hlt
      have d0 := (hB.cell (cell_lt c0)).trans c0
      have d1 := (hB.cell (cell_lt c1)).trans c1
      have hsz := HO.out.sz _ (List.getElem_mem hlt)
      have hxk := txs_at bs hlt
      have hkx : k < (txs bs).length := by rw [txs_length]; exact hlt
      obtain ⟨p, hp⟩ : ∃ p, p = bs[k]'hlt := ⟨_, rfl⟩
      rw [← hp] at d0 d1 hsz hxk
      have i1 : (k : Int) < (bs.length : Int) := by omega
      have i2 : (0 : Int) ≤ (k : Int) := by omega
      have HXK : Hid _ := hxk
      have HKX : Hid _ := hkx
      have HP : Hid _ := hP
      have HBX : Hid (Blk (wr.alloc (Obj.cells #[.int .i64 (p.1 : Nat), .string p.2] 129)) wr.heap.size 129 [.int .i64 (p.1 : Nat), .string p.2]) := Blk.new wr _ _ rfl
      have HBW : Hid (Below wr.heap.size wr (wr.alloc (Obj.cells #[.int .i64 (p.1 : Nat), .string p.2] 129))) := (Below.refl _ _).alloc (Nat.le_refl _) _
      have HBB : Hid _ := hb
      clear c0 c1 hp hxk hkx hP hb hB
      obtain ⟨wo, hwo⟩ : ∃ wo, wo = wr := ⟨_, rfl⟩
      subst hwo
      go_wp2_with fail
      go_loopw [6, 9, 10, 11, 24] (fun v _ _ _ iv wr => ∃ (q : Nat) (r : ByteArray), q ≤ p.2.size ∧ v = .string r ∧ iv = .int .i64 q ∧ r.size ≤ 200 ∧ PWide (txs bs) n k q (bl r) ∧ Blk wr wo.heap.size 129 [.int .i64 (p.1 : Nat), .string p.2] ∧ Below w1.heap.size w1 wr) (fun _ _ _ _ iv _ => p.2.size - (intOf iv).toNat)
      case atStart => exact ⟨0, r, Nat.zero_le _, rfl, rfl, hr, HP.out, HBX.out, Below.later HBB.out HBW.out⟩
      case round =>
        clear HBX HBW HP
        obtain ⟨q, r, hq, rfl, rfl, hr, hP, hbx, hb⟩ := hrel
        have HP : Hid _ := hP
        have HBX : Hid _ := hbx
        clear hP
        by_cases hql : q < p.2.size
        · have x0 := hbx.cell (k := 0) (by simp)
          have x1 := hbx.cell (k := 1) (by simp)
          have es : (p.2.extract q p.2.size).size = p.2.size - q := by rw [ByteArray.size_extract]; omega
          have eb := bl_extract p.2 q
          have C := sreach_any bs HO.out g vs (p.2.extract q p.2.size) n wr (TT.later HT.out hb) (by omega) hn hn'
          rw [eb] at C
          have HC : Hid _ := C
          have HEB : Hid _ := eb
          have HES : Hid _ := es
          have i3 : (q : Int) < (p.2.size : Int) := by omega
          have i4 : (0 : Int) ≤ (q : Int) := by omega
          have i5 : (q : Int) ≤ (p.2.size : Int) := by omega
          clear C eb es hbx
          go_wp2_with fail
          refine Calls.mono HC.out ?_
          rintro e w2 ⟨R, rfl, hR, hb2⟩
          obtain ⟨t, ht⟩ : ∃ t, t = p.2.extract q p.2.size := ⟨_, rfl⟩
          have hRl := hR.le
          rw [← HEB.out, bl_length, ← ht] at hRl
          have hts : t.size = p.2.size - q := by rw [ht]; exact HES.out
          rw [← ht]
          have hRx : ReachN (txs bs) n (((txs bs)[k]'HKX.out).drop q) R := by rw [HXK.out]; exact hR
          have hst := PWide.step HP.out HKX.out hRx
          rw [HXK.out] at hst
          have ept : bl (t.extract 0 R) = ((bl p.2).drop q).take R := by
            have := bl_extract2 t 0 R
            rw [Nat.zero_add, List.drop_zero, ht, HEB.out] at this
            rw [ht]; exact this
          have epl : (t.extract 0 R).size = R := by rw [ByteArray.size_extract]; omega
          have hwd : wider (t.extract 0 R) r = decide ((bl r).length < R ∨ (R = (bl r).length ∧ ((bl p.2).drop q).take R < bl r)) := by
            unfold wider
            rw [epl, ept, bl_length, Bool.decide_or, Bool.decide_and]
          have j1 : (0 : Int) ≤ (R : Int) := by omega
          have j2 : (R : Int) ≤ (t.size : Int) := by omega
          have hb3 := Below.later hb hb2
          have HBX2 : Hid _ := Blk.later HBX.out hb2
          have HST : Hid _ := hst
          have HPT : Hid _ := ept
          have HPL : Hid _ := epl
          have HWD : Hid _ := hwd
          have CW := isWider_any (t.extract 0 R) r w2
          by_cases hc : (bl r).length < R ∨ (R = (bl r).length ∧ ((bl p.2).drop q).take R < bl r)
          · rw [HWD.out, decide_eq_true hc] at CW
            have HCW : Hid _ := CW
            have HN : Hid (PWide (txs bs) n k (q + 1) (bl (t.extract 0 R))) := by unfold Hid; rw [HPT.out]; exact HST.out.1 hc
            clear CW hc hst ept epl hwd hR hRx ht HC hb hb2 x0 x1
            go_wp2_with fail
            refine Calls.mono HCW.out ?_
            rintro e w3 ⟨rfl, rfl⟩
            go_wp2
            go_roundw
            case rel => exact ⟨q + 1, t.extract 0 R, by omega, rfl, by go_num, by have := HPL.out; omega, HN.out, HBX2.out, hb3⟩
            case measure => simp [intOf]; omega
          · rw [HWD.out, decide_eq_false hc] at CW
            have HCW : Hid _ := CW
            have HN : Hid (PWide (txs bs) n k (q + 1) (bl r)) := HST.out.2 hc
            clear CW hc hst ept epl hwd hR hRx ht HC hb hb2 x0 x1
            go_wp2_with fail
            refine Calls.mono HCW.out ?_
            rintro e w3 ⟨rfl, rfl⟩
            go_wp2
            go_roundw
            case rel => exact ⟨q + 1, r, by omega, rfl, by go_num, hr, HN.out, HBX2.out, hb3⟩
            case measure => simp [intOf]; omega
        · have eq : q = p.2.size := by omega
          subst eq
          have i3 : ¬ (p.2.size : Int) < (p.2.size : Int) := by omega
          have HN : Hid (PWide (txs bs) n (k + 1) 0 (bl r)) := PWide.line HP.out (fun hi => by have := HXK.out; rw [this, bl_length]; exact Nat.le_refl _)
          clear hbx HBX HP
          go_wp2
          go_roundw
          case rel => exact ⟨k + 1, r, by omega, rfl, by go_num, hr, HN.out, hb⟩
          case measure => simp [intOf]; omega
    · have ek : k = bs.length := by omega
      subst ek
      have i1 : ¬ (bs.length : Int) < (bs.length : Int) := by omega
      have HD : Hid (WideIs (txs bs) n (bl r)) := by
        have := hP
        rw [← txs_length bs] at this
        exact PWide.done this hn
      clear hP
      go_wp2_with fail
      refine (clone_any r _ (by omega)).mono ?_
      rintro e w2 ⟨rfl, hb2⟩
      go_wp2
      go_ret
      exact ⟨r, rfl, HD.out, Below.later hB hb2⟩
end Go.Proofs.YtepklbboejnecaaGreat
