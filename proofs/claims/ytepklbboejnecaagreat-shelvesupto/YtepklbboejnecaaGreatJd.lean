/- Shelves: where a pattern stands in texts; how often in each. -/
import Derived.Test.YtepklbboejnecaaGreatJc
import Derived.Test.YtepklbboejnecaaGreatF
import Derived.Test.YtepklbboejnecaaGreatY
namespace Go.Proofs.YtepklbboejnecaaGreat
open Go.RowKit Go.Shelf Sedge
attribute [local go_sem ↓] Go.wp_at_zero Go.wp_at_succ

/-- Hits, as cells. -/
def HN (l : List (Nat × Nat)) : List Value := l.flatMap fun p => [.int .i64 (p.1 : Nat), .int .i64 (p.2 : Nat)]
theorem HN_append (a b : List (Nat × Nat)) : HN (a ++ b) = HN a ++ HN b := by simp [HN]
theorem HN_length (l : List (Nat × Nat)) : (HN l).length = l.length * 2 := by
  induction l with
  | nil => rfl
  | cons a r ih => simp only [HN, List.flatMap_cons, List.length_append, List.length_cons, List.length_nil] at ih ⊢; omega
theorem HN_at : ∀ (l : List (Nat × Nat)) (i : Nat) (h : i < l.length), (HN l)[i * 2]? = some (.int .i64 (l[i].1 : Nat)) ∧ (HN l)[i * 2 + 1]? = some (.int .i64 (l[i].2 : Nat))
  | e :: l, 0, _ => ⟨rfl, rfl⟩
  | e :: l, i + 1, h => by
    have ih := HN_at l i (by simpa using h)
    rw [show (i + 1) * 2 = i * 2 + 2 by omega]
    exact ih
theorem HN_one (l : List (Nat × Nat)) : ∀ u ∈ HN l, u.oneCell' = true := fun u hu => by
  unfold HN at hu
  obtain ⟨p, _, hp⟩ := List.mem_flatMap.1 hu
  simp at hp
  rcases hp with rfl | rfl <;> rfl
/-- Where a pattern stands in one text, in several. -/
def hits1 (pat : ByteArray) (p : Vol) : List (Nat × Nat) := (plcs (bl p.2) (bl pat)).map fun a => (p.1, a)
def hitsL (pat : ByteArray) (bs : List Vol) : List (Nat × Nat) := bs.flatMap (hits1 pat)
theorem hitsL_succ {pat : ByteArray} {bs : List Vol} {k : Nat} (h : k < bs.length) : hitsL pat (bs.take (k + 1)) = hitsL pat (bs.take k) ++ hits1 pat bs[k] := by
  unfold hitsL
  rw [List.take_add_one, List.getElem?_eq_getElem h, List.flatMap_append]
  simp
theorem hits1_len (pat : ByteArray) (p : Vol) : (hits1 pat p).length ≤ p.2.size := by
  unfold hits1; rw [List.length_map]; have := plcs_le (bl p.2) (bl pat); rwa [bl_length] at this
theorem hitsL_len {pat : ByteArray} {bs : List Vol} (h : ∀ p ∈ bs, p.2.size ≤ 200) : (hitsL pat bs).length ≤ 200 * bs.length := by
  unfold hitsL
  induction bs with
  | nil => simp
  | cons a r ih =>
    rw [List.flatMap_cons, List.length_append, List.length_cons]
    have h1 := hits1_len pat a
    have h2 := h a (by simp)
    have h3 := ih fun p hp => h p (by simp [hp])
    omega
/-- 'append(l, x)' of two numbers. -/
theorem wpList_push2 (t e : TypeId) (hu : Tryz.prog.underlying t = some (.slice e)) (hinf : (Tryz.prog.info? e).map (fun i => (i.zero, i.size, i.bytes)) = some (some (.agg #[.int .i64 0, .int .i64 0]), 2, 16))
    (w : World) {ops : Array Oper} {rest : List Oper} {o : Oper} {a : Act} {Q : Exit → Act → World → Prop} (hg : o.guard = none)
    (s x : Operand) (hop : o.op = Op.call { callee := Callee.builtin Builtin.append, args := #[s, x], argTypes := #[t, t] })
    (base : Nat) (v : Value) (l : List (Nat × Nat)) (hs : a.eval s = v) (hown : w.ownsRow base e 2 v l.length (HN l))
    (b : Nat) (p : Nat × Nat) (T : TypeId) (hx : a.eval x = .slice (some ⟨b, 0, none⟩) 1 1) (hc : Blk w b T [.int .i64 (p.1 : Nat), .int .i64 (p.2 : Nat)]) (hn : l.length ≤ 1000000) (hbase : base ≤ w.heap.size)
    (hK : ∀ v' w', w'.ownsRow base e 2 v' (l ++ [p]).length (HN (l ++ [p])) → w.grownBy w' v.ownBlock → Lies w w' v v' → wpList Tryz.prog ops Q rest (a.put o.dst v') w') :
    wpList Tryz.prog ops Q (o :: rest) a w := by
  obtain ⟨i0, hi, hz0, hz1, hz2⟩ := info_parts hinf
  refine wpList_push_at w hg s x t hop e i0 (.agg #[.int .i64 0, .int .i64 0]) 2 16 hu hi hz0 hz1 hz2 rfl (by decide) base v l.length (HN l) hs hown ⟨b, 0, none⟩ 1 [.int .i64 (p.1 : Nat), .int .i64 (p.2 : Nat)] hx rfl ?_ ?_ ?_ ?_ hbase ?_
  · intro j u hj
    match j, hj with
    | 0, hj => simp at hj; subst hj; simpa [Addr.add] using hc.cell (k := 0) (by simp)
    | 1, hj => simp at hj; subst hj; simpa [Addr.add] using hc.cell (k := 1) (by simp)
  · intro u hu; simp at hu; rcases hu with rfl | rfl <;> rfl
  · unfold maxLen; omega
  · omega
  · intro v' w' q1 q2 q3
    refine hK v' w' ?_ q2 q3
    rw [List.length_append, HN_append]; exact q1
theorem Tryz.infoHitJ : (Tryz.prog.info? 59).map (fun i => (i.zero, i.size, i.bytes)) = some (some (.agg #[.int .i64 0, .int .i64 0]), 2, 16) := by kernel_rfl
theorem Tryz.infoScore : (Tryz.prog.info? 141).map (fun i => (i.zero, i.size, i.bytes)) = some (some (.agg #[.int .i64 0, .int .i64 0]), 2, 16) := by kernel_rfl

theorem own_int {w : World} {base : Nat} {v : Value} {l : List Nat} (h : w.ownsRow base 3 1 v l.length (IV l)) {i : Nat} (hi : i < l.length) : ∃ g c, v = .slice (some ⟨g, 0, none⟩) l.length c ∧ w.cell? ⟨g, i, none⟩ = some (.int .i64 (l[i] : Nat)) := by
  rcases h.2 with ⟨_, h0⟩ | ⟨g, cap, cur, rfl, _⟩
  · omega
  · refine ⟨g, cap, rfl, ?_⟩
    rw [h.cellAt i (by omega)]
    simp [IV, hi]

set_option maxRecDepth 20000 in
set_option maxHeartbeats 4000000 in
/-- 'Find' of texts. -/
theorem tFind_any (bs : List Vol) (hO : OKs bs) (ad : Option Addr) (c : Nat) (pat : ByteArray) (w : World) (hE : ES w ad bs) (_hp : pat.size ≤ 1000) (hq : 0 < pat.size) :
    Calls Tryz.prog 43 #[txv ad bs.length c, .string pat] w fun e w' => ∃ v, e = .returned v ∧ w'.ownsRow w.heap.size 59 2 v (hitsL pat bs).length (HN (hitsL pat bs)) ∧ Below w.heap.size w w' := by
  have hb0 : Below w.heap.size w (w.alloc (Obj.cells #[.slice ad bs.length c] 90)) := (Below.refl _ _).alloc (Nat.le_refl _) _
  have hlen := hO.len
  have HO : Hid _ := hO
  have HE : Hid _ := hE
  clear hO hE
  unfold txv
  go_enter Tryz.func43, Tryz.ntmps43
  go_wp2_with fail
  go_loopw [5, 7, 9, 13] (fun v _ _ iv wr => ∃ k : Nat, k ≤ bs.length ∧ wr.ownsRow w.heap.size 59 2 v (hitsL pat (bs.take k)).length (HN (hitsL pat (bs.take k))) ∧ iv = .int .i64 k ∧ Below w.heap.size w wr) (fun _ _ _ iv _ => bs.length - (intOf iv).toNat)
  case atStart => exact ⟨0, Nat.zero_le _, World.ownsRow_nil _ _ _ _, rfl, hb0⟩
  case round =>
    clear hb0
    obtain ⟨k, hk, hown, rfl, hb⟩ := hrel
    by_cases hlt : k < bs.length
    · obtain ⟨b, o, rfl, c0, c1⟩ := HE.out k hlt
      have d0 := (hb.cell (cell_lt c0)).trans c0
      have d1 := (hb.cell (cell_lt c1)).trans c1
      have hsz := HO.out.sz _ (List.getElem_mem hlt)
      have hsu := hitsL_succ (pat := pat) hlt
      have hl1 := hitsL_len (pat := pat) (bs := bs.take k) (fun p h => HO.out.sz p (List.mem_of_mem_take h))
      rw [List.length_take, Nat.min_eq_left hk] at hl1
      have HSU : Hid _ := hsu
      have HW : Hid _ := hown
      have hbs := hb.size
      generalize bs[k] = p at d0 d1 hsz HSU
      generalize hitsL pat (bs.take k) = A at HSU HW hl1
      have i1 : (k : Int) < (bs.length : Int) := by omega
      have i2 : (0 : Int) ≤ (k : Int) := by omega
      clear c0 c1 hsu hown
      have hbx : Blk (wr.alloc (Obj.cells #[.int .i64 (p.1 : Nat), .string p.2] 129)) wr.heap.size 129 [.int .i64 (p.1 : Nat), .string p.2] := Blk.new wr _ _ rfl
      have hbw : Below wr.heap.size wr (wr.alloc (Obj.cells #[.int .i64 (p.1 : Nat), .string p.2] 129)) := (Below.refl _ _).alloc (Nat.le_refl _) _
      have HBX : Hid _ := hbx
      have HBW : Hid _ := hbw
      clear hbx hbw
      go_wp2_with fail
      refine (partsOf_cap p.2 _ (by omega)).mono ?_
      rintro e w1 ⟨ad1, b1, o1, c1, c1', rfl, hT, hcap, hb1⟩
      have C := places_any p.2 pat ad1 (some ⟨b1, 0, none⟩) o1 c1 c1' w1 hT (by omega) hcap (by omega)
      have HC : Hid _ := C
      have HB1 : Hid _ := Below.later HBW.out hb1
      have HBX1 : Hid _ := Blk.later HBX.out hb1
      clear C hT hcap hb1 HBX HBW
      go_wp2_with fail
      refine Calls.mono HC.out ?_
      rintro e w2 ⟨vL, rfl, hL, hb2⟩
      obtain ⟨L, hLd⟩ : ∃ L, L = plcs (bl p.2) (bl pat) := ⟨_, rfl⟩
      have hH : hits1 pat p = L.map fun a => (p.1, a) := by unfold hits1; rw [hLd]
      have hLl : L.length ≤ 200 := by have := plcs_le (bl p.2) (bl pat); rw [← hLd, bl_length] at this; omega
      rw [← hLd] at hL
      have HH : Hid _ := hH
      have HB2 : Hid _ := Below.later HB1.out hb2
      have HBX2 : Hid _ := Blk.later HBX1.out hb2
      have hs2 := Below.size HB2.out
      have hs1 := Below.size HB1.out
      have HLT : Hid (wr.heap.size < w1.heap.size) := Blk.lt HBX1.out
      have HL2 : Hid (w2.ownsRow (wr.heap.size + 1) 3 1 vL L.length (IV L)) := own_mono hL HLT.out
      have HW2 : Hid (w2.ownsRow w.heap.size 59 2 u5 A.length (HN A)) := own_fr HW.out (Fr.of_below HB2.out) (fun _ _ _ h => by cases h)
      have HA0 : Hid (Apart vL u5) := fun g h1 h2 => by have := (hL.lt g h1).1; have := own_lt HW.out g h2; have := HLT.out; omega
      have HO0 : Hid (u5.ownBlock ≠ some wr.heap.size) := fun h => by have := own_lt HW.out _ h; omega
      obtain ⟨adL, cL, rfl⟩ := own_val hL
      obtain ⟨wo, hwo⟩ : ∃ wo, wo = wr := ⟨_, rfl⟩
      subst hwo
      have HBB : Hid _ := hb
      clear HC HB1 HBX1 hb2 hH hLd hL HW hb
      go_wp2_with fail
      go_loopw [5, 9, 23] (fun v _ iv wr => ∃ j : Nat, j ≤ L.length ∧ iv = .int .i64 j ∧ wr.ownsRow w.heap.size 59 2 v (A ++ (L.take j).map fun a => (p.1, a)).length (HN (A ++ (L.take j).map fun a => (p.1, a))) ∧ Below w.heap.size w wr ∧ Blk wr wo.heap.size 129 [.int .i64 (p.1 : Nat), .string p.2] ∧ wr.ownsRow (wo.heap.size + 1) 3 1 (.slice adL L.length cL) L.length (IV L) ∧ v.ownBlock ≠ some wo.heap.size ∧ Apart (.slice adL L.length cL) v) (fun _ _ iv _ => L.length - (intOf iv).toNat)
      case atStart => exact ⟨0, Nat.zero_le _, rfl, by rw [List.take_zero, List.map_nil, List.append_nil]; exact HW2.out, Below.trans HBB.out (Below.mono HB2.out hbs), HBX2.out, HL2.out, HO0.out, HA0.out⟩
      case round =>
        clear HW2 HB2 HBX2 HL2 HA0 HO0
        obtain ⟨j, hj, rfl, hown, hb, hbx, hL, hof, hap⟩ := hrel
        by_cases hjl : j < L.length
        · obtain ⟨gL, cL', eL, d3⟩ := own_int hL hjl
          simp only [Value.slice.injEq, true_and] at eL
          obtain ⟨rfl, rfl⟩ := eL
          have d4 := hbx.cell (k := 0) (by simp)
          have HTS : Hid (L.take (j + 1) = L.take j ++ [L[j]]) := by unfold Hid; rw [List.take_add_one, List.getElem?_eq_getElem hjl]; rfl
          have HTL : Hid ((L.take j).length = j) := by unfold Hid; rw [List.length_take]; omega
          generalize L[j] = a at d3 HTS
          have i3 : (j : Int) < (L.length : Int) := by omega
          have i4 : (0 : Int) ≤ (j : Int) := by omega
          have HOW : Hid _ := hown
          have HBX : Hid _ := hbx
          have HLL : Hid _ := hL
          have HOF : Hid _ := hof
          have HAP : Hid _ := hap
          have hws := hb.size
          have hAl : (A ++ (L.take j).map fun a => (p.1, a)).length ≤ 1000000 := by rw [List.length_append, List.length_map, HTL.out]; omega
          have HAl : Hid _ := hAl
          clear hown hbx hL hof hap hAl
          go_wp2_with (first | (at_builtin; refine wpList_push2 52 59 Tryz.underlying52 Tryz.infoHitJ _ rfl _ _ rfl w.heap.size _ (A ++ (L.take j).map fun a => (p.1, a)) rfl (World.ownsRow.alloc HOW.out _) wr.heap.size (p.1, a) 59 rfl (Blk.new wr _ _ rfl) HAl.out (by simp; omega) ?_; intro v' w5 hown5 hg5 hl5) | fail)
          go_roundw
          case rel =>
            have F : Fr wr w5 [_] := (Fr.alloc wr _).trans (Fr.of_grown hg5)
            refine ⟨j + 1, by omega, by go_num, ?_, ?_, ?_, ?_, ?_, ?_⟩
            · rw [HTS.out, List.map_append, ← List.append_assoc]; exact hown5
            · exact hb.trans (((Below.refl _ wr).alloc (by omega) _).grown hg5 (by simp; omega) (fun k e => (World.ownsRow.lt HOW.out k e).1))
            · exact Blk.fr HBX.out F (fun r hr => by simp at hr; subst hr; exact fun e => HOF.out e.symm)
            · exact own_fr HLL.out F (free_of_apart HAP.out)
            · exact off_lies HOF.out (by have := Blk.lt HBX.out; simp; omega) hl5
            · exact Apart.lies HAP.out (fun g hg => by have := own_lt HLL.out g hg; simp; omega) hl5
          case measure => simp [intOf]; omega
        · have ej : j = L.length := by omega
          subst ej
          have i3 : ¬ (L.length : Int) < (L.length : Int) := by omega
          rw [List.take_length] at hown
          have HOW : Hid _ := hown
          clear hown hbx hL hof hap
          go_wp2
          go_roundw
          case rel => exact ⟨k + 1, by omega, by rw [HSU.out, HH.out]; exact HOW.out, by go_num, hb⟩
          case measure => simp [intOf]; omega
    · have ek : k = bs.length := by omega
      subst ek
      rw [List.take_length] at hown
      have i1 : ¬ (bs.length : Int) < (bs.length : Int) := by omega
      go_wp2
      go_ret
      exact ⟨_, rfl, hown, hb⟩

/-- How often a pattern stands in each text; in which it stands at all. -/
def cnt1 (pat : ByteArray) (p : Vol) : Nat := (plcs (bl p.2) (bl pat)).length
def cnts (pat : ByteArray) (bs : List Vol) : List (Nat × Nat) := bs.map fun p => (p.1, cnt1 pat p)
def scL (pat : ByteArray) (bs : List Vol) : List (Nat × Nat) := (cnts pat bs).filter fun p => decide (0 < p.2)
theorem scL_succ {pat : ByteArray} {bs : List Vol} {k : Nat} (h : k < bs.length) : scL pat (bs.take (k + 1)) = if 0 < cnt1 pat bs[k] then scL pat (bs.take k) ++ [(bs[k].1, cnt1 pat bs[k])] else scL pat (bs.take k) := by
  unfold scL cnts
  rw [List.take_add_one, List.getElem?_eq_getElem h, List.map_append, List.filter_append]
  by_cases c : 0 < cnt1 pat bs[k]
  · rw [if_pos c]; simp [c]
  · rw [if_neg c]; simp; omega
theorem scL_len (pat : ByteArray) (bs : List Vol) : (scL pat bs).length ≤ bs.length := by
  unfold scL
  have := List.length_filter_le (fun p : Nat × Nat => decide (0 < p.2)) (cnts pat bs)
  unfold cnts at this ⊢
  rwa [List.length_map] at this

set_option maxRecDepth 20000 in
set_option maxHeartbeats 4000000 in
/-- 'scores'. -/
theorem scores_any (bs : List Vol) (hO : OKs bs) (ad : Option Addr) (c : Nat) (pat : ByteArray) (w : World) (hE : ES w ad bs) (_hp : pat.size ≤ 1000) (hq : 0 < pat.size) :
    Calls Tryz.prog 72 #[txv ad bs.length c, .string pat] w fun e w' => ∃ v, e = .returned v ∧ w'.ownsRow w.heap.size 141 2 v (scL pat bs).length (HN (scL pat bs)) ∧ Below w.heap.size w w' := by
  have hb0 : Below w.heap.size w (w.alloc (Obj.cells #[.slice ad bs.length c] 90)) := (Below.refl _ _).alloc (Nat.le_refl _) _
  have hlen := hO.len
  have HO : Hid _ := hO
  have HE : Hid _ := hE
  clear hO hE
  unfold txv
  go_enter Tryz.func72, Tryz.ntmps72
  go_wp2_with fail
  go_loopw [5, 7, 8, 12] (fun v _ _ iv wr => ∃ k : Nat, k ≤ bs.length ∧ wr.ownsRow w.heap.size 141 2 v (scL pat (bs.take k)).length (HN (scL pat (bs.take k))) ∧ iv = .int .i64 k ∧ Below w.heap.size w wr) (fun _ _ _ iv _ => bs.length - (intOf iv).toNat)
  case atStart => exact ⟨0, Nat.zero_le _, World.ownsRow_nil _ _ _ _, rfl, hb0⟩
  case round =>
    clear hb0
    obtain ⟨k, hk, hown, rfl, hb⟩ := hrel
    by_cases hlt : k < bs.length
    · obtain ⟨b, o, rfl, c0, c1⟩ := HE.out k hlt
      have d0 := (hb.cell (cell_lt c0)).trans c0
      have d1 := (hb.cell (cell_lt c1)).trans c1
      have hsz := HO.out.sz _ (List.getElem_mem hlt)
      have hsu := scL_succ (pat := pat) hlt
      have hl1 := scL_len pat (bs.take k)
      rw [List.length_take, Nat.min_eq_left hk] at hl1
      have hcn : cnt1 pat bs[k] = (plcs (bl bs[k].2) (bl pat)).length := rfl
      have HSU : Hid _ := hsu
      have HW : Hid _ := hown
      have hbs := hb.size
      have HCN : Hid _ := hcn
      generalize bs[k] = p at d0 d1 hsz HSU HCN
      generalize scL pat (bs.take k) = A at HSU HW hl1
      have i1 : (k : Int) < (bs.length : Int) := by omega
      have i2 : (0 : Int) ≤ (k : Int) := by omega
      clear c0 c1 hsu hown hcn
      have hbx : Blk (wr.alloc (Obj.cells #[.int .i64 (p.1 : Nat), .string p.2] 129)) wr.heap.size 129 [.int .i64 (p.1 : Nat), .string p.2] := Blk.new wr _ _ rfl
      have hbw : Below wr.heap.size wr (wr.alloc (Obj.cells #[.int .i64 (p.1 : Nat), .string p.2] 129)) := (Below.refl _ _).alloc (Nat.le_refl _) _
      have HBX : Hid _ := hbx
      have HBW : Hid _ := hbw
      clear hbx hbw
      go_wp2_with fail
      refine (partsOf_cap p.2 _ (by omega)).mono ?_
      rintro e w1 ⟨ad1, b1, o1, c1, c1', rfl, hT, hcap, hb1⟩
      have C := places_any p.2 pat ad1 (some ⟨b1, 0, none⟩) o1 c1 c1' w1 hT (by omega) hcap (by omega)
      rw [← HCN.out] at C
      have HC : Hid _ := C
      have HB1 : Hid _ := Below.later HBW.out hb1
      have HBX1 : Hid _ := Blk.later HBX.out hb1
      clear C hT hcap hb1 HBX HBW
      go_wp2_with fail
      refine Calls.mono HC.out ?_
      rintro e w2 ⟨vL, rfl, hL, hb2⟩
      obtain ⟨adL, cL, rfl⟩ := own_val hL
      have HB2 : Hid _ := Below.later HB1.out hb2
      have hbx2 := Blk.later HBX1.out hb2
      have e0 := hbx2.cell (k := 0) (by simp)
      have hs2 := Below.size HB2.out
      have HW2 : Hid (w2.ownsRow w.heap.size 141 2 u5 A.length (HN A)) := own_fr HW.out (Fr.of_below HB2.out) (fun _ _ _ h => by cases h)
      have HBB : Hid _ := Below.trans hb (Below.mono HB2.out hbs)
      clear HC HB1 HBX1 hb2 hL HW hbx2 hb
      generalize cnt1 pat p = n at HSU HCN ⊢
      by_cases hn : 0 < n
      · have hsu := HSU.out
        rw [if_pos hn] at hsu
        have HS2 : Hid _ := hsu
        have i3 : (0 : Int) < (n : Int) := by omega
        clear hsu hn
        go_wp2_with (first | (at_builtin; refine wpList_push2 137 141 Tryz.underlying137 Tryz.infoScore _ rfl _ _ rfl w.heap.size _ A rfl (World.ownsRow.alloc HW2.out _) w2.heap.size (p.1, n) 141 rfl (Blk.new w2 _ _ rfl) (by omega) (by simp; omega) ?_; intro v' w5 hown5 hg5 hl5) | fail)
        go_roundw
        case rel => exact ⟨k + 1, by omega, by rw [HS2.out]; exact hown5, by go_num, Below.trans HBB.out (((Below.refl _ w2).alloc (by omega) _).grown hg5 (by simp; omega) (fun k e => (World.ownsRow.lt HW2.out k e).1))⟩
        case measure => simp [intOf]; omega
      · have hsu := HSU.out
        rw [if_neg hn] at hsu
        have HS2 : Hid _ := hsu
        have hn0 : n = 0 := by omega
        have HN0 : Hid _ := hn0
        have i3 : ¬ (0 : Int) < (n : Int) := by omega
        clear hsu hn hn0
        go_wp2
        go_roundw
        case rel => exact ⟨k + 1, by omega, by rw [HS2.out]; exact HW2.out, by go_num, HBB.out⟩
        case measure => simp [intOf]; omega
    · have ek : k = bs.length := by omega
      subst ek
      rw [List.take_length] at hown
      have i1 : ¬ (bs.length : Int) < (bs.length : Int) := by omega
      go_wp2
      go_ret
      exact ⟨_, rfl, hown, hb⟩
end Go.Proofs.YtepklbboejnecaaGreat
