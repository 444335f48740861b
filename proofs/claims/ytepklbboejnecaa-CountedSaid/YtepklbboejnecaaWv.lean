/- The document's own answer: ends sorted by halves. -/
import Derived.Test.YtepklbboejnecaaWu
import Derived.Test.YtepklbboejnecaaM
namespace Go.Proofs.Ytepklbboejnecaa
open Go.RowKit Go.Shelf Sedge
attribute [local go_sem ↓] Go.wp_at_zero Go.wp_at_succ

theorem less_map : ∀ (a b : List UInt8), Op.bytesLess a b = decide (a.map UInt8.toNat < b.map UInt8.toNat)
  | [], [] => by simp [Op.bytesLess]
  | [], y :: b => by simp [Op.bytesLess]
  | x :: a, [] => by simp [Op.bytesLess]
  | x :: a, y :: b => by
    have ih := less_map a b
    simp only [Op.bytesLess, List.map_cons, ih]
    rw [Bool.eq_iff_iff]
    simp only [Bool.or_eq_true, Bool.and_eq_true, decide_eq_true_eq, beq_iff_eq, cons_lt, UInt8.lt_iff_toNat_lt]
    constructor
    · rintro (h | ⟨h, k⟩)
      · exact .inl h
      · exact .inr ⟨by rw [h], k⟩
    · rintro (h | ⟨h, k⟩)
      · exact .inl h
      · exact .inr ⟨UInt8.toNat_inj.1 h, k⟩
/-- Go's '<' on two ends of a text is the order of ends. -/
theorem less_suf (s : ByteArray) (x y : Nat) : Op.bytesLess (s.extract x s.size).toList (s.extract y s.size).toList = decide ((bl s).drop x < (bl s).drop y) := by
  rw [ByteArray.toList_eq, ByteArray.toList_eq, less_map]
  show decide (bl (s.extract x s.size) < bl (s.extract y s.size)) = _
  rw [bl_extract, bl_extract]

theorem Sl.take {w : World} {b o m : Nat} {P : List Nat} (h : Sl w (some ⟨b, o, none⟩) P) : Sl w (some ⟨b, o, none⟩) (P.take m) := by
  intro k hk
  have hk' : k < P.length := by rw [List.length_take] at hk; omega
  obtain ⟨b', o', e, hc⟩ := h k hk'
  refine ⟨b', o', e, ?_⟩
  rw [hc, num_eq hk', num_eq hk, List.getElem_take]
theorem Sl.drop {w : World} {b o m : Nat} {P : List Nat} (h : Sl w (some ⟨b, o, none⟩) P) : Sl w (some ⟨b, o + m, none⟩) (P.drop m) := by
  intro k hk
  have hk' : m + k < P.length := by rw [List.length_drop] at hk; omega
  obtain ⟨b', o', e, hc⟩ := h (m + k) hk'
  simp only [Option.some.injEq, Addr.mk.injEq, and_true] at e
  obtain ⟨rfl, rfl⟩ := e
  refine ⟨b, o + m, rfl, ?_⟩
  rw [Nat.add_assoc, hc, num_eq hk', num_eq hk, List.getElem_drop]
theorem Sl.below {w w' : World} {ad : Option Addr} {l : List Nat} {B : Nat} (h : Sl w ad l) (hb : Below B w w') (hB : ∀ b o, ad = some ⟨b, o, none⟩ → b < B) : Sl w' ad l := by
  intro k hk
  obtain ⟨b, o, e, hc⟩ := h k hk
  exact ⟨b, o, e, by rw [hb.cell (hB b o e)]; exact hc⟩
theorem own_drewN {w : World} {base : Nat} {v : Value} {l : List Nat} (h : w.ownsRow base 3 1 v l.length (IV l)) (n : Nat) : (w.drewN n).ownsRow base 3 1 v l.length (IV l) := h
theorem cell_new (w : World) (v : Value) (T : TypeId) : (w.alloc (.cells #[v] T)).cell? ⟨w.heap.size, 0, none⟩ = some v := by
  rw [cell_of_row _ _ _ _ _ _ (heap_alloc_new w _)]; rfl
def lenOf : Value → Nat
  | .slice _ n _ => n
  | _ => 0

/-- What 'Ends' answers. -/
def EndsSaid (s : ByteArray) (P : List Nat) (w : World) (e : Ending) (w' : World) : Prop :=
  ∃ b o c R, e = .returned (.slice (some ⟨b, o, none⟩) R.length c) ∧ R.length ≤ c ∧ c ≤ 9223372036854775807 ∧ Sl w' (some ⟨b, o, none⟩) R ∧ b < w'.heap.size ∧ R.Pairwise (suf (bl s)) ∧ (∀ p, p ∈ R ↔ p ∈ P) ∧ R.length = P.length ∧ Below w.heap.size w w'

set_option maxHeartbeats 400000 in
theorem ends_one (s : ByteArray) (P : List Nat) (b o c : Nat) (w : World) (hP : P.length = 1) (hl : Sl w (some ⟨b, o, none⟩) P) (hc : P.length ≤ c) (hc' : c ≤ 9223372036854775807) :
    Calls Try.prog 109 #[.string s, .slice (some ⟨b, o, none⟩) P.length c] w (EndsSaid s P w) := by
  have i1 : (P.length : Int) < 2 := by omega
  have hlt : b < w.heap.size := by obtain ⟨b', o', e, h⟩ := hl 0 (by omega); simp at e; have := cell_lt h; dsimp only at this; omega
  have hpw : P.Pairwise (suf (bl s)) := by
    match P, hP with
    | [x], _ => simp
  go_enter Try.func109, Try.ntmps109
  go_wp2
  go_ret
  exact ⟨b, o, c, P, rfl, hc, hc', hl, hlt, hpw, fun _ => Iff.rfl, rfl, Below.refl _ _⟩

/-- 'append(s, t...)': a slice of numbers behind one of the call's own. -/
theorem wpList_pushAll (w : World) {ops : Array Oper} {rest : List Oper} {o : Oper} {a : Act} {Q : Exit → Act → World → Prop}
    (hg : o.guard = none) (s x : Operand) (hop : o.op = Op.call { callee := Callee.builtin Builtin.append, args := #[s, x], argTypes := #[36, 36] })
    (base : Nat) (v : Value) (xs : List Nat) (hs : a.eval s = v) (hown : w.ownsRow base 3 1 v xs.length (IV xs))
    (b off c : Nat) (ys : List Nat) (hx : a.eval x = .slice (some ⟨b, off, none⟩) ys.length c) (hys : Sl w (some ⟨b, off, none⟩) ys) (hlen : xs.length + ys.length ≤ 1000000) (hbase : base ≤ w.heap.size)
    (hK : ∀ v' w', w'.ownsRow base 3 1 v' (xs ++ ys).length (IV (xs ++ ys)) → Below base w w' → wpList Try.prog ops Q rest (a.put o.dst v') w') :
    wpList Try.prog ops Q (o :: rest) a w := by
  obtain ⟨i0, hi, hz0, hz1, hz2⟩ := info_parts Try.infoInt
  refine wpList_append_own _ hg s x 36 hop base 3 i0 (.int .i64 0) 1 8 Try.underlying36 hi hz0 hz1 hz2 rfl (by decide) v xs.length (IV xs) hs hown ⟨b, off, none⟩ ys.length c (IV ys) hx (by simp [IV]) ?_ ?_ ?_ ?_ hbase ?_
  · intro j u hj
    have hj' : j < ys.length := by have := (List.getElem?_eq_some_iff.1 hj).1; simpa [IV] using this
    obtain ⟨b', o', e, hc⟩ := hys j hj'
    simp only [Option.some.injEq, Addr.mk.injEq, and_true] at e
    obtain ⟨rfl, rfl⟩ := e
    rw [Addr.add_lit, hc]
    rw [← hj]; simp [IV, num, List.getD, hj']
  · intro u hu
    simp only [IV, List.mem_map] at hu
    obtain ⟨y, _, rfl⟩ := hu; rfl
  · unfold maxLen; omega
  · omega
  · intro v' w' h1 h2 _
    refine hK v' w' ?_ ((Below.refl base w).grown h2 hbase (fun k e => (hown.lt k e).1))
    have e : IV (xs ++ ys) = IV xs ++ IV ys := by simp [IV]
    rw [e, List.length_append]; exact h1

theorem ends_done {s : ByteArray} {P R : List Nat} {w w2 w4 : World} {v : Value} (h : R.Pairwise (suf (bl s)) ∧ (∀ p, p ∈ R ↔ p ∈ P) ∧ R.length = P.length) (hown : w4.ownsRow w2.heap.size 3 1 v R.length (IV R)) (hB : Below w.heap.size w w4) (h0 : 0 < P.length) : EndsSaid s P w (.returned v) w4 := by
  have hl := h.2.2
  rcases hown.2 with ⟨_, h2⟩ | ⟨g, cap, cur, h1, h2, h3, h4, h5, h6⟩
  · omega
  · obtain ⟨ad, c, e, hS⟩ := own_sl hown
    rw [h1] at e
    simp only [Value.slice.injEq, true_and] at e
    obtain ⟨rfl, rfl⟩ := e
    unfold maxLen at h5
    exact ⟨g, 0, cap, R, by rw [h1], h4, by omega, hS, lt_of_block h3, h.1, h.2.1, hl, hB⟩

set_option maxHeartbeats 4000000 in
theorem ends_step (s : ByteArray) (P : List Nat) (hP2 : 2 ≤ P.length)
    (IH : ∀ P' : List Nat, P'.length < P.length → 0 < P'.length → ∀ (b o c : Nat) (w : World), Sl w (some ⟨b, o, none⟩) P' → P'.length ≤ c → c ≤ 9223372036854775807 → P'.Nodup → (∀ p ∈ P', p < s.size) → Calls Try.prog 109 #[.string s, .slice (some ⟨b, o, none⟩) P'.length c] w (EndsSaid s P' w))
    (b o c : Nat) (w : World) (_hs : s.size ≤ 1000000) (hl : Sl w (some ⟨b, o, none⟩) P) (hc : P.length ≤ c) (hc' : c ≤ 9223372036854775807) (hnd : P.Nodup) (hlt : ∀ p ∈ P, p < s.size) (hPn : P.length ≤ 1000000) :
    Calls Try.prog 109 #[.string s, .slice (some ⟨b, o, none⟩) P.length c] w (EndsSaid s P w) := by
  have i1 : (2 : Int) ≤ (P.length : Int) := by omega
  have HI : Hid _ := IH
  obtain ⟨m, hm⟩ : ∃ m, m = P.length / 2 := ⟨_, rfl⟩
  have hm1 : 0 < m ∧ m < P.length := by omega
  have i2 : (P.length : Int) / 2 = (m : Int) := by omega
  have i3 : ¬ c = m := by omega
  have i4 : (m : Int) ≤ (P.length : Int) := by omega
  have i5 : (m : Int) ≤ (c : Int) := by omega
  have i6 : ¬ c = 0 := by omega
  obtain ⟨hm0, hm2⟩ := hm1
  clear IH hm
  go_enter Try.func109, Try.ntmps109
  have C1 := HI.out (P.take m) (by rw [List.length_take]; omega) (by rw [List.length_take]; omega) b o c w hl.take (by rw [List.length_take]; omega) hc' (hnd.sublist (List.take_sublist _ _)) (fun p hp => hlt p (List.mem_of_mem_take hp))
  rw [List.length_take, Nat.min_eq_left (by omega)] at C1
  have HC1 : Hid _ := C1
  clear C1
  go_wp2_with fail
  refine Calls.mono HC1.out ?_
  rintro e w1 ⟨b1, o1, c1, R1, rfl, hRc1, hcc1, hS1, hb1, hpw1, hmem1, hlen1, hB1⟩
  have C2 := HI.out (P.drop m) (by rw [List.length_drop]; omega) (by rw [List.length_drop]; omega) b (o + m) (c - m) w1 ((hl.later hB1).drop) (by rw [List.length_drop]; omega) (by omega) (hnd.sublist (List.drop_sublist _ _)) (fun p hp => hlt p (List.mem_of_mem_drop hp))
  rw [List.length_drop] at C2
  have HC2 : Hid _ := C2
  have HM1 : Hid (R1.length = (P.take m).length) := hlen1
  clear C2 HC1 hlen1
  go_wp2_with fail
  refine Calls.mono HC2.out ?_
  rintro e w2 ⟨b2, o2, c2, R2, rfl, hRc2, hcc2, hS2, hb2x, hpw2, hmem2, hlen2, hB2⟩
  have hMg := merging_start (l := bl s) hnd (fun p hp => by rw [bl_length]; exact hlt p hp) hpw1 hmem1 HM1.out hpw2 hmem2 hlen2
  have hB12 := Below.later hB1 hB2
  have hS1' := hS1.later hB2
  have hb1' : b1 < w2.heap.size := by have := hB2.size; omega
  clear HC2 HM1 hlen2 hmem1 hmem2 hpw1 hpw2 hB1 hB2 hS1 hb1
  go_wp2_with fail
  go_loopw [6, 7, 8] (fun va vb vo wr => ∃ (oa ca ob cb : Nat) (A B out : List Nat), va = .slice (some ⟨b1, oa, none⟩) A.length ca ∧ vb = .slice (some ⟨b2, ob, none⟩) B.length cb ∧ A.length ≤ ca ∧ ca ≤ 9223372036854775807 ∧ B.length ≤ cb ∧ cb ≤ 9223372036854775807 ∧
      Sl wr (some ⟨b1, oa, none⟩) A ∧ Sl wr (some ⟨b2, ob, none⟩) B ∧ wr.ownsRow w2.heap.size 3 1 vo out.length (IV out) ∧ Merging (bl s) P out A B ∧ Below w2.heap.size w2 wr) (fun va vb _ _ => lenOf va + lenOf vb)
  case atStart => exact ⟨o1, c1, o2, c2, R1, R2, [], rfl, rfl, hRc1, hcc1, hRc2, hcc2, hS1', hS2, World.ownsRow_nil _ _ _ _, hMg, Below.refl _ _⟩
  case round =>
    clear hMg hS1' hS2 hRc1 hcc1 hRc2 hcc2
    obtain ⟨oa, ca, ob, cb, A, B, out, rfl, rfl, ha1, ha2, hb1, hb2, hSA, hSB, hown, hM, hB⟩ := hrel
    match A, B with
    | x :: A, y :: B =>
      obtain ⟨ba', oa', ea, hca⟩ := hSA 0 (by simp)
      obtain ⟨bb', ob', eb, hcb⟩ := hSB 0 (by simp)
      simp only [Option.some.injEq, Addr.mk.injEq, and_true] at ea eb
      obtain ⟨rfl, rfl⟩ := ea
      obtain ⟨rfl, rfl⟩ := eb
      rw [show num (x :: A) 0 = x from rfl, Nat.add_zero] at hca
      rw [show num (y :: B) 0 = y from rfl, Nat.add_zero] at hcb
      have hxs : x < s.size := by have := hM.lt x ((hM.mem x).2 (by simp)); rwa [bl_length] at this
      have hys : y < s.size := by have := hM.lt y ((hM.mem y).2 (by simp)); rwa [bl_length] at this
      rw [List.length_cons] at ha1 hb1 ⊢
      rw [List.length_cons]
      have j1 : (0 : Int) < ((A.length + 1 : Nat) : Int) := by omega
      have j2 : (0 : Int) < ((B.length + 1 : Nat) : Int) := by omega
      have j3 : (0 : Int) ≤ (x : Int) := by omega
      have j4 : (0 : Int) ≤ (y : Int) := by omega
      have j5 : (x : Int) ≤ (s.size : Int) := by omega
      have j6 : (y : Int) ≤ (s.size : Int) := by omega
      have hBs := hB.size
      have hol : out.length < 1000000 := by have := hM.len; simp at this; omega
      by_cases hsuf : suf (bl s) x y
      · have hless : Op.bytesLess (s.extract x s.size).toList (s.extract y s.size).toList = true := by rw [less_suf]; exact decide_eq_true hsuf
        have HMg : Hid _ := hM.left hsuf
        have hcap : ca = 1 ∨ ¬ ca = 1 := by omega
        have hSAr : Sl wr (some ⟨b1, oa + 1, none⟩) A := hSA.drop (m := 1)
        have hSBr : Sl wr (some ⟨b2, ob + 1, none⟩) B := hSB.drop (m := 1)
        rcases hcap with hcap | hcap
        · have hdum : (0 : Nat) = 0 := rfl
          clear hdum
          have hLe : A.length = 0 := by omega
          have hLe' : A = [] := List.eq_nil_of_length_eq_zero hLe
          have HLe : Hid (A = []) := hLe'
          clear hLe'
          go_wp2
          go_quiet (fail)
          have hown2 : World.ownsRow (wr.drewN nq) w2.heap.size 3 1 _ out.length (IV out) := hown
          go_wp2_with (first | (at_builtin; refine wpList_push _ rfl _ _ rfl w2.heap.size _ out rfl (hown2.alloc _) ⟨wr.heap.size, 0, none⟩ x rfl (cell_new (wr.drewN nq) _ _) hol (by show w2.heap.size ≤ ((wr.drewN nq).alloc _).heap.size; rw [World.size_alloc]; exact Nat.le_succ_of_le hBs) ?_; intro v3 w3 hown3 hb3) | fail)
          have hB4 : Below w2.heap.size wr w3 := (((Below.refl w2.heap.size wr).drewN nq).alloc hBs _).trans hb3
          have hB5 := hB.trans hB4
          have hSA3 := hSA.below hB4 (fun b o e => by simp at e; omega)
          have hSB3 := hSB.below hB4 (fun b o e => by simp at e; omega)
          have hSAr3 := hSAr.below hB4 (fun b o e => by simp at e; omega)
          have hSBr3 := hSBr.below hB4 (fun b o e => by simp at e; omega)
          go_roundw
          case rel => exact ⟨oa, 0, ob, cb, A, y :: B, out ++ [x], by rw [hLe], by simp, by omega, by omega, by simpa using hb1, hb2, by rw [HLe.out]; exact fun k hk => by simp at hk, hSB3, hown3, HMg.out, hB5⟩
          case measure => simp [lenOf]
        · have hdum : (0 : Nat) = 0 := rfl
          clear hdum
          go_wp2
          go_quiet (fail)
          have hown2 : World.ownsRow (wr.drewN nq) w2.heap.size 3 1 _ out.length (IV out) := hown
          go_wp2_with (first | (at_builtin; refine wpList_push _ rfl _ _ rfl w2.heap.size _ out rfl (hown2.alloc _) ⟨wr.heap.size, 0, none⟩ x rfl (cell_new (wr.drewN nq) _ _) hol (by show w2.heap.size ≤ ((wr.drewN nq).alloc _).heap.size; rw [World.size_alloc]; exact Nat.le_succ_of_le hBs) ?_; intro v3 w3 hown3 hb3) | fail)
          have hB4 : Below w2.heap.size wr w3 := (((Below.refl w2.heap.size wr).drewN nq).alloc hBs _).trans hb3
          have hB5 := hB.trans hB4
          have hSA3 := hSA.below hB4 (fun b o e => by simp at e; omega)
          have hSB3 := hSB.below hB4 (fun b o e => by simp at e; omega)
          have hSAr3 := hSAr.below hB4 (fun b o e => by simp at e; omega)
          have hSBr3 := hSBr.below hB4 (fun b o e => by simp at e; omega)
          go_roundw
          case rel => exact ⟨oa + 1, ca - 1, ob, cb, A, y :: B, out ++ [x], rfl, by simp, by omega, by omega, by simpa using hb1, hb2, hSAr3, hSB3, hown3, HMg.out, hB5⟩
          case measure => simp [lenOf]
      · have hless : Op.bytesLess (s.extract x s.size).toList (s.extract y s.size).toList = false := by rw [less_suf]; exact decide_eq_false hsuf
        have HMg : Hid _ := hM.right hsuf
        have hcap : cb = 1 ∨ ¬ cb = 1 := by omega
        have hSAr : Sl wr (some ⟨b1, oa + 1, none⟩) A := hSA.drop (m := 1)
        have hSBr : Sl wr (some ⟨b2, ob + 1, none⟩) B := hSB.drop (m := 1)
        rcases hcap with hcap | hcap
        · have hdum : (0 : Nat) = 0 := rfl
          clear hdum
          have hLe : B.length = 0 := by omega
          have hLe' : B = [] := List.eq_nil_of_length_eq_zero hLe
          have HLe : Hid (B = []) := hLe'
          clear hLe'
          go_wp2
          go_quiet (fail)
          have hown2 : World.ownsRow (wr.drewN nq) w2.heap.size 3 1 _ out.length (IV out) := hown
          go_wp2_with (first | (at_builtin; refine wpList_push _ rfl _ _ rfl w2.heap.size _ out rfl (hown2.alloc _) ⟨wr.heap.size, 0, none⟩ y rfl (cell_new (wr.drewN nq) _ _) hol (by show w2.heap.size ≤ ((wr.drewN nq).alloc _).heap.size; rw [World.size_alloc]; exact Nat.le_succ_of_le hBs) ?_; intro v3 w3 hown3 hb3) | fail)
          have hB4 : Below w2.heap.size wr w3 := (((Below.refl w2.heap.size wr).drewN nq).alloc hBs _).trans hb3
          have hB5 := hB.trans hB4
          have hSA3 := hSA.below hB4 (fun b o e => by simp at e; omega)
          have hSB3 := hSB.below hB4 (fun b o e => by simp at e; omega)
          have hSAr3 := hSAr.below hB4 (fun b o e => by simp at e; omega)
          have hSBr3 := hSBr.below hB4 (fun b o e => by simp at e; omega)
          go_roundw
          case rel => exact ⟨oa, ca, ob, 0, x :: A, B, out ++ [y], by simp, by rw [hLe], by simpa using ha1, ha2, by omega, by omega, hSA3, by rw [HLe.out]; exact fun k hk => by simp at hk, hown3, HMg.out, hB5⟩
          case measure => simp [lenOf]
        · have hdum : (0 : Nat) = 0 := rfl
          clear hdum
          go_wp2
          go_quiet (fail)
          have hown2 : World.ownsRow (wr.drewN nq) w2.heap.size 3 1 _ out.length (IV out) := hown
          go_wp2_with (first | (at_builtin; refine wpList_push _ rfl _ _ rfl w2.heap.size _ out rfl (hown2.alloc _) ⟨wr.heap.size, 0, none⟩ y rfl (cell_new (wr.drewN nq) _ _) hol (by show w2.heap.size ≤ ((wr.drewN nq).alloc _).heap.size; rw [World.size_alloc]; exact Nat.le_succ_of_le hBs) ?_; intro v3 w3 hown3 hb3) | fail)
          have hB4 : Below w2.heap.size wr w3 := (((Below.refl w2.heap.size wr).drewN nq).alloc hBs _).trans hb3
          have hB5 := hB.trans hB4
          have hSA3 := hSA.below hB4 (fun b o e => by simp at e; omega)
          have hSB3 := hSB.below hB4 (fun b o e => by simp at e; omega)
          have hSAr3 := hSAr.below hB4 (fun b o e => by simp at e; omega)
          have hSBr3 := hSBr.below hB4 (fun b o e => by simp at e; omega)
          go_roundw
          case rel => exact ⟨oa, ca, ob + 1, cb - 1, x :: A, B, out ++ [y], by simp, rfl, by simpa using ha1, ha2, by omega, by omega, hSA3, hSBr3, hown3, HMg.out, hB5⟩
          case measure => simp [lenOf]
    | [], B =>
      have hBs := hB.size
      have hlen := hM.len
      have HD : Hid _ := hM.done (.inl rfl)
      rw [List.length_nil] at ha1 hlen ⊢
      have hnil : Sl wr (some ⟨b1, oa, none⟩) [] := hSA
      go_wp2_with (first
        | (at_builtin; refine wpList_pushAll _ rfl (.tmp 61) (.tmp 62) rfl w2.heap.size _ out rfl hown b1 oa ca [] rfl hnil (by simp; omega) hBs ?_; intro v3 w3 hown3 hb3; have hSB3 := hSB.below hb3 (fun b o e => by simp at e; omega); have hBs3 := Nat.le_trans hBs hb3.size)
        | (at_builtin; refine wpList_pushAll _ rfl (.tmp 64) (.tmp 65) rfl w2.heap.size _ (out ++ []) rfl hown3 b2 ob cb B rfl hSB3 (by simp; omega) hBs3 ?_; intro v4 w4 hown4 hb4))
      go_ret
      exact ends_done HD.out hown4 (hB12.trans (((hB.trans hb3).trans hb4).mono hB12.size)) (by have := hM.len; simp at this; omega)
    | x :: A, [] =>
      have hBs := hB.size
      have hlen := hM.len
      have HD : Hid _ := hM.done (.inr rfl)
      rw [List.length_nil] at hb1 hlen ⊢
      have hnil : Sl wr (some ⟨b2, ob, none⟩) [] := hSB
      go_wp2_with (first
        | (at_builtin; refine wpList_pushAll _ rfl (.tmp 61) (.tmp 62) rfl w2.heap.size _ out rfl hown b1 oa ca (x :: A) rfl hSA (by simp at hlen ⊢; omega) hBs ?_; intro v3 w3 hown3 hb3; have hSB3 := hnil.below hb3 (fun b o e => by simp at e; omega); have hBs3 := Nat.le_trans hBs hb3.size)
        | (at_builtin; refine wpList_pushAll _ rfl (.tmp 64) (.tmp 65) rfl w2.heap.size _ (out ++ (x :: A)) rfl hown3 b2 ob cb [] rfl hSB3 (by simp at hlen ⊢; omega) hBs3 ?_; intro v4 w4 hown4 hb4))
      go_ret
      exact ends_done HD.out hown4 (hB12.trans (((hB.trans hb3).trans hb4).mono hB12.size)) (by have := hM.len; simp at this; omega)

/-- 'Ends', of one place or more. -/
theorem ends_any (s : ByteArray) (hs : s.size ≤ 1000000) : ∀ (m : Nat) (P : List Nat), P.length = m → 0 < P.length → ∀ (b o c : Nat) (w : World), Sl w (some ⟨b, o, none⟩) P → P.length ≤ c → c ≤ 9223372036854775807 → P.Nodup → (∀ p ∈ P, p < s.size) →
    Calls Try.prog 109 #[.string s, .slice (some ⟨b, o, none⟩) P.length c] w (EndsSaid s P w) := by
  intro m
  induction m using Nat.strongRecOn with
  | _ m ih =>
    intro P hm h0 b o c w hl hc hc' hnd hlt
    have hPn : P.length ≤ 1000000 := by
      have := hnd.length_le_of_subset (l₂ := List.range s.size) (fun x hx => List.mem_range.2 (hlt x hx))
      rw [List.length_range] at this; omega
    by_cases h1 : P.length = 1
    · exact ends_one s P b o c w h1 hl hc hc'
    · exact ends_step s P (by omega) (fun P' hP' h0' b o c w a1 a2 a3 a4 a5 => ih P'.length (by omega) P' rfl h0' b o c w a1 a2 a3 a4 a5) b o c w hs hl hc hc' hnd hlt hPn
end Go.Proofs.Ytepklbboejnecaa
