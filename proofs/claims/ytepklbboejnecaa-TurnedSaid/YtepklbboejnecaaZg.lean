/- Turning back: the document's own Unturn. -/
import Derived.Test.YtepklbboejnecaaZf
namespace Go.Proofs.Ytepklbboejnecaa
open Go.RowKit Go.Shelf Sedge
attribute [local go_sem ↓] Go.wp_at_zero Go.wp_at_succ

theorem run_make_B (n : Nat) (hn : n ≤ 1000000) (w : World) : (Instr.makeSlice 139 (.int .i64 (n : Int)) (.int .i64 (n : Int))).run Try.prog w = .ok (.slice (some ⟨w.heap.size, 0, none⟩) n n) (w.alloc (.cells (UV (List.replicate n 0)).toArray 5)) := by
  obtain ⟨i0, hi, hz0, hz1, hz2⟩ := info_parts Try.infoByte
  have hr := run_make (P := Try.prog) w 139 5 i0 (.int .u8 0) Try.underlying139 hi hz0 .i64 .i64 n n (by omega) (Int.le_refl _) (by rw [hz2]; omega) (by omega)
  simp only [Int.toNat_natCast] at hr
  rw [hr]
  have e : (madeCells (Value.int .u8 0).cells (n * i0.size)) = (UV (List.replicate n 0)).toArray := by
    rw [hz1]
    apply Array.ext'
    have := toList_madeCells_one (.int .u8 0) n
    simpa [Value.cells, UV] using this
  rw [e]
theorem own_B {w : World} {g : Nat} {l : List Nat} (h : Blk w g 5 (UV l)) (hl : l.length ≤ 1000000) : w.ownsRow 0 5 1 (.slice (some ⟨g, 0, none⟩) l.length l.length) l.length (UV l) :=
  ⟨by simp [UV], .inr ⟨g, l.length, (UV l).toArray, rfl, Nat.zero_le _, h, Nat.le_refl _, by unfold maxLen; omega, by simp [UV], List.take_of_length_le (by simp [UV])⟩⟩

/-- What holds while the text is read from behind. -/
def RInv (s : ByteArray) (r m i : Nat) (tx : List Nat) : Prop :=
  (∀ x ∈ tx, x < 256) ∧ ∀ l R, IsMA l R → (∀ p, num l p < 256) → bl s = turnL l R → r = R.idxOf 0 → i = R.idxOf m ∧ ∀ p, m ≤ p → p < s.size → num tx p = num l p
theorem RInv.start (s : ByteArray) (r : Nat) : RInv s r s.size 0 (List.replicate s.size 0) :=
  ⟨fun x hx => by have := List.eq_of_mem_replicate hx; omega, fun l R hR _ e _ => by
    have hl := turnL_length hR
    rw [← e, bl_length] at hl
    refine ⟨?_, fun p h1 h2 => by omega⟩
    rw [hl]; exact hR.idx_end.symm⟩
theorem RInv.step {s : ByteArray} {r k i : Nat} {tx : List Nat} (h : RInv s r (k + 1) i tx) (hk : k < s.size) (htl : tx.length = s.size) : RInv s r k (1 + before (bl s) (col r i) s.size) (tx.set k (num (bl s) (col r i))) := by
  refine ⟨fun x hx => ?_, fun l R hR hl e1 e2 => ?_⟩
  · rcases List.mem_or_eq_of_mem_set hx with hx | rfl
    · exact h.1 x hx
    · exact bl_lt s _
  · obtain ⟨a, b⟩ := h.2 l R hR hl e1 e2
    have hll := turnL_length hR
    rw [← e1, bl_length] at hll
    obtain ⟨_, q2, q3⟩ := ref_back hR hl (show k < l.length by omega)
    rw [← e1, ← e2, ← a] at q2 q3
    rw [← hll] at q3
    refine ⟨q3, fun p h1 h2 => ?_⟩
    by_cases c : p = k
    · subst c
      rw [← q2, num_eq (by rw [List.length_set]; omega), List.getElem_set_self]
    · have : num (tx.set k (num (bl s) (col r i))) p = num tx p := by
        simp [num, List.getD, List.getElem?_set_ne (show k ≠ p by omega)]
      rw [this]; exact b p (by omega) h2
theorem RInv.none {s : ByteArray} {r k i : Nat} {tx : List Nat} (h : RInv s r (k + 1) i tx) (hk : k < s.size) (e : i = r) (t : ByteArray) : ¬ Texts s (r : Int) t := by
  rintro ⟨_, R, hR, e1, e2⟩
  rw [Int.toNat_natCast] at e2
  have hll := turnL_length hR
  rw [← e1, bl_length] at hll
  have := (h.2 _ R hR (bl_lt t) e1 e2).1
  have h2 := (ref_back hR (bl_lt t) (show k < (bl t).length by omega)).1
  rw [← this, ← e2] at h2
  exact h2 e
theorem RInv.done {s t : ByteArray} {r i : Nat} {tx : List Nat} (h : RInv s r 0 i tx) (htl : tx.length = s.size) (ht : Texts s (r : Int) t) : t = ofL tx := by
  obtain ⟨_, R, hR, e1, e2⟩ := ht
  rw [Int.toNat_natCast] at e2
  have hll := turnL_length hR
  rw [← e1, bl_length] at hll
  have h2 := (h.2 _ R hR (bl_lt t) e1 e2).2
  apply bl_inj
  rw [bl_ofL h.1]
  apply List.ext_getElem (by omega)
  intro k h3 h4
  have := h2 k (Nat.zero_le _) (by omega)
  rw [num_eq h4, num_eq h3] at this
  exact this.symm

set_option maxRecDepth 20000 in
set_option maxHeartbeats 8000000 in
/-- sedgeref.Unturn. -/
theorem refUnturn_in (s : ByteArray) (r : Nat) (w : World) (hs : s.size ≤ 1000) (hr : r ≤ s.size) : Calls Try.prog 60 #[.string s, .int .i64 r] w (Unturns s (r : Int) w) := by
  have i1 : (s.size : Int) ≤ 1000 := by omega
  have i2 : ¬ (r : Int) < 0 := by omega
  have i3 : ¬ (s.size : Int) < (r : Int) := by omega
  have v0 : IntKind.i64.wrap ((s.size : Int) - 1) = (s.size : Int) - 1 := by rw [IntKind.wrap_i64]; omega
  have hmk := run_make_B s.size (by omega)
  have hb0 : Below w.heap.size w (w.alloc (Obj.cells (UV (List.replicate s.size 0)).toArray 5)) := (Below.refl _ _).alloc (Nat.le_refl _) _
  have hbx : Blk (w.alloc (Obj.cells (UV (List.replicate s.size 0)).toArray 5)) w.heap.size 5 (UV (List.replicate s.size 0)) := Blk.new w _ _ rfl
  go_enter Try.func60, Try.ntmps60
  go_wp2_with fail
  clear hmk v0
  go_loopw [8, 9] (fun iv kv wr => ∃ (m i : Nat) (tx : List Nat), m ≤ s.size ∧ iv = .int .i64 i ∧ kv = .int .i64 ((m : Int) - 1) ∧ i ≤ s.size ∧ tx.length = s.size ∧ Blk wr w.heap.size 5 (UV tx) ∧ RInv s r m i tx ∧ Below w.heap.size w wr) (fun _ kv _ => (intOf kv + 1).toNat)
  case atStart => exact ⟨s.size, 0, List.replicate s.size 0, Nat.le_refl _, rfl, rfl, Nat.zero_le _, by simp, hbx, RInv.start s r, hb0⟩
  case round =>
    clear hb0 hbx
    obtain ⟨m, i, tx, hm, rfl, rfl, hi, htl, hB, hI, hb⟩ := hrel
    by_cases h0 : 0 < m
    · obtain ⟨k, rfl⟩ : ∃ k, m = k + 1 := ⟨m - 1, by omega⟩
      have ek : (((k + 1 : Nat)) : Int) - 1 = (k : Int) := by omega
      rw [ek]
      have i4 : (0 : Int) ≤ (k : Int) := by omega
      have i5 : (k : Int) < (s.size : Int) := by omega
      have HI : Hid _ := hI
      have HTL : Hid _ := htl
      clear ek hI htl
      by_cases hir : i = r
      · have hir' : ((i : Int) == (r : Int)) = true := by rw [hir]; simp
        have HIR : Hid _ := hir
        clear hir
        go_wp2
        go_ret2
        exact ⟨_, 5, rfl, .inr ⟨rfl, rfl, RInv.none HI.out (by omega) HIR.out⟩, hb⟩
      · have hir' : ((i : Int) == (r : Int)) = false := by rw [beq_eq_false_iff_ne]; omega
        have hnx := ref_next (bl_lt s) (show r ≤ (bl s).length by rw [bl_length]; exact hr) (show i ≤ (bl s).length by rw [bl_length]; exact hi) hir
        rw [bl_length] at hnx
        have hni : 1 + before (bl s) (col r i) s.size ≤ s.size := by
          rw [hnx]
          have := (idx_of_mem ((Fo_mem (r := r) (bl_lt s) i).2 (by rw [bl_length]; exact hi))).1
          rw [Fo_length (bl_lt s), bl_length] at this
          omega
        have hstep := RInv.step HI.out (show k < s.size by omega) HTL.out
        have hcl : w.heap.size = w.heap.size := rfl
        have hcell : ∃ u, wr.cell? ⟨w.heap.size, k, none⟩ = some u := ⟨_, hB.cell (k := k) (by simp [UV, HTL.out]; omega)⟩
        obtain ⟨u, hcu⟩ := hcell
        have hfz := hB.free k
        have hBs := hB.set k (.int .u8 (num (bl s) (col r i) : Nat))
        have eUV : (UV tx).set k (.int .u8 (num (bl s) (col r i) : Nat)) = UV (tx.set k (num (bl s) (col r i))) := by
          unfold UV; rw [List.map_set]
        rw [eUV] at hBs
        have hbs : Below w.heap.size w (wr.setCell ⟨w.heap.size, k, none⟩ (.int .u8 (num (bl s) (col r i) : Nat))) := hb.setCell (p := ⟨w.heap.size, k, none⟩) (Nat.le_refl _) _
        have HST : Hid _ := hstep
        have HBS : Hid _ := hBs
        have HbS : Hid _ := hbs
        have HNI : Hid _ := hni
        clear hnx hni hstep hBs hbs eUV hcl hB HI
        by_cases hlt : i < r
        · have ej : col r i = i := by unfold col; rw [if_pos hlt]
          rw [ej] at HST HBS HbS HNI
          have hj : i < s.size := by omega
          have q0 : ¬ (r : Int) < (i : Int) := by omega
          have q1 : (i : Int) < (s.size : Int) := by omega
          have ec : num (bl s) i = s[i].toNat := bl_num hj
          rw [ec] at HST HBS HbS
          have HEC : Hid _ := ec
          have HEJ : Hid _ := ej
          clear ec ej
          go_wp2_with fail
          go_loopw [12, 13] (fun nv mv w2 => ∃ q : Nat, q ≤ s.size ∧ mv = .int .i64 q ∧ nv = .int .i64 ((1 + before (bl s) i q : Nat) : Int) ∧ w2 = wr.setCell ⟨w.heap.size, k, none⟩ (.int .u8 ((s[i].toNat : Nat) : Int))) (fun _ mv _ => s.size - (intOf mv).toNat)
          case atStart => exact ⟨0, Nat.zero_le _, rfl, rfl, rfl⟩
          case round =>
            obtain ⟨q, hq, rfl, rfl, rfl⟩ := hrel
            by_cases hqn : q < s.size
            · have hbq : num (bl s) q = s[q].toNat := bl_num hqn
              have hsu := before_succ (bl s) i q
              rw [hbq, HEC.out] at hsu
              have hbl := before_le (bl s) i q
              have q5 : (q : Int) < (s.size : Int) := by omega
              have v5 : IntKind.i64.wrap (((1 + before (bl s) i q : Nat) : Int) + 1) = ((1 + before (bl s) i q : Nat) : Int) + 1 := by rw [IntKind.wrap_i64]; omega
              by_cases ca : s[q].toNat < s[i].toNat
              · rw [if_pos (Or.inl ca)] at hsu
                have HSU : Hid _ := hsu
                have da : ((s[q].toNat : Nat) : Int) < ((s[i].toNat : Nat) : Int) := by omega
                clear hsu hbq
                go_wp2
                go_roundw
                case rel => exact ⟨q + 1, by omega, by go_num, by rw [HSU.out]; go_num, trivial⟩
                case measure => simp [intOf]; omega
              · have da : ¬ s[q].toNat < s[i].toNat := ca
                by_cases cb : s[q].toNat = s[i].toNat
                · by_cases cc : q < i
                  · rw [if_pos (Or.inr ⟨cb, cc⟩)] at hsu
                    have HSU : Hid _ := hsu
                    have db : (((s[q].toNat : Nat) : Int) == ((s[i].toNat : Nat) : Int)) = true := by rw [cb]; simp
                    have dc : (q : Int) < ((i : Nat) : Int) := by omega
                    clear hsu hbq cb
                    go_wp2
                    go_roundw
                    case rel => exact ⟨q + 1, by omega, by go_num, by rw [HSU.out]; go_num, trivial⟩
                    case measure => simp [intOf]; omega
                  · rw [if_neg (by omega)] at hsu
                    have HSU : Hid _ := hsu
                    have db : (((s[q].toNat : Nat) : Int) == ((s[i].toNat : Nat) : Int)) = true := by rw [cb]; simp
                    have dc : ¬ (q : Int) < ((i : Nat) : Int) := by omega
                    clear hsu hbq cb
                    go_wp2
                    go_roundw
                    case rel => exact ⟨q + 1, by omega, by go_num, by rw [HSU.out]; rfl, trivial⟩
                    case measure => simp [intOf]; omega
                · rw [if_neg (by omega)] at hsu
                  have HSU : Hid _ := hsu
                  have db : (((s[q].toNat : Nat) : Int) == ((s[i].toNat : Nat) : Int)) = false := by rw [beq_eq_false_iff_ne]; omega
                  clear hsu hbq cb
                  go_wp2
                  go_roundw
                  case rel => exact ⟨q + 1, by omega, by go_num, by rw [HSU.out]; rfl, trivial⟩
                  case measure => simp [intOf]; omega
            · have hqe : q = s.size := by omega
              subst hqe
              have q5 : ¬ ((s.size : Nat) : Int) < (s.size : Int) := by omega
              have v6 : IntKind.i64.wrap ((k : Int) - 1) = (k : Int) - 1 := by rw [IntKind.wrap_i64]; omega
              go_wp2
              go_roundw
              case rel => exact ⟨k, 1 + before (bl s) i s.size, _, by omega, rfl, rfl, HNI.out, by rw [List.length_set]; exact HTL.out, HBS.out, HST.out, HbS.out⟩
              case measure => simp [intOf]
        · have ej : col r i = i - 1 := by unfold col; rw [if_neg hlt]
          rw [ej] at HST HBS HbS HNI
          have hj : i - 1 < s.size := by omega
          have q0 : (r : Int) < (i : Int) := by omega
          have q2 : IntKind.i64.wrap ((i : Int) - 1) = ((i - 1 : Nat) : Int) := by rw [IntKind.wrap_i64]; omega
          have q1 : ((i - 1 : Nat) : Int) < (s.size : Int) := by omega
          have ec : num (bl s) (i - 1) = s[i - 1].toNat := bl_num hj
          rw [ec] at HST HBS HbS
          have HEC : Hid _ := ec
          have HEJ : Hid _ := ej
          clear ec ej
          go_wp2_with fail
          go_loopw [12, 13] (fun nv mv w2 => ∃ q : Nat, q ≤ s.size ∧ mv = .int .i64 q ∧ nv = .int .i64 ((1 + before (bl s) (i - 1) q : Nat) : Int) ∧ w2 = wr.setCell ⟨w.heap.size, k, none⟩ (.int .u8 ((s[i - 1].toNat : Nat) : Int))) (fun _ mv _ => s.size - (intOf mv).toNat)
          case atStart => exact ⟨0, Nat.zero_le _, rfl, rfl, rfl⟩
          case round =>
            obtain ⟨q, hq, rfl, rfl, rfl⟩ := hrel
            by_cases hqn : q < s.size
            · have hbq : num (bl s) q = s[q].toNat := bl_num hqn
              have hsu := before_succ (bl s) (i - 1) q
              rw [hbq, HEC.out] at hsu
              have hbl := before_le (bl s) (i - 1) q
              have q5 : (q : Int) < (s.size : Int) := by omega
              have v5 : IntKind.i64.wrap (((1 + before (bl s) (i - 1) q : Nat) : Int) + 1) = ((1 + before (bl s) (i - 1) q : Nat) : Int) + 1 := by rw [IntKind.wrap_i64]; omega
              by_cases ca : s[q].toNat < s[i - 1].toNat
              · rw [if_pos (Or.inl ca)] at hsu
                have HSU : Hid _ := hsu
                have da : ((s[q].toNat : Nat) : Int) < ((s[i - 1].toNat : Nat) : Int) := by omega
                clear hsu hbq
                go_wp2
                go_roundw
                case rel => exact ⟨q + 1, by omega, by go_num, by rw [HSU.out]; go_num, trivial⟩
                case measure => simp [intOf]; omega
              · have da : ¬ s[q].toNat < s[i - 1].toNat := ca
                by_cases cb : s[q].toNat = s[i - 1].toNat
                · by_cases cc : q < i - 1
                  · rw [if_pos (Or.inr ⟨cb, cc⟩)] at hsu
                    have HSU : Hid _ := hsu
                    have db : (((s[q].toNat : Nat) : Int) == ((s[i - 1].toNat : Nat) : Int)) = true := by rw [cb]; simp
                    have dc : (q : Int) < ((i - 1 : Nat) : Int) := by omega
                    clear hsu hbq cb
                    go_wp2
                    go_roundw
                    case rel => exact ⟨q + 1, by omega, by go_num, by rw [HSU.out]; go_num, trivial⟩
                    case measure => simp [intOf]; omega
                  · rw [if_neg (by omega)] at hsu
                    have HSU : Hid _ := hsu
                    have db : (((s[q].toNat : Nat) : Int) == ((s[i - 1].toNat : Nat) : Int)) = true := by rw [cb]; simp
                    have dc : ¬ (q : Int) < ((i - 1 : Nat) : Int) := by omega
                    clear hsu hbq cb
                    go_wp2
                    go_roundw
                    case rel => exact ⟨q + 1, by omega, by go_num, by rw [HSU.out]; rfl, trivial⟩
                    case measure => simp [intOf]; omega
                · rw [if_neg (by omega)] at hsu
                  have HSU : Hid _ := hsu
                  have db : (((s[q].toNat : Nat) : Int) == ((s[i - 1].toNat : Nat) : Int)) = false := by rw [beq_eq_false_iff_ne]; omega
                  clear hsu hbq cb
                  go_wp2
                  go_roundw
                  case rel => exact ⟨q + 1, by omega, by go_num, by rw [HSU.out]; rfl, trivial⟩
                  case measure => simp [intOf]; omega
            · have hqe : q = s.size := by omega
              subst hqe
              have q5 : ¬ ((s.size : Nat) : Int) < (s.size : Int) := by omega
              have v6 : IntKind.i64.wrap ((k : Int) - 1) = (k : Int) - 1 := by rw [IntKind.wrap_i64]; omega
              go_wp2
              go_roundw
              case rel => exact ⟨k, 1 + before (bl s) (i - 1) s.size, _, by omega, rfl, rfl, HNI.out, by rw [List.length_set]; exact HTL.out, HBS.out, HST.out, HbS.out⟩
              case measure => simp [intOf]
    · have hm0 : m = 0 := by omega
      subst hm0
      have htb : tx.length ≤ 1000000 := by omega
      have hcv := convert_own (own_B hB htb)
      rw [htl] at hcv
      obtain ⟨o, ho⟩ := exists_SA (bl (ofL tx))
      have hsz : (ofL tx).size ≤ 1000 := by rw [ofL_size]; omega
      have C := fun W => refTurn_any (ofL tx) o ho W hsz
      have hMA : IsMA (bl (ofL tx)) ((ofL tx).size :: o) := by have := IsMA.of_SA ho; rwa [bl_length] at this
      obtain ⟨R, hRe⟩ : ∃ R, R = (ofL tx).size :: o := ⟨_, rfl⟩
      rw [← hRe] at hMA
      simp only [← hRe] at C
      have hLb : ∀ x ∈ turnL (bl (ofL tx)) R, x < 256 := fun x hx => by
        obtain ⟨a1, a2⟩ := idx_of_mem hx
        rw [← a2]; exact turnL_lt hMA (bl_lt _) (by omega) _
      obtain ⟨L', hLe⟩ : ∃ L', L' = turnL (bl (ofL tx)) R := ⟨_, rfl⟩
      obtain ⟨r', hre⟩ : ∃ r', r' = R.idxOf 0 := ⟨_, rfl⟩
      rw [← hLe] at hLb
      simp only [← hLe, ← hre] at C
      have hTn : Tn (bl (ofL tx)) L' r' := ⟨R, hMA, hLe, hre⟩
      have hno : ¬ (ofL L' = s ∧ r' = r) → ∀ t', ¬ Texts s (r : Int) t' := fun hne t' ht => by
        have e := RInv.done hI htl ht
        obtain ⟨_, R2, hR2, f1, f2⟩ := ht
        rw [e] at hR2 f1
        rw [Int.toNat_natCast] at f2
        have := hR2.unique hMA
        subst this
        refine hne ⟨?_, by rw [hre, f2]⟩
        rw [hLe, ← f1, ofL_bl]
      have HC : Hid _ := C
      have HTN : Hid _ := hTn
      have HNO : Hid _ := hno
      have HLB : Hid _ := hLb
      have i4 : ¬ (0 : Int) ≤ ((0 : Nat) : Int) - 1 := by omega
      have HBk : Hid (Blk wr w.heap.size 5 (UV tx)) := hB
      have HTL : Hid _ := htl
      clear C hMA hRe hLe hre hTn hno hLb ho hI htl hB
      go_wp2_with fail
      refine Calls.mono (HC.out _) ?_
      rintro e w2 ⟨rfl, hb2⟩
      by_cases h1 : ofL L' = s
      · have e1 : ((ofL L').toList == s.toList) = true := by rw [str_eq, decide_eq_true h1]
        have H1 : Hid _ := h1
        by_cases h2 : r' = r
        · have e2 : ((r' : Int) == (r : Int)) = true := by rw [h2]; simp
          have H2 : Hid _ := h2
          have hcv2 := convert_own (own_B (Blk.later HBk.out hb2) htb)
          rw [HTL.out] at hcv2
          clear h1 h2
          go_wp2
          go_ret2
          refine ⟨ofL tx, 0, rfl, .inl ⟨rfl, by omega, ?_⟩, Below.later hb hb2⟩
          rw [Int.toNat_natCast, ← H2.out]
          have : bl s = L' := by rw [← H1.out, bl_ofL HLB.out]
          rw [this]
          exact HTN.out
        · have e2 : ((r' : Int) == (r : Int)) = false := by rw [beq_eq_false_iff_ne]; omega
          have H2 : Hid _ := h2
          clear h1 h2
          go_wp2
          go_ret2
          exact ⟨_, 5, rfl, .inr ⟨rfl, rfl, HNO.out (fun q => H2.out q.2)⟩, Below.later hb hb2⟩
      · have e1 : ((ofL L').toList == s.toList) = false := by rw [str_eq, decide_eq_false h1]
        have H1 : Hid _ := h1
        clear h1
        go_wp2
        go_ret2
        exact ⟨_, 5, rfl, .inr ⟨rfl, rfl, HNO.out (fun q => H1.out q.1)⟩, Below.later hb hb2⟩

set_option maxHeartbeats 1000000 in
theorem refUnturn_out (s : ByteArray) (n : Int) (w : World) (hs : s.size ≤ 1000) (h : n < 0 ∨ (s.size : Int) < n) :
    Calls Try.prog 60 #[.string s, .int .i64 n] w fun e w' => e = .returned (.tuple #[.string ⟨#[]⟩, .int .i64 5]) ∧ Below w.heap.size w w' := by
  have i1 : (s.size : Int) ≤ 1000 := by omega
  by_cases h1 : n < 0
  · go_enter Try.func60, Try.ntmps60
    go_wp2
    go_ret2
    exact ⟨rfl, Below.refl _ _⟩
  · have h2 : (s.size : Int) < n := h.resolve_left h1
    clear h
    go_enter Try.func60, Try.ntmps60
    go_wp2
    go_ret2
    exact ⟨rfl, Below.refl _ _⟩
theorem refUnturn_any (s : ByteArray) (n : Int) (w : World) (hs : s.size ≤ 1000) : Calls Try.prog 60 #[.string s, .int .i64 n] w (Unturns s n w) := by
  by_cases h : n < 0 ∨ (s.size : Int) < n
  · refine (refUnturn_out s n w hs h).mono ?_
    rintro e w' ⟨rfl, hb⟩
    refine ⟨_, 5, rfl, .inr ⟨rfl, rfl, fun t' ht => ?_⟩, hb⟩
    have := ht.1
    have := (tn_sizes ht.2).2
    rw [bl_length] at this
    omega
  · obtain ⟨r, rfl⟩ : ∃ r : Nat, n = (r : Int) := ⟨n.toNat, by omega⟩
    exact refUnturn_in s r w hs (by omega)
set_option maxHeartbeats 1000000 in
theorem refUnturn_long (s : ByteArray) (n : Int) (w : World) (hs : 1000 < s.size) :
    Calls Try.prog 60 #[.string s, .int .i64 n] w fun e w' => e = .returned (.tuple #[.string ⟨#[]⟩, .int .i64 2]) ∧ Below w.heap.size w w' := by
  have i1 : (1000 : Int) < (s.size : Int) := by omega
  go_enter Try.func60, Try.ntmps60
  go_wp2
  go_ret2
  exact ⟨rfl, Below.refl _ _⟩
end Go.Proofs.Ytepklbboejnecaa
