/- Back. -/
import Derived.Test.YtepklbboejnecaaZf
import Derived.Deep.WholeRow
namespace Go.Proofs.Ytepklbboejnecaa
open Go.RowKit Go.Shelf Sedge
attribute [local go_sem ↓] Go.wp_at_zero Go.wp_at_succ

/-- 256 numbers. -/
def OV (f : Nat → Int) : List Value := (List.range 256).map fun c => .int .i64 (f c)
theorem OV_length (f : Nat → Int) : (OV f).length = 256 := by simp [OV]
theorem OV_set {f : Nat → Int} {c : Nat} {v : Int} : (OV f).set c (.int .i64 v) = OV fun x => if x = c then v else f x := by
  apply List.ext_getElem?
  intro i
  by_cases hi : i < 256
  · by_cases e : c = i
    · subst e; simp [OV, hi]
    · rw [List.getElem?_set_ne e]
      simp [OV, hi]
      intro h; exact absurd h.symm e
  · rw [List.getElem?_eq_none (by rw [List.length_set, OV_length]; omega), List.getElem?_eq_none (by rw [OV_length]; omega)]
theorem OV_at {w : World} {g : Nat} {T : TypeId} {f : Nat → Int} (h : Blk w g T (OV f)) {c : Nat} (hc : c < 256) : w.cell? ⟨g, c, none⟩ = some (.int .i64 (f c)) := by
  rw [h.cell (k := c) (by rw [OV_length]; exact hc)]
  simp [OV]
theorem Try.zero256 : (Try.prog.info? 59).map (fun i => (i.zero, i.size)) = some (some (.agg (OV fun _ => 0).toArray), 256) := by kernel_rfl

theorem turn_perm {l R : List Nat} (h : IsMA l R) (c : Nat) : (turnL l R).count c = l.count c := by
  have e : l = (List.range l.length).map (num l) := by
    apply List.ext_getElem (by simp)
    intro i h1 h2
    simp [num_eq h1]
  have hp : ((R.filter fun p => p != 0).map fun p => p - 1).Perm (List.range l.length) := by
    refine (List.perm_ext_iff_of_nodup ?_ List.nodup_range).2 fun x => ?_
    · refine List.Pairwise.map _ ?_ (List.Pairwise.imp_of_mem (S := fun a b : Nat => a ≠ b ∧ a ≠ 0 ∧ b ≠ 0) (fun {a b} ha hb hab => ⟨hab, by simpa using (List.mem_filter.1 ha).2, by simpa using (List.mem_filter.1 hb).2⟩) (h.nodup.filter _))
      rintro a b ⟨h1, h2, h3⟩; omega
    · rw [List.mem_map, List.mem_range]
      constructor
      · rintro ⟨p, hp, rfl⟩
        have h1 := (h.2 p).1 (List.mem_filter.1 hp).1
        have h2 : p ≠ 0 := by simpa using (List.mem_filter.1 hp).2
        omega
      · intro hx
        exact ⟨x + 1, List.mem_filter.2 ⟨(h.2 _).2 (by omega), by simp⟩, by omega⟩
  have e2 : turnL l R = ((R.filter fun p => p != 0).map fun p => p - 1).map (num l) := by
    unfold turnL; rw [List.map_map]; rfl
  rw [e2]
  conv => rhs; rw [e]
  exact (hp.map (num l)).count_eq c
/-- How much oftener a byte stands in one text than in another. -/
def often (a b : List Nat) (k : Nat) (c : Nat) : Int := ((a.take k).count c : Int) - ((b.take k).count c : Int)
theorem count_take_succ {a : List Nat} {k : Nat} (h : k < a.length) (c : Nat) : (a.take (k + 1)).count c = (a.take k).count c + if c = num a k then 1 else 0 := by
  rw [take_num h, List.count_append]
  congr 1
  by_cases e : c = num a k
  · subst e; simp
  · rw [if_neg e, List.count_eq_zero]; simpa using e

theorem unturn_tell (s : ByteArray) (n : Int) : ∃ t k, (∀ w, Calls Try.prog 32 #[.string s, .int .i64 n] w fun e w' => e = .returned (.tuple #[.string t, .int .i64 k]) ∧ Below w.heap.size w w') ∧ ((k = 0 ∧ s.size ≤ 1000 ∧ Texts s n t) ∨ (t = ⟨#[]⟩ ∧ (k = 5 ∨ k = 2))) := by
  by_cases h : 1000 < s.size
  · exact ⟨_, _, fun w => Unturn_long s n w h, .inr ⟨rfl, .inr rfl⟩⟩
  · by_cases ht : ∃ t, Texts s n t
    · obtain ⟨t, ht⟩ := ht
      have key : ∀ w e w', Unturns s n w e w' → e = .returned (.tuple #[.string t, .int .i64 0]) ∧ Below w.heap.size w w' := by
        rintro w e w' ⟨t', k, rfl, hk, hb⟩
        rcases hk with ⟨rfl, h1⟩ | ⟨_, _, h1⟩
        · rw [Texts.inj h1 ht]; exact ⟨rfl, hb⟩
        · exact absurd ht (h1 t)
      exact ⟨t, 0, fun w => (Unturn_any s n w (by omega)).mono (key w), .inl ⟨rfl, by omega, ht⟩⟩
    · have key : ∀ w e w', Unturns s n w e w' → e = .returned (.tuple #[.string ⟨#[]⟩, .int .i64 5]) ∧ Below w.heap.size w w' := by
        rintro w e w' ⟨t', k, rfl, hk, hb⟩
        rcases hk with ⟨rfl, h1⟩ | ⟨rfl, rfl, h1⟩
        · exact absurd ⟨t', h1⟩ ht
        · exact ⟨rfl, hb⟩
      exact ⟨_, _, fun w => (Unturn_any s n w (by omega)).mono (key w), .inr ⟨rfl, .inl rfl⟩⟩
theorem turn_texts (s t : ByteArray) (n : Int) (hs : s.size ≤ 1000) (h : Texts s n t) (w : World) : Calls Try.prog 31 #[.string t] w fun e w' => e = .returned (.tuple #[.string s, .int .i64 n, .int .i64 0]) ∧ Below w.heap.size w w' := by
  have hsz := (tn_sizes h.2).1
  rw [bl_length, bl_length] at hsz
  obtain ⟨o, ho⟩ := exists_SA (bl t)
  have hMA : IsMA (bl t) (t.size :: o) := by have := IsMA.of_SA ho; rwa [bl_length] at this
  have hn := h.1
  obtain ⟨R, hR, e1, e2⟩ := h.2
  have := hR.unique hMA
  subst this
  have hT := Turn_any t o ho w (by omega)
  rw [← e1, ← e2, ofL_bl, Int.toNat_of_nonneg hn] at hT
  exact hT

set_option maxRecDepth 100000 in
set_option maxHeartbeats 8000000 in
theorem keepBack_of (raw last : ByteArray) (row : Int) (w : World) (s : ByteArray) (hcut : cutTo raw = s) (hs : s.size ≤ 1000) (o : List Nat) (ho : IsSA (bl s) o) :
    Calls Try.prog 10 #[.string raw, .string last, .int .i64 row] w fun e w' => e = .returned (.bool true) ∧ Below w.heap.size w w' := by
  have hMA : IsMA (bl s) (s.size :: o) := by have := IsMA.of_SA ho; rwa [bl_length] at this
  have CT := fun W => Turn_any s o ho W hs
  obtain ⟨R, hRe⟩ : ∃ R, R = s.size :: o := ⟨_, rfl⟩
  rw [← hRe] at hMA
  simp only [← hRe] at CT
  have hLb : ∀ x ∈ turnL (bl s) R, x < 256 := fun x hx => by
    obtain ⟨a1, a2⟩ := idx_of_mem hx
    rw [← a2]; exact turnL_lt hMA (bl_lt _) (by omega) _
  have hLs : (ofL (turnL (bl s) R)).size = s.size := by rw [ofL_size, turnL_length hMA, bl_length]
  have hr0 := idx0_le hMA
  rw [bl_length] at hr0
  have hbl : bl (ofL (turnL (bl s) R)) = turnL (bl s) R := bl_ofL hLb
  have hT : Texts (ofL (turnL (bl s) R)) ((R.idxOf 0 : Nat) : Int) s := ⟨by omega, by rw [Int.toNat_natCast, hbl]; exact ⟨R, hMA, rfl, rfl⟩⟩
  have hcnt : ∀ c, (bl (ofL (turnL (bl s) R))).count c = (bl s).count c := fun c => by rw [hbl]; exact turn_perm hMA c
  generalize ofL (turnL (bl s) R) = L at CT hLs hT hcnt
  generalize R.idxOf 0 = r at CT hT hr0
  have CU := fun W => Unturn_any L (r : Int) W (by omega)
  have HC : Hid (cutTo raw = s) := hcut
  have HCT : Hid _ := CT
  have HCU : Hid _ := CU
  have HT : Hid _ := hT
  have HCN : Hid _ := hcnt
  have HLS : Hid _ := hLs
  clear hcut CT CU hT hcnt hLs hMA hLb hbl hRe ho
  go_enter Try.func10, Try.ntmps10
  go_wp2_with fail
  refine (short_any raw w).mono ?_
  rintro e w0 ⟨rfl, rfl⟩
  rw [HC.out]
  go_wp2_with fail
  refine (awake_any _).mono ?_
  rintro e w1 ⟨rfl, b1⟩
  go_wp2_with fail
  refine Calls.mono (HCT.out _) ?_
  rintro e w2 ⟨rfl, b2⟩
  have b02 := Below.later b1 b2
  clear b1 b2
  go_wp2_with fail
  refine Calls.mono (HCU.out _) ?_
  rintro e w3 ⟨t, k, rfl, hk, b3⟩
  have b03 := Below.later b02 b3
  have hk' : k = 0 ∧ t = s := by
    rcases hk with ⟨h1, h2⟩ | ⟨_, _, h2⟩
    · exact ⟨h1, Texts.inj h2 HT.out⟩
    · exact absurd HT.out (h2 s)
  obtain ⟨rfl, rfl⟩ := hk'
  have i1 := HLS.out
  have i2 : ¬ (t.size : Int) < (r : Int) := by omega
  obtain ⟨hz1, hz2⟩ := zero_of_info (P := Try.prog) Try.zero256
  clear b02 b3 hk
  go_wp2_with fail
  clear i1 i2 hz1 hz2
  have hbx : Blk (w3.alloc (Obj.cells (OV fun _ => 0).toArray 59)) w3.heap.size 59 (OV fun _ => 0) := Blk.new w3 _ _ rfl
  have hbb : Below w3.heap.size w3 (w3.alloc (Obj.cells (OV fun _ => 0).toArray 59)) := (Below.refl _ _).alloc (Nat.le_refl _) _
  go_loopw [15] (fun i wr => ∃ k : Nat, k ≤ t.size ∧ i = .int .i64 k ∧ Blk wr w3.heap.size 59 (OV (often (bl t) (bl L) k)) ∧ Below w3.heap.size w3 wr) (fun i _ => t.size - (intOf i).toNat)
  case atStart => exact ⟨0, Nat.zero_le _, rfl, by rw [show often (bl t) (bl L) 0 = fun _ => 0 from funext fun c => by simp [often]]; exact hbx, hbb⟩
  case round =>
    clear hbx hbb
    obtain ⟨k, hk, rfl, hB, hb⟩ := hrel
    by_cases hlt : k < t.size
    · have hltL : k < L.size := by rw [HLS.out]; exact hlt
      have q1 : (k : Int) < (t.size : Int) := by omega
      have q2 : (k : Int) < (L.size : Int) := by omega
      have e1 : num (bl t) k = t[k].toNat := bl_num hlt
      have e2 : num (bl L) k = L[k].toNat := bl_num hltL
      have c1 := t[k].toNat_lt
      have c2 := L[k].toNat_lt
      have q3 : ((t[k].toNat : Nat) : Int) < 256 := by omega
      have q4 : ((L[k].toNat : Nat) : Int) < 256 := by omega
      have hf : ∀ c, often (bl t) (bl L) (k + 1) c = often (bl t) (bl L) k c + (if c = t[k].toNat then 1 else 0) - (if c = L[k].toNat then 1 else 0) := fun c => by
        unfold often
        rw [count_take_succ (by rw [bl_length]; exact hlt), count_take_succ (by rw [bl_length]; exact hltL), e1, e2]
        split <;> split <;> omega
      have hbd : ∀ c, -1000 ≤ often (bl t) (bl L) k c ∧ often (bl t) (bl L) k c ≤ 1000 := fun c => by
        unfold often
        have h1 := List.count_le_length (a := c) (l := (bl t).take k)
        have h2 := List.count_le_length (a := c) (l := (bl L).take k)
        rw [List.length_take] at h1 h2
        omega
      have d1 := OV_at hB (show t[k].toNat < 256 by omega)
      have d2 := OV_at hB (show L[k].toNat < 256 by omega)
      have f1 := hB.free t[k].toNat
      have f2 := hB.free L[k].toNat
      have b1 := hbd t[k].toNat
      have b2 := hbd L[k].toNat
      have v1 : IntKind.i64.wrap (often (bl t) (bl L) k t[k].toNat + 1) = often (bl t) (bl L) k t[k].toNat + 1 := by rw [IntKind.wrap_i64]; omega
      have hs1 := hB.set t[k].toNat (.int .i64 (often (bl t) (bl L) k t[k].toNat + 1))
      rw [OV_set] at hs1
      have hb1 := hb.setCell (p := ⟨w3.heap.size, t[k].toNat, none⟩) (Nat.le_refl _) (.int .i64 (often (bl t) (bl L) k t[k].toNat + 1))
      by_cases hc : L[k].toNat = t[k].toNat
      · have v2 : IntKind.i64.wrap (often (bl t) (bl L) k t[k].toNat + 1 - 1) = often (bl t) (bl L) k t[k].toNat := by rw [IntKind.wrap_i64]; omega
        have hs2 := hs1.set t[k].toNat (.int .i64 (often (bl t) (bl L) k t[k].toNat))
        rw [OV_set] at hs2
        have hb2 := hb1.setCell (p := ⟨w3.heap.size, t[k].toNat, none⟩) (Nat.le_refl _) (.int .i64 (often (bl t) (bl L) k t[k].toNat))
        have ef : (fun x => if x = t[k].toNat then often (bl t) (bl L) k t[k].toNat else if x = t[k].toNat then often (bl t) (bl L) k t[k].toNat + 1 else often (bl t) (bl L) k x) = often (bl t) (bl L) (k + 1) := by
          funext x
          rw [hf x, hc]
          by_cases e : x = t[k].toNat
          · simp [e]
          · simp [e]
        rw [ef] at hs2
        have HBN : Hid _ := hs2
        have HbN : Hid _ := hb2
        clear hs1 hs2 hb1 hb2 ef hf hbd e1 e2 hB
        go_wp2
        go_roundw
        case rel => exact ⟨k + 1, by omega, by go_num, HBN.out, HbN.out⟩
        case measure => simp [intOf]; omega
      · have hc' : ¬ t[k].toNat = L[k].toNat := fun e => hc e.symm
        have v2 : IntKind.i64.wrap (often (bl t) (bl L) k L[k].toNat - 1) = often (bl t) (bl L) k L[k].toNat - 1 := by rw [IntKind.wrap_i64]; omega
        have hs2 := hs1.set L[k].toNat (.int .i64 (often (bl t) (bl L) k L[k].toNat - 1))
        rw [OV_set] at hs2
        have hb2 := hb1.setCell (p := ⟨w3.heap.size, L[k].toNat, none⟩) (Nat.le_refl _) (.int .i64 (often (bl t) (bl L) k L[k].toNat - 1))
        have ef : (fun x => if x = L[k].toNat then often (bl t) (bl L) k L[k].toNat - 1 else if x = t[k].toNat then often (bl t) (bl L) k t[k].toNat + 1 else often (bl t) (bl L) k x) = often (bl t) (bl L) (k + 1) := by
          funext x
          rw [hf x]
          by_cases e : x = L[k].toNat
          · subst e; simp [hc]
          · by_cases e' : x = t[k].toNat
            · subst e'; simp [hc']
            · simp [e, e']
        rw [ef] at hs2
        have HBN : Hid _ := hs2
        have HbN : Hid _ := hb2
        clear hs1 hs2 hb1 hb2 ef hf hbd e1 e2 hB
        go_wp2
        go_roundw
        case rel => exact ⟨k + 1, by omega, by go_num, HBN.out, HbN.out⟩
        case measure => simp [intOf]; omega
    · have hkt : k = t.size := by omega
      have hz : often (bl t) (bl L) k = fun _ => 0 := by
        funext c
        unfold often
        rw [List.take_of_length_le (by rw [bl_length]; omega), List.take_of_length_le (by rw [bl_length, HLS.out]; omega), HCN.out c]
        omega
      rw [hz] at hB
      have q1 : ¬ (k : Int) < (t.size : Int) := by omega
      have HB : Hid _ := hb
      have HBk : Hid (Blk wr w3.heap.size 59 (OV fun _ => 0)) := hB
      obtain ⟨t2, k2, cu, hcase⟩ := unturn_tell last row
      have HCU2 : Hid _ := cu
      have HCase : Hid _ := hcase
      clear hkt hz hb hB cu hcase HCU HCT HT HCN
      go_wp2_with fail
      go_loopw [16] (fun i w4 => ∃ c : Nat, c ≤ 256 ∧ i = .int .i64 c ∧ w4 = wr) (fun i _ => 256 - (intOf i).toNat)
      case atStart => exact ⟨0, by omega, rfl, rfl⟩
      case round =>
        obtain ⟨c, hc, rfl, rfl⟩ := hrel
        by_cases hclt : c < 256
        · have d := OV_at HBk.out hclt
          have q5 : (c : Int) < 256 := by omega
          have q6 : (0 : Int) ≤ (c : Int) := by omega
          go_wp2
          go_roundw
          case rel => exact ⟨c + 1, by omega, by go_num, trivial⟩
          case measure => simp [intOf]; omega
        · have q5 : ¬ (c : Int) < 256 := by omega
          go_wp2_with fail
          refine Calls.mono (HCU2.out _) ?_
          rintro e w5 ⟨rfl, b5⟩
          have b05 := Below.later (Below.later b03 HB.out) b5
          rcases HCase.out with ⟨h1, h2, h3⟩ | ⟨h1, h2 | h2⟩
          · subst h1
            have HT2 : Hid _ := fun W => turn_texts last t2 row h2 h3 W
            clear b5 h3
            go_wp2_with fail
            refine Calls.mono (HT2.out _) ?_
            rintro e w6 ⟨rfl, b6⟩
            go_wp2
            go_ret
            exact ⟨rfl, Below.later b05 b6⟩
          · subst h1; subst h2
            go_wp2
            go_ret
            exact ⟨rfl, b05⟩
          · subst h1; subst h2
            go_wp2
            go_ret
            exact ⟨rfl, b05⟩

theorem keepBack_any (raw last : ByteArray) (row : Int) (w : World) : Calls Try.prog 10 #[.string raw, .string last, .int .i64 row] w fun e w' => e = .returned (.bool true) ∧ Below w.heap.size w w' := by
  obtain ⟨o, ho⟩ := exists_SA (bl (cutTo raw))
  exact keepBack_of raw last row w _ rfl (cutTo_size raw) o ho
end Go.Proofs.Ytepklbboejnecaa
