/- How far each end agrees with the one ahead of it. -/
import Derived.Test.YtepklbboejnecaaGreatWq
namespace Go.Proofs.YtepklbboejnecaaGreat
open Go.RowKit Go.Shelf Sedge
attribute [local go_sem ↓] Go.wp_at_zero Go.wp_at_succ

theorem bl_extract (s : ByteArray) (a : Nat) : bl (s.extract a s.size) = (bl s).drop a := by
  apply List.ext_getElem
  · rw [bl_length, List.length_drop, bl_length]; simp
  · intro k h1 h2
    have h1' : k < (s.extract a s.size).size := by rw [bl_length] at h1; exact h1
    have h3 : a + k < s.size := by rw [List.length_drop, bl_length] at h2; omega
    rw [← num_eq h1, List.getElem_drop, ← num_eq (by rw [bl_length]; exact h3), bl_num h1', bl_num h3, ByteArray.getElem_extract]

/-- Ranks that are known of the first k places in order. -/
def rankTo (o : List Nat) (k p : Nat) : Nat := if p ∈ o.take k then o.idxOf p else 0
theorem rankTo_zero (o : List Nat) : rankTo o 0 = fun _ => 0 := by funext p; simp [rankTo]
theorem rankTo_succ {o : List Nat} {k : Nat} (hn : o.Nodup) (h : k < o.length) (p : Nat) : rankTo o (k + 1) p = if p = num o k then k else rankTo o k p := by
  unfold rankTo
  rw [take_num h]
  by_cases e : p = num o k
  · rw [if_pos (by simp [e]), if_pos e, e, idx_num hn h]
  · by_cases d : p ∈ o.take k
    · rw [if_pos (by simp [d]), if_neg e, if_pos d]
    · rw [if_neg (by simp [d, e]), if_neg e, if_neg d]
theorem rankTo_all {l o : List Nat} (h : IsSA l o) : tab l.length (rankTo o o.length) = tab l.length (rank o) :=
  tab_congr fun p hp => by unfold rankTo rank; rw [List.take_length, if_pos ((h.2 p).2 hp)]
/-- What is told of the ends at the first p places. -/
def cmTo (l o : List Nat) (p i : Nat) : Nat := if num o i < p then cm l o i else 0
theorem cmTo_zero (l o : List Nat) : cmTo l o 0 = fun _ => 0 := by funext i; simp [cmTo]
theorem cmTo_succ {l o : List Nat} (h : IsSA l o) {p : Nat} (hp : p < l.length) {i : Nat} (hi : i < l.length) : cmTo l o (p + 1) i = if i = rank o p then cm l o (rank o p) else cmTo l o p i := by
  obtain ⟨a1, a2⟩ := h.rank hp
  have hl := h.length
  unfold cmTo
  by_cases e : i = rank o p
  · rw [if_pos e, e, a2, if_pos (by omega)]
  · have : num o i ≠ p := fun c => e (by unfold rank; rw [← c, idx_num h.nodup (by omega)])
    rw [if_neg e]
    by_cases d : num o i < p
    · rw [if_pos d, if_pos (by omega)]
    · rw [if_neg d, if_neg (by omega)]
theorem cmTo_all {l o : List Nat} (h : IsSA l o) : tab l.length (cmTo l o l.length) = tab l.length (cm l o) :=
  tab_congr fun i hi => by unfold cmTo; rw [if_pos (h.num_lt (by rw [h.length]; exact hi))]
/-- How far the next end is known to agree. -/
def sm (l o : List Nat) (p : Nat) : Nat := if p = 0 then 0 else cm l o (rank o (p - 1)) - 1
theorem sm_succ (l o : List Nat) (p : Nat) : sm l o (p + 1) = cm l o (rank o p) - 1 := by simp [sm]
theorem sm_le {l o : List Nat} (h : IsSA l o) {p : Nat} (hp : p < l.length) : sm l o p ≤ cm l o (rank o p) := by
  cases p with
  | zero => simp [sm]
  | succ p => rw [sm_succ]; exact kasai h hp

set_option maxHeartbeats 2000000 in
/-- 'common'. -/
theorem common_any (s : ByteArray) (ad : Option Addr) (o : List Nat) (c : Nat) (w : World) (hn : s.size ≤ 1000000) (ho : Sl w ad o) (hSA : IsSA (bl s) o) :
    Calls Tryz.prog 61 #[.string s, .slice ad o.length c] w fun e w' => ∃ g, e = .returned (.slice (some ⟨g, 0, none⟩) o.length o.length) ∧ w.heap.size ≤ g ∧ Row w' g (tab o.length (cm (bl s) o)) ∧ Below w.heap.size w w' := by
  have hlen : o.length = s.size := by rw [hSA.length, bl_length]
  have HL : Hid (o.length = s.size) := hlen
  have hon : o.length ≤ 1000000 := by omega
  have hlt' : ∀ k, k < o.length → num o k < o.length := fun k hk => by have := hSA.num_lt hk; rw [bl_length] at this; omega
  clear hlen
  go_enter Tryz.func61, Tryz.ntmps61
  go_wp2_with (first | (at_make; refine wpList_make_row _ rfl _ _ rfl _ _ o.length rfl rfl rfl rfl hon ?_; intro w1 hrow hsz hbel) | fail)
  go_loopw [18] (fun i wr => ∃ k : Nat, k ≤ o.length ∧ i = .int .i64 k ∧ Row wr w.heap.size (tab o.length (rankTo o k)) ∧ Below w.heap.size w wr) (fun i _ => o.length - (intOf i).toNat)
  case atStart => exact ⟨0, Nat.zero_le _, rfl, by rw [rankTo_zero]; exact hrow, hbel⟩
  case round =>
    clear hrow hsz hbel
    obtain ⟨k, hk, rfl, hr, hb⟩ := hrel
    by_cases hlt : k < o.length
    · obtain ⟨b, o1, rfl, hc⟩ := ho k hlt
      have hc' := (hb.cell (cell_lt hc)).trans hc
      have hM := hlt' k hlt
      have hcell := hr.cell (k := num o k) (by rw [tab_length]; exact hM)
      have hf := Blk.free hr (num o k)
      have hr' := hr.set (num o k) k
      rw [tab_set (g := rankTo o (k + 1)) (fun j _ => rankTo_succ hSA.nodup hlt j)] at hr'
      have hb' := hb.setCell (p := ⟨w.heap.size, num o k, none⟩) (Nat.le_refl _) (.int .i64 k)
      clear hr hb hc
      go_wp2
      go_roundw
      case rel => exact ⟨k + 1, by omega, by go_num, hr', hb'⟩
      case measure => simp [intOf]; omega
    · have : k = o.length := by omega
      subst this
      have hr2 : Row wr w.heap.size (tab o.length (rank o)) := by
        have e := rankTo_all hSA
        rw [bl_length, ← HL.out] at e
        rwa [e] at hr
      clear hr
      go_wp2_with (first | (at_make; refine wpList_make_row _ rfl _ _ rfl _ _ o.length rfl rfl rfl rfl hon ?_; intro w2 hrow2 hsz2 hbel2) | fail)
      have hrk : Row w2 w.heap.size (tab o.length (rank o)) := Blk.later hr2 hbel2
      have hB2 := Below.later hb hbel2
      have hg2 : w.heap.size < wr.heap.size := Blk.lt hr2
      obtain ⟨g, hg⟩ : ∃ g, g = wr.heap.size := ⟨_, rfl⟩
      rw [← hg] at hrow2 hg2 ⊢
      clear hr2 hbel2 hb hsz2 hg
      go_loopw [9, 33] (fun sv i wr => ∃ p : Nat, p ≤ o.length ∧ i = .int .i64 p ∧ sv = .int .i64 (sm (bl s) o p) ∧ Row wr w.heap.size (tab o.length (rank o)) ∧ Row wr g (tab o.length (cmTo (bl s) o p)) ∧ Below w.heap.size w wr) (fun _ i _ => o.length - (intOf i).toNat)
      case atStart => exact ⟨0, Nat.zero_le _, rfl, rfl, hrk, by rw [cmTo_zero]; exact hrow2, hB2⟩
      case round =>
        clear hrk hrow2 hB2
        obtain ⟨p, hp, rfl, rfl, hrk, hcm, hB⟩ := hrel
        by_cases hlt : p < o.length
        · have hpl : p < (bl s).length := by rw [bl_length, ← HL.out]; exact hlt
          obtain ⟨r1, r2⟩ := hSA.rank hpl
          have hrc := Row.cell hrk (k := p) (by rw [tab_length]; exact hlt)
          rw [tab_num hlt] at hrc
          have hsm := sm_le hSA hpl
          have hcml := cm_le (bl s) o (rank o p)
          rw [r2, bl_length] at hcml
          have hlp : (bl s).length = o.length := by rw [bl_length]; exact HL.out.symm
          by_cases h0 : rank o p = 0
          · have e1 : cm (bl s) o (rank o p) = 0 := by rw [h0]; simp [cm]
            have e2 : tab o.length (cmTo (bl s) o (p + 1)) = tab o.length (cmTo (bl s) o p) := tab_congr fun i hi => by
              rw [cmTo_succ hSA hpl (by omega)]
              split
              · rename_i e; rw [e1, e]; unfold cmTo; rw [r2, if_neg (by omega)]
              · rfl
            rw [h0, Int.natCast_zero] at hrc
            have HE : Hid (tab o.length (cmTo (bl s) o (p + 1)) = tab o.length (cmTo (bl s) o p)) := e2
            have HS : Hid (sm (bl s) o (p + 1) = 0) := by unfold Hid; rw [sm_succ, e1]
            clear e1 e2 h0 r1 r2 hsm hcml hlp
            go_wp2
            go_roundw
            case rel => exact ⟨p + 1, by omega, by go_num, by rw [HS.out]; rfl, hrk, by rw [HE.out]; exact hcm, hB⟩
            case measure => simp [intOf]; omega
          · obtain ⟨b, o1, rfl, hc⟩ := ho (rank o p - 1) (by omega)
            have hc' := (hB.cell (cell_lt hc)).trans hc
            have hq := hlt' (rank o p - 1) (by omega)
            have hcmv : cm (bl s) o (rank o p) = lcp ((bl s).drop p) ((bl s).drop (num o (rank o p - 1))) := by unfold cm; rw [if_neg h0, r2]
            have hle2 := lcp_le_right ((bl s).drop p) ((bl s).drop (num o (rank o p - 1)))
            rw [← hcmv, List.length_drop, bl_length] at hle2
            have hdr := lcp_drop (k := sm (bl s) o p) (by rw [← hcmv]; exact hsm)
            rw [← hcmv, List.drop_drop, List.drop_drop] at hdr
            have hcc := Row.cell hcm (k := rank o p) (by rw [tab_length]; exact r1)
            have hff := Blk.free hcm (rank o p)
            have hcm' := Row.set hcm (rank o p) (cm (bl s) o (rank o p))
            rw [tab_set (g := cmTo (bl s) o (p + 1)) (fun j hj => cmTo_succ hSA hpl (by omega))] at hcm'
            generalize hqe : num o (rank o p - 1) = q at hc' hq hcmv hle2 hdr
            have hr0 : (((rank o p : Nat) : Int) == 0) = false := by rw [beq_eq_false_iff_ne]; omega
            have hL := HL.out
            have i1 : (p : Int) + (sm (bl s) o p : Nat) ≤ (s.size : Int) := by omega
            have i2 : (q : Int) + (sm (bl s) o p : Nat) ≤ (s.size : Int) := by omega
            have w1' : IntKind.i64.wrap ((p : Int) + (sm (bl s) o p : Nat)) = (p : Int) + (sm (bl s) o p : Nat) := by rw [IntKind.wrap_i64]; omega
            have w2' : IntKind.i64.wrap ((q : Int) + (sm (bl s) o p : Nat)) = (q : Int) + (sm (bl s) o p : Nat) := by rw [IntKind.wrap_i64]; omega
            have j1 : (0 : Int) ≤ (p : Int) + (sm (bl s) o p : Nat) := by omega
            have j2 : (0 : Int) ≤ (q : Int) + (sm (bl s) o p : Nat) := by omega
            have hsn : sm (bl s) o p ≤ 1000000 := by omega
            have hrn : rank o p ≤ 1000000 := by omega
            have hpos : 1 ≤ rank o p := by omega
            have HD : Hid _ := hdr
            have HC : Hid _ := hcm'
            have HV : Hid _ := hcmv
            clear hc hdr hcm' hcmv hqe hL h0 hlp
            obtain ⟨d, hd⟩ : ∃ d, cm (bl s) o (rank o p) = sm (bl s) o p + d := ⟨_, (Nat.add_sub_of_le hsm).symm⟩
            have CA : ∀ W : World, Calls Tryz.prog 97 #[.string (s.extract ((p : Int) + (sm (bl s) o p : Nat)).toNat s.size), .string (s.extract ((q : Int) + (sm (bl s) o p : Nat)).toNat s.size)] W fun e w' => e = .returned (.int .i64 (d : Nat)) ∧ Below W.heap.size W w' := fun W => by
              have h := alike_any (s.extract ((p : Int) + (sm (bl s) o p : Nat)).toNat s.size) (s.extract ((q : Int) + (sm (bl s) o p : Nat)).toNat s.size) W (by simp; omega) (by simp; omega)
              have e3 : lcp (bl (s.extract ((p : Int) + (sm (bl s) o p : Nat)).toNat s.size)) (bl (s.extract ((q : Int) + (sm (bl s) o p : Nat)).toNat s.size)) = d := by
                rw [bl_extract, bl_extract, show ((p : Int) + (sm (bl s) o p : Nat)).toNat = p + sm (bl s) o p by omega, show ((q : Int) + (sm (bl s) o p : Nat)).toNat = q + sm (bl s) o p by omega]
                have := HD.out
                omega
              rw [e3] at h
              exact h
            have HCA : Hid _ := CA
            have hdn : sm (bl s) o p + d ≤ 1000000 := by omega
            have w3' : IntKind.i64.wrap ((sm (bl s) o p : Nat) + (d : Int)) = (sm (bl s) o p : Nat) + (d : Int) := by rw [IntKind.wrap_i64]; omega
            have HCM : Hid (cm (bl s) o (rank o p) = sm (bl s) o p + d) := hd
            have hcz : ∀ W : World, Row W g (tab o.length (cmTo (bl s) o p)) → Row (W.setCell ⟨g, rank o p, none⟩ (.int .i64 (((sm (bl s) o p : Nat) : Int) + (d : Int)))) g (tab o.length (cmTo (bl s) o (p + 1))) := fun W hW => by
              have := Row.set hW (rank o p) (cm (bl s) o (rank o p))
              rw [tab_set (g := cmTo (bl s) o (p + 1)) (fun j hj => cmTo_succ hSA hpl (by rw [bl_length, ← HL.out]; exact hj)), hd, show (((sm (bl s) o p + d : Nat)) : Int) = ((sm (bl s) o p : Nat) : Int) + (d : Int) by omega] at this
              exact this
            have HCZ : Hid _ := hcz
            clear CA hd hcml hle2 HD HV HC hcz
            go_wp2_with fail
            go_region_held3 (fun _ => True) (trivial) (first | (go_at_call 97; refine (HCA.out _).mono ?_; rintro e w2 ⟨rfl, hb2⟩))
            have hcm2 : Row w2 g (tab o.length (cmTo (bl s) o p)) := Blk.later (Blk.drew hcm) hb2
            have hrk2 : Row w2 w.heap.size (tab o.length (rank o)) := Blk.later (Blk.drew hrk) hb2
            have hB2 : Below w.heap.size w w2 := Below.later hB.drew hb2
            have hcc2 := Row.cell hcm2 (k := rank o p) (by rw [tab_length]; exact r1)
            have hff2 := Blk.free hcm2 (rank o p)
            have hcm3 := HCZ.out w2 hcm2
            have hrk3 := Blk.other hrk2 (a := ⟨g, rank o p, none⟩) (by simp; omega) (.int .i64 (((sm (bl s) o p : Nat) : Int) + (d : Int)))
            have hB3 := hB2.setCell (p := ⟨g, rank o p, none⟩) (by simp; omega) (.int .i64 (((sm (bl s) o p : Nat) : Int) + (d : Int)))
            have HSM : Hid (sm (bl s) o (p + 1) = sm (bl s) o p + d - 1) := by unfold Hid; rw [sm_succ, HCM.out]
            clear hcm hrk hB hb2 hcm2 hrk2 hB2 hcc hff hrc hc' w1' w2' w3' HCA
            go_wp2
            go_roundw
            case rel => exact ⟨p + 1, by omega, by go_num, by rw [HSM.out]; congr 1; split <;> omega, hrk3, hcm3, hB3⟩
            case measure => simp [intOf]; omega
        · have : p = o.length := by omega
          subst this
          have e := cmTo_all hSA
          rw [bl_length, ← HL.out] at e
          rw [e] at hcm
          go_wp2
          go_ret
          exact ⟨g, rfl, by omega, hcm, hB⟩
end Go.Proofs.YtepklbboejnecaaGreat
