/- Several texts as one. -/
import Derived.Test.YtepklbboejnecaaWs
import Derived.Test.YtepklbboejnecaaM
import Derived.Test.YtepklbboejnecaaF
import Derived.Test.YtepklbboejnecaaYa
import Derived.Test.YtepklbboejnecaaZa
/- Pieces: the nearest ends that begin earlier. -/
namespace Go.Proofs.Ytepklbboejnecaa
open Go.RowKit Go.Shelf Sedge
attribute [local go_sem ↓] Go.wp_at_zero Go.wp_at_succ

set_option maxRecDepth 20000 in
set_option maxHeartbeats 4000000 in
/-- 'sameAhead'. -/
theorem sameAhead_any (s : ByteArray) (ad ad' : Option Addr) (o : List Nat) (c c' k : Nat) (w : World) (hT : Tab w s ad ad' o) (hs : s.size ≤ 1000) (hk : k < o.length) :
    Calls Try.prog 155 #[tv s ad ad' o.length c c', .int .i64 k] w fun e w' => ∃ r : Nat, e = .returned (.int .i64 r) ∧ AheadMost (bl s) o k r ∧ Below w.heap.size w w' := by
  have hol : o.length = s.size := by have := hT.sa.length; rwa [bl_length] at this
  have hb0 : Below w.heap.size w (w.alloc (Obj.cells #[.string s, .slice ad o.length c, .slice ad' o.length c'] 91)) := (Below.refl _ _).alloc (Nat.le_refl _) _
  have hbx : Blk (w.alloc (Obj.cells #[.string s, .slice ad o.length c, .slice ad' o.length c'] 91)) w.heap.size 91 [.string s, .slice ad o.length c, .slice ad' o.length c'] := Blk.new w _ _ rfl
  have HSA : Hid _ := hT.sa
  have HORD : Hid _ := hT.ord
  have HCOM : Hid _ := hT.com
  have HOL : Hid _ := hol
  have HBX : Hid _ := hbx
  obtain ⟨x0, x1, x2⟩ := cells3 hbx
  clear hT hol
  unfold tv
  go_enter Try.func155, Try.ntmps155
  go_wp2_with fail
  generalize (w.alloc (Obj.cells #[.string s, .slice ad o.length c, .slice ad' o.length c'] 91)) = w1 at hb0 hbx x0 x1 x2 HBX ⊢
  go_loopw [5, 6] (fun sv iv wr => ∃ q i : Nat, sv = .int .i64 q ∧ iv = .int .i64 i ∧ q ≤ s.size ∧ GoA (bl s) o k i q ∧ Blk wr w.heap.size 91 [.string s, .slice ad o.length c, .slice ad' o.length c'] ∧ Below w.heap.size w wr) (fun _ iv _ => (intOf iv).toNat)
  case atStart => exact ⟨s.size, k, rfl, rfl, Nat.le_refl _, ⟨Nat.le_refl _, fun _ => (bl_length s).symm, fun h => by omega, fun j h1 h2 => by omega⟩, hbx, hb0⟩
  case round =>
    obtain ⟨q, i, rfl, rfl, hq, hG, hbr, hB⟩ := hrel
    clear x0 x1 x2 hbx hb0
    obtain ⟨x0, x1, x2⟩ := cells3 hbr
    have hik := hG.ik
    have HG : Hid _ := hG
    clear hG
    by_cases hlt : 0 < i
    · obtain ⟨b, o1, rfl, hc⟩ := HORD.out (i - 1) (by omega)
      obtain ⟨b9, o9, e9, hck⟩ := HORD.out k hk
      simp only [Option.some.injEq, Addr.mk.injEq, and_true] at e9
      obtain ⟨rfl, rfl⟩ := e9
      obtain ⟨b2, o2, rfl, hc2⟩ := HCOM.out i (by rw [tab_length]; omega)
      rw [tab_num (by omega)] at hc2
      have d1 := (hB.cell (cell_lt hc)).trans hc
      have d2 := (hB.cell (cell_lt hck)).trans hck
      have d3 := (hB.cell (cell_lt hc2)).trans hc2
      have i1 : (0 : Int) < (i : Int) := by omega
      have i2 : (i : Int) < (o.length : Int) := by omega
      have i3 : (0 : Int) ≤ (i : Int) := by omega
      have i4 : (i : Int) - 1 < (o.length : Int) := by omega
      have i5 : (0 : Int) ≤ (i : Int) - 1 := by omega
      have i6 : (k : Int) < (o.length : Int) := by omega
      have i7 : (0 : Int) ≤ (k : Int) := by omega
      have v1 : IntKind.i64.wrap ((i : Int) - 1) = (i : Int) - 1 := by rw [IntKind.wrap_i64]; have := HOL.out; omega
      have n1 : ((i : Int) - 1).toNat = i - 1 := by omega
      have hcl := cm_le (bl s) o i
      rw [bl_length] at hcl
      clear hc hck hc2
      go_wp2
      all_goals (
        go_quiet (fail)
        by_cases hl : num o (i - 1) < num o k
        · have j1 : (num o (i - 1) : Int) < (num o k : Int) := by omega
          have HF : Hid _ := HG.out.found HSA.out hk hlt hl
          go_wp2_with fail
          go_ret
          exact ⟨min q (cm (bl s) o i), congrArg (fun x : Int => Ending.returned (Value.int .i64 x)) (by omega), HF.out, hB.drewN _⟩
        · have j1 : ¬ (num o (i - 1) : Int) < (num o k : Int) := by omega
          have HN : Hid _ := HG.out.next HSA.out hk hlt hl
          go_wp2_with fail
          go_roundw
          case rel => exact ⟨min q (cm (bl s) o i), i - 1, congrArg (fun x : Int => Value.int .i64 x) (by omega), by go_num, by omega, HN.out, hbr.later ((Below.refl _ _).drewN _), hB.drewN _⟩
          case measure => simp [intOf]; omega)
    · have i1 : ¬ (0 : Int) < (i : Int) := by omega
      have e0 : i = 0 := by omega
      subst e0
      go_wp2
      go_ret
      exact ⟨0, rfl, HG.out.none, hB⟩

set_option maxRecDepth 20000 in
set_option maxHeartbeats 4000000 in
/-- 'sameBehind'. -/
theorem sameBehind_any (s : ByteArray) (ad ad' : Option Addr) (o : List Nat) (c c' k : Nat) (w : World) (hT : Tab w s ad ad' o) (hs : s.size ≤ 1000) (hk : k < o.length) :
    Calls Try.prog 156 #[tv s ad ad' o.length c c', .int .i64 k] w fun e w' => ∃ r : Nat, e = .returned (.int .i64 r) ∧ BehindMost (bl s) o k r ∧ Below w.heap.size w w' := by
  have hol : o.length = s.size := by have := hT.sa.length; rwa [bl_length] at this
  have hb0 : Below w.heap.size w (w.alloc (Obj.cells #[.string s, .slice ad o.length c, .slice ad' o.length c'] 91)) := (Below.refl _ _).alloc (Nat.le_refl _) _
  have hbx : Blk (w.alloc (Obj.cells #[.string s, .slice ad o.length c, .slice ad' o.length c'] 91)) w.heap.size 91 [.string s, .slice ad o.length c, .slice ad' o.length c'] := Blk.new w _ _ rfl
  have HSA : Hid _ := hT.sa
  have HORD : Hid _ := hT.ord
  have HCOM : Hid _ := hT.com
  have HOL : Hid _ := hol
  obtain ⟨x0, x1, x2⟩ := cells3 hbx
  have v0 : IntKind.i64.wrap ((k : Int) + 1) = (k : Int) + 1 := by rw [IntKind.wrap_i64]; omega
  clear hT hol
  unfold tv
  go_enter Try.func156, Try.ntmps156
  go_wp2_with fail
  generalize (w.alloc (Obj.cells #[.string s, .slice ad o.length c, .slice ad' o.length c'] 91)) = w1 at hb0 hbx x0 x1 x2 ⊢
  go_loopw [5, 6] (fun sv iv wr => ∃ q i : Nat, sv = .int .i64 q ∧ iv = .int .i64 i ∧ q ≤ s.size ∧ i ≤ o.length ∧ GoB (bl s) o k i q ∧ Blk wr w.heap.size 91 [.string s, .slice ad o.length c, .slice ad' o.length c'] ∧ Below w.heap.size w wr) (fun _ iv _ => o.length - (intOf iv).toNat)
  case atStart => exact ⟨s.size, k + 1, rfl, by go_num, Nat.le_refl _, by omega, ⟨by omega, fun _ => (bl_length s).symm, fun h => by omega, fun j h1 h2 => by omega⟩, hbx, hb0⟩
  case round =>
    obtain ⟨q, i, rfl, rfl, hq, hio, hG, hbr, hB⟩ := hrel
    clear x0 x1 x2 hbx hb0 v0
    obtain ⟨x0, x1, x2⟩ := cells3 hbr
    have hki := hG.ki
    have HG : Hid _ := hG
    clear hG
    by_cases hlt : i < o.length
    · obtain ⟨b, o1, rfl, hc⟩ := HORD.out i (by omega)
      obtain ⟨b9, o9, e9, hck⟩ := HORD.out k hk
      simp only [Option.some.injEq, Addr.mk.injEq, and_true] at e9
      obtain ⟨rfl, rfl⟩ := e9
      obtain ⟨b2, o2, rfl, hc2⟩ := HCOM.out i (by rw [tab_length]; omega)
      rw [tab_num (by omega)] at hc2
      have d1 := (hB.cell (cell_lt hc)).trans hc
      have d2 := (hB.cell (cell_lt hck)).trans hck
      have d3 := (hB.cell (cell_lt hc2)).trans hc2
      have i2 : (i : Int) < (o.length : Int) := by omega
      have i3 : (0 : Int) ≤ (i : Int) := by omega
      have i6 : (k : Int) < (o.length : Int) := by omega
      have i7 : (0 : Int) ≤ (k : Int) := by omega
      have v1 : IntKind.i64.wrap ((i : Int) + 1) = (i : Int) + 1 := by rw [IntKind.wrap_i64]; have := HOL.out; omega
      have hcl := cm_le (bl s) o i
      rw [bl_length] at hcl
      clear hc hck hc2
      go_wp2
      all_goals (
        go_quiet (fail)
        by_cases hl : num o i < num o k
        · have j1 : (num o i : Int) < (num o k : Int) := by omega
          have HF : Hid _ := HG.out.found HSA.out hlt hl
          go_wp2_with fail
          go_ret
          exact ⟨min q (cm (bl s) o i), congrArg (fun x : Int => Ending.returned (Value.int .i64 x)) (by omega), HF.out, hB.drewN _⟩
        · have j1 : ¬ (num o i : Int) < (num o k : Int) := by omega
          have HN : Hid _ := HG.out.next HSA.out hlt hl
          go_wp2_with fail
          go_roundw
          case rel => exact ⟨min q (cm (bl s) o i), i + 1, congrArg (fun x : Int => Value.int .i64 x) (by omega), by go_num, by omega, by omega, HN.out, hbr.later ((Below.refl _ _).drewN _), hB.drewN _⟩
          case measure => simp [intOf]; omega)
    · have i1 : ¬ (i : Int) < (o.length : Int) := by omega
      go_wp2
      go_ret
      exact ⟨0, rfl, HG.out.none hlt, hB⟩
end Go.Proofs.Ytepklbboejnecaa

/- Pieces: the longest part that stood there before. -/
namespace Go.Proofs.Ytepklbboejnecaa
open Go.RowKit Go.Shelf Sedge
attribute [local go_sem ↓] Go.wp_at_zero Go.wp_at_succ

/-- How many ends are ahead of an end is its own place in order. -/
theorem rank_of {s : ByteArray} {o : List Nat} {p k : Nat} (hS : IsSA (bl s) o) (hp : p < s.size) (h : AheadOf s (s.extract p s.size) o k) : k < o.length ∧ num o k = p := by
  obtain ⟨a1, a2⟩ := hS.rank (p := p) (by rw [bl_length]; exact hp)
  generalize Sedge.rank o p = i at a1 a2
  have hpat : bl (s.extract p s.size) = (bl s).drop p := bl_extract s p
  obtain ⟨h1, h2, h3⟩ := h
  rw [hpat] at h2 h3
  have hki : k = i := by
    rcases Nat.lt_trichotomy k i with c | c | c
    · have := hS.lt c a1
      rw [a2] at this
      exact absurd this (h3 k (Nat.le_refl _) (by omega))
    · exact c
    · have := h2 i c
      rw [a2] at this
      exact absurd this (lt_irr _)
  subst hki
  exact ⟨a1, a2⟩

set_option maxRecDepth 20000 in
set_option maxHeartbeats 4000000 in
/-- 'Earlier'. -/
theorem earlier_any (s : ByteArray) (ad ad' : Option Addr) (o : List Nat) (c c' p : Nat) (w : World) (hT : Tab w s ad ad' o) (hs : s.size ≤ 1000) (hcap : CapOf ad o.length c) (hp : p < s.size) :
    Calls Try.prog 136 #[tv s ad ad' o.length c c', .int .i64 p] w fun e w' => e = .returned (.tuple #[.int .i64 (bestTo (bl s) p p).1, .int .i64 (bestTo (bl s) p p).2]) ∧ Below w.heap.size w w' := by
  have hol : o.length = s.size := by have := hT.sa.length; rwa [bl_length] at this
  have hb0 : Below w.heap.size w (w.alloc (Obj.cells #[.string s, .slice ad o.length c, .slice ad' o.length c'] 91)) := (Below.refl _ _).alloc (Nat.le_refl _) _
  have hbx : Blk (w.alloc (Obj.cells #[.string s, .slice ad o.length c, .slice ad' o.length c'] 91)) w.heap.size 91 [.string s, .slice ad o.length c, .slice ad' o.length c'] := Blk.new w _ _ rfl
  have C := fun pat W h => tahead_any s pat ad ad' o c c' W h (by omega)
  have CA := fun k W h hk => sameAhead_any s ad ad' o c c' k W h hs hk
  have CB := fun k W h hk => sameBehind_any s ad ad' o c c' k W h hs hk
  have CP := fun pat W h hq => places_any s pat ad ad' o c c' W h hs hcap hq
  have HSA : Hid _ := hT.sa
  unfold tv at C CA CB CP ⊢
  have HC : Hid _ := C
  have HCA : Hid _ := CA
  have HCB : Hid _ := CB
  have HCP : Hid _ := CP
  have HOL : Hid _ := hol
  clear C CA CB CP hol hcap
  go_enter Try.func136, Try.ntmps136
  go_wp2_with fail
  generalize (w.alloc (Obj.cells #[.string s, .slice ad o.length c, .slice ad' o.length c'] 91)) = w1 at hb0 hbx ⊢
  have hT1 := hT.later hb0
  obtain ⟨x0, x1, x2⟩ := cells3 hbx
  have A1 : Below w1.heap.size w1 w1.drew := (Below.refl _ _).drew
  have HA1 : Hid _ := A1
  have l1 := hbx.lt
  have i1 : (p : Int) ≤ (s.size : Int) := by omega
  have i2 : (0 : Int) ≤ (p : Int) := by omega
  clear A1 hT
  go_cut [6] (fun x wx => ∃ k : Nat, x = .int .i64 k ∧ k < o.length ∧ num o k = p ∧ Tab wx s ad ad' o ∧ Blk wx w.heap.size 91 [.string s, .slice ad o.length c, .slice ad' o.length c'] ∧ Below w.heap.size w wx)
  case first =>
    go_region_held3 (fun w' => w'.cell? ⟨w.heap.size, 0, none⟩ = some (.string s) ∧ w'.cell? ⟨w.heap.size, 1, none⟩ = some (.slice ad o.length c) ∧ w'.cell? ⟨w.heap.size, 2, none⟩ = some (.slice ad' o.length c')) (go_keep)
      (first
        | (go_at_call 96; refine (HC.out _ w1.drew (hT1.later HA1.out)).mono ?_; rintro e w3 ⟨k, rfl, hk, hb3⟩; have hB3 := Below.later HA1.out hb3; obtain ⟨y0, y1, y2⟩ := cells3 (Blk.later hbx hB3); have HK : Hid _ := hk; clear hk))
    all_goals (go_wp2_with fail)
    all_goals go_meet
    all_goals (
      obtain ⟨q1, q2⟩ := rank_of HSA.out hp HK.out
      exact ⟨k, rfl, q1, q2, hT1.later hB3, Blk.later hbx hB3, Below.later hb0 hB3⟩)
  case rest =>
  obtain ⟨k, rfl, hk, hkp, hT2, hbx2, hB2⟩ := hcut
  clear x0 x1 x2 hbx hT1 hb0 HA1 l1
  obtain ⟨x0, x1, x2⟩ := cells3 hbx2
  have A2 : Below wc.heap.size wc wc.drew := (Below.refl _ _).drew
  have HA2 : Hid _ := A2
  have l1 := hbx2.lt
  clear A2
  go_wp2_with fail
  go_cut [5] (fun x wx => ∃ r : Nat, x = .int .i64 r ∧ (∀ q, q < p → lcp ((bl s).drop q) ((bl s).drop p) ≤ r) ∧ (0 < r → ∃ q, q < p ∧ lcp ((bl s).drop q) ((bl s).drop p) = r) ∧ Tab wx s ad ad' o ∧ Blk wx w.heap.size 91 [.string s, .slice ad o.length c, .slice ad' o.length c'] ∧ Below w.heap.size w wx)
  case first =>
    go_region_held3 (fun w' => w'.cell? ⟨w.heap.size, 0, none⟩ = some (.string s) ∧ w'.cell? ⟨w.heap.size, 1, none⟩ = some (.slice ad o.length c) ∧ w'.cell? ⟨w.heap.size, 2, none⟩ = some (.slice ad' o.length c')) (go_keep)
      (first
        | (go_at_call 155; refine (HCA.out k wc.drew (hT2.later HA2.out) hk).mono ?_; rintro e w3 ⟨r1, rfl, hr1, hb3⟩; have hB3 := Below.later HA2.out hb3; obtain ⟨y0, y1, y2⟩ := cells3 (Blk.later hbx2 hB3); have HR1 : Hid _ := hr1; clear hr1)
        | (go_at_call 156; refine (HCB.out k w3 (hT2.later hB3) hk).mono ?_; rintro e w4 ⟨r2, rfl, hr2, hb4⟩; have hB4 := Below.later hB3 hb4; obtain ⟨z0, z1, z2⟩ := cells3 (Blk.later hbx2 hB4); have HR2 : Hid _ := hr2; clear hr2))
    all_goals (go_wp2_with fail)
    all_goals go_meet
    all_goals (
      obtain ⟨q1, q2⟩ := most_of HSA.out hk hkp HR1.out HR2.out
      exact ⟨max r1 r2, congrArg (fun x : Int => Value.int .i64 x) (by omega), q1, q2, hT2.later hB4, Blk.later hbx2 hB4, Below.later hB2 hB4⟩)
  case rest =>
  obtain ⟨r, rfl, hr1, hr2, hT3, hbx3, hB3⟩ := hcut
  clear x0 x1 x2 hbx2 hT2 hB2 HA2 l1
  obtain ⟨x0, x1, x2⟩ := cells3 hbx3
  have HR1 : Hid _ := hr1
  have HR2 : Hid _ := hr2
  clear hr1 hr2
  by_cases h0 : r = 0
  · subst h0
    have HU : Hid (bestTo (bl s) p p = (0, 0)) := best_unique HR1.out (fun _ => rfl) (fun h => by omega)
    go_wp2
    go_ret2
    exact ⟨by rw [HU.out]; rfl, hB3⟩
  · have j0 : ¬ (r : Int) = 0 := by omega
    obtain ⟨q, hq, hqe⟩ := HR2.out (by omega)
    have hrl : p + r ≤ s.size := by
      have := lcp_le_right ((bl s).drop q) ((bl s).drop p)
      rw [List.length_drop, bl_length] at this; omega
    have hpl := plcs_first (x := bl s) (y := bl s) (n := r) (A := p) (by omega) (by rw [bl_length]; exact hrl) ⟨q, by rw [bl_length]; omega, by rw [lcp_comm]; omega⟩
    have hbe : bl (s.extract p (p + r)) = ((bl s).drop p).take r := bl_extract2 s p r
    rw [← hbe] at hpl
    have HF : Hid _ := hpl
    have HU : Hid (bestTo (bl s) p p = (num (plcs (bl s) (bl (s.extract p (p + r)))) 0, r)) := by
      have g1 : num (plcs (bl s) (bl (s.extract p (p + r)))) 0 < p := by
        by_cases c : num (plcs (bl s) (bl (s.extract p (p + r)))) 0 ≤ q
        · omega
        · have := hpl.2.2.2 q (by omega); rw [lcp_comm] at this; omega
      refine best_unique HR1.out (fun h => by omega) (fun _ => ⟨g1, ?_, fun k hk => by have := hpl.2.2.2 k hk; rw [lcp_comm] at this; omega⟩)
      have e1 := HR1.out _ g1
      have e2 := hpl.2.2.1
      rw [lcp_comm] at e2; omega
    have HQ : Hid (q < p ∧ lcp ((bl s).drop q) ((bl s).drop p) = r) := ⟨hq, hqe⟩
    have A4 : Below wc.heap.size wc wc.drew := (Below.refl _ _).drew
    have HA4 : Hid _ := A4
    have l1 := hbx3.lt
    have j1 : (p : Int) ≤ (p : Int) + (r : Int) := by omega
    have j2 : (p : Int) + (r : Int) ≤ (s.size : Int) := by omega
    have v1 : IntKind.i64.wrap ((p : Int) + (r : Int)) = (p : Int) + (r : Int) := by rw [IntKind.wrap_i64]; omega
    have n1 : ((p : Int) + (r : Int)).toNat = p + r := by omega
    have hps : 0 < (s.extract p (p + r)).size := by simp; omega
    clear hpl hq hqe A4 hbe
    go_wp2_with fail
    go_cut [4, 5] (fun x y wx => x = .int .i64 (bestTo (bl s) p p).1 ∧ y = .int .i64 (bestTo (bl s) p p).2 ∧ Below w.heap.size w wx)
    case first =>
      go_region_with
        (first
          | (go_at_call 62; refine (HCP.out _ _ (hT3.later HA4.out) hps).mono ?_; rintro e w3 ⟨v, rfl, hown, hb3⟩; have hB4 := Below.later HA4.out hb3; obtain ⟨y0, y1, y2⟩ := cells3 (Blk.later hbx3 hB4); obtain ⟨ad2, c2, rfl, hsl⟩ := own_sl hown; obtain ⟨b2, o2, rfl, hc2⟩ := hsl 0 HF.out.1; rw [Nat.add_zero] at hc2; have hlen : (0 : Int) < ((plcs (bl s) (bl (s.extract p (p + r)))).length : Int) := (by have := HF.out.1; omega); generalize (plcs (bl s) (bl (s.extract p (p + r)))).length = L at hlen ⊢; clear hown hsl))
      all_goals (go_wp2_with fail)
      all_goals go_meet
      all_goals exact ⟨congrArg (fun x : Nat × Nat => Value.int .i64 (x.1 : Nat)) HU.out.symm, congrArg (fun x : Nat × Nat => Value.int .i64 (x.2 : Nat)) HU.out.symm, Below.later hB3 hB4⟩
    case rest =>
    obtain ⟨rfl, rfl, hB5⟩ := hcut
    go_wp2
    go_ret2
    exact ⟨rfl, hB5⟩
end Go.Proofs.Ytepklbboejnecaa

/- Pieces: a text's factors. -/
namespace Go.Proofs.Ytepklbboejnecaa
open Go.RowKit Go.Shelf Sedge
attribute [local go_sem ↓] Go.wp_at_zero Go.wp_at_succ

/-- Factors, as cells. -/
def FV (l : List (Int × Int × Nat)) : List Value := l.flatMap fun p => [.int .i64 p.1, .int .i64 p.2.1, .int .u8 (p.2.2 : Nat)]
theorem FV_length (l : List (Int × Int × Nat)) : (FV l).length = l.length * 3 := by
  induction l with
  | nil => rfl
  | cons e l ih => rw [FV, List.flatMap_cons, List.length_append]; rw [FV] at ih; rw [ih]; simp; omega
theorem FV_append (a b : List (Int × Int × Nat)) : FV (a ++ b) = FV a ++ FV b := by simp [FV]
/-- One factor, as a value. -/
abbrev fval (p : Int × Int × Nat) : Value := .agg #[.int .i64 p.1, .int .i64 p.2.1, .int .u8 (p.2.2 : Nat)]

theorem Try.infoFac : (Try.prog.info? 64).map (fun i => (i.zero, i.size, i.bytes)) = some (some (.agg #[.int .i64 0, .int .i64 0, .int .u8 0]), 3, 24) := by kernel_rfl
theorem Try.infoRFac : (Try.prog.info? 111).map (fun i => (i.zero, i.size, i.bytes)) = some (some (.agg #[.int .i64 0, .int .i64 0, .int .u8 0]), 3, 24) := by kernel_rfl
/-- 'append(l, f)'. -/
theorem wpList_push_fac (t e : TypeId) (hu : Try.prog.underlying t = some (.slice e)) (hinf : (Try.prog.info? e).map (fun i => (i.zero, i.size, i.bytes)) = some (some (.agg #[.int .i64 0, .int .i64 0, .int .u8 0]), 3, 24))
    (w : World) {ops : Array Oper} {rest : List Oper} {o : Oper} {a : Act} {Q : Exit → Act → World → Prop} (hg : o.guard = none)
    (s x : Operand) (hop : o.op = Op.call { callee := Callee.builtin Builtin.append, args := #[s, x], argTypes := #[t, t] })
    (base : Nat) (v : Value) (l : List (Int × Int × Nat)) (hs : a.eval s = v) (hown : w.ownsRow base e 3 v l.length (FV l))
    (b : Nat) (p : Int × Int × Nat) (T : TypeId) (hx : a.eval x = .slice (some ⟨b, 0, none⟩) 1 1) (hc : Blk w b T [.int .i64 p.1, .int .i64 p.2.1, .int .u8 (p.2.2 : Nat)]) (hn : l.length ≤ 2000000) (hbase : base ≤ w.heap.size)
    (hK : ∀ v' w', w'.ownsRow base e 3 v' (l ++ [p]).length (FV (l ++ [p])) → w.grownBy w' v.ownBlock → Lies w w' v v' → wpList Try.prog ops Q rest (a.put o.dst v') w') :
    wpList Try.prog ops Q (o :: rest) a w := by
  obtain ⟨i0, hi, hz0, hz1, hz2⟩ := info_parts hinf
  refine wpList_push_at w hg s x t hop e i0 (.agg #[.int .i64 0, .int .i64 0, .int .u8 0]) 3 24 hu hi hz0 hz1 hz2 rfl (by decide) base v l.length (FV l) hs hown ⟨b, 0, none⟩ 1 [.int .i64 p.1, .int .i64 p.2.1, .int .u8 (p.2.2 : Nat)] hx rfl ?_ ?_ ?_ ?_ hbase ?_
  · obtain ⟨q0, q1, q2⟩ := cells3 hc
    intro j u hj
    match j, hj with
    | 0, hj => simp at hj; subst hj; simpa [Addr.add] using q0
    | 1, hj => simp at hj; subst hj; simpa [Addr.add] using q1
    | 2, hj => simp at hj; subst hj; simpa [Addr.add] using q2
  · intro u hu
    simp at hu
    rcases hu with rfl | rfl | rfl <;> rfl
  · unfold maxLen; omega
  · omega
  · intro v' w' q1 q2 q3
    refine hK v' w' ?_ q2 q3
    rw [FV_append, List.length_append]
    exact q1

set_option maxHeartbeats 1000000 in
/-- 'size'. -/
theorem psize_any (p : Int × Int × Nat) (w : World) : Calls Try.prog 106 #[fval p] w fun e w' => e = .returned (.int .i64 (max p.2.1 1)) ∧ Below w.heap.size w w' := by
  have hb0 : Below w.heap.size w (w.alloc (Obj.cells #[.int .i64 p.1, .int .i64 p.2.1, .int .u8 (p.2.2 : Nat)] 64)) := (Below.refl _ _).alloc (Nat.le_refl _) _
  go_enter Try.func106, Try.ntmps106
  go_wp2
  go_ret
  exact ⟨rfl, hb0⟩

set_option maxRecDepth 20000 in
set_option maxHeartbeats 4000000 in
/-- 'piece'. -/
theorem piece_any (s : ByteArray) (ad ad' : Option Addr) (o : List Nat) (c c' p : Nat) (w : World) (hT : Tab w s ad ad' o) (hs : s.size ≤ 1000) (hcap : CapOf ad o.length c) (hp : p < s.size) :
    Calls Try.prog 105 #[tv s ad ad' o.length c c', .string s, .int .i64 p] w fun e w' => e = .returned (fval (asInts (facOf (bl s) p))) ∧ Below w.heap.size w w' := by
  have hb0 : Below w.heap.size w ((w.alloc (Obj.cells #[.string s, .slice ad o.length c, .slice ad' o.length c'] 91)).alloc (Obj.cells #[.int .i64 0, .int .i64 0, .int .u8 0] 64)) := ((Below.refl _ _).alloc (Nat.le_refl _) _).alloc (by simp) _
  have hbx : Blk ((w.alloc (Obj.cells #[.string s, .slice ad o.length c, .slice ad' o.length c'] 91)).alloc (Obj.cells #[.int .i64 0, .int .i64 0, .int .u8 0] 64)) (w.heap.size + 1) 64 [.int .i64 0, .int .i64 0, .int .u8 0] := Blk.new _ _ _ (by simp)
  have hbt : Blk ((w.alloc (Obj.cells #[.string s, .slice ad o.length c, .slice ad' o.length c'] 91)).alloc (Obj.cells #[.int .i64 0, .int .i64 0, .int .u8 0] 64)) w.heap.size 91 [.string s, .slice ad o.length c, .slice ad' o.length c'] := Blk.alloc (Blk.new w _ _ rfl) _
  have C := fun W h => earlier_any s ad ad' o c c' p W h hs hcap hp
  have hz := bestTo_none (x := bl s) (i := p) p
  have hfo : facOf (bl s) p = ((bestTo (bl s) p p).1, (bestTo (bl s) p p).2, if (bestTo (bl s) p p).2 = 0 then num (bl s) p else 0) := rfl
  rw [hfo]
  generalize bestTo (bl s) p p = q at C hz ⊢
  obtain ⟨F, L⟩ := q
  simp only at hz C ⊢
  have hnum := bl_num hp
  have HZ : Hid _ := hz
  have HNUM : Hid _ := hnum
  unfold tv at C ⊢
  have HC : Hid _ := C
  obtain ⟨x0, x1, x2⟩ := cells3 hbt
  have i1 : (p : Int) < (s.size : Int) := by omega
  have i2 : (0 : Int) ≤ (p : Int) := by omega
  clear C hcap
  go_enter Try.func105, Try.ntmps105
  go_wp2_with fail
  generalize (w.alloc (Obj.cells #[.string s, .slice ad o.length c, .slice ad' o.length c'] 91)).alloc (Obj.cells #[.int .i64 0, .int .i64 0, .int .u8 0] 64) = w1 at hb0 hbx hbt x0 x1 x2 ⊢
  go_wp2_with fail
  refine Calls.mono (HC.out w1 (hT.later hb0)) ?_
  rintro e w2 ⟨rfl, hb2⟩
  have hR := hbx.later hb2
  have hB2 := Below.later hb0 hb2
  obtain ⟨y0, y1, y2⟩ := cells3 hR
  have f0 := hR.free 0
  have f1 := hR.free 1
  have f2 := hR.free 2
  clear hz hnum hfo hbx hbt x0 x1 x2 HC hb0 hb2
  by_cases h0 : L = 0
  · have j0 : (L : Int) = 0 := by omega
    have eF := HZ.out h0
    have hRf := hR.set3 (.int .i64 0) (.int .i64 0) (.int .u8 (s[p].toNat : Nat))
    have hBf : Below w.heap.size w _ := ((hB2.setCell (p := ⟨w.heap.size + 1, 0, none⟩) (by simp) (.int .i64 0)).setCell (p := ⟨w.heap.size + 1, 1, none⟩) (by simp) (.int .i64 0)).setCell (p := ⟨w.heap.size + 1, 2, none⟩) (by simp) (.int .u8 (s[p].toNat : Nat))
    go_wp2
    generalize ((w2.setCell ⟨w.heap.size + 1, 0, none⟩ (.int .i64 0)).setCell ⟨w.heap.size + 1, 1, none⟩ (.int .i64 0)).setCell ⟨w.heap.size + 1, 2, none⟩ (.int .u8 (s[p].toNat : Nat)) = wf at hRf hBf ⊢
    obtain ⟨t0, t1, t2⟩ := cells3 hRf
    exact bodyPost_ret (v := .agg #[.int .i64 0, .int .i64 0, .int .u8 (s[p].toNat : Nat)]) (by simp [results, Try.results105, go_sem, t0, t1, t2]) rfl ⟨by rw [HNUM.out]; rfl, hBf⟩
  · have j0 : ¬ (L : Int) = 0 := by omega
    have hRf := hR.set3 (.int .i64 (F : Nat)) (.int .i64 (L : Nat)) (.int .u8 0)
    have hBf : Below w.heap.size w _ := ((hB2.setCell (p := ⟨w.heap.size + 1, 0, none⟩) (by simp) (.int .i64 (F : Nat))).setCell (p := ⟨w.heap.size + 1, 1, none⟩) (by simp) (.int .i64 (L : Nat))).setCell (p := ⟨w.heap.size + 1, 2, none⟩) (by simp) (.int .u8 0)
    go_wp2
    generalize ((w2.setCell ⟨w.heap.size + 1, 0, none⟩ (.int .i64 (F : Nat))).setCell ⟨w.heap.size + 1, 1, none⟩ (.int .i64 (L : Nat))).setCell ⟨w.heap.size + 1, 2, none⟩ (.int .u8 0) = wf at hRf hBf ⊢
    obtain ⟨t0, t1, t2⟩ := cells3 hRf
    exact bodyPost_ret (v := .agg #[.int .i64 (F : Nat), .int .i64 (L : Nat), .int .u8 0]) (by simp [results, Try.results105, go_sem, t0, t1, t2]) rfl ⟨rfl, hBf⟩

/-- A text's factors, as the program tells them. -/
def facI (s : ByteArray) (l : List (Int × Int × Nat)) : Prop := ∃ f, IsFacs (bl s) f ∧ l = f.map asInts
/-- What Of and Factors told. -/
def TellF (e : TypeId) (l : List (Int × Int × Nat)) (w : World) (v : Value) (w' : World) : Prop := w'.ownsRow w.heap.size e 3 v l.length (FV l) ∧ Below w.heap.size w w'

theorem own_dn {w : World} {base base' n k : Nat} {e : TypeId} {v : Value} {xs : List Value} (h : w.ownsRow base e k v n xs) (hb : base' ≤ base) : w.ownsRow base' e k v n xs := by
  refine ⟨h.1, ?_⟩
  rcases h.2 with h' | ⟨g, cap, cur, h1, h2, h3⟩
  · exact .inl h'
  · exact .inr ⟨g, cap, cur, h1, by omega, h3⟩

set_option maxRecDepth 20000 in
set_option maxHeartbeats 4000000 in
/-- pieces.Of. -/
theorem piecesOf_any (s : ByteArray) (w : World) (hs : s.size ≤ 1000) :
    Calls Try.prog 70 #[.string s] w fun e w' => ∃ v f, e = .returned v ∧ IsFacs (bl s) f ∧ w'.ownsRow w.heap.size 64 3 v (f.map asInts).length (FV (f.map asInts)) ∧ Below w.heap.size w w' := by
  have HC : Hid _ := fun w => partsOf_cap s w (by omega)
  go_enter Try.func70, Try.ntmps70
  go_wp2_with fail
  refine Calls.mono (HC.out _) ?_
  rintro e w1 ⟨ad, b1, o, c, c', rfl, hT, hcap, hb1⟩
  have CP := fun p W h hp => piece_any s ad (some ⟨b1, 0, none⟩) o c c' p W h hs hcap hp
  unfold tv at CP ⊢
  have HCP : Hid _ := CP
  clear CP hcap HC
  go_wp2_with fail
  have hb2 : Below w1.heap.size w1 (w1.alloc (Obj.cells #[.string s, .slice ad o.length c, .slice (some ⟨b1, 0, none⟩) o.length c'] 91)) := (Below.refl _ _).alloc (Nat.le_refl _) _
  have hX2 : Blk (w1.alloc (Obj.cells #[.string s, .slice ad o.length c, .slice (some ⟨b1, 0, none⟩) o.length c'] 91)) w1.heap.size 91 [.string s, .slice ad o.length c, .slice (some ⟨b1, 0, none⟩) o.length c'] := Blk.new w1 _ _ rfl
  generalize w1.alloc (Obj.cells #[.string s, .slice ad o.length c, .slice (some ⟨b1, 0, none⟩) o.length c'] 91) = w2 at hb2 hX2 ⊢
  have hT2 := hT.later hb2
  have hB2 := Below.later hb1 hb2
  have hx2 := hX2.lt
  clear hT hb1 hb2
  go_loopw [4, 5] (fun lv pv wr => ∃ n : Nat, fpos (bl s) n ≤ s.size ∧ pv = .int .i64 (fpos (bl s) n) ∧ wr.ownsRow w2.heap.size 64 3 lv ((facs (bl s) n).map asInts).length (FV ((facs (bl s) n).map asInts)) ∧ Below w2.heap.size w2 wr) (fun _ pv _ => s.size - (intOf pv).toNat)
  case atStart => exact ⟨0, Nat.zero_le _, rfl, World.ownsRow_nil _ _ _ _, Below.refl _ _⟩
  case round =>
    obtain ⟨n, hn, rfl, hown, hB⟩ := hrel
    have hX := hX2.later hB
    obtain ⟨x0, x1, x2⟩ := cells3 hX
    have hle := bestTo_le (x := bl s) (i := fpos (bl s) n) (fpos (bl s) n)
    have hge := fpos_ge (x := bl s) n
    rw [bl_length] at hle
    have hlen : ((facs (bl s) n).map asInts).length ≤ 2000000 := by rw [List.length_map, facs_length]; omega
    have HHN : Hid _ := facs_succ (x := bl s) n
    have HHS : Hid _ := fpos_succ (x := bl s) n
    obtain ⟨adl, cl, rfl⟩ : ∃ adl cl, u4 = .slice adl ((facs (bl s) n).map asInts).length cl := by
      rcases hown.2 with ⟨h1, h2⟩ | ⟨g, cap, cur, h1, _⟩
      · exact ⟨none, 0, by rw [h1, h2]⟩
      · exact ⟨_, _, h1⟩
    have HOWN : Hid _ := hown
    have HFAC : Hid (((facs (bl s) (n + 1)).map asInts) = (facs (bl s) n).map asInts ++ [asInts (facOf (bl s) (fpos (bl s) n))]) := by rw [HHN.out, List.map_append]; rfl
    have HP : Hid (∃ p, p = fpos (bl s) n) := ⟨_, rfl⟩
    obtain ⟨p, hp⟩ := HP.out
    rw [← hp] at hn hle hge
    have HPP : Hid _ := hp
    have HFI : Hid (fpos (bl s) n = s.size → IsFacs (bl s) (facs (bl s) n)) := fun h => ⟨n, by rw [bl_length]; exact h, rfl⟩
    obtain ⟨fl, hfl⟩ : ∃ fl, (facs (bl s) n).map asInts = fl := ⟨_, rfl⟩
    have HFL : Hid _ := hfl
    rw [hfl] at HOWN hlen HFAC hown ⊢
    clear hfl
    rw [← hp]
    clear hp hown HP
    by_cases hlt : p < s.size
    · have i1 : (p : Int) < (s.size : Int) := by omega
      have HE : Hid _ := HCP.out p wr (hT2.later hB) hlt
      obtain ⟨q, hq⟩ : ∃ q, q = facOf (bl s) p := ⟨_, rfl⟩
      rw [← hq] at HE
      have hqL : q.2.1 = (bestTo (bl s) p p).2 := by rw [hq]; rfl
      have HQ : Hid _ := hq
      have HQL : Hid _ := hqL
      have HW : Hid (wrap64 ((p : Int) + max (asInts q).2.1 1) = (p : Int) + max (q.2.1 : Int) 1) := by
        simp only [asInts]
        exact IntWalk.wrap64_in _ ⟨by omega, by omega⟩
      clear hq hqL
      unfold asInts at HE
      go_wp2_with fail
      refine Calls.mono HE.out ?_
      rintro e w3 ⟨rfl, hb3⟩
      have hB3 := Below.later hB hb3
      have hX3 := hX.later hb3
      have hs3 := hb3.size
      have hsr := hB.size
      have HO3 : Hid _ := own_fr HOWN.out (Fr.of_below hb3) (fun _ _ _ h => by cases h)
      clear x0 x1 x2 HOWN
      go_wp2_with (first
        | (at_builtin; refine wpList_push_fac 61 64 Try.underlying61 Try.infoFac _ rfl (.tmp 17) (.tmp 19) rfl w2.heap.size (.slice adl fl.length cl) fl rfl (World.ownsRow.alloc (World.ownsRow.alloc HO3.out _) _) (w3.heap.size + 1) (asInts q) 64 rfl (Blk.new _ _ _ (by simp)) hlen (by simp; omega) ?_; intro v4 w4 q1 q2 q3; have hF4 := Blk.fr (Blk.alloc (Blk.new w3 [.int .i64 (q.1 : Nat), .int .i64 (q.2.1 : Nat), .int .u8 (q.2.2 : Nat)] 64 rfl) _) (Fr.of_grown q2) (fun r hr => by simp at hr; subst hr; exact fun e => absurd ((World.ownsRow.lt HO3.out _ e.symm).2) (by omega)); obtain ⟨y0, y1, y2⟩ := cells3 hF4; have HQ1 : Hid _ := q1; have HQ2 : Hid _ := q2; have hB4 := ((hB3.alloc (by omega) _).alloc (by simp; omega) _).grown q2 (by simp; omega) (fun k hk => (World.ownsRow.lt HO3.out k hk).1); clear q1 q2 q3)
        | (go_at_call 106; refine (psize_any (asInts q) _).mono ?_; rintro e w5 ⟨rfl, hb5⟩)
        | fail)
      go_roundw
      case rel =>
        have hB5 := Below.later hB4 hb5
        have e1 : fpos (bl s) (n + 1) = p + max 1 q.2.1 := by rw [HHS.out, ← HPP.out, HQL.out]
        refine ⟨n + 1, by have := HQL.out; omega, ?_, ?_, hB5⟩
        · rw [e1]; exact congrArg (fun x : Int => Value.int .i64 x) (by rw [HW.out]; omega)
        · rw [HFAC.out, ← HPP.out, ← HQ.out]
          exact own_fr HQ1.out (Fr.of_below hb5) (fun _ _ _ h => by cases h)
      case measure =>
        have := HW.out
        have := HQL.out
        simp [intOf]; omega
    · have i1 : ¬ (p : Int) < (s.size : Int) := by omega
      have ep : p = s.size := by omega
      go_wp2
      go_ret
      refine ⟨_, rfl, facs (bl s) n, HFI.out (by rw [← HPP.out]; exact ep), ?_, hB2.trans (hB.mono hB2.size)⟩
      rw [HFL.out, show (facs (bl s) n).length = fl.length by rw [← HFL.out, List.length_map]]
      exact own_dn HOWN.out hB2.size
end Go.Proofs.Ytepklbboejnecaa

/- Pieces: factors put together. -/
namespace Go.Proofs.Ytepklbboejnecaa
open Go.RowKit Go.Shelf Sedge
attribute [local go_sem ↓] Go.wp_at_zero Go.wp_at_succ

/-- A list of factors that is read. -/
def FacS (w : World) (ad : Option Addr) (l : List (Int × Int × Nat)) : Prop := ∀ k (h : k < l.length), ∃ b o, ad = some ⟨b, o, none⟩ ∧ w.cell? ⟨b, o + k * 3, none⟩ = some (.int .i64 l[k].1) ∧ w.cell? ⟨b, o + k * 3 + 1, none⟩ = some (.int .i64 l[k].2.1) ∧ w.cell? ⟨b, o + k * 3 + 2, none⟩ = some (.int .u8 (l[k].2.2 : Nat))
theorem FacS.later {w w' : World} {ad : Option Addr} {l : List (Int × Int × Nat)} (h : FacS w ad l) (hb : Below w.heap.size w w') : FacS w' ad l := fun k hk => by
  obtain ⟨b, o, e, h1, h2, h3⟩ := h k hk
  exact ⟨b, o, e, (hb.cell (cell_lt h1)).trans h1, (hb.cell (cell_lt h2)).trans h2, (hb.cell (cell_lt h3)).trans h3⟩
theorem FV_at : ∀ (l : List (Int × Int × Nat)) (i : Nat) (h : i < l.length), (FV l)[i * 3]? = some (.int .i64 l[i].1) ∧ (FV l)[i * 3 + 1]? = some (.int .i64 l[i].2.1) ∧ (FV l)[i * 3 + 2]? = some (.int .u8 (l[i].2.2 : Nat))
  | e :: l, 0, _ => ⟨rfl, rfl, rfl⟩
  | e :: l, i + 1, h => by
    have ih := FV_at l i (by simpa using h)
    rw [show (i + 1) * 3 = i * 3 + 3 by omega]
    exact ih
theorem FacS.own {w : World} {base : Nat} {e : TypeId} {v : Value} {l : List (Int × Int × Nat)} (h : w.ownsRow base e 3 v l.length (FV l)) : ∃ ad c, v = .slice ad l.length c ∧ FacS w ad l := by
  rcases h.2 with ⟨rfl, h0⟩ | ⟨g, cap, cur, rfl, _⟩
  · exact ⟨none, 0, by rw [h0], fun k hk => by omega⟩
  · refine ⟨_, _, rfl, fun k hk => ⟨g, 0, rfl, ?_, ?_, ?_⟩⟩
    · rw [Nat.zero_add, h.cellAt (k * 3) (by omega)]; exact (FV_at l k hk).1
    · rw [Nat.zero_add, h.cellAt (k * 3 + 1) (by omega)]; exact (FV_at l k hk).2.1
    · rw [Nat.zero_add, h.cellAt (k * 3 + 2) (by omega)]; exact (FV_at l k hk).2.2

/-- 'append(b, x)' of a byte, told by blocks. -/
theorem wpList_pushB2 (w : World) {ops : Array Oper} {rest : List Oper} {o : Oper} {a : Act} {Q : Exit → Act → World → Prop} (hg : o.guard = none)
    (s x : Operand) (hop : o.op = Op.call { callee := Callee.builtin Builtin.append, args := #[s, x], argTypes := #[139, 139] })
    (base : Nat) (v : Value) (xs : List Nat) (hs : a.eval s = v) (hown : w.ownsRow base 5 1 v xs.length (UV xs))
    (ad : Addr) (y : Nat) (hx : a.eval x = .slice (some ad) 1 1) (hc : w.cell? ad = some (.int .u8 y)) (hn : xs.length ≤ 1000000) (hbase : base ≤ w.heap.size)
    (hK : ∀ v' w', w'.ownsRow base 5 1 v' (xs ++ [y]).length (UV (xs ++ [y])) → w.grownBy w' v.ownBlock → Lies w w' v v' → wpList Try.prog ops Q rest (a.put o.dst v') w') :
    wpList Try.prog ops Q (o :: rest) a w := by
  obtain ⟨i0, hi, hz0, hz1, hz2⟩ := info_parts Try.infoByte
  refine wpList_push_at w hg s x 139 hop 5 i0 (.int .u8 0) 1 1 Try.underlying139 hi hz0 hz1 hz2 rfl (by decide) base v xs.length _ hs hown ad 1 [.int .u8 y] hx rfl ?_ ?_ ?_ ?_ hbase ?_
  · intro j u hj
    match j, hj with
    | 0, hj => simp at hj; subst hj; simpa [Addr.add] using hc
  · intro u hu; simp at hu; subst hu; rfl
  · unfold maxLen; omega
  · omega
  · intro v' w' q1 q2 q3
    refine hK v' w' ?_ q2 q3
    have e : UV (xs ++ [y]) = UV xs ++ [.int .u8 y] := by simp [UV]
    rw [e, List.length_append]; exact q1
theorem ownB_cell {w : World} {base : Nat} {v : Value} {l : List Nat} (h : w.ownsRow base 5 1 v l.length (UV l)) {i : Nat} (hi : i < l.length) : ∃ g c, v = .slice (some ⟨g, 0, none⟩) l.length c ∧ w.cell? ⟨g, i, none⟩ = some (.int .u8 (num l i : Nat)) := by
  rcases h.2 with ⟨_, h0⟩ | ⟨g, cap, cur, rfl, _⟩
  · omega
  · refine ⟨g, cap, rfl, ?_⟩
    rw [h.cellAt i (by omega)]
    simp [UV, num, hi]
theorem own_valB {w : World} {base n : Nat} {e : TypeId} {s : Nat} {v : Value} {xs : List Value} (h : w.ownsRow base e s v n xs) : ∃ ad c, v = .slice ad n c := by
  rcases h.2 with ⟨rfl, rfl⟩ | ⟨g, cap, cur, rfl, _⟩
  · exact ⟨none, 0, rfl⟩
  · exact ⟨_, _, rfl⟩

theorem off_liesG {w w' : World} {v v' : Value} {hb : Nat} (h : v.ownBlock ≠ some hb) (hx : hb < w.heap.size) (k : Lies w w' v v') : v'.ownBlock ≠ some hb := by
  intro h2
  rcases k with k | k
  · rw [k] at h2; exact h h2
  · have := k.1 hb h2; omega

set_option maxHeartbeats 2000000 in
/-- 'fits'. -/
theorem fits_any (p : Int × Int × Nat) (out : List Nat) (w : World) : Calls Try.prog 107 #[fval p, .int .i64 out.length] w fun e w' => e = .returned (.bool (!decide (badF out p.1 p.2.1 p.2.2))) ∧ Below w.heap.size w w' := by
  obtain ⟨F, L, b⟩ := p
  have hb0 : Below w.heap.size w (w.alloc (Obj.cells #[.int .i64 F, .int .i64 L, .int .u8 (b : Nat)] 64)) := (Below.refl _ _).alloc (Nat.le_refl _) _
  have HB : Hid _ := hb0
  unfold badF
  clear hb0
  by_cases h0 : L = 0
  · subst h0
    by_cases hF : F = 0
    · subst hF
      go_enter Try.func107, Try.ntmps107
      go_wp2
      go_ret
      exact ⟨by simp, HB.out⟩
    · go_enter Try.func107, Try.ntmps107
      go_wp2
      go_ret
      exact ⟨by simp [hF], HB.out⟩
  · by_cases h1 : 0 < L
    · by_cases h2 : b = 0
      · subst h2
        by_cases h3 : 0 ≤ F
        · by_cases h4 : F < (out.length : Int)
          · have g1 : ¬ F < 0 := by omega
            have g2 : ¬ (out.length : Int) ≤ F := by omega
            go_enter Try.func107, Try.ntmps107
            go_wp2
            go_ret
            exact ⟨by simp [g1, g2]; omega, HB.out⟩
          · have g2 : (out.length : Int) ≤ F := by omega
            go_enter Try.func107, Try.ntmps107
            go_wp2
            go_ret
            exact ⟨by simp, HB.out⟩
        · have g1 : F < 0 := by omega
          go_enter Try.func107, Try.ntmps107
          go_wp2
          go_ret
          exact ⟨by simp, HB.out⟩
      · have g2 : ¬ (b : Int) = 0 := by omega
        go_enter Try.func107, Try.ntmps107
        go_wp2
        go_ret
        exact ⟨by simp [h0, h1, h2], HB.out⟩
    · have g1 : L < 0 := by omega
      go_enter Try.func107, Try.ntmps107
      go_wp2
      go_ret
      exact ⟨by simp, HB.out⟩

set_option maxRecDepth 20000 in
set_option maxHeartbeats 4000000 in
/-- 'add'. -/
theorem add_any (B : Nat) (out : List Nat) (p : Int × Int × Nat) (v : Value) (w : World) (hB : B ≤ w.heap.size) (hown : w.ownsRow B 5 1 v out.length (UV out)) (hf : ¬ badF out p.1 p.2.1 p.2.2) (hl : out.length + max 1 p.2.1.toNat ≤ 1000) :
    Calls Try.prog 108 #[v, fval p] w fun e w' => ∃ v', e = .returned v' ∧ w'.ownsRow B 5 1 v' (putPiece out (p.1.toNat, p.2.1.toNat, p.2.2)).length (UV (putPiece out (p.1.toNat, p.2.1.toNat, p.2.2))) ∧ Below B w w' := by
  obtain ⟨F, L, b⟩ := p
  simp only at hf hl ⊢
  obtain ⟨ad, c, rfl⟩ := own_valB hown
  have hbx : Blk (w.alloc (Obj.cells #[.int .i64 F, .int .i64 L, .int .u8 (b : Nat)] 64)) w.heap.size 64 [.int .i64 F, .int .i64 L, .int .u8 (b : Nat)] := Blk.new w _ _ rfl
  have hb0 : Below w.heap.size w (w.alloc (Obj.cells #[.int .i64 F, .int .i64 L, .int .u8 (b : Nat)] 64)) := (Below.refl _ _).alloc (Nat.le_refl _) _
  have HO : Hid _ := hown
  by_cases h0 : L = 0
  · subst h0
    have HP : Hid (putPiece out (F.toNat, (0 : Int).toNat, b) = out ++ [b]) := rfl
    go_enter Try.func108, Try.ntmps108
    go_wp2_with (first
      | (at_builtin; refine wpList_pushB2 _ rfl (.tmp 9) (.tmp 12) rfl B (.slice ad out.length c) out rfl (World.ownsRow.alloc (World.ownsRow.alloc HO.out _) _) ⟨w.heap.size + 1, 0, none⟩ b rfl (by simp) (by omega) (by simp; omega) ?_; intro v4 w4 q1 q2 q3; have HQ1 : Hid _ := q1; have hB4 := (((Below.refl B w).alloc hB _).alloc (by simp; omega) _).grown q2 (by simp; omega) (fun k hk => (World.ownsRow.lt HO.out k hk).1); clear q1 q2 q3)
      | fail)
    go_ret
    exact ⟨_, rfl, by rw [HP.out]; exact HQ1.out, hB4⟩
  · have h1 : 0 < L := by unfold badF at hf; omega
    obtain ⟨f, rfl⟩ : ∃ f : Nat, F = (f : Int) := ⟨F.toNat, by unfold badF at hf; omega⟩
    obtain ⟨m, rfl⟩ : ∃ m : Nat, L = (m : Int) := ⟨L.toNat, by omega⟩
    have hfo : f < out.length := by unfold badF at hf; omega
    have HP : Hid (putPiece out (f, m, b) = copyN out f m) := by
      unfold putPiece; rw [if_neg (by simp only; omega)]; exact (rfl : copyN out f m = copyN out f m)
    simp only [Int.toNat_natCast] at hl ⊢
    have hm0 : ((m : Int) == 0) = false := by simp; omega
    have HX : Hid _ := hbx
    clear hf hown hbx
    go_enter Try.func108, Try.ntmps108
    go_wp2_with fail
    generalize w.alloc (Obj.cells #[.int .i64 (f : Int), .int .i64 (m : Int), .int .u8 (b : Nat)] 64) = w1 at hb0 HX ⊢
    go_loopw [0, 16] (fun jv iv wr => ∃ n : Nat, n ≤ m ∧ iv = .int .i64 n ∧ wr.ownsRow B 5 1 jv (copyN out f n).length (UV (copyN out f n)) ∧ jv.ownBlock ≠ some w.heap.size ∧ Blk wr w.heap.size 64 [.int .i64 (f : Int), .int .i64 (m : Int), .int .u8 (b : Nat)] ∧ Below B w wr) (fun _ iv _ => m - (intOf iv).toNat)
    case atStart => exact ⟨0, Nat.zero_le _, rfl, own_fr HO.out (Fr.of_below hb0) (fun _ _ _ h => by cases h), fun e => absurd ((World.ownsRow.lt HO.out _ e).2) (by omega), HX.out, (Below.refl B w).trans (hb0.mono hB)⟩
    case round =>
      obtain ⟨n, hn, rfl, hown, hne, hX, hBr⟩ := hrel
      obtain ⟨x0, x1, x2⟩ := cells3 hX
      have hsz := hX.lt
      have hcl := copyN_length out f n
      have HCL : Hid _ := hcl
      have HO2 : Hid _ := hown
      have HCS : Hid _ := copyN_succ out f n
      have HNE : Hid _ := hne
      by_cases hlt : n < m
      · obtain ⟨g, cg, rfl, hc⟩ := ownB_cell hown (i := f + n) (by omega)
        have i1 : (n : Int) < (m : Int) := by omega
        have v1 : IntKind.i64.wrap ((f : Int) + (n : Int)) = (f : Int) + (n : Int) := by rw [IntKind.wrap_i64]; omega
        have n1 : ((f : Int) + (n : Int)).toNat = f + n := by omega
        have i2 : (0 : Int) ≤ (f : Int) + (n : Int) := by omega
        have i3 : (f : Int) + (n : Int) < ((copyN out f n).length : Int) := by omega
        have v2 : IntKind.i64.wrap ((n : Int) + 1) = (n : Int) + 1 := by rw [IntKind.wrap_i64]; omega
        obtain ⟨y, hy⟩ : ∃ y, y = num (copyN out f n) (f + n) := ⟨_, rfl⟩
        rw [← hy] at hc
        have HY : Hid _ := hy
        have hl6 : (copyN out f n).length ≤ 1000000 := by omega
        generalize hcn : copyN out f n = cn at HO2 hl6 i3
        have HCN : Hid _ := hcn
        clear hown hcl hne hy hcn
        go_wp2_with (first
          | (at_builtin; refine wpList_pushB2 _ rfl (.tmp 19) (.tmp 27) rfl B (.slice (some ⟨g, 0, none⟩) cn.length cg) cn rfl (World.ownsRow.alloc HO2.out _) ⟨wr.heap.size, 0, none⟩ y rfl (by simp) (by omega) (by simp; omega) ?_; intro v4 w4 q1 q2 q3; have HQ1 : Hid _ := q1; have hB4 := (hBr.alloc (by omega) _).grown q2 (by simp; omega) (fun k hk => (World.ownsRow.lt HO2.out k hk).1); have hX4 := Blk.fr (Blk.alloc hX _) (Fr.of_grown q2) (fun r hr => by simp at hr; subst hr; exact fun e => HNE.out e.symm); have HN4 : Hid _ := off_liesG HNE.out (by simp; omega) q3; clear q1 q2 q3)
          | fail)
        go_roundw
        case rel => exact ⟨n + 1, by omega, by go_num, by rw [HCS.out, ← HY.out, HCN.out]; exact HQ1.out, HN4.out, hX4, hB4⟩
        case measure => simp [intOf]; omega
      · have en : n = m := by omega
        subst en
        have i1 : ¬ (n : Int) < (n : Int) := by omega
        obtain ⟨adj, cj, rfl⟩ := own_valB hown
        clear hcl hown
        go_wp2
        go_ret
        exact ⟨_, rfl, by rw [HP.out]; exact HO2.out, hBr⟩

/-- What Join tells of no more than 1000 factors. -/
def joinV (l : List (Int × Int × Nat)) : Value := match joinAll l with
  | .ok s => .tuple #[.string (ofL s.1), .int .i64 0, .int .i64 0]
  | .error e => .tuple #[.string ⟨#[]⟩, .int .i64 e.1, .int .i64 e.2]
theorem joinV_ok {l : List (Int × Int × Nat)} {s : List Nat × Nat} (h : joinAll l = .ok s) : joinV l = .tuple #[.string (ofL s.1), .int .i64 0, .int .i64 0] := by unfold joinV; rw [h]
theorem joinV_error {l : List (Int × Int × Nat)} {e : Int × Nat} (h : joinAll l = .error e) : joinV l = .tuple #[.string ⟨#[]⟩, .int .i64 e.1, .int .i64 e.2] := by unfold joinV; rw [h]
theorem joinAll_next {l : List (Int × Int × Nat)} {k : Nat} (hk : k < l.length) : joinAll (l.take (k + 1)) = joinStep (joinAll (l.take k)) l[k] := by
  rw [List.take_add_one, List.getElem?_eq_getElem hk]
  exact joinAll_snoc _ _

set_option maxRecDepth 20000 in
set_option maxHeartbeats 4000000 in
/-- pieces.Join. -/
theorem pJoin_any (ad : Option Addr) (l : List (Int × Int × Nat)) (c : Nat) (w : World) (hl : FacS w ad l) (hn : l.length ≤ 1000000) :
    Calls Try.prog 71 #[.slice ad l.length c] w fun e w' => e = .returned (joinV l) ∧ Below w.heap.size w w' := by
  have HL : Hid _ := hl
  go_enter Try.func71, Try.ntmps71
  go_wp2_with fail
  go_loopw [5, 10] (fun jv iv wr => ∃ (k : Nat) (out : List Nat), k ≤ l.length ∧ iv = .int .i64 k ∧ joinAll (l.take k) = .ok (out, k) ∧ out.length ≤ 1000 ∧ wr.ownsRow w.heap.size 5 1 jv out.length (UV out) ∧ Below w.heap.size w wr) (fun _ iv _ => l.length - (intOf iv).toNat)
  case atStart => exact ⟨0, [], Nat.zero_le _, rfl, by simp [joinAll], by simp, World.ownsRow_nil _ _ _ _, Below.refl _ _⟩
  case round =>
    obtain ⟨k, out, hk, rfl, hj, ho, hown, hB⟩ := hrel
    obtain ⟨adj, cj, rfl⟩ := own_valB hown
    have HJ : Hid _ := hj
    have HOW : Hid _ := hown
    clear hj hown hl
    by_cases hlt : k < l.length
    · obtain ⟨b, o, rfl, c0, c1, c2⟩ := HL.out k hlt
      have d0 := (hB.cell (cell_lt c0)).trans c0
      have d1 := (hB.cell (cell_lt c1)).trans c1
      have d2 := (hB.cell (cell_lt c2)).trans c2
      have hnx := joinAll_next hlt
      rw [HJ.out, joinStep_ok] at hnx
      have HNX : Hid _ := hnx
      obtain ⟨p, hp⟩ : ∃ p, p = l[k] := ⟨_, rfl⟩
      rw [← hp] at d0 d1 d2 HNX
      have i1 : (k : Int) < (l.length : Int) := by omega
      have i2 : (0 : Int) ≤ (k : Int) := by omega
      have hsr := hB.size
      have hbx : Blk (wr.alloc (Obj.cells #[.int .i64 p.1, .int .i64 p.2.1, .int .u8 (p.2.2 : Nat)] 64)) wr.heap.size 64 [.int .i64 p.1, .int .i64 p.2.1, .int .u8 (p.2.2 : Nat)] := Blk.new wr _ _ rfl
      have hB1 : Below w.heap.size w (wr.alloc (Obj.cells #[.int .i64 p.1, .int .i64 p.2.1, .int .u8 (p.2.2 : Nat)] 64)) := hB.alloc hsr _
      have HO1 : Hid _ := World.ownsRow.alloc HOW.out (Obj.cells #[.int .i64 p.1, .int .i64 p.2.1, .int .u8 (p.2.2 : Nat)] 64)
      clear c0 c1 c2 hnx hp HJ HOW
      go_wp2_with fail
      generalize wr.alloc (Obj.cells #[.int .i64 p.1, .int .i64 p.2.1, .int .u8 (p.2.2 : Nat)] 64) = w1 at hbx hB1 HO1 ⊢
      by_cases hbad : badF out p.1 p.2.1 p.2.2
      · have CF : Hid (∀ W, Calls Try.prog 107 #[fval p, .int .i64 out.length] W fun e w' => e = .returned (.bool false) ∧ Below W.heap.size W w') := fun W => (fits_any p out W).mono fun e w' ⟨h1, h2⟩ => ⟨by rw [h1]; simp [hbad], h2⟩
        have HV : Hid _ := joinV_error (joinAll_take_error (HNX.out.trans (if_pos hbad)))
        clear hbad HNX
        refine Calls.mono (CF.out _) ?_
        rintro e w2 ⟨rfl, hb2⟩
        go_wp2
        go_ret3
        exact ⟨by rw [HV.out]; rfl, Below.later hB1 hb2⟩
      · have CF : Hid (∀ W, Calls Try.prog 107 #[fval p, .int .i64 out.length] W fun e w' => e = .returned (.bool true) ∧ Below W.heap.size W w') := fun W => (fits_any p out W).mono fun e w' ⟨h1, h2⟩ => ⟨by rw [h1]; simp [hbad], h2⟩
        have hp0 : 0 ≤ p.2.1 := by unfold badF at hbad; omega
        have hnx := HNX.out
        rw [if_neg hbad] at hnx
        have HNX2 : Hid _ := hnx
        have HBAD : Hid _ := hbad
        clear hbad HNX hnx
        refine Calls.mono (CF.out _) ?_
        rintro e w2 ⟨rfl, hb2⟩
        have hbx2 := hbx.later hb2
        obtain ⟨y0, y1, y2⟩ := cells3 hbx2
        have v1 : IntKind.i64.wrap ((1000 : Int) - (out.length : Int)) = (1000 : Int) - (out.length : Int) := by rw [IntKind.wrap_i64]; omega
        by_cases hlong : 1000 < out.length + max 1 p.2.1.toNat
        · have HV : Hid _ := joinV_error (joinAll_take_error (HNX2.out.trans (if_pos hlong)))
          have i3 : (1000 : Int) - (out.length : Int) < max p.2.1 1 := by omega
          clear hlong HNX2
          go_wp2_with (first | (go_at_call 106; refine (psize_any p _).mono ?_; rintro e w3 ⟨rfl, hb3⟩) | fail)
          go_ret3
          exact ⟨by rw [HV.out]; rfl, Below.later (Below.later hB1 hb2) hb3⟩
        · have i3 : ¬ (1000 : Int) - (out.length : Int) < max p.2.1 1 := by omega
          have hnx := HNX2.out
          rw [if_neg hlong] at hnx
          have HNX3 : Hid _ := hnx
          have HLONG : Hid _ := hlong
          clear hlong HNX2 hnx
          go_wp2_with (first
            | (go_at_call 106; refine (psize_any p _).mono ?_; rintro e w3 ⟨rfl, hb3⟩; have hB23 := Below.later hb2 hb3; have hB3 := Below.later hB1 hB23; have hs3 := hB3.size; obtain ⟨z0, z1, z2⟩ := cells3 (hbx2.later hb3); have HO3 : Hid _ := own_fr HO1.out (Fr.of_below hB23) (fun _ _ _ h => by cases h); clear y0 y1 y2)
            | (go_at_call 108; refine (add_any w.heap.size out p (.slice adj out.length cj) w3 hs3 HO3.out HBAD.out (by have := HLONG.out; omega)).mono ?_; rintro e w4 ⟨v4, rfl, hown4, hb4⟩; have HO4 : Hid _ := hown4; clear hown4)
            | fail)
          go_roundw
          case rel => exact ⟨k + 1, putPiece out (p.1.toNat, p.2.1.toNat, p.2.2), by omega, by go_num, HNX3.out, by have h9 : (putPiece out (p.1.toNat, p.2.1.toNat, p.2.2)).length = out.length + max 1 p.2.1.toNat := putPiece_length _ _; have := HLONG.out; omega, HO4.out, hB3.trans hb4⟩
          case measure => simp [intOf]; omega
    · have ek : k = l.length := by omega
      have hj2 : joinAll l = .ok (out, k) := by have := HJ.out; rwa [ek, List.take_length, ← ek] at this
      have HV : Hid _ := joinV_ok hj2
      have hcv := convert_own HOW.out
      have i1 : ¬ (k : Int) < (l.length : Int) := by omega
      clear ek hj2
      go_wp2
      go_ret3
      exact ⟨by rw [HV.out]; rfl, hB⟩

/-- What Join tells. -/
def joinR (l : List (Int × Int × Nat)) : Value := if 1000 < l.length then .tuple #[.string ⟨#[]⟩, .int .i64 6, .int .i64 0] else joinV l
set_option maxHeartbeats 1000000 in
/-- sedge.Join. -/
theorem Join_any (ad : Option Addr) (l : List (Int × Int × Nat)) (c : Nat) (w : World) (hl : FacS w ad l) :
    Calls Try.prog 36 #[.slice ad l.length c] w fun e w' => e = .returned (joinR l) ∧ Below w.heap.size w w' := by
  unfold joinR
  by_cases h : 1000 < l.length
  · rw [if_pos h]
    have i1 : (1000 : Int) < (l.length : Int) := by omega
    go_enter Try.func36, Try.ntmps36
    go_wp2
    go_ret3
    exact ⟨rfl, Below.refl _ _⟩
  · rw [if_neg h]
    have i1 : ¬ (1000 : Int) < (l.length : Int) := by omega
    have C := pJoin_any ad l c w hl (by omega)
    obtain ⟨a, b, d, e⟩ : ∃ a b d, joinV l = .tuple #[a, b, d] := by
      unfold joinV; split <;> exact ⟨_, _, _, rfl⟩
    rw [e] at C ⊢
    have HC : Hid _ := C
    clear C hl e
    go_enter Try.func36, Try.ntmps36
    go_wp2_with fail
    refine Calls.mono HC.out ?_
    rintro e w1 ⟨rfl, hb1⟩
    go_wp2
    go_ret3
    exact ⟨rfl, hb1⟩
end Go.Proofs.Ytepklbboejnecaa

/- Pieces: Factors, the program's and the document's. -/
namespace Go.Proofs.Ytepklbboejnecaa
open Go.RowKit Go.Shelf Sedge
attribute [local go_sem ↓] Go.wp_at_zero Go.wp_at_succ

theorem exists_facs (x : List Nat) : ∃ f, IsFacs x f := by
  have : ∀ d n, fpos x n ≤ x.length → x.length - fpos x n ≤ d → ∃ m, fpos x m = x.length := by
    intro d
    induction d with
    | zero => intro n h1 h2; exact ⟨n, by omega⟩
    | succ d ih =>
      intro n h1 h2
      by_cases e : fpos x n = x.length
      · exact ⟨n, e⟩
      · have h3 := fpos_le (x := x) (n := n) (by omega)
        have h4 := fpos_lt (x := x) n
        exact ih (n + 1) h3 (by omega)
  obtain ⟨m, h⟩ := this x.length 0 (Nat.zero_le _) (Nat.sub_le _ _)
  exact ⟨_, m, h, rfl⟩
/-- What Factors tells, by the document. -/
def facL (s : ByteArray) (f : List (Nat × Nat × Nat)) : List (Int × Int × Nat) := if 1000 < s.size then [] else f.map asInts
def facE (s : ByteArray) : Int := if 1000 < s.size then 2 else 0
def TellFac (t : TypeId) (L : List (Int × Int × Nat)) (k : Int) (w : World) (e : Ending) (w' : World) : Prop := ∃ v, e = .returned (.tuple #[v, .int .i64 k]) ∧ w'.ownsRow w.heap.size t 3 v L.length (FV L) ∧ Below w.heap.size w w'
theorem facs_le {x : List Nat} {f : List (Nat × Nat × Nat)} (h : IsFacs x f) : f.length ≤ x.length := by
  obtain ⟨n, a, rfl⟩ := h
  rw [facs_length, ← a]; exact fpos_ge n
theorem facL_le {s : ByteArray} {f : List (Nat × Nat × Nat)} (h : IsFacs (bl s) f) : (facL s f).length ≤ 1000 := by
  have := facs_le h
  rw [bl_length] at this
  unfold facL
  split
  · simp
  · rw [List.length_map]; omega

set_option maxHeartbeats 1000000 in
/-- sedge.Factors. -/
theorem Factors_tell (s : ByteArray) (f : List (Nat × Nat × Nat)) (hf : IsFacs (bl s) f) (w : World) : Calls Try.prog 35 #[.string s] w (TellFac 64 (facL s f) (facE s) w) := by
  unfold facL facE
  by_cases h : 1000 < s.size
  · rw [if_pos h, if_pos h]
    have i1 : (1000 : Int) < (s.size : Int) := by omega
    go_enter Try.func35, Try.ntmps35
    go_wp2
    go_ret2
    exact ⟨_, rfl, World.ownsRow_nil _ _ _ _, Below.refl _ _⟩
  · rw [if_neg h, if_neg h]
    have i1 : ¬ (1000 : Int) < (s.size : Int) := by omega
    have HC : Hid _ := piecesOf_any s w (by omega)
    have HF : Hid _ := hf
    clear hf
    go_enter Try.func35, Try.ntmps35
    go_wp2_with fail
    refine Calls.mono HC.out ?_
    rintro e w1 ⟨v, f', rfl, hf', hown, hb1⟩
    have e := IsFacs.unique hf' HF.out
    subst e
    go_wp2
    go_ret2
    exact ⟨_, rfl, hown, hb1⟩

set_option maxRecDepth 20000 in
set_option maxHeartbeats 4000000 in
/-- sedgeref.Factors. -/
theorem refFactors_any (s : ByteArray) (w : World) (hs : s.size ≤ 1000) :
    Calls Try.prog 66 #[.string s] w fun e w' => ∃ v f, e = .returned (.tuple #[v, .int .i64 0]) ∧ IsFacs (bl s) f ∧ w'.ownsRow w.heap.size 111 3 v (f.map asInts).length (FV (f.map asInts)) ∧ Below w.heap.size w w' := by
  have i0 : ¬ (1000 : Int) < (s.size : Int) := by omega
  have HAG : Hid (∀ k p W, k ≤ s.size → p ≤ s.size → Calls Try.prog 73 #[.string (s.extract k s.size), .string (s.extract p s.size)] W fun e w' => e = .returned (.int .i64 (lcp ((bl s).drop k) ((bl s).drop p) : Nat)) ∧ Below W.heap.size W w') := fun k p W h1 h2 => by
    have h := agree_any (s.extract k s.size) (s.extract p s.size) W (by simp; omega) (by simp; omega)
    rwa [bl_extract, bl_extract] at h
  go_enter Try.func66, Try.ntmps66
  go_wp2_with fail
  go_loopw [4, 5] (fun lv pv wr => ∃ n : Nat, fpos (bl s) n ≤ s.size ∧ pv = .int .i64 (fpos (bl s) n) ∧ wr.ownsRow w.heap.size 111 3 lv ((facs (bl s) n).map asInts).length (FV ((facs (bl s) n).map asInts)) ∧ Below w.heap.size w wr) (fun _ pv _ => s.size - (intOf pv).toNat)
  case atStart => exact ⟨0, Nat.zero_le _, rfl, World.ownsRow_nil _ _ _ _, Below.refl _ _⟩
  case round =>
    obtain ⟨n, hn, rfl, hown, hB⟩ := hrel
    have hle := bestTo_le (x := bl s) (i := fpos (bl s) n) (fpos (bl s) n)
    have hge := fpos_ge (x := bl s) n
    rw [bl_length] at hle
    have hlen : ((facs (bl s) n).map asInts).length ≤ 2000000 := by rw [List.length_map, facs_length]; omega
    have HHN : Hid _ := facs_succ (x := bl s) n
    have HHS : Hid _ := fpos_succ (x := bl s) n
    obtain ⟨adl, cl, rfl⟩ := own_valB hown
    have HOWN : Hid _ := hown
    have HFAC : Hid (((facs (bl s) (n + 1)).map asInts) = (facs (bl s) n).map asInts ++ [asInts (facOf (bl s) (fpos (bl s) n))]) := by rw [HHN.out, List.map_append]; rfl
    have HP : Hid (∃ p, p = fpos (bl s) n) := ⟨_, rfl⟩
    obtain ⟨p, hp⟩ := HP.out
    rw [← hp] at hn hle hge
    have HPP : Hid _ := hp
    have HFI : Hid (fpos (bl s) n = s.size → IsFacs (bl s) (facs (bl s) n)) := fun h => ⟨n, by rw [bl_length]; exact h, rfl⟩
    obtain ⟨fl, hfl⟩ : ∃ fl, (facs (bl s) n).map asInts = fl := ⟨_, rfl⟩
    have HFL : Hid _ := hfl
    rw [hfl] at HOWN hlen HFAC hown ⊢
    clear hfl
    rw [← hp]
    clear hp hown HP
    obtain ⟨w0, hw0⟩ : ∃ w0, w0 = wr := ⟨_, rfl⟩
    subst hw0
    by_cases hlt : p < s.size
    · have i1 : (p : Int) < (s.size : Int) := by omega
      have i2 : (0 : Int) ≤ (p : Int) := by omega
      have HNUM : Hid _ := bl_num hlt
      have hX0 : Blk (w0.alloc (Obj.cells #[.int .i64 0, .int .i64 0, .int .u8 (s[p].toNat : Nat)] 111)) w0.heap.size 111 [.int .i64 0, .int .i64 0, .int .u8 (s[p].toNat : Nat)] := Blk.new w0 _ _ rfl
      have hB0 : Below w0.heap.size w0 (w0.alloc (Obj.cells #[.int .i64 0, .int .i64 0, .int .u8 (s[p].toNat : Nat)] 111)) := (Below.refl _ _).alloc (Nat.le_refl _) _
      obtain ⟨y, hy⟩ : ∃ y, y = s[p].toNat := ⟨_, rfl⟩
      rw [← hy] at hX0 hB0
      have HY : Hid _ := hy
      have hz0 := bestTo_zero (x := bl s) (i := p)
      have HZ0 : Hid _ := hz0
      clear hz0
      go_wp2_with fail
      rw [← hy]
      clear hy
      generalize w0.alloc (Obj.cells #[.int .i64 0, .int .i64 0, .int .u8 (y : Nat)] 111) = w1 at hX0 hB0 ⊢
      go_loopw [7] (fun kv w2 => ∃ k : Nat, k ≤ p ∧ kv = .int .i64 k ∧ Blk w2 w0.heap.size 111 [.int .i64 ((bestTo (bl s) p k).1 : Nat), .int .i64 ((bestTo (bl s) p k).2 : Nat), .int .u8 ((if (bestTo (bl s) p k).2 = 0 then y else 0 : Nat) : Nat)] ∧ Below w0.heap.size w0 w2) (fun kv _ => p - (intOf kv).toNat)
      case atStart => exact ⟨0, Nat.zero_le _, rfl, by rw [HZ0.out]; exact hX0, hB0⟩
      case round =>
        clear hX0 hB0
        obtain ⟨k, hk, rfl, hX, hB2⟩ := hrel
        have hbt := bestTo_succ (x := bl s) (i := p) k
        have hbl := bestTo_le (x := bl s) (i := p) k
        have hbn := bestTo_none (x := bl s) (i := p) k
        rw [bl_length] at hbl
        obtain ⟨F, L, hq⟩ : ∃ F L, bestTo (bl s) p k = (F, L) := ⟨_, _, rfl⟩
        rw [hq] at hX hbt hbl hbn
        simp only at hX hbt hbl hbn
        obtain ⟨z, hz⟩ : ∃ z, z = (if L = 0 then y else 0) := ⟨_, rfl⟩
        rw [← hz] at hX
        have hblt := hX.lt
        obtain ⟨x0, x1, x2⟩ := cells3 hX
        have HBT : Hid _ := hbt
        have HQ : Hid _ := hq
        have HZ : Hid _ := hz
        have HBN : Hid _ := hbn
        clear hbt hq hz hbn
        by_cases hkp : k < p
        · have i3 : (k : Int) < (p : Int) := by omega
          have j1 : (k : Int) ≤ (s.size : Int) := by omega
          have j2 : (p : Int) ≤ (s.size : Int) := by omega
          have j3 : (0 : Int) ≤ (k : Int) := by omega
          go_wp2_with fail
          go_region_held3 (fun w' => w'.cell? ⟨w0.heap.size, 1, none⟩ = some (.int .i64 (L : Nat))) (go_keep)
            (first | (go_at_call 73; refine (HAG.out k p _ (by omega) (by omega)).mono ?_; rintro e w4 ⟨rfl, hb4⟩; have hX4 := (hX.later ((Below.refl _ _).drew)).later hb4; have hB4 := Below.later hB2.drew hb4; obtain ⟨y0, y1, y2⟩ := cells3 hX4))
          have f0 := hX4.free 0
          have f1 := hX4.free 1
          have f2 := hX4.free 2
          clear x0 x1 x2 hX
          have hal := lcp_le_right ((bl s).drop k) ((bl s).drop p)
          rw [List.length_drop, bl_length] at hal
          generalize lcp ((bl s).drop k) ((bl s).drop p) = a at hal HBT ⊢
          by_cases hc : L < a
          · have j4 : (L : Int) < (a : Int) := by omega
            have hXf := hX4.set3 (.int .i64 (k : Nat)) (.int .i64 (a : Nat)) (.int .u8 0)
            have hBf : Below w0.heap.size w0 _ := ((hB4.setCell (p := ⟨w0.heap.size, 0, none⟩) (by simp) (.int .i64 (k : Nat))).setCell (p := ⟨w0.heap.size, 1, none⟩) (by simp) (.int .i64 (a : Nat))).setCell (p := ⟨w0.heap.size, 2, none⟩) (by simp) (.int .u8 0)
            have HXF : Hid _ := hXf
            have HBF : Hid _ := hBf
            clear hXf hBf
            go_wp2
            go_roundw
            case rel =>
              refine ⟨k + 1, by omega, by go_num, ?_, HBF.out⟩
              rw [HBT.out, if_pos hc]
              simp only
              rw [if_neg (by omega)]
              exact HXF.out
            case measure => simp [intOf]; omega
          · have j4 : ¬ (L : Int) < (a : Int) := by omega
            go_wp2
            go_roundw
            case rel =>
              refine ⟨k + 1, by omega, by go_num, ?_, hB4⟩
              rw [HBT.out, if_neg hc]
              simp only
              rw [← HZ.out]
              exact hX4
            case measure => simp [intOf]; omega
        · have ek : k = p := by omega
          subst ek
          have i3 : ¬ (k : Int) < (k : Int) := by omega
          have HFO : Hid (asInts (facOf (bl s) k) = ((F : Int), (L : Int), z)) := by
            unfold asInts facOf
            rw [HQ.out, HZ.out, HY.out, HNUM.out]
            rfl
          have hfp : fpos (bl s) (n + 1) = k + max 1 L := by rw [HHS.out, ← HPP.out, HQ.out]
          have HFP : Hid _ := hfp
          clear hfp
          have hs2 := hB2.size
          have hsw := hB.size
          have HO2 : Hid _ := own_fr HOWN.out (Fr.of_below hB2) (fun _ _ _ h => by cases h)
          have v1 : IntKind.i64.wrap ((k : Int) + 1) = (k : Int) + 1 := by rw [IntKind.wrap_i64]; omega
          have v2 : IntKind.i64.wrap ((k : Int) + 1 + (L : Int)) = (k : Int) + 1 + (L : Int) := by rw [IntKind.wrap_i64]; omega
          have v3 : IntKind.i64.wrap ((k : Int) + 1 + (L : Int) - 1) = (k : Int) + (L : Int) := by rw [IntKind.wrap_i64]; omega
          have hX' : Hid _ := hX
          clear HQ HZ HBT HBN
          by_cases h0 : L = 0
          · have HJ4 : Hid (L = 0) := h0
            clear h0
            go_wp2_with (first
              | (at_builtin; refine wpList_push_fac 107 111 Try.underlying107 Try.infoRFac _ rfl (.tmp 39) (.tmp 41) rfl w.heap.size (.slice adl fl.length cl) fl rfl (World.ownsRow.alloc HO2.out _) wr.heap.size ((F : Int), (L : Int), z) 111 rfl (Blk.new _ _ _ (by simp)) hlen (by simp; omega) ?_; intro v4 w4 q1 q2 q3; have hF4 := Blk.fr (Blk.alloc hX'.out _) (Fr.of_grown q2) (fun r hr => by simp at hr; subst hr; exact fun e => absurd ((World.ownsRow.lt HOWN.out _ e.symm).2) (by omega)); obtain ⟨y0, y1, y2⟩ := cells3 hF4; have HQ1 : Hid _ := q1; have hB4 := (((hB.mono (Nat.le_refl _)).trans (hB2.mono hsw)).alloc (by omega) _).grown q2 (by simp; omega) (fun k hk => (World.ownsRow.lt HO2.out k hk).1); have j4 : ¬ (0 : Int) < (L : Int) := (by have := HJ4.out; omega); clear q1 q2 q3)
              | fail)
            go_roundw
            case rel =>
              refine ⟨n + 1, by have := HFP.out; have := HJ4.out; omega, ?_, ?_, hB4⟩
              · rw [HFP.out]; exact congrArg (fun x : Int => Value.int .i64 x) (by have := HJ4.out; omega)
              · rw [HFAC.out, ← HPP.out, HFO.out]; exact HQ1.out
            case measure => simp [intOf]; omega
          · have j4 : (0 : Int) < (L : Int) := by omega
            go_wp2_with (first
              | (at_builtin; refine wpList_push_fac 107 111 Try.underlying107 Try.infoRFac _ rfl (.tmp 39) (.tmp 41) rfl w.heap.size (.slice adl fl.length cl) fl rfl (World.ownsRow.alloc HO2.out _) wr.heap.size ((F : Int), (L : Int), z) 111 rfl (Blk.new _ _ _ (by simp)) hlen (by simp; omega) ?_; intro v4 w4 q1 q2 q3; have hF4 := Blk.fr (Blk.alloc hX'.out _) (Fr.of_grown q2) (fun r hr => by simp at hr; subst hr; exact fun e => absurd ((World.ownsRow.lt HOWN.out _ e.symm).2) (by omega)); obtain ⟨y0, y1, y2⟩ := cells3 hF4; have HQ1 : Hid _ := q1; have hB4 := (((hB.mono (Nat.le_refl _)).trans (hB2.mono hsw)).alloc (by omega) _).grown q2 (by simp; omega) (fun k hk => (World.ownsRow.lt HO2.out k hk).1); clear q1 q2 q3)
              | fail)
            go_roundw
            case rel =>
              refine ⟨n + 1, by have := HFP.out; omega, ?_, ?_, hB4⟩
              · rw [HFP.out]; exact congrArg (fun x : Int => Value.int .i64 x) (by omega)
              · rw [HFAC.out, ← HPP.out, HFO.out]; exact HQ1.out
            case measure => simp [intOf]; omega
    · have i1 : ¬ (p : Int) < (s.size : Int) := by omega
      have ep : p = s.size := by omega
      go_wp2
      go_ret2
      refine ⟨_, rfl, facs (bl s) n, HFI.out (by rw [← HPP.out]; exact ep), ?_, hB⟩
      rw [HFL.out, show (facs (bl s) n).length = fl.length by rw [← HFL.out, List.length_map]]
      exact HOWN.out
set_option maxHeartbeats 1000000 in
theorem refFactors_long (s : ByteArray) (w : World) (hs : 1000 < s.size) :
    Calls Try.prog 66 #[.string s] w fun e w' => e = .returned (.tuple #[.slice none 0 0, .int .i64 2]) ∧ Below w.heap.size w w' := by
  have i1 : (1000 : Int) < (s.size : Int) := by omega
  go_enter Try.func66, Try.ntmps66
  go_wp2
  go_ret2
  exact ⟨rfl, Below.refl _ _⟩
theorem refFactors_tell (s : ByteArray) (f : List (Nat × Nat × Nat)) (hf : IsFacs (bl s) f) (w : World) : Calls Try.prog 66 #[.string s] w (TellFac 111 (facL s f) (facE s) w) := by
  unfold facL facE
  by_cases h : 1000 < s.size
  · rw [if_pos h, if_pos h]
    refine (refFactors_long s w h).mono ?_
    rintro e w' ⟨rfl, hb⟩
    exact ⟨_, rfl, World.ownsRow_nil _ _ _ _, hb⟩
  · rw [if_neg h, if_neg h]
    refine (refFactors_any s w (by omega)).mono ?_
    rintro e w' ⟨v, f', rfl, hf', hown, hb⟩
    have e := IsFacs.unique hf' hf
    subst e
    exact ⟨_, rfl, hown, hb⟩
end Go.Proofs.Ytepklbboejnecaa

/- Rebuilt. -/
namespace Go.Proofs.Ytepklbboejnecaa
open Go.RowKit Go.Shelf Sedge
attribute [local go_sem ↓] Go.wp_at_zero Go.wp_at_succ

/-- Numbers that are read. -/
def ZS (w : World) (ad : Option Addr) (zs : List Int) : Prop := ∀ k (h : k < zs.length), ∃ b o, ad = some ⟨b, o, none⟩ ∧ w.cell? ⟨b, o + k, none⟩ = some (.int .i64 zs[k]) ∧ -9223372036854775808 ≤ zs[k] ∧ zs[k] ≤ 9223372036854775807
theorem join_told {t : ByteArray} {l : List (Int × Int × Nat)} {k : Nat} (h : joinAll l = .ok (bl t, k)) (hl : l.length ≤ 1000) : joinR l = .tuple #[.string t, .int .i64 0, .int .i64 0] := by
  unfold joinR
  rw [if_neg (by omega), joinV_ok h]
  simp only [ofL_bl]
theorem factors_short (t : ByteArray) (ht : t.size ≤ 300) (f : List (Nat × Nat × Nat)) (hf : IsFacs (bl t) f) (w : World) : Calls Try.prog 35 #[.string t] w fun e w' => ∃ v, e = .returned (.tuple #[v, .int .i64 0]) ∧ w'.ownsRow w.heap.size 64 3 v (f.map asInts).length (FV (f.map asInts)) ∧ Below w.heap.size w w' := by
  have h := Factors_tell t f hf w
  unfold TellFac facL facE at h
  rw [if_neg (by omega), if_neg (by omega)] at h
  exact h
/-- So far the pieces go: a byte, or what stood ahead. -/
structure Mine (x : List Nat) (i a : Nat) (l : List (Int × Int × Nat)) : Prop where
  len : l.length = i
  le : a ≤ x.length
  join : joinAll l = .ok (x.take a, i)
  far : a ≤ fpos x i
  ge : i ≤ a
theorem Mine.zero (x : List Nat) : Mine x 0 0 [] := ⟨rfl, Nat.zero_le _, by simp [joinAll], Nat.zero_le _, Nat.zero_le _⟩
theorem Mine.next {x : List Nat} {i a F L z : Nat} {l : List (Int × Int × Nat)} (h : Mine x i a l) (ha : a < x.length) (hx : x.length ≤ 1000) (hp : PieceAt x a (F, L, z)) : Mine x (i + 1) (a + max 1 L) (l ++ [((F : Int), (L : Int), z)]) := by
  have hs := hp.step (k := i) ha hx
  have hle := hp.le ha
  simp only at hle
  refine ⟨by rw [List.length_append, h.len]; rfl, hle, ?_, ?_, by have := h.ge; omega⟩
  · rw [joinAll_snoc, h.join]; exact hs
  · rcases hp with ⟨h1, _⟩ | ⟨h1, h2, h3, h4⟩
    · simp only at h1
      rw [h1]; exact greedy_one h.far
    · exact greedy h.far h3 h4
theorem Mine.done {x : List Nat} {i a : Nat} {l : List (Int × Int × Nat)} {f : List (Nat × Nat × Nat)} (h : Mine x i a l) (ha : a = x.length) (hf : IsFacs x f) : f.length ≤ i := by
  obtain ⟨n, e, rfl⟩ := hf
  rw [facs_length]
  by_cases c : n ≤ i
  · exact c
  · have := fpos_mono (x := x) (show i < n by omega)
    have := h.far
    omega
theorem pieceAt_byte (x : List Nat) (a : Nat) : PieceAt x a (0, 0, num x a) := Or.inl ⟨rfl, rfl, rfl⟩
theorem pieceAt_cut {x : List Nat} {a F L z m : Nat} (h : PieceAt x a (F, L, z)) (hm : m < L) : PieceAt x a (F, 1 + m, z) := by
  rcases h with ⟨h1, h2, h3⟩ | ⟨h1, h2, h3, h4⟩
  · simp only at h1; omega
  · simp only at h1 h2 h3 h4
    exact Or.inr ⟨by simp only; omega, h2, h3, by simp only; omega⟩
theorem pieceAt_of {x : List Nat} {a k n : Nat} (hn : 0 < n) (hk : k < a) (h : n ≤ lcp (x.drop k) (x.drop a)) : PieceAt x a (k, n, 0) := Or.inr ⟨hn, rfl, hk, h⟩
theorem lcp_more {x : List Nat} {k a n : Nat} (h : n ≤ lcp (x.drop k) (x.drop a)) (hka : k < a) (ha : a + n < x.length) (he : num x (k + n) = num x (a + n)) : n + 1 ≤ lcp (x.drop k) (x.drop a) := by
  have h0 := (lcp_eq_iff _ _ _).1 h
  refine (lcp_eq_iff _ _ _).2 ⟨by rw [List.length_drop]; omega, by rw [List.length_drop]; omega, fun j hj => ?_⟩
  by_cases e : j = n
  · subst e; rw [num_drop, num_drop]; exact he
  · exact h0.2.2 j (by omega)

set_option maxRecDepth 100000 in
set_option maxHeartbeats 16000000 in
theorem rebuilt_any (raw : ByteArray) (ad : Option Addr) (zs : List Int) (c : Nat) (w : World) (hz : ZS w ad zs) :
    Calls Try.prog 12 #[.string raw, .slice ad zs.length c] w fun e w' => e = .returned (.bool true) ∧ Below w.heap.size w w' := by
  have HZS : Hid _ := hz
  clear hz
  go_enter Try.func12, Try.ntmps12
  go_wp2_with fail
  refine (short300_any raw w).mono ?_
  rintro e w' ⟨⟨t, ht, rfl⟩, e0⟩
  rw [e0]
  clear e0 w'
  go_wp2_with fail
  refine (awake_any w).mono ?_
  rintro e w1 ⟨rfl, hb1⟩
  obtain ⟨f, hf⟩ := exists_facs (bl t)
  have HF : Hid _ := hf
  have HC1 : Hid _ := fun W => factors_short t ht f hf W
  have hfl := facs_le hf
  rw [bl_length] at hfl
  have HJT : Hid (joinR (f.map asInts) = .tuple #[.string t, .int .i64 0, .int .i64 0]) := join_told (hf.join (by rw [bl_length]; omega)) (by rw [List.length_map]; omega)
  have hlm : (f.map asInts).length = f.length := List.length_map _
  have HB1 : Hid _ := hb1
  generalize f.map asInts = fl at HC1 HJT hlm
  have HLM : Hid _ := hlm
  clear hf hlm hb1
  go_wp2_with fail
  refine Calls.mono (HC1.out _) ?_
  rintro e w2 ⟨v, rfl, hown, hb2⟩
  obtain ⟨adf, cf, rfl, hFS⟩ := FacS.own hown
  have HC2 : Hid _ := Join_any adf fl cf w2 hFS
  have HB2 : Hid _ := Below.later HB1.out hb2
  have i1 : (fl.length : Int) ≤ (t.size : Int) := by have := HLM.out; omega
  clear hown hFS hb2 HB1
  go_wp2_with fail
  refine Calls.mono HC2.out ?_
  rintro e w3 ⟨rfl, hb3⟩
  rw [HJT.out]
  have HB3 : Hid _ := Below.later HB2.out hb3
  clear HC2 HB2 hb3 HC1
  go_wp2_with fail
  go_loopw [12, 13, 14] (fun lv av iv wr => ∃ (i a : Nat) (l : List (Int × Int × Nat)), av = .int .i64 a ∧ iv = .int .i64 i ∧ Mine (bl t) i a l ∧ wr.ownsRow w.heap.size 64 3 lv l.length (FV l) ∧ Below w.heap.size w wr) (fun _ av _ _ => t.size - (intOf av).toNat)
  case atStart => exact ⟨0, 0, [], rfl, rfl, Mine.zero _, World.ownsRow_nil _ _ _ _, HB3.out⟩
  case round =>
    obtain ⟨i, a, l, rfl, rfl, hM, hown, hB⟩ := hrel
    obtain ⟨adl, cl, rfl⟩ := own_valB hown
    obtain ⟨w0, hw0⟩ : ∃ w0, w0 = wr := ⟨_, rfl⟩
    subst hw0
    have hMl := hM.le
    have hMg := hM.ge
    have hMn := hM.len
    rw [bl_length] at hMl
    have hll : l.length ≤ 2000000 := by omega
    have HMN : Hid _ := hMn
    have HM : Hid _ := hM
    have HO : Hid _ := hown
    clear hM hown hMn
    by_cases hlt : a < t.size
    · have i3 : (a : Int) < (t.size : Int) := by omega
      have i4 : (0 : Int) ≤ (a : Int) := by omega
      have hnum := bl_num hlt
      have HNUM : Hid _ := hnum
      have hX0 : Blk (w0.alloc (Obj.cells #[.int .i64 0, .int .i64 0, .int .u8 (t[a].toNat : Nat)] 64)) w0.heap.size 64 [.int .i64 0, .int .i64 0, .int .u8 (t[a].toNat : Nat)] := Blk.new w0 _ _ rfl
      have hB0 : Below w0.heap.size w0 (w0.alloc (Obj.cells #[.int .i64 0, .int .i64 0, .int .u8 (t[a].toNat : Nat)] 64)) := (Below.refl _ _).alloc (Nat.le_refl _) _
      obtain ⟨y, hy⟩ : ∃ y, y = t[a].toNat := ⟨_, rfl⟩
      rw [← hy] at hX0 hB0
      have HY : Hid _ := hy
      have v0 : IntKind.i64.wrap ((a : Int) - 1) = (a : Int) - 1 := by rw [IntKind.wrap_i64]; omega
      clear hnum
      go_wp2_with fail
      rw [← hy]
      clear hy
      generalize w0.alloc (Obj.cells #[.int .i64 0, .int .i64 0, .int .u8 (y : Nat)] 64) = w1' at hX0 hB0 ⊢
      go_loopw [16] (fun kv w2 => ∃ (kk F L z : Nat), kk ≤ a ∧ kv = .int .i64 ((kk : Int) - 1) ∧ PieceAt (bl t) a (F, L, z) ∧ L ≤ 300 ∧ Blk w2 w0.heap.size 64 [.int .i64 (F : Nat), .int .i64 (L : Nat), .int .u8 (z : Nat)] ∧ Below w0.heap.size w0 w2) (fun kv _ => (intOf kv + 1).toNat)
      case atStart => exact ⟨a, 0, 0, y, Nat.le_refl _, rfl, by rw [HY.out, ← HNUM.out]; exact pieceAt_byte _ _, by omega, hX0, hB0⟩
      case round =>
        clear hX0 hB0 v0
        obtain ⟨kk, F, L, z, hka, rfl, hp, hL3, hX, hB2⟩ := hrel
        have HP : Hid _ := hp
        clear hp
        have hblt := hX.lt
        by_cases hk0 : 0 < kk
        · obtain ⟨k, rfl⟩ : ∃ k, kk = k + 1 := ⟨kk - 1, by omega⟩
          rw [show ((k + 1 : Nat) : Int) - 1 = (k : Int) by omega]
          have j0 : (0 : Int) ≤ (k : Int) := by omega
          go_wp2_with fail
          go_loopw [17] (fun nv w3 => ∃ n : Nat, nv = .int .i64 n ∧ n ≤ lcp ((bl t).drop k) ((bl t).drop a) ∧ Blk w3 w0.heap.size 64 [.int .i64 (F : Nat), .int .i64 (L : Nat), .int .u8 (z : Nat)] ∧ Below w0.heap.size w0 w3) (fun nv _ => t.size - (intOf nv).toNat)
          case atStart => exact ⟨0, rfl, Nat.zero_le _, hX, hB2⟩
          case round =>
            clear hX hB2 hblt
            obtain ⟨n, rfl, hn, hX, hB2⟩ := hrel
            have hbl := lcp_le_right ((bl t).drop k) ((bl t).drop a)
            rw [List.length_drop, bl_length] at hbl
            have HN : Hid _ := hn
            have hn2 : n ≤ t.size - a := by omega
            clear hn hbl
            have hblt := hX.lt
            obtain ⟨x0, x1, x2⟩ := cells3 hX
            have v1 : IntKind.i64.wrap ((a : Int) + (n : Int)) = (a : Int) + (n : Int) := by rw [IntKind.wrap_i64]; omega
            have v2 : IntKind.i64.wrap ((k : Int) + (n : Int)) = (k : Int) + (n : Int) := by rw [IntKind.wrap_i64]; omega
            have n2 : ((k : Int) + (n : Int)).toNat = k + n := by omega
            have v3 : IntKind.i64.wrap ((k : Int) - 1) = (k : Int) - 1 := by rw [IntKind.wrap_i64]; omega
            have n1 : ((a : Int) + (n : Int)).toNat = a + n := by omega
            by_cases hs : a + n < t.size
            · have hs2 : k + n < t.size := by omega
              have i5 : (a : Int) + (n : Int) < (t.size : Int) := by omega
              have i6 : (0 : Int) ≤ (a : Int) + (n : Int) := by omega
              have i7 : (k : Int) + (n : Int) < (t.size : Int) := by omega
              have i8 : (0 : Int) ≤ (k : Int) + (n : Int) := by omega
              have na := bl_num hs
              have nb := bl_num hs2
              have HNA : Hid _ := na
              have HNB : Hid _ := nb
              clear na nb
              by_cases hq : t[k + n].toNat = t[a + n].toNat
              · have hbq : (((t[k + n].toNat : Nat) : Int) == ((t[a + n].toNat : Nat) : Int)) = true := by rw [hq]; simp
                have HN1 : Hid (n + 1 ≤ lcp ((bl t).drop k) ((bl t).drop a)) := lcp_more HN.out (by omega) (by rw [bl_length]; exact hs) (by rw [HNA.out, HNB.out, hq])
                clear hq
                go_wp2
                go_quiet (fail)
                go_wp2
                go_roundw
                case rel => exact ⟨n + 1, by go_num, HN1.out, hX.later ((Below.refl _ _).drewN _), hB2.drewN _⟩
                case measure => simp [intOf]; omega
              · have hbq : (((t[k + n].toNat : Nat) : Int) == ((t[a + n].toNat : Nat) : Int)) = false := by rw [beq_eq_false_iff_ne]; omega
                clear hq
                go_wp2
                go_quiet (fail)
                have hX9 := hX.later ((Below.refl _ _).drewN nq)
                have hB9 := hB2.drewN nq
                obtain ⟨y0, y1, y2⟩ := cells3 hX9
                have g0 := hX9.free 0
                have g1 := hX9.free 1
                have g2 := hX9.free 2
                clear x0 x1 x2
                generalize wr.drewN nq = w9 at hX9 hB9 y0 y1 y2 g0 g1 g2 ⊢
                by_cases hc : L < n
                · have j4 : (L : Int) < (n : Int) := by omega
                  have HXF : Hid _ := hX9.set3 (.int .i64 (k : Nat)) (.int .i64 (n : Nat)) (.int .u8 0)
                  have HBF : Hid _ := ((hB9.setCell (p := ⟨w0.heap.size, 0, none⟩) (by simp) (.int .i64 (k : Nat))).setCell (p := ⟨w0.heap.size, 1, none⟩) (by simp) (.int .i64 (n : Nat))).setCell (p := ⟨w0.heap.size, 2, none⟩) (by simp) (.int .u8 0)
                  go_wp2
                  go_roundw
                  case rel => exact ⟨k, k, n, 0, by omega, by go_num, pieceAt_of (by omega) (by omega) HN.out, by omega, HXF.out, HBF.out⟩
                  case measure => simp [intOf]
                · have j4 : ¬ (L : Int) < (n : Int) := by omega
                  go_wp2
                  go_roundw
                  case rel => exact ⟨k, F, L, z, by omega, by go_num, HP.out, hL3, hX9, hB9⟩
                  case measure => simp [intOf]
            · have i5 : decide ((a : Int) + (n : Int) < (t.size : Int)) = false := by simp; omega
              go_wp2
              go_quiet (fail)
              have hX9 := hX.later ((Below.refl _ _).drewN nq)
              have hB9 := hB2.drewN nq
              obtain ⟨y0, y1, y2⟩ := cells3 hX9
              have g0 := hX9.free 0
              have g1 := hX9.free 1
              have g2 := hX9.free 2
              clear x0 x1 x2
              generalize wr.drewN nq = w9 at hX9 hB9 y0 y1 y2 g0 g1 g2 ⊢
              by_cases hc : L < n
              · have j4 : (L : Int) < (n : Int) := by omega
                have HXF : Hid _ := hX9.set3 (.int .i64 (k : Nat)) (.int .i64 (n : Nat)) (.int .u8 0)
                have HBF : Hid _ := ((hB9.setCell (p := ⟨w0.heap.size, 0, none⟩) (by simp) (.int .i64 (k : Nat))).setCell (p := ⟨w0.heap.size, 1, none⟩) (by simp) (.int .i64 (n : Nat))).setCell (p := ⟨w0.heap.size, 2, none⟩) (by simp) (.int .u8 0)
                go_wp2
                go_roundw
                case rel => exact ⟨k, k, n, 0, by omega, by go_num, pieceAt_of (by omega) (by omega) HN.out, by omega, HXF.out, HBF.out⟩
                case measure => simp [intOf]
              · have j4 : ¬ (L : Int) < (n : Int) := by omega
                go_wp2
                go_roundw
                case rel => exact ⟨k, F, L, z, by omega, by go_num, HP.out, hL3, hX9, hB9⟩
                case measure => simp [intOf]
        · have ek : kk = 0 := by omega
          subst ek
          rw [show ((0 : Nat) : Int) - 1 = -1 from rfl]
          have hsw := hB.size
          have hs2 := hB2.size
          have HXX : Hid _ := hX
          have v1 : IntKind.i64.wrap ((a : Int) + 1) = (a : Int) + 1 := by rw [IntKind.wrap_i64]; omega
          have v4 : IntKind.i64.wrap ((i : Int) + 1) = (i : Int) + 1 := by rw [IntKind.wrap_i64]; omega
          have hxl : (bl t).length ≤ 1000 := by rw [bl_length]; omega
          have hal : a < (bl t).length := by rw [bl_length]; exact hlt
          by_cases h0 : L = 0
          · subst h0
            have hX' : Blk wr w0.heap.size 64 [.int .i64 (F : Nat), .int .i64 0, .int .u8 (z : Nat)] := hX
            have HX' : Hid _ := hX'
            obtain ⟨x0, x1, x2⟩ := cells3 hX'
            have HMN2 : Hid _ := Mine.next HM.out hal hxl HP.out
            have HO2 : Hid _ := own_fr HO.out (Fr.of_below hB2) (fun _ _ _ h => by cases h)
            clear hX hX' hxl hal
            go_wp2_with (first
              | (at_builtin; refine wpList_push_fac 61 64 Try.underlying61 Try.infoFac _ rfl (.tmp 117) (.tmp 119) rfl w.heap.size (.slice adl l.length cl) l rfl (World.ownsRow.alloc HO2.out _) wr.heap.size ((F : Int), (0 : Int), z) 64 rfl (Blk.new _ _ _ (by simp)) hll (by simp; omega) ?_; intro v4 w4 q1 q2 q3; have hF4 := Blk.fr (Blk.alloc HX'.out _) (Fr.of_grown q2) (fun r hr => by simp at hr; subst hr; exact fun e => absurd ((World.ownsRow.lt HO.out _ e.symm).2) (by omega)); obtain ⟨y0, y1, y2⟩ := cells3 hF4; have HQ1 : Hid _ := q1; have hB4 := ((hB.trans (hB2.mono hsw)).alloc (by omega) _).grown q2 (by simp; omega) (fun k hk => (World.ownsRow.lt HO2.out k hk).1); clear q1 q2 q3)
              | fail)
            go_roundw
            case rel => exact ⟨i + 1, a + 1, l ++ [((F : Int), ((0 : Nat) : Int), z)], by go_num, by go_num, HMN2.out, HQ1.out, hB4⟩
            case measure => simp [intOf]; omega
          · have j0 : (0 : Int) < (L : Int) := by omega
            have hpl := PieceAt.le HP.out hal
            simp only at hpl
            rw [bl_length] at hpl
            have hpl2 : a + L ≤ t.size := by omega
            have v2 : IntKind.i64.wrap ((a : Int) + 1 + (L : Int)) = (a : Int) + 1 + (L : Int) := by rw [IntKind.wrap_i64]; omega
            have v3 : IntKind.i64.wrap ((a : Int) + 1 + (L : Int) - 1) = (a : Int) + (L : Int) := by rw [IntKind.wrap_i64]; omega
            by_cases hi : i < zs.length
            · have j1 : (i : Int) < (zs.length : Int) := by omega
              have j2 : (0 : Int) ≤ (i : Int) := by omega
              obtain ⟨cb, co, rfl, hcz, hz1, hz2⟩ := HZS.out i hi
              have d1 := (hB.cell (cell_lt hcz)).trans hcz
              have d2 := (hB2.cell (cell_lt d1)).trans d1
              have hcl := cell_lt d2
              obtain ⟨zi, hzi⟩ : ∃ zi, zi = zs[i] := ⟨_, rfl⟩
              rw [← hzi] at hz1 hz2 d2
              have HPK : Hid (∀ W, Calls Try.prog 23 #[.int .i64 zi, .int .i64 L] W fun e w' => (∃ k : Nat, k < L ∧ e = .returned (.int .i64 k)) ∧ w' = W) := fun W => kpick_any zi L W hz1 hz2 (by omega) (by omega)
              obtain ⟨x0, x1, x2⟩ := cells3 hX
              have hlX := hX.lt
              have hne : cb ≠ w0.heap.size := by have := cell_lt d1; simp only at this; omega
              clear hcz d1 hzi hz1 hz2 hpl
              go_wp2_with fail
              go_cut [13] (fun x wx => ∃ m : Nat, m < L ∧ x = .int .i64 a ∧ Blk wx w0.heap.size 64 [.int .i64 (F : Nat), .int .i64 ((1 + m : Nat) : Int), .int .u8 (z : Nat)] ∧ Below w0.heap.size w0 wx)
              case first =>
                have hX5 := hX.later ((Below.refl _ _).drew)
                have hB5 := hB2.drew
                obtain ⟨y0, y1, y2⟩ := cells3 hX5
                have f1 := hX5.free 1
                go_region_with
                  (first | (go_at_call 23; refine Calls.mono (HPK.out _) ?_; rintro e w5 ⟨⟨m, hm, rfl⟩, e5⟩; rw [e5]; clear e5 w5))
                all_goals (go_wp2_with fail)
                all_goals go_meet
                all_goals (
                  refine ⟨m, hm, rfl, ?_, ?_⟩
                  · have e9 : IntKind.i64.wrap (1 + (m : Int)) = ((1 + m : Nat) : Int) := by rw [IntKind.wrap_i64]; omega
                    rw [e9]
                    exact (Blk.set hX 1 _).later ((Below.refl _ _).drew)
                  · exact (hB2.setCell (p := ⟨w0.heap.size, 1, none⟩) (by simp) _).drew)
              case rest =>
              obtain ⟨m, hm, rfl, hX6, hB6⟩ := hcut
              clear x0 x1 x2 hX hB2 d2 hcl hlX HPK hs2 v2 v3
              have hs2 := hB6.size
              have HPC : Hid _ := pieceAt_cut HP.out hm
              obtain ⟨K, hK⟩ : ∃ K, K = 1 + m := ⟨_, rfl⟩
              rw [← hK] at hX6 HPC
              have hK1 : 0 < K := by omega
              have hK2 : a + K ≤ t.size := by omega
              clear hK
              have HX' : Hid _ := hX6
              obtain ⟨x0, x1, x2⟩ := cells3 hX6
              have HMN2 : Hid _ := Mine.next HM.out hal hxl HPC.out
              have HO2 : Hid _ := own_fr HO.out (Fr.of_below hB6) (fun _ _ _ h => by cases h)
              have j5 : (0 : Int) < (K : Int) := by omega
              have v2 : IntKind.i64.wrap ((a : Int) + 1 + (K : Int)) = (a : Int) + 1 + (K : Int) := by rw [IntKind.wrap_i64]; omega
              have v3 : IntKind.i64.wrap ((a : Int) + 1 + (K : Int) - 1) = (a : Int) + (K : Int) := by rw [IntKind.wrap_i64]; omega
              clear hX6 hxl hal
              go_wp2_with (first
                | (at_builtin; refine wpList_push_fac 61 64 Try.underlying61 Try.infoFac _ rfl (.tmp 117) (.tmp 119) rfl w.heap.size (.slice adl l.length cl) l rfl (World.ownsRow.alloc HO2.out _) wc.heap.size ((F : Int), (K : Int), z) 64 rfl (Blk.new _ _ _ (by simp)) hll (by simp; omega) ?_; intro v4 w4 q1 q2 q3; have hF4 := Blk.fr (Blk.alloc HX'.out _) (Fr.of_grown q2) (fun r hr => by simp at hr; subst hr; exact fun e => absurd ((World.ownsRow.lt HO.out _ e.symm).2) (by omega)); obtain ⟨y0, y1, y2⟩ := cells3 hF4; have HQ1 : Hid _ := q1; have hB4 := ((hB.trans (hB6.mono hsw)).alloc (by omega) _).grown q2 (by simp; omega) (fun k hk => (World.ownsRow.lt HO2.out k hk).1); clear q1 q2 q3)
                | fail)
              go_roundw
              case rel => exact ⟨i + 1, a + max 1 K, l ++ [((F : Int), (K : Int), z)], congrArg (fun x : Int => Value.int .i64 x) (by omega), by go_num, HMN2.out, HQ1.out, hB4⟩
              case measure => simp [intOf]; omega
            · have j1 : ¬ (i : Int) < (zs.length : Int) := by omega
              have HX' : Hid _ := hX
              obtain ⟨x0, x1, x2⟩ := cells3 hX
              have HMN2 : Hid _ := Mine.next HM.out hal hxl HP.out
              have HO2 : Hid _ := own_fr HO.out (Fr.of_below hB2) (fun _ _ _ h => by cases h)
              clear hX hxl hal hpl
              go_wp2_with (first
                | (at_builtin; refine wpList_push_fac 61 64 Try.underlying61 Try.infoFac _ rfl (.tmp 117) (.tmp 119) rfl w.heap.size (.slice adl l.length cl) l rfl (World.ownsRow.alloc HO2.out _) wr.heap.size ((F : Int), (L : Int), z) 64 rfl (Blk.new _ _ _ (by simp)) hll (by simp; omega) ?_; intro v4 w4 q1 q2 q3; have hF4 := Blk.fr (Blk.alloc HX'.out _) (Fr.of_grown q2) (fun r hr => by simp at hr; subst hr; exact fun e => absurd ((World.ownsRow.lt HO.out _ e.symm).2) (by omega)); obtain ⟨y0, y1, y2⟩ := cells3 hF4; have HQ1 : Hid _ := q1; have hB4 := ((hB.trans (hB2.mono hsw)).alloc (by omega) _).grown q2 (by simp; omega) (fun k hk => (World.ownsRow.lt HO2.out k hk).1); clear q1 q2 q3)
                | fail)
              go_roundw
              case rel => exact ⟨i + 1, a + max 1 L, l ++ [((F : Int), (L : Int), z)], congrArg (fun x : Int => Value.int .i64 x) (by omega), by go_num, HMN2.out, HQ1.out, hB4⟩
              case measure => simp [intOf]; omega
    · have ea : a = t.size := by omega
      have ha : ¬ (a : Int) < (t.size : Int) := by omega
      have hdone : f.length ≤ i := HM.out.done (by rw [bl_length]; exact ea) HF.out
      have hj := HM.out.join
      rw [ea, ← bl_length t, List.take_length] at hj
      have HJ2 : Hid (joinR l = .tuple #[.string t, .int .i64 0, .int .i64 0]) := join_told hj (by have := HMN.out; omega)
      obtain ⟨ado, co, e2, hFS2⟩ := FacS.own HO.out
      simp only [Value.slice.injEq, true_and] at e2
      obtain ⟨rfl, rfl⟩ := e2
      have HC3 : Hid _ := Join_any adl l cl w0 hFS2
      have i2 : (fl.length : Int) ≤ (l.length : Int) := by have := HLM.out; have := HMN.out; omega
      clear hj ea hFS2
      go_wp2_with fail
      refine Calls.mono HC3.out ?_
      rintro e w4 ⟨rfl, hb4⟩
      rw [HJ2.out]
      go_wp2
      go_ret
      exact ⟨rfl, Below.later hB hb4⟩
end Go.Proofs.Ytepklbboejnecaa
