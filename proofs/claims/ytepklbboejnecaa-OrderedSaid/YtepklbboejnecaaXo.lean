/- Thirds: merging. -/
import Derived.Test.YtepklbboejnecaaXi
import Derived.Test.YtepklbboejnecaaWv
namespace Go.Proofs.Ytepklbboejnecaa
open Go.RowKit Go.Shelf Sedge
attribute [local go_sem ↓] Go.wp_at_zero Go.wp_at_succ

theorem run_make_cap (n : Nat) (hn : n ≤ 1000000) (w : World) : (Instr.makeSlice 36 (.int .i64 0) (.int .i64 (n : Int))).run Try.prog w = .ok (.slice (some ⟨w.heap.size, 0, none⟩) 0 n) (w.alloc (.cells (IV (tab n fun _ => 0)).toArray 3)) := by
  obtain ⟨i0, hi, hz0, hz1, hz2⟩ := info_parts Try.infoInt
  have hr := run_make (P := Try.prog) w 36 3 i0 (.int .i64 0) Try.underlying36 hi hz0 .i64 .i64 0 n (by omega) (by omega) (by rw [hz2]; omega) (by omega)
  simp only [Int.toNat_natCast] at hr
  rw [← tab_zero]
  have e : (madeCells (Value.int .i64 0).cells (n * 1)) = (IV (List.replicate n 0)).toArray := by
    apply Array.ext'
    have := toList_madeCells_one (.int .i64 0) n
    simpa [Value.cells, IV] using this
  rw [← e]
  rw [hz1] at hr
  exact hr
theorem own_made (n : Nat) (hn : n ≤ 1000000) (w : World) : (w.alloc (.cells (IV (tab n fun _ => 0)).toArray 3)).ownsRow w.heap.size 3 1 (.slice (some ⟨w.heap.size, 0, none⟩) 0 n) ([] : List Nat).length (IV []) := by
  refine ⟨rfl, .inr ⟨w.heap.size, n, _, rfl, Nat.le_refl _, heap_alloc_new w _, Nat.zero_le _, by unfold maxLen; omega, ?_, rfl⟩⟩
  simp [IV, tab]

/-- What holds all along the merging. -/
structure MG (ad ar : Option Addr) (l r : List Nat) (c cr : Nat) (kinds kr : Int) (w wr : World) : Prop where
  bx : Blk wr w.heap.size 87 [.slice ad l.length c, .int .i64 kinds]
  by' : Blk wr (w.heap.size + 1) 87 [.slice ar r.length cr, .int .i64 kr]
  b : Below w.heap.size w wr
theorem MG.later {ad ar : Option Addr} {l r : List Nat} {c cr : Nat} {kinds kr : Int} {w wr w2 : World} (h : MG ad ar l r c cr kinds kr w wr) (hb : Below wr.heap.size wr w2) : MG ad ar l r c cr kinds kr w w2 := ⟨h.bx.later hb, h.by'.later hb, Below.later h.b hb⟩
theorem MG.below {ad ar : Option Addr} {l r : List Nat} {c cr : Nat} {kinds kr : Int} {w wr w2 : World} (h : MG ad ar l r c cr kinds kr w wr) (hb : Below (w.heap.size + 2) wr w2) : MG ad ar l r c cr kinds kr w w2 := ⟨h.bx.below hb (by omega), h.by'.below hb (by omega), h.b.trans (hb.mono (by omega))⟩

/-- The rest of the others, as the variable holds it. -/
structure Rest (bO : Nat) (O : List Nat) (j : Nat) (vo : Value) (off cap : Nat) (wr : World) : Prop where
  v : vo = .slice (some ⟨bO, off, none⟩) (O.drop j).length cap
  le : (O.drop j).length ≤ cap
  cap' : cap ≤ 9223372036854775807
  sl : Sl wr (some ⟨bO, off, none⟩) (O.drop j)
  j : j ≤ O.length
theorem Rest.below {bO : Nat} {O : List Nat} {j : Nat} {vo : Value} {off cap B : Nat} {wr w2 : World} (h : Rest bO O j vo off cap wr) (hb : Below B wr w2) (hB : bO < B) : Rest bO O j vo off cap w2 := ⟨h.v, h.le, h.cap', h.sl.below hb (fun b o e => by simp at e; omega), h.j⟩

set_option maxHeartbeats 4000000 in
/-- 'merged'. -/
theorem merged_any (ad adS ar : Option Addr) (l S O r : List Nat) (c cS cr bO : Nat) (kinds kr : Int) (w : World) (hl : Sl w ad l) (hS : Sl w adS S) (hO : Sl w (some ⟨bO, 0, none⟩) O) (hbO : bO < w.heap.size) (hr : Sl w ar r) (hn : l.length ≤ 100000) (hv : ∀ p, num l p ≤ 1000000) (hvr : ∀ p, num r p ≤ 1000000) (R : RankOf l r)
    (sS : S.Pairwise (suf l)) (mS : ∀ p, p ∈ S ↔ p ∈ chosen l.length) (sO : O.Pairwise (suf l)) (mO : ∀ p, p ∈ O ↔ p < l.length ∧ (l.length - p) % 3 = 0) (nS : S.length ≤ 100000) (nO : O.length ≤ 100000) :
    Calls Try.prog 89 #[.agg #[.slice ad l.length c, .int .i64 kinds], .slice adS S.length cS, .slice (some ⟨bO, 0, none⟩) O.length O.length, .agg #[.slice ar r.length cr, .int .i64 kr]] w (Answers l w) := by
  have hmk := run_make_cap l.length (by omega)
  have hb0 : Below w.heap.size w ((w.alloc (Obj.cells #[Value.slice ad l.length c, Value.int .i64 kinds] 87)).alloc (Obj.cells #[Value.slice ar r.length cr, Value.int .i64 kr] 87)) := ((Below.refl _ _).alloc (Nat.le_refl _) _).alloc (by simp) _
  have hbx : Blk ((w.alloc (Obj.cells #[Value.slice ad l.length c, Value.int .i64 kinds] 87)).alloc (Obj.cells #[Value.slice ar r.length cr, Value.int .i64 kr] 87)) w.heap.size 87 [.slice ad l.length c, .int .i64 kinds] := Blk.alloc (Blk.new w _ _ rfl) _
  have hby : Blk ((w.alloc (Obj.cells #[Value.slice ad l.length c, Value.int .i64 kinds] 87)).alloc (Obj.cells #[Value.slice ar r.length cr, Value.int .i64 kr] 87)) (w.heap.size + 1) 87 [.slice ar r.length cr, .int .i64 kr] := Blk.new _ _ _ (by simp)
  have HSS : Hid _ := sS
  have HMS : Hid _ := mS
  have HSO : Hid _ := sO
  have HMO : Hid _ := mO
  have HR : Hid _ := R
  clear sS mS sO mO R
  have CA := fun W o p a1 a2 => isAhead_any ad ar l r c cr kinds kr o p W a1 a2 hn hv hvr HR.out
  have HCA : Hid _ := CA
  clear CA hv hvr
  go_enter Try.func89, Try.ntmps89
  go_wp2
  go_loopw [2, 9, 18] (fun vo vord i wr => ∃ (k j off cap : Nat) (ord : List Nat), k ≤ S.length ∧ i = .int .i64 k ∧ Rest bO O j vo off cap wr ∧ wr.ownsRow (w.heap.size + 2) 3 1 vord ord.length (IV ord) ∧ Merged l S O k j ord ∧ MG ad ar l r c cr kinds kr w wr) (fun _ _ i _ => S.length - (intOf i).toNat)
  case atStart =>
    refine ⟨0, 0, 0, O.length, [], Nat.zero_le _, rfl, ⟨rfl, Nat.le_refl _, by omega, ((hO.later hb0).alloc _), Nat.zero_le _⟩, ?_, Merged.start HSS.out HSO.out, ?_⟩
    · have := own_made l.length (by omega) ((w.alloc (Obj.cells #[Value.slice ad l.length c, Value.int .i64 kinds] 87)).alloc (Obj.cells #[Value.slice ar r.length cr, Value.int .i64 kr] 87))
      rw [World.size_alloc, World.size_alloc] at this
      exact this
    · exact ⟨hbx.alloc _, hby.alloc _, hb0.alloc hb0.size _⟩
  case round =>
    clear hb0 hbx hby hmk
    obtain ⟨k, j0, off0, cap0, ord0, hk, rfl, hRest0, hown0, hM0, hG0⟩ := hrel
    by_cases hlt : k < S.length
    · obtain ⟨b, o1, rfl, hc⟩ := hS k hlt
      have hc' := (hG0.b.cell (cell_lt hc)).trans hc
      have hMk := mem_chosen.1 ((HMS.out _).1 (num_mem hlt))
      have i2 : (k : Int) < (S.length : Int) := by omega
      have HMk : Hid _ := hMk
      clear hMk
      go_wp2_with fail
      go_loopw [2, 9] (fun vo vord wr => ∃ (j off cap : Nat) (ord : List Nat), Rest bO O j vo off cap wr ∧ wr.ownsRow (w.heap.size + 2) 3 1 vord ord.length (IV ord) ∧ Merged l S O k j ord ∧ MG ad ar l r c cr kinds kr w wr) (fun vo _ _ => lenOf vo)
      case atStart => exact ⟨j0, off0, cap0, ord0, hRest0, hown0, hM0, hG0⟩
      case round =>
        clear hRest0 hown0 hM0 hG0 hc hc'
        obtain ⟨j, off, cap, ord, hRest, hown, hM, hG⟩ := hrel
        have hol : ord.length < 1000000 := by have := hM.len; have := hRest.j; omega
        by_cases hj : j < O.length
        · obtain ⟨rfl, hle, hcap', hsl, hjle⟩ := hRest
          rw [drop_num hj] at hle hsl ⊢
          rw [List.length_cons] at hle ⊢
          obtain ⟨b0, o0, e0, hc0⟩ := hsl 0 (by simp)
          simp only [Option.some.injEq, Addr.mk.injEq, and_true] at e0
          obtain ⟨rfl, rfl⟩ := e0
          rw [show num (num O j :: O.drop (j + 1)) 0 = num O j from rfl, Nat.add_zero] at hc0
          have hmO := (HMO.out _).1 (num_mem hj)
          have HmO : Hid _ := hmO
          obtain ⟨x0, x1⟩ := cells2 hG.bx
          obtain ⟨y0, y1⟩ := cells2 hG.by'
          have j1 : (0 : Int) < (((O.drop (j + 1)).length + 1 : Nat) : Int) := by omega
          have A5 : Below wr.heap.size wr wr.drew := (Below.refl _ _).drew
          have HA5 : Hid _ := A5
          have hlz := cell_lt hc0
          clear A5 hmO
          go_wp2_with fail
          go_region_held3 (fun w' => w'.cell? ⟨w.heap.size, 0, none⟩ = some (.slice ad l.length c) ∧ w'.cell? ⟨w.heap.size, 1, none⟩ = some (.int .i64 kinds) ∧ w'.cell? ⟨w.heap.size + 1, 0, none⟩ = some (.slice ar r.length cr) ∧ w'.cell? ⟨w.heap.size + 1, 1, none⟩ = some (.int .i64 kr) ∧ w'.cell? ⟨bO, off, none⟩ = some (.int .i64 (num O j : Int))) (go_keep)
            (first
              | (go_at_call 125; refine (HCA.out _ (num O j) (num S k) (hl.later (Below.later hG.b HA5.out)) (hr.later (Below.later hG.b HA5.out)) HmO.out.1 HmO.out.2 HMk.out.1 HMk.out.2).mono ?_; rintro e w2 ⟨bb, rfl, hbb, hb2⟩; have hbw := Below.later HA5.out hb2; have hG2 := hG.later hbw; obtain ⟨x4, x5⟩ := cells2 hG2.bx; obtain ⟨y4, y5⟩ := cells2 hG2.by'; have hc2 := (hbw.cell hlz).trans hc0))
          have hown2 := own_later hown hbw
          have hsl2 := hsl.later hbw
          have hd1 : Sl w2 (some ⟨bO, off + 1, none⟩) (O.drop (j + 1)) := hsl2.drop (m := 1)
          have hlm : (O.drop (j + 1)).length = O.length - (j + 1) := List.length_drop
          have hsz2 : w.heap.size + 2 ≤ w2.heap.size := by have := hG2.by'.lt; omega
          rw [hlm] at hle
          have HLM : Hid _ := hlm
          clear hlm hown hsl hc0 hG x0 x1 y0 y1 j1 hb2 hbw hlz
          cases bb with
          | true =>
            have HMg : Hid _ := hM.other hlt hj (hbb.1 rfl)
            clear hbb hM
            have j2 : (1 : Int) ≤ ((O.length - (j + 1) + 1 : Nat) : Int) := by omega
            have j3 : (1 : Int) ≤ (cap : Int) := by omega
            by_cases hcap : cap = 1
            · have hz : O.length - (j + 1) = 0 := by omega
              have HZ : Hid _ := hz
              clear hz
              go_wp2_with (first | (at_builtin; refine wpList_push _ rfl _ _ rfl (w.heap.size + 2) _ _ rfl (hown2.alloc _) ⟨w2.heap.size, 0, none⟩ (num O j) rfl (by simp) hol (by simp; omega) ?_; intro v' w3 hown3 hb4) | fail)
              have hB4 : Below (w.heap.size + 2) w2 w3 := ((Below.refl _ w2).alloc (by omega) _).trans hb4
              have hRn : Rest bO O (j + 1) (.slice (some ⟨bO, off, none⟩) (O.length - (j + 1)) 0) off 0 w3 := ⟨by rw [HLM.out], by rw [HLM.out, HZ.out]; exact Nat.le_refl _, by omega, fun q hq => by rw [HLM.out, HZ.out] at hq; omega, hj⟩
              go_roundw
              case rel => exact ⟨j + 1, off, 0, ord ++ [num O j], hRn, hown3, HMg.out, hG2.below hB4⟩
              case measure => simp [lenOf]
            · go_wp2_with (first | (at_builtin; refine wpList_push _ rfl _ _ rfl (w.heap.size + 2) _ _ rfl (hown2.alloc _) ⟨w2.heap.size, 0, none⟩ (num O j) rfl (by simp) hol (by simp; omega) ?_; intro v' w3 hown3 hb4) | fail)
              have hB4 : Below (w.heap.size + 2) w2 w3 := ((Below.refl _ w2).alloc (by omega) _).trans hb4
              have hRn : Rest bO O (j + 1) (.slice (some ⟨bO, off + 1, none⟩) (O.length - (j + 1)) (cap - 1)) (off + 1) (cap - 1) w3 := ⟨by rw [HLM.out], by rw [HLM.out]; omega, by omega, hd1.below hB4 (fun b o e => by simp at e; omega), hj⟩
              go_roundw
              case rel => exact ⟨j + 1, off + 1, cap - 1, ord ++ [num O j], hRn, hown3, HMg.out, hG2.below hB4⟩
              case measure => simp [lenOf]
          | false =>
            have hns : suf l (num S k) (num O j) := by
              rcases lt_tri (l.drop (num O j)) (l.drop (num S k)) with d | d | d
              · exact absurd (hbb.2 d) (by simp)
              · have := congrArg List.length d
                rw [List.length_drop, List.length_drop] at this
                have := HmO.out; have := HMk.out; omega
              · exact d
            have HMg : Hid _ := hM.taken hlt (Merged.ahead HSO.out hj hns)
            clear hbb hM hns
            go_wp2_with (first | (at_builtin; refine wpList_push _ rfl _ _ rfl (w.heap.size + 2) _ _ rfl (hown2.alloc _) ⟨w2.heap.size, 0, none⟩ (num S k) rfl (by simp) hol (by simp; omega) ?_; intro v' w3 hown3 hb4) | fail)
            have hB4 : Below (w.heap.size + 2) w2 w3 := ((Below.refl _ w2).alloc (by omega) _).trans hb4
            have hRn : Rest bO O j (.slice (some ⟨bO, off, none⟩) (O.length - (j + 1) + 1) cap) off cap w3 := ⟨by rw [List.length_drop]; congr 1; omega, by rw [List.length_drop]; omega, by omega, by rw [drop_num hj]; exact hsl2.below hB4 (fun b o e => by simp at e; omega), by omega⟩
            go_roundw
            case rel => exact ⟨k + 1, j, off, cap, ord ++ [num S k], by omega, by go_num, hRn, hown3, HMg.out, hG2.below hB4⟩
            case measure => simp [intOf]; omega
        · have hjO : O.drop j = [] := List.drop_of_length_le (by omega)
          have HMg : Hid _ := hM.taken hlt (fun x hx => by rw [hjO] at hx; cases hx)
          have hsz2 : w.heap.size + 2 ≤ wr.heap.size := by have := hG.by'.lt; omega
          have hRest' := hRest
          have HRest' : Hid _ := hRest'
          obtain ⟨rfl, hle, hcap', hsl, hjle⟩ := hRest
          have HjO : Hid _ := hjO
          rw [hjO, List.length_nil]
          clear hM hRest' hjO
          go_wp2
          go_quiet (fail)
          have hown2 : World.ownsRow (wr.drewN nq) (w.heap.size + 2) 3 1 _ ord.length (IV ord) := hown
          go_wp2_with (first | (at_builtin; refine wpList_push _ rfl _ _ rfl (w.heap.size + 2) _ ord rfl (hown2.alloc _) ⟨wr.heap.size, 0, none⟩ (num S k) rfl (cell_new (wr.drewN nq) _ _) hol (by show w.heap.size + 2 ≤ ((wr.drewN nq).alloc _).heap.size; rw [World.size_alloc]; exact Nat.le_succ_of_le hsz2) ?_; intro v3 w3 hown3 hb3) | fail)
          have hB4 : Below (w.heap.size + 2) wr w3 := (((Below.refl (w.heap.size + 2) wr).drewN nq).alloc hsz2 _).trans hb3
          have hRn := HRest'.out.below hB4 (by omega)
          rw [HjO.out, List.length_nil] at hRn
          go_roundw
          case rel => exact ⟨k + 1, j, off, cap, ord ++ [num S k], by omega, by go_num, hRn, hown3, HMg.out, hG.below hB4⟩
          case measure => simp [intOf]; omega
    · have hkS : k = S.length := by omega
      subst hkS
      have hlen := hM0.len
      have HD : Hid _ := hM0.done HMS.out HMO.out
      obtain ⟨rfl, hle, hcap', hsl, hjle⟩ := hRest0
      have hsz2 : w.heap.size + 2 ≤ wr.heap.size := by have := hG0.by'.lt; omega
      have hll : ord0.length + (O.drop j0).length ≤ 1000000 := by rw [List.length_drop]; omega
      have HL : Hid _ := hlen
      clear hlen hM0
      obtain ⟨ys, hys⟩ : ∃ ys, ys = O.drop j0 := ⟨_, rfl⟩
      rw [← hys] at hle hsl hll HD ⊢
      clear hys
      go_wp2_with (first
        | (at_builtin; refine wpList_pushAll _ rfl (.tmp 47) (.tmp 48) rfl (w.heap.size + 2) _ ord0 rfl hown0 bO off0 cap0 ys rfl hsl hll hsz2 ?_; intro v3 w3 hown3 hb3)
        | fail)
      go_ret
      exact ⟨_, ord0 ++ ys, rfl, own_mono hown3 (by omega), HD.out, hG0.b.trans (hb3.mono (by omega))⟩
end Go.Proofs.Ytepklbboejnecaa
