/- Turning back. -/
import Derived.Test.YtepklbboejnecaaZc
namespace Go.Proofs.Ytepklbboejnecaa
open Go.RowKit Go.Shelf Sedge
attribute [local go_sem ↓] Go.wp_at_zero Go.wp_at_succ

/-- What Back answers: the rows that were met. -/
def Backs (s : ByteArray) (r : Nat) (w : World) (e : Ending) (w' : World) : Prop :=
  ∃ A, Walk (bl s) r A ∧ num A (A.length - 1) = 0 ∧ e = .returned (.tuple #[.string (if A.length = s.size + 1 then ofL (met (bl s) r A) else ⟨#[]⟩), .bool (decide (A.length = s.size + 1))]) ∧ Below w.heap.size w w'

set_option maxRecDepth 20000 in
set_option maxHeartbeats 4000000 in
/-- turn.Back. -/
theorem back_any (s : ByteArray) (r : Nat) (w : World) (hs : s.size ≤ 1000) (hr : r ≤ s.size) :
    Calls Try.prog 65 #[.string s, .int .i64 r] w (Backs s r w) := by
  have hL : ∀ p, num (bl s) p < 256 := bl_lt s
  have hFl : (Fo (bl s) r).length = s.size + 1 := by rw [Fo_length hL, bl_length]
  have HL : Hid _ := hL
  have HFL : Hid _ := hFl
  have HR : Hid (r ≤ (bl s).length) := by unfold Hid; rw [bl_length]; exact hr
  clear hL hFl
  have i1 : ¬ (r : Int) < 0 := by omega
  have i2 : ¬ (s.size : Int) < (r : Int) := by omega
  go_enter Try.func65, Try.ntmps65
  go_wp2_with fail
  refine (following_any s r w (by omega) hr).mono ?_
  rintro e w1 ⟨g1, rfl, hg1, hr1, hb1⟩
  obtain ⟨ob, hmk, hown0⟩ := run_make_capB s.size (by omega) w1
  have HW0 : Hid _ := hown0
  have hB2 : Below w.heap.size w (w1.alloc ob) := hb1.alloc hb1.size _
  have hr2 : Row (w1.alloc ob) g1 (Fo (bl s) r) := Blk.alloc hr1 _
  have hg1' : g1 < w1.heap.size := Blk.lt hr1
  have hs1 := hb1.size
  clear hown0 hb1 hr1
  go_wp2_with fail
  clear hmk
  go_loopw [7, 8] (fun bv av wr => ∃ A : List Nat, Walk (bl s) r A ∧ av = .int .i64 (num A (A.length - 1) : Nat) ∧ bv = .slice (some ⟨w1.heap.size, 0, none⟩) (met (bl s) r A).length s.size ∧ wr.ownsRow w1.heap.size 5 1 (.slice (some ⟨w1.heap.size, 0, none⟩) (met (bl s) r A).length s.size) (met (bl s) r A).length (UV (met (bl s) r A)) ∧ Row wr g1 (Fo (bl s) r) ∧ Below w.heap.size w wr ∧ w1.heap.size < wr.heap.size) (fun bv _ _ => s.size + 1 - lenOf bv)
  case atStart => exact ⟨[r], Walk.start HR.out, rfl, rfl, HW0.out, hr2, hB2, by simp⟩
  case round =>
    clear hr2 hB2 HW0
    obtain ⟨A, hA, rfl, rfl, hW, hF, hB, hsz⟩ := hrel
    have h0 := hA.ne
    have hAl := hA.length_le
    rw [bl_length] at hAl
    have hla := hA.le _ (num_mem (show A.length - 1 < A.length by omega))
    rw [bl_length] at hla
    have hml : (met (bl s) r A).length = A.length - 1 := met_length
    by_cases hz : num A (A.length - 1) = 0
    · have hz' : ((num A (A.length - 1) : Int) == 0) = true := by rw [hz]; rfl
      have HZ : Hid _ := hz
      have HA : Hid _ := hA
      have hcv := convert_own hW
      by_cases hf : A.length = s.size + 1
      · have HF : Hid _ := hf
        have i3 : ¬ ((met (bl s) r A).length : Int) < (s.size : Int) := by omega
        clear hf hA hz hml hW
        go_wp2
        go_ret2
        exact ⟨A, HA.out, HZ.out, by rw [if_pos HF.out, decide_eq_true HF.out]; rfl, hB⟩
      · have HF : Hid _ := hf
        have i3 : ((met (bl s) r A).length : Int) < (s.size : Int) := by omega
        clear hf hA hz hml hW
        go_wp2
        go_ret2
        exact ⟨A, HA.out, HZ.out, by rw [if_neg HF.out, decide_eq_false HF.out]; rfl, hB⟩
    · have hz' : ((num A (A.length - 1) : Int) == 0) = false := by rw [beq_eq_false_iff_ne]; omega
      have hst := hA.step HL.out HR.out hz
      have hc := hF.cell (k := num A (A.length - 1)) (by rw [HFL.out]; omega)
      have hx := Fo_le (r := r) HL.out (show num A (A.length - 1) ≤ (bl s).length by rw [bl_length]; exact hla)
      rw [bl_length] at hx
      have hxr : num (Fo (bl s) r) (num A (A.length - 1)) ≠ r := by
        have hn := hst.nd
        rw [List.nodup_append] at hn
        intro e
        have := hn.2.2 r (by rw [← hA.first]; exact num_mem h0) (num (Fo (bl s) r) (num A (A.length - 1))) (by simp)
        exact this e.symm
      have hpos := ah_pos (L := bl s) hxr
      have hlt257 := ah_lt (r := r) HL.out (num (Fo (bl s) r) (num A (A.length - 1)))
      have hsl := hst.length_le
      rw [bl_length, List.length_append, List.length_singleton] at hsl
      have hmp := met_push (L := bl s) (r := r) h0 (num (Fo (bl s) r) (num A (A.length - 1)))
      have i3 : (num A (A.length - 1) : Int) < (s.size : Int) + 1 := by omega
      have i4 : (0 : Int) ≤ (num A (A.length - 1) : Int) := by omega
      obtain ⟨x, hxe⟩ : ∃ x, x = num (Fo (bl s) r) (num A (A.length - 1)) := ⟨_, rfl⟩
      rw [← hxe] at hst hc hx hpos hlt257 hmp
      have HA : Hid _ := hst
      have HMP : Hid _ := hmp
      have HW : Hid _ := hW
      have HF : Hid _ := hF
      have HML : Hid _ := hml
      obtain ⟨y, hy⟩ : ∃ y, y = num A (A.length - 1) := ⟨_, rfl⟩
      rw [← hy] at hc hz' i3 i4 ⊢
      obtain ⟨q, hq⟩ : ∃ q, q = ah (bl s) r x := ⟨_, rfl⟩
      have CA := ahead_any s r x wr (by omega) hr hx
      rw [← hq] at CA hpos hlt257
      have HCA : Hid _ := CA
      have HQ : Hid _ := hq
      have v1 : IntKind.i64.wrap ((q : Int) - 1) = ((q - 1 : Nat) : Int) := by rw [IntKind.wrap_i64]; omega
      have v2 : IntKind.u8.wrap (((q - 1 : Nat) : Int)) = ((q - 1 : Nat) : Int) := by rw [IntKind.wrap_u8]; omega
      have hroom : (met (bl s) r A).length + 1 ≤ s.size := by omega
      clear hst hmp hW hF hml hxe hxr CA hq hy hz hla
      go_wp2_with (first
        | (go_at_call 104; refine Calls.mono HCA.out ?_; rintro e w5 ⟨rfl, rfl⟩)
        | (at_builtin; refine wpList_roomB _ rfl (.tmp 30) (.tmp 37) rfl w1.heap.size w1.heap.size s.size (met (bl s) r A) rfl (World.ownsRow.alloc HW.out _) ⟨w5.heap.size, 0, none⟩ (q - 1) rfl (by simp) hroom ?_; intro w3 hown3 hg3)
        | fail)
      have hme : met (bl s) r (A ++ [x]) = met (bl s) r A ++ [q - 1] := by rw [HMP.out, HQ.out]
      have hB4 : Below w.heap.size w w3 := (hB.alloc (by omega) _).grown hg3 (by simp; omega) (fun j e => by simp at e; omega)
      have hz4 := hg3.size
      simp only [World.size_alloc] at hz4
      have hF4 : Row w3 g1 (Fo (bl s) r) := by
        have := Blk.alloc HF.out (Obj.cells #[.int .u8 ((q - 1 : Nat) : Int)] 5)
        unfold Row Blk
        rw [hg3.block g1 (by simp; omega) (by simp; omega)]
        exact this
      go_roundw
      case rel => exact ⟨A ++ [x], HA.out, by rw [num_append_r (by simp), List.length_append, List.length_singleton, Nat.add_sub_cancel, Nat.sub_self]; rfl, by rw [hme, List.length_append]; rfl, by rw [hme]; exact hown3, hF4, hB4, by omega⟩
      case measure => simp [lenOf]; omega
end Go.Proofs.Ytepklbboejnecaa
