/- Going backward through a slice, and turning one round. -/
import Derived.RangeFuncBox
import Derived.RangeFuncLeaves
import Derived.RangeFuncCalls
import Derived.Shelf.Abstract
import Derived.OwnWalkIn
import Derived.TacticsInMore
import Derived.LoopNIn
import Derived.LoopIn
import Derived.Test.YtepklbboejnecaaGreatWi
namespace Go.Proofs.YtepklbboejnecaaGreat
open Go.RowKit Go.Shelf Sedge

attribute [local go_sem] Oper.semAt_some

/-- What has come when k rounds are over. -/
def upto {α : Type} (f : Nat → α) (k : Nat) : List α := (List.range k).map f
theorem upto_succ {α : Type} (f : Nat → α) (k : Nat) : upto f (k + 1) = upto f k ++ [f k] := by simp [upto, List.range_succ]
theorem upto_length {α : Type} (f : Nat → α) (k : Nat) : (upto f k).length = k := by simp [upto]

/-- What a round of a loop over a slice keeps: all old blocks but two. -/
def Kept (n0 r g : Nat) (W W' : World) : Prop := ∀ k, k < n0 → k ≠ r → k ≠ g → W'.heap[k]? = W.heap[k]?
theorem Kept.refl (n0 r g : Nat) (W : World) : Kept n0 r g W W := fun _ _ _ _ => rfl
theorem Kept.trans {n0 r g : Nat} {A B C : World} (h : Kept n0 r g A B) (k : Kept n0 r g B C) : Kept n0 r g A C := fun i h1 h2 h3 => (k i h1 h2 h3).trans (h i h1 h2 h3)
theorem Kept.book {n0 r g : Nat} {w : World} (hn : n0 ≤ w.heap.size) (W : World) (l : Nat) (o o' : Obj) (hl : w.heap.size ≤ l) (_ : W.heap[l]? = some o) (_ : o.isCells = false) (_ : o.isWalk = false) : Kept n0 r g W (W.putObj l o') :=
  fun k h1 _ _ => World.putObj_heap_other (by omega)
theorem Kept.cell {n0 r g : Nat} {W W' : World} (h : Kept n0 r g W W') {b o : Nat} (h1 : b < n0) (h2 : b ≠ r) (h3 : b ≠ g) : W'.cell? ⟨b, o, none⟩ = W.cell? ⟨b, o, none⟩ := World.cell?_of_block (h b h1 h2 h3)

theorem num_reverse {st : List Nat} {t : Nat} (h : t < st.length) : num st.reverse t = num st (st.length - 1 - t) := by
  have h1 : t < st.reverse.length := by simpa using h
  rw [num_eq h1, num_eq (show st.length - 1 - t < st.length by omega), List.getElem_reverse]

set_option maxHeartbeats 1000000 in
/-- slices.Backward. -/
theorem backward_in (n : Nat) (a : Option Addr) (len cap : Nat) (w : World) :
    CallsIn Fence.wide n Tryz.prog 137 #[.slice a len cap] w fun e w' => e = .returned (.func (.func 149) #[] #[.pointer (some ⟨w.heap.size, 0, none⟩)]) ∧ w' = w.alloc (.cells #[.slice a len cap] 55) := by
  refine callsIn_of_wp Tryz.func137 rfl trivial ?_ rfl
  simp only [Tryz.ntmps137, List.size_toArray, List.length_cons, List.length_nil, Nat.reduceAdd, Nat.reduceSub, Array.replicate_succ, Array.replicate_zero, List.push_toArray, List.append_toArray, List.nil_append, List.cons_append]
  gi_wp2
  go_ret
  exact ⟨rfl, rfl⟩

set_option maxRecDepth 100000 in
set_option maxHeartbeats 2000000 in
/-- Its closure: the rounds, from the last place down; J k: what holds when k rounds are over. -/
theorem backward1_in (n : Nat) (_hn : 1 ≤ n) (l Bs n0 r g : Nat) (ad : Option Addr) (cap : Nat) (st : List Nat) (hst : st.length ≤ 1000000) (hBs : Bs < n0 ∧ Bs ≠ r ∧ Bs ≠ g) (hbl : ∀ b o, ad = some ⟨b, o, none⟩ → 0 < st.length → b < n0 ∧ b ≠ r ∧ b ≠ g) (J : Nat → World → Prop)
    (hY : ∀ k W, J k W → k < st.length → YieldAt Fence.wide (n - 1) Tryz.prog l #[.int .i64 ((st.length - 1 - k : Nat) : Int), .int .i64 (num st.reverse k : Nat)] W fun e W' =>
      e = .returned (.bool true) ∧ J (k + 1) W' ∧ Kept n0 r g W W')
    (W : World) (hc0 : W.cell? ⟨Bs, 0, none⟩ = some (.slice ad st.length cap)) (hc : Sl W ad st) (h0 : J 0 W) :
    CallsIn Fence.wide n Tryz.prog 149 #[.func (.yield l) #[] #[], .pointer (some ⟨Bs, 0, none⟩)] W fun e W' => (∃ v, e = .returned v) ∧ J st.length W' := by
  refine callsIn_of_wp Tryz.func149 rfl trivial ?_ rfl
  simp only [Tryz.ntmps149, List.size_toArray, List.length_cons, List.length_nil, Nat.reduceAdd, Nat.reduceSub, Array.replicate_succ, Array.replicate_zero, List.push_toArray, List.append_toArray, List.nil_append, List.cons_append]
  gi_wp2
  gi_loopw [3] (fun i wr => ∃ k : Nat, k ≤ st.length ∧ i = .int .i64 ((st.length : Int) - 1 - k) ∧ J k wr ∧ Kept n0 r g W wr)
    (fun i _ => (intOf i + 1).toNat)
  case atStart => exact ⟨0, Nat.zero_le _, by simp, h0, Kept.refl _ _ _ _⟩
  case round =>
    obtain ⟨k, hk, rfl, hJs, hnx⟩ := hrel
    have hb0 := (hnx.cell (o := 0) hBs.1 hBs.2.1 hBs.2.2).trans hc0
    by_cases hlt : k < st.length
    · obtain ⟨b, o, rfl, hcx⟩ := hc (st.length - 1 - k) (by omega)
      obtain ⟨q1, q2, q3⟩ := hbl b o rfl (by omega)
      have hcx' := (hnx.cell (o := o + (st.length - 1 - k)) q1 q2 q3).trans hcx
      rw [← num_reverse hlt] at hcx'
      obtain ⟨fn, tmps, assign, body, hy, hR⟩ := hY k wr hJs hlt
      rw [show (((st.length - 1 - k : Nat)) : Int) = (st.length : Int) - 1 - k by omega] at hy
      obtain ⟨m, hm⟩ : ∃ m : Nat, st.length - 1 - k = m := ⟨_, rfl⟩
      have hm' : (st.length : Int) - 1 - k = (m : Int) := by omega
      rw [hm'] at hy ⊢
      rw [hm] at hcx'
      have hml : (m : Int) < (st.length : Int) := by omega
      have HM : Hid ((st.length : Int) - 1 - k = (m : Int)) := hm'
      clear hm hm'
      gi_wp2
      refine hR.mono ?_
      rintro e W3 ⟨rfl, hJ3, hk3⟩
      gi_wp2
      go_roundw
      case rel => exact ⟨k + 1, by omega, by have := HM.out; congr 1; omega, hJ3, hnx.trans hk3⟩
      case measure => simp [intOf]
    · obtain rfl : k = st.length := by omega
      rw [show (st.length : Int) - 1 - (st.length : Int) = -1 by omega]
      gi_wp2
      go_end0
      exact ⟨⟨_, rfl⟩, hJs⟩

/-- 'for _, p := range slices.Backward(st) { .. }', where the body always goes on: I k: what holds when k rounds are over; it speaks of blocks that lay when the loop began. -/
theorem range_back {op : Operand} {p1 p2 : Tmp} {assign body : Code} {Q : Exit → Act → World → Prop} {a : Act} {w : World} (n : Nat) (hn : 2 ≤ n) (Bs r g : Nat) (ad : Option Addr) (cap : Nat) (st : List Nat) (hst : st.length ≤ 1000000)
    (hg : a.eval op = .func (.func 149) #[] #[.pointer (some ⟨Bs, 0, none⟩)]) (hBs : Bs < w.heap.size ∧ Bs ≠ r ∧ Bs ≠ g) (hbl : ∀ b o, ad = some ⟨b, o, none⟩ → 0 < st.length → b < w.heap.size ∧ b ≠ r ∧ b ≠ g)
    (hc0 : w.cell? ⟨Bs, 0, none⟩ = some (.slice ad st.length cap)) (hc : Sl w ad st)
    (I : Nat → World → Prop) (hput : ∀ k W j o, w.heap.size ≤ j → I k W → I k (W.putObj j o)) (halloc : ∀ W o, I 0 W → I 0 (W.alloc o)) (h0 : I 0 w) (a1 : Nat → Act)
    (hassign : ∀ (l k : Nat) (W : World) (K : Act → World → Prop), k < st.length → K (a1 k) W →
      assign.wpIn (Fence.wide.inRound l) (n - 1 - 1) Tryz.prog (Exit.then K (fun _ _ _ => False)) { tmps := (a.tmps.setIfInBounds p1 (.int .i64 ((st.length - 1 - k : Nat) : Int))).setIfInBounds p2 (.int .i64 (num st.reverse k : Nat)), defers := [] } W)
    (hbody : ∀ (l k : Nat) (W : World), I k W → k < st.length → w.heap.size ≤ W.heap.size → body.wpIn (Fence.wide.inRound l) (n - 1 - 1) Tryz.prog (fun e _ W' => e = .normal ∧ KeepsFrom w.heap.size W W' ∧ Kept w.heap.size r g W W' ∧ I (k + 1) W') (a1 k) W)
    (hdone : ∀ (D : Nat) (W : World), w.heap.size ≤ D → I st.length W → W.heap[D]? = some (.deferred (some [])) → Q .normal { a with defers := { target := .collected D, args := #[] } :: a.defers } W) :
    (Code.rangeFunc op #[p1, p2] assign body).wpIn Fence.wide n Tryz.prog Q a w := by
  refine wpIn_rangeFunc fun fn hfn => ?_
  obtain ⟨rd, hrd⟩ : ∃ rd : Loop, rd = { state := .ready, pending := none, fn, tmps := a.tmps, params := #[p1, p2], assign, body, defers := w.heap.size } := ⟨_, rfl⟩
  have hent := run_enterLoop_outer (P := Tryz.prog) (w := w) fn a.tmps #[p1, p2] assign body
  rw [← hrd] at hent
  obtain ⟨W1, hW1⟩ : ∃ W1, (w.alloc (.deferred (some []))).alloc (.loop rd) = W1 := ⟨_, rfl⟩
  rw [hW1] at hent
  have hsz1 : W1.heap.size = w.heap.size + 1 + 1 := by rw [← hW1]; simp
  have hL1 : W1.heap[w.heap.size + 1]? = some (.loop rd) := by
    rw [← hW1]; have := World.alloc_heap_new (w.alloc (.deferred (some []))) (.loop rd); rwa [World.size_alloc] at this
  have hD1 : W1.heap[w.heap.size]? = some (.deferred (some [])) := by
    rw [← hW1, Below.heap_alloc _ _ _ (by simp)]; exact World.alloc_heap_new w _
  have hB1 : Below w.heap.size w W1 := by rw [← hW1]; exact ((Below.refl _ _).alloc (Nat.le_refl _) _).alloc (by simp) _
  refine ⟨w.heap.size + 1, [{ target := .collected w.heap.size, args := #[] }], W1, { target := .fn (.func 149) #[.pointer (some ⟨Bs, 0, none⟩)], args := #[.func (.yield (w.heap.size + 1)) #[] #[]] }, W1, 149,
    #[.func (.yield (w.heap.size + 1)) #[] #[], .pointer (some ⟨Bs, 0, none⟩)], W1, hent, ?_, fun _ _ => trivial, ?_, (fun h => by cases h), ?_⟩
  · simp only [resolve, hg]; simp [go_sem]
  · simp [invoke, go_sem]
  · refine (backward1_in (n - 1) (by omega) (w.heap.size + 1) Bs w.heap.size r g ad cap st hst hBs hbl
      (fun k W => I k W ∧ W.heap[w.heap.size + 1]? = some (.loop rd) ∧ W.heap[w.heap.size]? = some (.deferred (some [])) ∧ w.heap.size ≤ W.heap.size) ?_ W1 ((hB1.cell (p := ⟨Bs, 0, none⟩) hBs.1).trans hc0) (hc.later hB1) ⟨by rw [← hW1]; exact halloc _ _ (halloc _ _ h0), hL1, hD1, by omega⟩).mono ?_
    · rintro k W ⟨hi, hl, hd, hs⟩ hk
      have hlt : w.heap.size + 1 < W.heap.size := lt_of_block hl
      have hy := run_yield (P := Tryz.prog) (args := #[.int .i64 ((st.length - 1 - k : Nat) : Int), .int .i64 (num st.reverse k : Nat)]) hl (by rw [hrd]; rfl)
      rw [hrd] at hy
      have hy2 : (Instr.yield (w.heap.size + 1) #[.int .i64 ((st.length - 1 - k : Nat) : Int), .int .i64 (num st.reverse k : Nat)]).run Tryz.prog W = .ok (.round (w.heap.size + 1) fn ((a.tmps.setIfInBounds p1 (.int .i64 ((st.length - 1 - k : Nat) : Int))).setIfInBounds p2 (.int .i64 (num st.reverse k : Nat))) assign body) W := by rw [hy]; simp
      refine ⟨fn, _, assign, body, hy2, roundIn_of_wpIn hfn ?_⟩
      refine hassign _ k W _ hk ?_
      refine ⟨W.putObj (w.heap.size + 1) (.loop { rd with state := .busy }), run_beginRound hl (by rw [hrd]), ?_⟩
      have hl2 : (W.putObj (w.heap.size + 1) (.loop { rd with state := .busy })).heap[w.heap.size + 1]? = some (.loop { rd with state := .busy }) := World.putObj_heap_same hlt
      have hd2 : (W.putObj (w.heap.size + 1) (.loop { rd with state := .busy })).heap[w.heap.size]? = some (.deferred (some [])) := (World.putObj_heap_other (by omega)).trans hd
      refine wpIn_mono (hbody _ k _ (hput k W _ _ (by omega) hi) hk (by simp; omega)) ?_
      rintro e a3 W3 ⟨rfl, hkf, hkp, hi3⟩
      have hl3 := hkf.same _ _ (by omega) hl2 rfl
      have hd3 := hkf.same _ _ (Nat.le_refl _) hd2 rfl
      have hlt3 : w.heap.size + 1 < W3.heap.size := lt_of_block hl3
      refine ⟨_, _, run_endRound none hl3, rfl, ⟨hput _ _ _ _ (by omega) hi3, ?_, (World.putObj_heap_other (by omega)).trans hd3, by simp; omega⟩, ?_⟩
      · rw [World.putObj_heap_same hlt3, hrd]; rfl
      · intro j h1 h2 h3
        rw [World.putObj_heap_other (by omega), hkp j h1 h2 h3, World.putObj_heap_other (by omega)]
    · rintro e W2 ⟨⟨v, rfl⟩, hi, hl, hd, hs⟩
      exact ⟨none, _, by have := run_endLoop (P := Tryz.prog) hl (by rw [hrd]; simp); rw [this, hrd], hdone _ _ (Nat.le_refl _) (hput _ _ _ _ (by omega) hi) ((World.putObj_heap_other (by omega)).trans hd)⟩
end Go.Proofs.YtepklbboejnecaaGreat
