/- Picking, and names. -/
import Derived.Test.YtepklbboejnecaaGreatWc
namespace Go.Proofs.YtepklbboejnecaaGreat
open Go.RowKit Sedge

set_option maxHeartbeats 400000 in
/-- 'pick'. -/
theorem pick_any (ad ad' : Option Addr) (l o : List Nat) (c c' : Nat) (w : World) (hl : Sl w ad l) (ho : Sl w ad' o) (hM : ∀ k, k < o.length → num o k < l.length) (hn : o.length ≤ 1000000) (_hn' : l.length ≤ 1000000) :
    Calls Tryz.prog 88 #[.slice ad l.length c, .slice ad' o.length c'] w fun e w' =>
      ∃ g, e = .returned (.slice (some ⟨g, 0, none⟩) o.length o.length) ∧ w.heap.size ≤ g ∧ Row w' g (o.map (num l)) ∧ Below w.heap.size w w' := by
  go_enter Tryz.func88, Tryz.ntmps88
  go_wp2_with (first | (at_make; refine wpList_make_row _ rfl _ _ rfl _ _ o.length rfl rfl rfl rfl hn ?_; intro w1 hrow hsz hbel) | fail)
  go_loopw [13] (fun i wr => ∃ k : Nat, k ≤ o.length ∧ i = .int .i64 k ∧ Row wr w.heap.size (fillTo o.length (fun j => num l (num o j)) k) ∧ Below w.heap.size w wr) (fun i _ => o.length - (intOf i).toNat)
  case atStart => exact ⟨0, Nat.zero_le _, rfl, by rw [fillTo_zero]; exact hrow, hbel⟩
  case round =>
    obtain ⟨k, hk, rfl, hr, hb⟩ := hrel
    clear hrow hbel hsz
    by_cases hlt : k < o.length
    · obtain ⟨b, o1, rfl, hc⟩ := ho k hlt
      have hM' := hM k hlt
      obtain ⟨b2, o2, rfl, hc2⟩ := hl (num o k) hM'
      have hc' := (hb.cell (cell_lt hc)).trans hc
      have hc2' := (hb.cell (cell_lt hc2)).trans hc2
      have hcell := hr.cell (k := k) (by rw [fillTo_length]; exact hlt)
      have hf := Blk.free hr k
      have hr' := hr.set k (num l (num o k))
      rw [fillTo_succ (f := fun j => num l (num o j)) rfl] at hr'
      have hb' := hb.setCell (p := ⟨w.heap.size, k, none⟩) (Nat.le_refl _) (.int .i64 (num l (num o k)))
      clear hr hb hc hc2
      go_wp2
      go_roundw
      case rel => exact ⟨k + 1, by omega, by go_num, hr', hb'⟩
      case measure => simp [intOf]; omega
    · have : k = o.length := by omega
      subst this
      go_wp2
      go_ret
      refine ⟨_, rfl, Nat.le_refl _, ?_, hb⟩
      rw [fillTo_all] at hr
      have e : (tab o.length fun j => num l (num o j)) = o.map (num l) := by
        conv => rhs; rw [← tab_self o]
        simp [tab]
      rwa [e] at hr

/-- A function value that says of two places whether they are alike. -/
structure Tells2 (fn : FuncId) (fi ca : Array Value) (I : World → Prop) (Pre : Nat → Nat → Prop) (sm : Nat → Nat → Bool) : Prop where
  enter : ∀ args w, Sem.run Tryz.prog (callFunc fn args) w = .ok (.enter fn args) w
  keep : ∀ w w', I w → Below w.heap.size w w' → I w'
  run : ∀ (p q : Nat) (w : World), I w → Pre p q → Calls Tryz.prog fn (fi ++ (#[.int .i64 p, .int .i64 q] ++ ca)) w fun e w' => e = .returned (.bool (sm p q)) ∧ Below w.heap.size w w'

/-- The names of the first k places; how many names these have. -/
def nameTo (sm : Nat → Nat → Bool) (o : List Nat) (k p : Nat) : Nat := if p ∈ o.take k then nm sm o (o.idxOf p) else 0
def kindsTo (sm : Nat → Nat → Bool) (o : List Nat) (k : Nat) : Nat := if k = 0 then 0 else nm sm o (k - 1) + 1
theorem nameTo_zero (sm : Nat → Nat → Bool) (o : List Nat) : nameTo sm o 0 = fun _ => 0 := by funext p; simp [nameTo]
theorem nameTo_succ {sm : Nat → Nat → Bool} {o : List Nat} {k : Nat} (hn : o.Nodup) (h : k < o.length) (p : Nat) : nameTo sm o (k + 1) p = if p = num o k then nm sm o k else nameTo sm o k p := by
  unfold nameTo
  rw [take_num h]
  by_cases e : p = num o k
  · rw [if_pos (by simp [e]), if_pos e, e, idx_num hn h]
  · by_cases d : p ∈ o.take k
    · rw [if_pos (by simp [d]), if_neg e, if_pos d]
    · rw [if_neg (by simp [d, e]), if_neg e, if_neg d]
theorem nameTo_all (sm : Nat → Nat → Bool) (o : List Nat) : nameTo sm o o.length = nameOf sm o := by funext p; simp [nameTo, nameOf]
theorem kindsTo_one (sm : Nat → Nat → Bool) (o : List Nat) : kindsTo sm o 1 = 1 := by simp [kindsTo, nm]
theorem kindsTo_succ {sm : Nat → Nat → Bool} {o : List Nat} {k : Nat} (h : 0 < k) : kindsTo sm o (k + 1) = if sm (num o (k - 1)) (num o k) then kindsTo sm o k else kindsTo sm o k + 1 := by
  obtain ⟨j, rfl⟩ : ∃ j, k = j + 1 := ⟨k - 1, by omega⟩
  simp only [kindsTo, Nat.add_sub_cancel, nm]
  rw [if_neg (show ¬ j + 1 + 1 = 0 by omega), if_neg (show ¬ j + 1 = 0 by omega)]
  split <;> omega
theorem kindsTo_nm {sm : Nat → Nat → Bool} {o : List Nat} (k : Nat) : kindsTo sm o (k + 1) = nm sm o k + 1 := by simp [kindsTo]
theorem kindsTo_all (sm : Nat → Nat → Bool) (o : List Nat) : kindsTo sm o o.length = kindsOf sm o := rfl
theorem kindsTo_le (sm : Nat → Nat → Bool) (o : List Nat) (k : Nat) : kindsTo sm o k ≤ k := by
  unfold kindsTo; split
  · omega
  · have := nm_le sm o (k - 1); omega

/-- How far the naming has come: B: the first block of the call's own. -/
structure Naming (sm : Nat → Nat → Bool) (o : List Nat) (n B : Nat) (w wr : World) (k : Nat) : Prop where
  res : Blk wr B 122 [.slice none 0 0, .int .i64 0]
  row : Row wr (B + 1) (tab n (nameTo sm o k))
  nam : Blk wr (B + 1 + 1) 122 [.slice (some ⟨B + 1, 0, none⟩) n n, .int .i64 (kindsTo sm o k)]
  bel : Below B w wr
theorem Naming.later {sm : Nat → Nat → Bool} {o : List Nat} {n B : Nat} {w wr w2 : World} {k : Nat} (h : Naming sm o n B w wr k) (hb : Below wr.heap.size wr w2) : Naming sm o n B w w2 k :=
  ⟨h.res.later hb, Blk.later h.row hb, h.nam.later hb, h.bel.trans (hb.mono (by have := h.res.lt; omega))⟩
theorem Naming.inc {sm : Nat → Nat → Bool} {o : List Nat} {n B : Nat} {w wr : World} {k : Nat} (h : Naming sm o n B w wr k) (hnd : o.Nodup) (hk : k < o.length) (he : kindsTo sm o (k + 1) = kindsTo sm o k + 1) :
    Naming sm o n B w ((wr.setCell ⟨B + 1 + 1, 1, none⟩ (.int .i64 ((kindsTo sm o k : Int) + 1))).setCell ⟨B + 1, num o k, none⟩ (.int .i64 (kindsTo sm o k))) (k + 1) := by
  have e : nm sm o k = kindsTo sm o k := by have := kindsTo_nm (sm := sm) (o := o) k; omega
  refine ⟨(h.res.other (a := ⟨B + 1 + 1, 1, none⟩) (by simp; omega) _).other (a := ⟨B + 1, num o k, none⟩) (by simp) _, ?_, ?_, (h.bel.setCell (p := ⟨B + 1 + 1, 1, none⟩) (by simp; omega) _).setCell (p := ⟨B + 1, num o k, none⟩) (by simp) _⟩
  · have a := Row.set (Blk.other h.row (a := ⟨B + 1 + 1, 1, none⟩) (by simp) (.int .i64 ((kindsTo sm o k : Int) + 1))) (num o k) (nm sm o k)
    rw [tab_set (g := nameTo sm o (k + 1)) (fun j _ => nameTo_succ hnd hk j)] at a
    rw [e] at a; exact a
  · have a := (h.nam.set 1 (.int .i64 ((kindsTo sm o k : Int) + 1))).other (a := ⟨B + 1, num o k, none⟩) (by simp) (.int .i64 (kindsTo sm o k))
    rw [he]; simpa using a
theorem Naming.same {sm : Nat → Nat → Bool} {o : List Nat} {n B : Nat} {w wr : World} {k : Nat} (h : Naming sm o n B w wr k) (hnd : o.Nodup) (hk : k < o.length) (he : kindsTo sm o (k + 1) = kindsTo sm o k) :
    Naming sm o n B w (wr.setCell ⟨B + 1, num o k, none⟩ (.int .i64 ((kindsTo sm o k : Int) - 1))) (k + 1) := by
  have e : ((kindsTo sm o k : Int) - 1) = (nm sm o k : Nat) := by have := kindsTo_nm (sm := sm) (o := o) k; omega
  rw [e]
  refine ⟨h.res.other (a := ⟨B + 1, num o k, none⟩) (by simp) _, ?_, ?_, h.bel.setCell (p := ⟨B + 1, num o k, none⟩) (by simp) _⟩
  · have a := Row.set h.row (num o k) (nm sm o k)
    rw [tab_set (g := nameTo sm o (k + 1)) (fun j _ => nameTo_succ hnd hk j)] at a
    exact a
  · rw [he]; exact h.nam.other (a := ⟨B + 1, num o k, none⟩) (by simp) _
/-- What the walk reads. -/
theorem Naming.cells {sm : Nat → Nat → Bool} {o : List Nat} {n B : Nat} {w wr : World} {k : Nat} (h : Naming sm o n B w wr k) {p : Nat} (hp : p < n) :
    wr.cell? ⟨B + 1 + 1, 0, none⟩ = some (.slice (some ⟨B + 1, 0, none⟩) n n) ∧ wr.cell? ⟨B + 1 + 1, 1, none⟩ = some (.int .i64 (kindsTo sm o k)) ∧ wr.frozen? ⟨B + 1 + 1, 1, none⟩ = false ∧
      (∃ v : Nat, wr.cell? ⟨B + 1, p, none⟩ = some (.int .i64 v)) ∧ wr.frozen? ⟨B + 1, p, none⟩ = false := by
  refine ⟨?_, ?_, Blk.free h.nam 1, ⟨_, Row.cell h.row (k := p) (by rw [tab_length]; exact hp)⟩, Blk.free h.row p⟩
  · have := Blk.cell h.nam (k := 0) (by simp); simpa using this
  · have := Blk.cell h.nam (k := 1) (by simp); simpa using this

set_option maxHeartbeats 1000000 in
/-- 'named'. -/
theorem named_any (fn : FuncId) (fi ca : Array Value) (I : World → Prop) (Pre : Nat → Nat → Prop) (sm : Nat → Nat → Bool) (ht : Tells2 fn fi ca I Pre sm)
    (ad : Option Addr) (o : List Nat) (c n : Nat) (w : World) (hl : Sl w ad o) (hnd : o.Nodup) (hM : ∀ k, k < o.length → num o k < n) (hP : ∀ k, k + 1 < o.length → Pre (num o k) (num o (k + 1))) (hI : I w) (hn : n ≤ 1000000) (ho : o.length ≤ 1000000) :
    Calls Tryz.prog 79 #[.slice ad o.length c, .int .i64 n, .func (.func fn) fi ca] w fun e w' =>
      ∃ g, e = .returned (.agg #[.slice (some ⟨g, 0, none⟩) n n, .int .i64 (kindsOf sm o)]) ∧ w.heap.size ≤ g ∧ Row w' g (tab n (nameOf sm o)) ∧ Below w.heap.size w w' := by
  go_enter Tryz.func79, Tryz.ntmps79
  go_wp2_with (first | (at_make; refine wpList_make_row _ rfl _ _ rfl _ _ n rfl rfl rfl rfl hn ?_; intro w1 hrow hsz hbel) | fail)
  have hres : Blk (w1.alloc (Obj.cells #[Value.slice (some ⟨w.heap.size + 1, 0, none⟩) n n, Value.int .i64 0] 122)) w.heap.size 122 [.slice none 0 0, .int .i64 0] := by
    refine Blk.alloc (Blk.later (w := w.alloc (Obj.cells #[.slice none 0 0, .int .i64 0] 122)) ?_ hbel) _
    unfold Blk; rw [heap_alloc_new]
  have hnam : Blk (w1.alloc (Obj.cells #[Value.slice (some ⟨w.heap.size + 1, 0, none⟩) n n, Value.int .i64 0] 122)) (w.heap.size + 1 + 1) 122 [.slice (some ⟨w.heap.size + 1, 0, none⟩) n n, .int .i64 (kindsTo sm o 0)] := by
    have hz : w.heap.size + 1 + 1 = w1.heap.size := by rw [hsz]; simp
    unfold Blk; rw [hz, heap_alloc_new]; rfl
  have hrow' := Blk.alloc hrow (Obj.cells #[Value.slice (some ⟨w.heap.size + 1, 0, none⟩) n n, Value.int .i64 0] 122)
  have hb : Below w.heap.size w (w1.alloc (Obj.cells #[Value.slice (some ⟨w.heap.size + 1, 0, none⟩) n n, Value.int .i64 0] 122)) := by
    have h1 : Below w.heap.size w w1 := Below.later ((Below.refl _ _).alloc (Nat.le_refl _) _) hbel
    exact h1.alloc h1.size _
  have hN : Naming sm o n w.heap.size w (w1.alloc (Obj.cells #[Value.slice (some ⟨w.heap.size + 1, 0, none⟩) n n, Value.int .i64 0] 122)) 0 := ⟨hres, by rw [nameTo_zero]; simpa [Row] using hrow', hnam, hb⟩
  clear hrow hbel hsz hres hnam hb hrow'
  go_loopw [15] (fun i wr => ∃ k : Nat, k ≤ o.length ∧ i = .int .i64 k ∧ Naming sm o n w.heap.size w wr k) (fun i _ => o.length - (intOf i).toNat)
  case atStart => exact ⟨0, Nat.zero_le _, rfl, hN⟩
  case round =>
    clear hN
    obtain ⟨k, hk, rfl, hN⟩ := hrel
    by_cases hlt : k < o.length
    · obtain ⟨b, o1, rfl, hc⟩ := hl k hlt
      have hc' := (hN.bel.cell (cell_lt hc)).trans hc
      have hM' := hM k hlt
      have hkl := kindsTo_le sm o k
      by_cases h0 : k = 0
      · have hg : ((k : Int) == 0) = true := by simp [h0]
        have hS := hN.inc hnd hlt (by rw [h0, kindsTo_one]; rfl)
        obtain ⟨hcn0, hcn1, hfn1, ⟨v0, hcr⟩, hfr⟩ := hN.cells hM'
        clear h0 hN hc
        go_wp2
        go_roundw
        case rel => exact ⟨k + 1, by omega, by go_num, hS⟩
        case measure => simp [intOf]; omega
      · have hg : ((k : Int) == 0) = false := by simp [h0]
        have hen := ht.enter
        obtain ⟨b2, o2, e2, hc2⟩ := hl (k - 1) (by omega)
        simp only [Option.some.injEq, Addr.mk.injEq, and_true] at e2
        obtain ⟨rfl, rfl⟩ := e2
        have hc2' := (hN.bel.cell (cell_lt hc2)).trans hc2
        go_wp2_with fail
        refine (ht.run (num o (k - 1)) (num o k) wr (ht.keep _ _ hI hN.bel) (by have := hP (k - 1) (by omega); rwa [show k - 1 + 1 = k by omega] at this)).mono ?_
        rintro e w2 ⟨rfl, hb2⟩
        have hN2 := hN.later hb2
        clear hN hc hc2 hc' hc2' hen hb2
        have hks := kindsTo_succ (sm := sm) (o := o) (show 0 < k by omega)
        obtain ⟨hcn0, hcn1, hfn1, ⟨v0, hcr⟩, hfr⟩ := hN2.cells hM'
        by_cases hsm : sm (num o (k - 1)) (num o k) = true
        · have hS := hN2.same hnd hlt (by rw [hks, if_pos hsm])
          have hpos : 1 ≤ kindsTo sm o k := by have := kindsTo_nm (sm := sm) (o := o) (k - 1); rw [show k - 1 + 1 = k by omega] at this; omega
          clear hks hN2
          go_wp2
          go_roundw
          case rel => exact ⟨k + 1, by omega, by go_num, hS⟩
          case measure => simp [intOf]; omega
        · have hsm' : sm (num o (k - 1)) (num o k) = false := by simpa using hsm
          have hS := hN2.inc hnd hlt (by rw [hks, if_neg hsm])
          clear hks hN2 hsm
          go_wp2
          go_roundw
          case rel => exact ⟨k + 1, by omega, by go_num, hS⟩
          case measure => simp [intOf]; omega
    · have : k = o.length := by omega
      subst this
      have hr := hN.row
      rw [nameTo_all] at hr
      have hnm := hN.nam
      rw [kindsTo_all] at hnm
      have hb := hN.bel
      have hcn0 := Blk.cell hnm (k := 0) (by simp)
      have hcn1 := Blk.cell hnm (k := 1) (by simp)
      have hcr0 := Blk.cell hN.res (k := 0) (by simp)
      have hcr1 := Blk.cell hN.res (k := 1) (by simp)
      have hf0 := Blk.free hN.res 0
      have hf1 := Blk.free hN.res 1
      simp only [List.getElem_cons_zero, List.getElem_cons_succ] at hcn0 hcn1 hcr0 hcr1
      clear hN
      go_wp2
      refine bodyPost_ret (v := .agg #[.slice (some ⟨w.heap.size + 1, 0, none⟩) n n, .int .i64 (kindsOf sm o)]) (by simp [results, Tryz.results79, go_sem, hcr0, hcr1]) rfl ⟨_, rfl, by omega, ?_, (hb.setCell (p := ⟨w.heap.size, 0, none⟩) (Nat.le_refl _) _).setCell (p := ⟨w.heap.size, 1, none⟩) (Nat.le_refl _) _⟩
      exact Blk.other (Blk.other hr (a := ⟨w.heap.size, 0, none⟩) (by simp) _) (a := ⟨w.heap.size, 1, none⟩) (by simp) _
end Go.Proofs.YtepklbboejnecaaGreat
