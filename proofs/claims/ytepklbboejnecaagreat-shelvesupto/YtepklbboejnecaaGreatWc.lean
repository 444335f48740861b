/- Buckets in memory: what stands in each; putting one in; dealing. -/
import Derived.Test.YtepklbboejnecaaGreatWb
namespace Go.Proofs.YtepklbboejnecaaGreat
open Go.RowKit Sedge

/-- Buckets in memory: K heads in block g, their room in block r, of n places; f c: what stands in bucket c. -/
structure Bk (w : World) (r g n K : Nat) (sz : Nat → Nat) (f : Nat → List Nat) : Prop where
  hd : Blk w g 55 (vtab K (hdr r sz fun c => (f c).length))
  row : ∃ o : List Nat, o.length = n ∧ Row w r o ∧ ∀ c, c < K → ∀ i, i < (f c).length → num o (ps sz c + i) = num (f c) i
  fit : ∀ c, c < K → (f c).length ≤ sz c
  tot : ps sz K = n
  ne : r ≠ g

section
variable {w w' : World} {r g n K : Nat} {sz : Nat → Nat} {f : Nat → List Nat}
theorem Bk.later (h : Bk w r g n K sz f) (hb : Below w.heap.size w w') : Bk w' r g n K sz f := by
  obtain ⟨o, h1, h2, h3⟩ := h.row
  exact ⟨h.hd.later hb, ⟨o, h1, Blk.later h2 hb, h3⟩, h.fit, h.tot, h.ne⟩
theorem Bk.alloc (h : Bk w r g n K sz f) (o : Obj) : Bk (w.alloc o) r g n K sz f := h.later ((Below.refl _ _).alloc (Nat.le_refl _) _)
theorem Bk.spot (h : Bk w r g n K sz f) {c : Nat} (hc : c < K) (hl : (f c).length < sz c) : ps sz c + (f c).length < n := by
  have := ps_next sz hc; have := h.tot; omega
theorem Bk.head (h : Bk w r g n K sz f) {c : Nat} (hc : c < K) (hl : 0 < sz c) : w.cell? ⟨g, c, none⟩ = some (.slice (some ⟨r, ps sz c, none⟩) (f c).length (sz c)) := by
  rw [vtab_cell h.hd hc]; simp only [hdr]; rw [if_neg (by omega)]
theorem Bk.room (h : Bk w r g n K sz f) {c : Nat} (hc : c < K) (hl : (f c).length < sz c) : (∃ v, w.cell? ⟨r, ps sz c + (f c).length, none⟩ = some (.int .i64 v)) ∧ w.frozen? ⟨r, ps sz c + (f c).length, none⟩ = false := by
  obtain ⟨o, h1, h2, h3⟩ := h.row
  exact ⟨⟨_, Row.cell h2 (k := ps sz c + (f c).length) (by rw [h1]; exact h.spot hc hl)⟩, Blk.free h2 _⟩
theorem Bk.cell (h : Bk w r g n K sz f) {c i : Nat} (hc : c < K) (hi : i < (f c).length) : w.cell? ⟨r, ps sz c + i, none⟩ = some (.int .i64 (num (f c) i)) := by
  obtain ⟨o, h1, h2, h3⟩ := h.row
  have a := ps_next sz hc; have b := h.tot; have d := h.fit c hc
  rw [Row.cell h2 (k := ps sz c + i) (by omega), h3 c hc i hi]

/-- What a list reads as, one number longer. -/
theorem num_append_lt {l : List Nat} {x i : Nat} (h : i < l.length) : num (l ++ [x]) i = num l i := by
  simp [num, List.getD, List.getElem?_append_left h]
theorem num_append_at {l : List Nat} {x : Nat} : num (l ++ [x]) l.length = x := by
  simp [num, List.getD]
theorem num_set_same {l : List Nat} {k x : Nat} (h : k < l.length) : num (l.set k x) k = x := by simp [num, List.getD, h]
theorem num_set_other {l : List Nat} {k j x : Nat} (h : j ≠ k) : num (l.set k x) j = num l j := by
  simp [num, List.getD, List.getElem?_set_ne (fun e => h e.symm)]

/-- One more in a bucket. -/
theorem Bk.put (h : Bk w r g n K sz f) {c p : Nat} (hc : c < K) (hl : (f c).length < sz c) :
    Bk ((w.setCell ⟨r, ps sz c + (f c).length, none⟩ (.int .i64 p)).setCell ⟨g, c, none⟩ (.slice (some ⟨r, ps sz c, none⟩) ((f c).length + 1) (sz c))) r g n K sz (push f c p) := by
  have hsp := h.spot hc hl
  obtain ⟨o, h1, h2, h3⟩ := h.row
  refine ⟨?_, ⟨o.set (ps sz c + (f c).length) p, by simpa using h1, ?_, ?_⟩, ?_, h.tot, h.ne⟩
  · have a := (h.hd.other (a := ⟨r, ps sz c + (f c).length, none⟩) (fun e => h.ne e.symm) (.int .i64 p)).set c (.slice (some ⟨r, ps sz c, none⟩) ((f c).length + 1) (sz c))
    rw [vtab_set (G := hdr r sz fun c' => (push f c p c').length)] at a
    · exact a
    · intro j hj
      by_cases e : j = c
      · subst e; simp only [hdr, push_same, if_pos, List.length_append, List.length_singleton]; rw [if_neg (by omega)]
      · simp only [hdr, push_other f p e, if_neg e]
  · exact Blk.other (Row.set h2 _ p) (a := ⟨g, c, none⟩) h.ne _
  · intro c' hc' i hi
    by_cases e : c' = c
    · subst e
      rw [push_same] at hi ⊢
      simp only [List.length_append, List.length_singleton] at hi
      by_cases d : i = (f c').length
      · subst d; rw [num_set_same (by omega), num_append_at]
      · rw [num_set_other (by omega), num_append_lt (by omega), h3 c' hc i (by omega)]
    · rw [push_other f p e] at hi ⊢
      have a := h.fit c' hc'
      have : ps sz c' + i ≠ ps sz c + (f c).length := by
        rcases Nat.lt_or_gt_of_ne e with d | d
        · have := ps_next sz d; omega
        · have := ps_next sz d; omega
      rw [num_set_other this, h3 c' hc' i hi]
  · intro c' hc'
    by_cases e : c' = c
    · subst e; rw [push_same]; simp only [List.length_append, List.length_singleton]; omega
    · rw [push_other f p e]; exact h.fit c' hc'

/-- Buckets that are all full: the row is what stands in them, one bucket behind the other. -/
theorem Bk.full (h : Bk w r g n K sz f) (hf : ∀ c, c < K → (f c).length = sz c) : Row w r (flat f K) ∧ (flat f K).length = n := by
  obtain ⟨o, h1, h2, h3⟩ := h.row
  have e : ∀ c, c ≤ K → ps sz c = ps (fun c => (f c).length) c := fun c hc => ps_congr fun c' hc' => (hf c' (by omega)).symm
  have : o = flat f K := flat_row_all (by rw [← e K (Nat.le_refl _), h.tot, h1]) (fun c hc i hi => by rw [← e c (by omega)]; exact h3 c hc i hi)
  rw [← this]; exact ⟨h2, h1⟩
end

/-- 'append(s, x)' of one number where there is room: the cell behind the last one is written. -/
theorem wpList_append_one (w : World) {ops : Array Oper} {rest : List Oper} {o : Oper} {a : Act} {Q : Exit → Act → World → Prop}
    (hg : o.guard = none) (s x : Operand) (hop : o.op = Op.call { callee := Callee.builtin Builtin.append, args := #[s, x], argTypes := #[55, 55] })
    (b off n cap : Nat) (hs : a.eval s = .slice (some ⟨b, off, none⟩) n cap)
    (ad : Addr) (v : Int) (hx : a.eval x = .slice (some ad) 1 1) (hc : w.cell? ad = some (.int .i64 v))
    (hroom : n < cap) (h1 : (w.cell? ⟨b, off + n, none⟩).isSome = true) (h2 : w.frozen? ⟨b, off + n, none⟩ = false)
    (hK : wpList Tryz.prog ops Q rest (a.put o.dst (.slice (some ⟨b, off, none⟩) (n + 1) cap)) (w.setCell ⟨b, off + n, none⟩ (.int .i64 v))) :
    wpList Tryz.prog ops Q (o :: rest) a w := by
  obtain ⟨i0, hi, hz0, hz1, hz2⟩ := info_parts Tryz.infoInt
  refine wpList_plain hg fun K hK' => ?_
  have hrun := run_append_room_cells (P := Tryz.prog) w 55 o.type 3 i0 Tryz.underlying55 hi b off n cap ad 1 1 [.int .i64 v] (by rw [hz1]; rfl)
    (by intro j u hj; match j, hj with | 0, hj => simp at hj; subst hj; simpa [Addr.add] using hc) (by intro u hu; simp at hu; subst hu; rfl) (by omega)
    (by intro j hj; have : j = 0 := by simpa using hj
        subst this; rw [hz1, Nat.mul_one, Nat.add_zero]; exact h1)
    (by intro j hj; have : j = 0 := by simpa using hj
        subst this; rw [hz1, Nat.mul_one, Nat.add_zero]; exact h2)
  rw [hz1, Nat.mul_one] at hrun
  simp only [World.setCells] at hrun
  unfold Oper.wp
  simp [execOp, hop, resolve, invoke, builtin, hs, hx, hrun, Result.andThen]
  exact hK' _ _ hK

set_option maxHeartbeats 1000000 in
/-- 'deal'. -/
theorem deal_any (fn : FuncId) (fi ca : Array Value) (I : World → Prop) (β : Nat → Nat) (M : Nat) (ht : Tells fn fi ca I β M)
    (ad : Option Addr) (l : List Nat) (c K : Nat) (w : World) (hl : Sl w ad l) (hM : ∀ k, k < l.length → num l k < M) (hβ : ∀ p, p < M → β p < K) (hI : I w) (hn : l.length ≤ 1000000) (hK : K ≤ 1000000) :
    Calls Tryz.prog 76 #[.slice ad l.length c, .int .i64 K, .func (.func fn) fi ca] w fun e w' =>
      ∃ g, e = .returned (.slice (some ⟨g, 0, none⟩) l.length l.length) ∧ w.heap.size ≤ g ∧ Row w' g (flat (Sedge.part β l) K) ∧ Below w.heap.size w w' := by
  have htot : ps (cnt β l) K = l.length := ps_cnt fun p hp => hβ p (by obtain ⟨a, b⟩ := idx_of_mem hp; have := hM _ a; rwa [b] at this)
  go_enter Tryz.func76, Tryz.ntmps76
  go_wp2_with (first | (at_make; refine wpList_make_row _ rfl _ _ rfl _ _ l.length rfl rfl rfl rfl hn ?_; intro w1 hrow hsz hbel) | fail)
  refine (sizes_any fn fi ca I β M ht ad l c K _ (hl.later hbel) hM hβ (ht.keep _ _ hI hbel) hn hK).mono ?_
  rintro e w2 ⟨g2, rfl, hg2, hr2, hb2⟩
  go_wp2_with fail
  refine (cut_any w.heap.size l.length _ (cnt β l) K K _ (Row.sl hr2) hK hn (by omega)).mono ?_
  rintro e w3 ⟨g3, rfl, hg3, hr3, hb3⟩
  go_wp2_with fail
  have hbk : Bk w3 w.heap.size g3 l.length K (cnt β l) (Sedge.part β (l.take 0)) := by
    refine ⟨?_, ⟨tab l.length fun _ => 0, tab_length _ _, Blk.later (Blk.later hrow hb2) hb3, ?_⟩, ?_, htot, by have := hbel.size; have := hb2.size; omega⟩
    · rw [List.take_zero, part_nil]; exact hr3
    · intro c _ i hi; rw [List.take_zero, part_nil] at hi; simp at hi
    · intro c _; rw [List.take_zero, part_nil]; simp
  have hb : Below w.heap.size w w3 := Below.later (Below.later hbel hb2) hb3
  have hg3' : w.heap.size ≤ g3 := by have := hbel.size; have := hb2.size; omega
  clear hrow hsz hbel hr2 hb2 hr3 hb3 hg2 hg3
  go_loopw [23] (fun i wr => ∃ k : Nat, k ≤ l.length ∧ i = .int .i64 k ∧ Bk wr w.heap.size g3 l.length K (cnt β l) (Sedge.part β (l.take k)) ∧ Below w.heap.size w wr) (fun i _ => l.length - (intOf i).toNat)
  case atStart => exact ⟨0, Nat.zero_le _, rfl, hbk, hb⟩
  case round =>
    clear hbk hb
    obtain ⟨k, hk, rfl, hr, hb⟩ := hrel
    by_cases hlt : k < l.length
    · obtain ⟨b, o, rfl, hc⟩ := hl k hlt
      have hc' := (hb.cell (cell_lt hc)).trans hc
      clear hc
      have hen := ht.enter
      go_wp2_with fail
      refine (ht.run (num l k) wr (ht.keep _ _ hI hb) (hM k hlt)).mono ?_
      rintro e w2 ⟨rfl, hb2⟩
      have hβk := hβ _ (hM k hlt)
      have hlen : (Sedge.part β (l.take k) (β (num l k))).length < cnt β l (β (num l k)) := cnt_take_lt hlt
      have hr2 := hr.later hb2
      have hb3 := Below.later hb hb2
      have hhd := hr2.head hβk (by omega)
      have hr4 := hr2.put (p := num l k) hβk hlen
      rw [← part_take hlt] at hr4
      have hr5 := hr4.alloc (Obj.cells #[Value.int .i64 (num l k)] 3)
      have hb4 := (hb3.setCell (p := ⟨w.heap.size, ps (cnt β l) (β (num l k)) + (Sedge.part β (l.take k) (β (num l k))).length, none⟩) (Nat.le_refl _) (.int .i64 (num l k))).setCell (p := ⟨g3, β (num l k), none⟩) hg3' (.slice (some ⟨w.heap.size, ps (cnt β l) (β (num l k)), none⟩) ((Sedge.part β (l.take k) (β (num l k))).length + 1) (cnt β l (β (num l k))))
      have hb5 := hb4.alloc hb4.size (Obj.cells #[Value.int .i64 (num l k)] 3)
      clear hb4 hr4
      obtain ⟨⟨v0, hv0⟩, hfr⟩ := hr2.room hβk hlen
      have hw0 := cell_lt hv0
      have hw1 := cell_lt hhd
      have hfg := Blk.free hr2.hd (β (num l k))
      have hne : ¬ w.heap.size = g3 := hr2.ne
      have hne' : ¬ g3 = w.heap.size := fun e => hne e.symm
      clear hr hb hb2 hc' hen hr2 hb3
      dsimp only at hw0 hw1
      go_wp2
      go_roundw
      case rel => exact ⟨k + 1, by omega, by go_num, hr5, hb5⟩
      case measure => simp [intOf]; omega
    · have : k = l.length := by omega
      subst this
      rw [List.take_length] at hr
      have hf := (hr.full (fun c _ => rfl)).1
      go_wp2
      go_ret
      exact ⟨_, rfl, Nat.le_refl _, hf, hb⟩
end Go.Proofs.YtepklbboejnecaaGreat
