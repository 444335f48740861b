/- Buckets: sizes, cut, deal; names; picking. -/
import Derived.Test.YtepklbboejnecaaGreatWa
import Derived.Test.YtepklbboejnecaaGreatM
namespace Go.Proofs.YtepklbboejnecaaGreat
open Go.RowKit Sedge

/-- A function value that tells a number of a place: what it asks of the world stays so, and nothing old turns. -/
structure Tells (fn : FuncId) (fi ca : Array Value) (I : World → Prop) (β : Nat → Nat) (M : Nat) : Prop where
  enter : ∀ args w, Sem.run Tryz.prog (callFunc fn args) w = .ok (.enter fn args) w
  keep : ∀ w w', I w → Below w.heap.size w w' → I w'
  run : ∀ (p : Nat) (w : World), I w → p < M → Calls Tryz.prog fn (fi.push (.int .i64 p) ++ ca) w fun e w' => e = .returned (.int .i64 (β p)) ∧ Below w.heap.size w w'

theorem Below.later {w w1 w2 : World} (h : Below w.heap.size w w1) (k : Below w1.heap.size w1 w2) : Below w.heap.size w w2 := h.trans (k.mono h.size)

set_option maxHeartbeats 400000 in
theorem sizes_any (fn : FuncId) (fi ca : Array Value) (I : World → Prop) (β : Nat → Nat) (M : Nat) (ht : Tells fn fi ca I β M)
    (ad : Option Addr) (l : List Nat) (c K : Nat) (w : World) (hl : Sl w ad l) (hM : ∀ k, k < l.length → num l k < M) (hβ : ∀ p, p < M → β p < K) (hI : I w) (hn : l.length ≤ 1000000) (hK : K ≤ 1000000) :
    Calls Tryz.prog 106 #[.slice ad l.length c, .int .i64 K, .func (.func fn) fi ca] w fun e w' =>
      ∃ g, e = .returned (.slice (some ⟨g, 0, none⟩) K K) ∧ w.heap.size ≤ g ∧ Row w' g (tab K (cnt β l)) ∧ Below w.heap.size w w' := by
  go_enter Tryz.func106, Tryz.ntmps106
  go_wp2_with (first | (at_make; refine wpList_make_row _ rfl _ _ rfl _ _ K rfl rfl rfl rfl hK ?_; intro w1 hrow hsz hbel) | fail)
  go_loopw [14] (fun i wr => ∃ k : Nat, k ≤ l.length ∧ i = .int .i64 k ∧ Row wr w.heap.size (tab K (cnt β (l.take k))) ∧ Below w.heap.size w wr) (fun i _ => l.length - (intOf i).toNat)
  case atStart => exact ⟨0, Nat.zero_le _, rfl, by rw [List.take_zero, show cnt β [] = fun _ => 0 from rfl]; exact hrow, hbel⟩
  case round =>
    obtain ⟨k, hk, rfl, hr, hb⟩ := hrel
    clear hrow hbel hsz
    by_cases hlt : k < l.length
    · obtain ⟨b, o, rfl, hc⟩ := hl k hlt
      have hc' := (hb.cell (cell_lt hc)).trans hc
      clear hc
      have hen := ht.enter
      go_wp2_with fail
      refine (ht.run (num l k) wr (ht.keep _ _ hI hb) (hM k hlt)).mono ?_
      rintro e w2 ⟨rfl, hb2⟩
      have hβk := hβ _ (hM k hlt)
      have hr2 := Blk.later hr hb2
      have hb3 := Below.later hb hb2
      clear hr hb hb2 hc' hen
      have hcell := Row.cell hr2 (k := β (num l k)) (by rw [tab_length]; exact hβk)
      rw [tab_num hβk] at hcell
      have hle := cnt_le β (l.take k) (β (num l k))
      rw [List.length_take] at hle
      have hle' : cnt β (l.take k) (β (num l k)) ≤ 1000000 := by omega
      clear hle
      have hf := Blk.free hr2 (β (num l k))
      have hr3 := Row.set hr2 (β (num l k)) (cnt β (l.take k) (β (num l k)) + 1)
      rw [tab_set (g := cnt β (l.take (k + 1))) (by intro j _; rw [cnt_take hlt]; split <;> simp_all)] at hr3
      have hb4 := hb3.setCell (p := ⟨w.heap.size, β (num l k), none⟩) (Nat.le_refl _) (.int .i64 (cnt β (l.take k) (β (num l k)) + 1 : Nat))
      clear hr2 hb3
      go_wp2
      go_roundw
      case rel => exact ⟨k + 1, by omega, by go_num, hr3, hb4⟩
      case measure => simp [intOf]; omega
    · have : k = l.length := by omega
      subst this
      go_wp2
      go_ret
      rw [List.take_length] at hr
      exact ⟨_, rfl, Nat.le_refl _, hr, hb⟩

/-! ### Buckets in memory -/

/-- Values by their places. -/
def vtab (n : Nat) (F : Nat → Value) : List Value := (List.range n).map F
theorem vtab_length (n : Nat) (F : Nat → Value) : (vtab n F).length = n := by simp [vtab]
theorem vtab_set {n : Nat} {F G : Nat → Value} {k : Nat} {v : Value} (h : ∀ j, j < n → G j = if j = k then v else F j) : (vtab n F).set k v = vtab n G := by
  apply List.ext_getElem
  · simp [vtab]
  · intro j h1 h2
    have hj : j < n := by simpa [vtab] using h2
    simp only [vtab, List.getElem_set, List.getElem_map, List.getElem_range, h j hj]
    by_cases c : j = k
    · subst c; simp
    · have c' : ¬ k = j := fun e => c e.symm
      simp [c, c']
theorem vtab_congr {n : Nat} {F G : Nat → Value} (h : ∀ j, j < n → F j = G j) : vtab n F = vtab n G := by
  unfold vtab; exact List.map_congr_left fun x hx => h x (List.mem_range.1 hx)
def vfill (n : Nat) (z : Value) (F : Nat → Value) (k : Nat) : List Value := vtab n fun j => if j < k then F j else z
theorem vfill_zero (n : Nat) (z : Value) (F : Nat → Value) : vfill n z F 0 = List.replicate n z := by
  apply List.ext_getElem <;> simp [vfill, vtab]
theorem vfill_succ {n : Nat} {z : Value} {F : Nat → Value} {k : Nat} {v : Value} (h : F k = v) : (vfill n z F k).set k v = vfill n z F (k + 1) := by
  unfold vfill
  refine vtab_set fun j _ => ?_
  by_cases c : j = k
  · subst c; simp [h]
  · by_cases d : j < k
    · simp [d, c, show j < k + 1 by omega]
    · simp [d, c, show ¬ j < k + 1 by omega]
theorem vfill_all (n : Nat) (z : Value) (F : Nat → Value) : vfill n z F n = vtab n F := vtab_congr fun k hk => by simp [hk]
theorem vtab_cell {w : World} {g n : Nat} {T : TypeId} {F : Nat → Value} (h : Blk w g T (vtab n F)) {k : Nat} (hk : k < n) : w.cell? ⟨g, k, none⟩ = some (F k) := by
  rw [Blk.cell h (by rw [vtab_length]; exact hk)]; simp [vtab]

theorem Tryz.infoInts : (Tryz.prog.info? 55).map (fun i => (i.zero, i.size, i.bytes)) = some (some (.slice none 0 0), 1, 24) := by kernel_rfl

/-- 'make([][]int, n)': a new block of nil slices. -/
theorem wpList_make_rows (w : World) {ops : Array Oper} {rest : List Oper} {o : Oper} {a : Act} {Q : Exit → Act → World → Prop}
    (hg : o.guard = none) (l c : Operand) (hop : o.op = Op.makeSlice 29 l c)
    (L C : Int) (n : Nat) (hl : a.eval l = .int .i64 L) (hc : a.eval c = .int .i64 C) (hL : L = (n : Int)) (hC : C = (n : Int)) (b3 : n ≤ 1000000)
    (hK : ∀ w', Blk w' w.heap.size 55 (List.replicate n (.slice none 0 0)) → w'.heap.size = w.heap.size + 1 → Below w.heap.size w w' → wpList Tryz.prog ops Q rest (a.put o.dst (.slice (some ⟨w.heap.size, 0, none⟩) n n)) w') :
    wpList Tryz.prog ops Q (o :: rest) a w := by
  obtain ⟨i0, hi, hz0, hz1, hz2⟩ := info_parts Tryz.infoInts
  refine wpList_plain hg fun K hK' => ?_
  have hr := run_make (P := Tryz.prog) w 29 55 i0 (.slice none 0 0) Tryz.underlying29 hi hz0 .i64 .i64 n n (by omega) (Int.le_refl _) (by rw [hz2]; omega) (by omega)
  simp only [Int.toNat_natCast] at hr
  subst hL
  subst hC
  unfold Oper.wp
  simp [execOp, hop, hl, hc, hr, Result.andThen]
  refine hK' _ _ (hK _ ?_ (by simp) ((Below.refl _ _).alloc (Nat.le_refl _) _))
  unfold Blk
  rw [heap_alloc_new, hz1]
  have e : (madeCells (Value.slice none 0 0).cells (n * 1)) = (List.replicate n (Value.slice none 0 0)).toArray := by
    apply Array.ext'
    have := toList_madeCells_one (.slice none 0 0) n
    simpa [Value.cells] using this
  rw [e]

/-- The head of bucket c, in block r: where it begins, how long it is, how much room it has. -/
def hdr (r : Nat) (sz : Nat → Nat) (len : Nat → Nat) (c : Nat) : Value := .slice (some (if sz c = 0 then ⟨r, 0, none⟩ else ⟨r, ps sz c, none⟩)) (len c) (sz c)

set_option maxHeartbeats 400000 in
theorem cut_any (r n : Nat) (ad : Option Addr) (sz : Nat → Nat) (c K : Nat) (w : World) (hl : Sl w ad (tab K sz)) (hK : K ≤ 1000000) (hn : n ≤ 1000000) (hs : ps sz K ≤ n) :
    Calls Tryz.prog 105 #[.slice (some ⟨r, 0, none⟩) n n, .slice ad K c] w fun e w' =>
      ∃ g, e = .returned (.slice (some ⟨g, 0, none⟩) K K) ∧ w.heap.size ≤ g ∧ Blk w' g 55 (vtab K (hdr r sz fun _ => 0)) ∧ Below w.heap.size w w' := by
  go_enter Tryz.func105, Tryz.ntmps105
  go_wp2_with (first | (at_make; refine wpList_make_rows _ rfl _ _ rfl _ _ K rfl rfl rfl rfl hK ?_; intro w1 hrow hsz hbel) | fail)
  go_loopw [6, 14] (fun f i wr => ∃ k : Nat, k ≤ K ∧ i = .int .i64 k ∧ f = .int .i64 (ps sz k) ∧ Blk wr w.heap.size 55 (vfill K (.slice none 0 0) (hdr r sz fun _ => 0) k) ∧ Below w.heap.size w wr) (fun _ i _ => K - (intOf i).toNat)
  case atStart => exact ⟨0, Nat.zero_le _, rfl, rfl, by rw [vfill_zero]; exact hrow, hbel⟩
  case round =>
    obtain ⟨k, hk, rfl, rfl, hr, hb⟩ := hrel
    clear hrow hbel hsz
    by_cases hlt : k < K
    · obtain ⟨b, o, rfl, hc⟩ := hl k (by rw [tab_length]; exact hlt)
      have hc' := (hb.cell (cell_lt hc)).trans hc
      rw [tab_num hlt] at hc'
      clear hc
      have h1 := ps_next sz hlt
      have h2 : ps sz k + sz k ≤ 1000000 := by omega
      have h3 : (ps sz k : Int) + sz k ≤ n := by omega
      have hcell := Blk.cell hr (k := k) (by unfold vfill; rw [vtab_length]; exact hlt)
      have hf := Blk.free hr k
      clear h1
      have hs' := Blk.set hr k (hdr r sz (fun _ => 0) k)
      rw [vfill_succ rfl] at hs'
      have hb' := hb.setCell (p := ⟨w.heap.size, k, none⟩) (Nat.le_refl _) (hdr r sz (fun _ => 0) k)
      clear hr hb
      by_cases hz : sz k = 0
      · have hd : hdr r sz (fun _ => 0) k = .slice (some ⟨r, 0, none⟩) 0 0 := by simp [hdr, hz]
        have hp : ps sz (k + 1) = ps sz k := by simp [ps, hz]
        rw [hd] at hs' hb'
        have HP : Hid (ps sz (k + 1) = ps sz k) := hp
        clear hd hp
        go_wp2
        go_roundw
        case rel => exact ⟨k + 1, by omega, by go_num, by rw [HP.out], hs', hb'⟩
        case measure => simp [intOf]; omega
      · have hz' : ¬ (ps sz k + sz k = ps sz k) := by omega
        have hd : hdr r sz (fun _ => 0) k = .slice (some ⟨r, ps sz k, none⟩) 0 (sz k) := by simp [hdr, hz]
        rw [hd] at hs' hb'
        clear hd
        go_wp2
        go_roundw
        case rel => exact ⟨k + 1, by omega, by go_num, by simp [ps], hs', hb'⟩
        case measure => simp [intOf]; omega
    · have : k = K := by omega
      subst this
      go_wp2
      go_ret
      rw [vfill_all] at hr
      exact ⟨_, rfl, Nat.le_refl _, hr, hb⟩
end Go.Proofs.YtepklbboejnecaaGreat
