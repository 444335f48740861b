/- Making the slopes. -/
import Derived.Test.YtepklbboejnecaaGreatWg
import Derived.Deep.DeepCutAuto
namespace Go.Proofs.YtepklbboejnecaaGreat
open Go.RowKit Sedge
attribute [local go_sem ↓] Go.wp_at_zero Go.wp_at_succ

theorem run_make_int (n : Nat) (hn : n ≤ 1000000) (w : World) : (Instr.makeSlice 55 (.int .i64 (n : Int)) (.int .i64 (n : Int))).run Tryz.prog w = .ok (.slice (some ⟨w.heap.size, 0, none⟩) n n) (w.alloc (.cells (IV (tab n fun _ => 0)).toArray 3)) := by
  obtain ⟨i0, hi, hz0, hz1, hz2⟩ := info_parts Tryz.infoInt
  have hr := run_make (P := Tryz.prog) w 55 3 i0 (.int .i64 0) Tryz.underlying55 hi hz0 .i64 .i64 n n (by omega) (Int.le_refl _) (by rw [hz2]; omega) (by omega)
  simp only [Int.toNat_natCast] at hr
  rw [hr]
  have e : (madeCells (Value.int .i64 0).cells (n * i0.size)) = (IV (tab n fun _ => 0)).toArray := by
    rw [hz1, ← tab_zero]
    apply Array.ext'
    have := toList_madeCells_one (.int .i64 0) n
    simpa [Value.cells, IV] using this
  rw [e]

/-- Slopes that are known from m on. -/
def slTo (l : List Nat) (m : Nat) : List Nat := tab l.length fun j => if m ≤ j then slope l j else 0
theorem slTo_length (l : List Nat) (m : Nat) : (slTo l m).length = l.length := tab_length _ _
theorem slTo_num {l : List Nat} {m p : Nat} (h : p < l.length) : num (slTo l m) p = if m ≤ p then slope l p else 0 := tab_num h
theorem slTo_last {l : List Nat} (_h : 0 < l.length) : slTo l (l.length - 1) = tab l.length fun _ => 0 := by
  refine tab_congr fun k hk => ?_
  split
  · exact slope_last (by omega)
  · rfl
theorem slTo_zero (l : List Nat) : slTo l 0 = slopes l := by simp [slTo, slopes]
theorem slTo_set {l : List Nat} {m v : Nat} (h : slope l m = v) : (slTo l (m + 1)).set m v = slTo l m := by
  unfold slTo
  refine tab_set fun j _ => ?_
  by_cases e : j = m
  · subst e; simp [h]
  · by_cases d : m ≤ j
    · simp [d, e, show m + 1 ≤ j by omega]
    · simp [d, e, show ¬ m + 1 ≤ j by omega]
theorem slTo_same {l : List Nat} {m : Nat} (h : slope l m = 0) : slTo l (m + 1) = slTo l m := by
  refine tab_congr fun j _ => ?_
  by_cases e : j = m
  · subst e; simp [h]
  · by_cases d : m ≤ j
    · simp [d, show m + 1 ≤ j by omega]
    · simp [d, show ¬ m + 1 ≤ j by omega]

/-- How far the slopes have come. -/
structure Sloping (ad : Option Addr) (l : List Nat) (c : Nat) (kinds : Int) (w wr : World) (sb g m : Nat) : Prop where
  box : Blk wr w.heap.size 122 [.slice ad l.length c, .int .i64 kinds]
  res : Blk wr (w.heap.size + 1) 150 [.slice none 0 0, .int .i64 0, .slice none 0 0]
  str : Blk wr sb 150 [.slice ad l.length c, .int .i64 kinds, .slice (some ⟨g, 0, none⟩) l.length l.length]
  row : Row wr g (slTo l m)
  bel : Below w.heap.size w wr
  s2 : w.heap.size + 1 < sb
  g2 : w.heap.size + 1 < g
  ne : sb ≠ g
theorem Sloping.set {ad : Option Addr} {l : List Nat} {c : Nat} {kinds : Int} {w wr : World} {sb g m v : Nat} (h : Sloping ad l c kinds w wr sb g (m + 1)) (hv : slope l m = v) :
    Sloping ad l c kinds w (wr.setCell ⟨g, m, none⟩ (.int .i64 v)) sb g m := by
  have hg := h.g2
  refine ⟨h.box.other (by simp; omega) _, h.res.other (by simp; omega) _, h.str.other (by simpa using h.ne) _, ?_, h.bel.setCell (by simp; omega) _, h.s2, h.g2, h.ne⟩
  have := Row.set h.row m v
  rwa [slTo_set hv] at this
theorem Sloping.drewN {ad : Option Addr} {l : List Nat} {c : Nat} {kinds : Int} {w wr : World} {sb g m : Nat} (h : Sloping ad l c kinds w wr sb g m) (n : Nat) : Sloping ad l c kinds w (wr.drewN n) sb g m :=
  ⟨h.box, h.res, h.str, h.row, h.bel.drewN n, h.s2, h.g2, h.ne⟩

theorem Blk.new (w : World) (vs : List Value) (T : TypeId) {n : Nat} (h : n = w.heap.size) : Blk (w.alloc (.cells vs.toArray T)) n T vs := by
  subst h; unfold Blk; rw [heap_alloc_new]
theorem sloping_1 (ad : Option Addr) (l : List Nat) (c : Nat) (kinds : Int) (w : World) (h0 : 0 < l.length) :
    Sloping ad l c kinds w ((((w.alloc (.cells #[.slice ad l.length c, .int .i64 kinds] 122)).alloc (.cells #[.slice none 0 0, .int .i64 0, .slice none 0 0] 150)).alloc (.cells (IV (tab l.length fun _ => 0)).toArray 3)).alloc
      (.cells #[.slice ad l.length c, .int .i64 kinds, .slice (some ⟨w.heap.size + 1 + 1, 0, none⟩) l.length l.length] 150)).drew (w.heap.size + 1 + 1 + 1) (w.heap.size + 1 + 1) (l.length - 1) := by
  refine ⟨(((Blk.new w _ _ rfl).alloc _).alloc _).alloc _, ((Blk.new _ _ _ (by simp)).alloc _).alloc _, Blk.new _ _ _ (by simp), ?_, ((((((Below.refl _ _).alloc (Nat.le_refl _) _).alloc (by simp) _).alloc (by simp; omega) _).alloc (by simp; omega) _).drew), by omega, by omega, by omega⟩
  rw [slTo_last h0]
  exact Blk.alloc (Blk.new _ _ _ (by simp)) _
theorem sloping_2 (ad : Option Addr) (l : List Nat) (c : Nat) (kinds : Int) (w : World) (h0 : 0 < l.length) :
    Sloping ad l c kinds w ((((w.alloc (.cells #[.slice ad l.length c, .int .i64 kinds] 122)).alloc (.cells #[.slice none 0 0, .int .i64 0, .slice none 0 0] 150)).alloc
      (.cells #[.slice ad l.length c, .int .i64 kinds, .slice (some ⟨w.heap.size + 1 + 1 + 1, 0, none⟩) l.length l.length] 150)).alloc (.cells (IV (tab l.length fun _ => 0)).toArray 3)).drew (w.heap.size + 1 + 1) (w.heap.size + 1 + 1 + 1) (l.length - 1) := by
  refine ⟨(((Blk.new w _ _ rfl).alloc _).alloc _).alloc _, ((Blk.new _ _ _ (by simp)).alloc _).alloc _, Blk.alloc (Blk.new _ _ _ (by simp)) _, ?_, ((((((Below.refl _ _).alloc (Nat.le_refl _) _).alloc (by simp) _).alloc (by simp; omega) _).alloc (by simp; omega) _).drew), by omega, by omega, by omega⟩
  rw [slTo_last h0]
  exact Blk.new _ _ _ (by simp)
/-- What the walk reads. -/
theorem Sloping.cells {ad : Option Addr} {l : List Nat} {c : Nat} {kinds : Int} {w wr : World} {sb g m : Nat} (h : Sloping ad l c kinds w wr sb g m) :
    wr.cell? ⟨w.heap.size, 0, none⟩ = some (.slice ad l.length c) ∧ wr.cell? ⟨sb, 2, none⟩ = some (.slice (some ⟨g, 0, none⟩) l.length l.length) := by
  constructor
  · have := Blk.cell h.box (k := 0) (by simp); simpa using this
  · have := Blk.cell h.str (k := 2) (by simp); simpa using this

set_option maxHeartbeats 1000000 in
/-- 'sloped'. -/
theorem sloped_any (ad : Option Addr) (l : List Nat) (c : Nat) (kinds : Int) (w : World) (hl : Sl w ad l) (hv : ∀ p, num l p ≤ 1000000) (hn : l.length ≤ 1000000) (h0 : 0 < l.length) :
    Calls Tryz.prog 83 #[.agg #[.slice ad l.length c, .int .i64 kinds]] w fun e w' =>
      ∃ g, e = .returned (slv ad (some ⟨g, 0, none⟩) l.length c l.length kinds) ∧ w.heap.size ≤ g ∧ Row w' g (slopes l) ∧ Below w.heap.size w w' := by
  have hmk := run_make_int l.length hn
  go_enter Tryz.func83, Tryz.ntmps83
  go_wp2
  go_cut [3] (fun s wx => ∃ sb g : Nat, s = .pointer (some ⟨sb, 0, none⟩) ∧ Sloping ad l c kinds w wx sb g (l.length - 1))
  case first =>
    go_region_held3 (fun w' => w'.cell? ⟨w.heap.size, 0, none⟩ = some (.slice ad l.length c) ∧ w'.cell? ⟨w.heap.size, 1, none⟩ = some (.int .i64 kinds)) (go_keep) (fail)
    all_goals (go_wp2_with fail)
    all_goals go_meet
    all_goals first | exact ⟨_, _, rfl, sloping_1 ad l c kinds w h0⟩ | exact ⟨_, _, rfl, sloping_2 ad l c kinds w h0⟩
  case rest =>
    clear hmk
    obtain ⟨sb, g, rfl, hS⟩ := hcut
    obtain ⟨hc1, hc2⟩ := hS.cells
    go_wp2
    go_loopw [4] (fun i wr => ∃ m : Nat, m < l.length ∧ i = .int .i64 ((m : Int) - 1) ∧ Sloping ad l c kinds w wr sb g m) (fun i _ => (intOf i + 1).toNat)
    case atStart => exact ⟨l.length - 1, by omega, by congr 1; omega, hS⟩
    case round =>
      clear hS hc1 hc2
      obtain ⟨m, hm, rfl, hS⟩ := hrel
      obtain ⟨hc1, hc2⟩ := hS.cells
      by_cases h1 : 0 < m
      · obtain ⟨p, rfl⟩ : ∃ p, m = p + 1 := ⟨m - 1, by omega⟩
        obtain ⟨b, o, rfl, hcp⟩ := hl p (by omega)
        obtain ⟨b', o', e, hcq⟩ := hl (p + 1) hm
        simp only [Option.some.injEq, Addr.mk.injEq, and_true] at e
        obtain ⟨rfl, rfl⟩ := e
        have hcp' := (hS.bel.cell (cell_lt hcp)).trans hcp
        have hcq' := (hS.bel.cell (cell_lt hcq)).trans hcq
        rw [show (((p + 1 : Nat) : Int) - 1) = (p : Int) by omega]
        have hp1 : (p : Int) + 1 < (l.length : Int) := by omega
        have hup := slope_up (l := l) hm
        have heq := slope_eq (l := l) hm
        have hdn := slope_down (l := l) hm
        have hv1 := hv p
        have hv2 := hv (p + 1)
        have hgp := Row.cell hS.row (k := p) (by rw [slTo_length]; omega)
        have hgq := Row.cell hS.row (k := p + 1) (by rw [slTo_length]; omega)
        rw [slTo_num hm, if_pos (Nat.le_refl _)] at hgq
        have hgf := Blk.free hS.row p
        have hfin : ∀ v, slope l p = v → ∀ n k, Sloping (some ⟨b, o, none⟩) l c kinds w (((wr.drewN n).setCell ⟨g, p, none⟩ (.int .i64 v)).drewN k) sb g p := fun v hv n k => ((hS.drewN n).set hv).drewN k
        have hsk : slope l p = 0 → ∀ n, Sloping (some ⟨b, o, none⟩) l c kinds w (wr.drewN n) sb g p := fun hv n => by
          have := hS.drewN n
          exact ⟨this.box, this.res, this.str, by have h := this.row; rwa [slTo_same hv] at h, this.bel, this.s2, this.g2, this.ne⟩
        have hso : ∀ (W : World) (v : Value), (W.setCell ⟨g, p, none⟩ v).cell? ⟨g, p + 1, none⟩ = W.cell? ⟨g, p + 1, none⟩ := fun W v => World.cell?_setCell_other _ _ _ _ (by simp)
        have hi0 : (0 : Int) ≤ (p : Int) := by omega
        have hi1 : (0 : Int) ≤ (p : Int) + 1 := by omega
        have hi2 : (p : Int) < (l.length : Int) := by omega
        have hne1 : ¬ sb = g := hS.ne
        have hne2 : ¬ g = sb := fun e => hne1 e.symm
        have hw1 : IntKind.i64.wrap ((p : Int) + 1) = (p : Int) + 1 := by rw [IntKind.wrap_i64]; omega
        have HF : Hid _ := hfin
        have HK : Hid _ := hsk
        clear hcp hcq hfin hsk
        rcases Nat.lt_trichotomy (num l p) (num l (p + 1)) with h | h | h
        · have HU : Hid (slope l p = 1) := hup h
          clear hup heq hdn hS
          go_wp2
          go_quiet (fail)
          go_wp2
          go_roundw
          case rel => exact ⟨p, by omega, by go_num, HF.out 1 HU.out _ 0⟩
          case measure => simp [intOf]
        · have HU : Hid (slope l p = slope l (p + 1)) := heq h
          have hq : (((num l p : Nat) : Int) == ((num l (p + 1) : Nat) : Int)) = true := by rw [h]; simp
          have hlt : ¬ (((num l p : Nat) : Int) < ((num l (p + 1) : Nat) : Int)) := by omega
          clear hup heq hdn hS h
          go_wp2
          go_quiet (fail)
          go_wp2
          go_region_held3 (fun w' => w'.cell? ⟨sb, 2, none⟩ = some (.slice (some ⟨g, 0, none⟩) l.length l.length) ∧ w'.cell? ⟨g, p + 1, none⟩ = some (.int .i64 (slope l (p + 1)))) (go_keep) (fail)
          go_wp2
          go_roundw
          case rel => exact ⟨p, by omega, by go_num, HF.out _ HU.out (nq + 1) 0⟩
          case measure => simp [intOf]
        · have HU : Hid (slope l p = 0) := hdn h
          have hlt : ¬ (((num l p : Nat) : Int) < ((num l (p + 1) : Nat) : Int)) := by omega
          have hq : (((num l p : Nat) : Int) == ((num l (p + 1) : Nat) : Int)) = false := by rw [beq_eq_false_iff_ne]; omega
          clear hup heq hdn hS
          go_wp2
          go_quiet (fail)
          go_wp2
          go_roundw
          case rel => exact ⟨p, by omega, by go_num, HK.out HU.out _⟩
          case measure => simp [intOf]
      · have : m = 0 := by omega
        subst this
        have hr := hS.row
        rw [slTo_zero] at hr
        have hb := hS.bel
        have hg2 := hS.g2
        have hx0 := Blk.cell hS.str (k := 0) (by simp)
        have hx1 := Blk.cell hS.str (k := 1) (by simp)
        have hy0 := Blk.cell hS.res (k := 0) (by simp)
        have hy1 := Blk.cell hS.res (k := 1) (by simp)
        have hy2 := Blk.cell hS.res (k := 2) (by simp)
        have hf0 := Blk.free hS.res 0
        have hf1 := Blk.free hS.res 1
        have hf2 := Blk.free hS.res 2
        simp only [List.getElem_cons_zero, List.getElem_cons_succ] at hx0 hx1 hy0 hy1 hy2
        have HH : Hid (Below w.heap.size w (((wr.setCell ⟨w.heap.size + 1, 0, none⟩ (.slice ad l.length c)).setCell ⟨w.heap.size + 1, 1, none⟩ (.int .i64 kinds)).setCell ⟨w.heap.size + 1, 2, none⟩ (.slice (some ⟨g, 0, none⟩) l.length l.length))) := ((hb.setCell (by simp) _).setCell (by simp) _).setCell (by simp) _
        have HR : Hid (Row (((wr.setCell ⟨w.heap.size + 1, 0, none⟩ (.slice ad l.length c)).setCell ⟨w.heap.size + 1, 1, none⟩ (.int .i64 kinds)).setCell ⟨w.heap.size + 1, 2, none⟩ (.slice (some ⟨g, 0, none⟩) l.length l.length)) g (slopes l)) := Blk.other (Blk.other (Blk.other hr (by simp; omega) _) (by simp; omega) _) (by simp; omega) _
        clear hS hr hb
        go_wp2
        refine bodyPost_ret (v := slv ad (some ⟨g, 0, none⟩) l.length c l.length kinds) (by simp [results, Tryz.results83, go_sem, hy0, hy1, hy2]) rfl ⟨g, rfl, by omega, HR.out, HH.out⟩
end Go.Proofs.YtepklbboejnecaaGreat
