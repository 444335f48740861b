/- Inducing: the first pass, whole: the walk. -/
import Derived.Test.YtepklbboejnecaaGreatWl
namespace Go.Proofs.YtepklbboejnecaaGreat
open Go.RowKit Go.Shelf Sedge

attribute [local go_sem] Oper.semAt_some

/-- What holds in the first pass, between its steps: w: the call's start. -/
structure Mid (ad ad' : Option Addr) (l : List Nat) (c c' : Nat) (kinds : Int) (r g K : Nat) (w W : World) (f : Nat → List Nat) : Prop where
  bk : Bk W r g l.length K (room l.length (buck l)) f
  touch : Touch r g w W
  box : Blk W w.heap.size 150 [.slice ad l.length c, .int .i64 kinds, .slice ad' l.length c']
  box2 : Blk W (w.heap.size + 1) 29 [.slice (some ⟨g, 0, none⟩) K K]
section
variable {ad ad' : Option Addr} {l : List Nat} {c c' : Nat} {kinds : Int} {r g K : Nat} {w W W' : World} {f f' : Nat → List Nat}
theorem Mid.putObj (h : Mid ad ad' l c c' kinds r g K w W f) (hr : r < w.heap.size) (hg : g < w.heap.size) {j : Nat} (hj : w.heap.size + 1 < j) (o : Obj) : Mid ad ad' l c c' kinds r g K w (W.putObj j o) f :=
  ⟨h.bk.putObj (by omega) (by omega) o, h.touch.putObj (by omega) o, h.box.putObj (by omega) o, h.box2.putObj (by omega) o⟩
theorem Mid.alloc (h : Mid ad ad' l c c' kinds r g K w W f) (o : Obj) : Mid ad ad' l c c' kinds r g K w (W.alloc o) f :=
  ⟨h.bk.alloc o, h.touch.alloc o, h.box.alloc o, h.box2.alloc o⟩
theorem Mid.next (h : Mid ad ad' l c c' kinds r g K w W f) (hr : r < w.heap.size) (hg : g < w.heap.size) (hT : Touch r g W W') (hb : Bk W' r g l.length K (room l.length (buck l)) f') : Mid ad ad' l c c' kinds r g K w W' f' :=
  ⟨hb, h.touch.trans hT, hT.blk h.box (by omega) (by omega), hT.blk h.box2 (by omega) (by omega)⟩
/-- What the walk reads. -/
theorem Mid.cells (h : Mid ad ad' l c c' kinds r g K w W f) : W.cell? ⟨w.heap.size, 0, none⟩ = some (.slice ad l.length c) ∧ W.cell? ⟨w.heap.size, 1, none⟩ = some (.int .i64 kinds) ∧ W.cell? ⟨w.heap.size, 2, none⟩ = some (.slice ad' l.length c') ∧ W.cell? ⟨w.heap.size + 1, 0, none⟩ = some (.slice (some ⟨g, 0, none⟩) K K) := by
  refine ⟨?_, ?_, ?_, ?_⟩
  · have := Blk.cell h.box (k := 0) (by simp); simpa using this
  · have := Blk.cell h.box (k := 1) (by simp); simpa using this
  · have := Blk.cell h.box (k := 2) (by simp); simpa using this
  · have := Blk.cell h.box2 (k := 0) (by simp); simpa using this
end

/-- The buckets of rising ends turned round, up to the t-th. -/
def odds (f : Nat → List Nat) (t : Nat) : Nat → List Nat := fun c => if c % 2 = 1 ∧ c < 2 * t + 1 then (f c).reverse else f c
theorem odds_zero (f : Nat → List Nat) : odds f 0 = f := by
  funext c; unfold odds; rw [if_neg (by omega)]
theorem odds_succ (f : Nat → List Nat) (t : Nat) : revAt (odds f t) (2 * t + 1) = odds f (t + 1) := by
  funext c; unfold odds revAt; dsimp only
  by_cases e : c = 2 * t + 1
  · subst e; rw [if_pos rfl, if_neg (by omega), if_pos (by omega)]
  · rw [if_neg e]
    by_cases d : c % 2 = 1 ∧ c < 2 * t + 1
    · rw [if_pos d, if_pos (by omega)]
    · rw [if_neg d, if_neg (by omega)]

set_option maxRecDepth 100000 in
set_option maxHeartbeats 4000000 in
theorem induceRising_in {lt1 lt : Nat → Nat → Prop} (ad ad' ad2 : Option Addr) (l S : List Nat) (c c' c2 : Nat) (kinds : Int) (r g K : Nat) (w0 w : World)
    (G : Sedge.Good l S lt1 lt) (hKb : ∀ p, p < l.length → buck l p < K) (hK0 : 0 < K) (hKm : K ≤ 1000000)
    (hl : Sl w0 ad l) (hs : Sl w0 ad' (slopes l)) (hS : Sl w0 ad2 S) (hv : ∀ p, num l p ≤ 1000000) (hn : l.length ≤ 1000000) (hSn : S.length ≤ 1000000) (hB0 : Below w0.heap.size w0 w) (hr0 : w0.heap.size ≤ r) (hg0 : w0.heap.size ≤ g)
    (hbk : Bk w r g l.length K (room l.length (buck l)) (fun _ => [])) :
    CallsIn Fence.wide 10 Tryz.prog 113 #[slv ad ad' l.length c c' kinds, .slice (some ⟨g, 0, none⟩) K K, .slice ad2 S.length c2] w fun e w' =>
      e = .returned (.tuple #[]) ∧ ∃ f1, Fin1 l lt1 f1 ∧ Bk w' r g l.length K (room l.length (buck l)) (fun c => if c % 2 = 1 then (f1 c).reverse else f1 c) ∧ Touch r g w w' := by
  have hFn : ∀ k, Fence.wide.fn k := fun _ => trivial
  have hrlt := hbk.rlt
  have hglt := hbk.hd.lt
  unfold slv
  refine callsIn_of_wp_marks Tryz.func113 rfl trivial ?_ rfl
  simp only [Tryz.ntmps113, List.size_toArray, List.length_cons, List.length_nil, Nat.reduceAdd, Nat.reduceSub, Array.replicate_succ, Array.replicate_zero, List.push_toArray, List.append_toArray, List.nil_append, List.cons_append]
  gi_wp2_with (gi_at_call 137; refine (backward_in (10 - 1) _ _ _ _).mono ?_; rintro e w' ⟨rfl, rfl⟩)
  have hM0 : Mid ad ad' l c c' kinds r g K w (((w.alloc (.cells #[.slice ad l.length c, .int .i64 kinds, .slice ad' l.length c'] 150)).alloc (.cells #[.slice (some ⟨g, 0, none⟩) K K] 29)).alloc (.cells #[.slice ad2 S.length c2] 55)) (f0 l S 0) := by
    refine ⟨?_, (((Touch.refl r g w).alloc _).alloc _).alloc _, ((Blk.new _ _ _ rfl).alloc _).alloc _, (Blk.new _ _ _ (by simp)).alloc _⟩
    rw [f0_zero]; exact ((hbk.alloc _).alloc _).alloc _
  have hbx : Blk (((w.alloc (.cells #[.slice ad l.length c, .int .i64 kinds, .slice ad' l.length c'] 150)).alloc (.cells #[.slice (some ⟨g, 0, none⟩) K K] 29)).alloc (.cells #[.slice ad2 S.length c2] 55)) (w.heap.size + 1 + 1) 55 [.slice ad2 S.length c2] := Blk.new _ _ _ (by simp)
  have hBR : Below w0.heap.size w0 (((w.alloc (.cells #[.slice ad l.length c, .int .i64 kinds, .slice ad' l.length c'] 150)).alloc (.cells #[.slice (some ⟨g, 0, none⟩) K K] 29)).alloc (.cells #[.slice ad2 S.length c2] 55)) :=
    hM0.touch.below hB0 hB0.size hr0 hg0
  generalize hwR : (((w.alloc (.cells #[.slice ad l.length c, .int .i64 kinds, .slice ad' l.length c'] 150)).alloc (.cells #[.slice (some ⟨g, 0, none⟩) K K] 29)).alloc (.cells #[.slice ad2 S.length c2] 55)) = wR at hM0 hbx hBR ⊢
  have hszR : wR.heap.size = w.heap.size + 1 + 1 + 1 := by rw [← hwR]; simp
  clear hwR
  have hcb := Blk.cell hbx (k := 0) (by simp)
  simp only [List.getElem_cons_zero] at hcb
  refine range_back 10 (by omega) (w.heap.size + 1 + 1) r g ad2 c2 S hSn rfl ⟨by omega, by omega, by omega⟩ ?bl hcb (hS.later hBR)
    (fun k W => Mid ad ad' l c c' kinds r g K w W (f0 l S k)) (fun k W j o hj h => h.putObj hrlt hglt (by omega) o) (fun W o h => h.alloc o) hM0
    (fun k => { tmps := #[.agg #[.slice ad l.length c, .int .i64 kinds, .slice ad' l.length c'], .slice (some ⟨g, 0, none⟩) K K, .slice ad2 S.length c2, .pointer (some ⟨w.heap.size, 0, none⟩), .pointer (some ⟨w.heap.size + 1, 0, none⟩), undef, undef, .int .i64 (num S.reverse k : Nat), undef, undef, .slice ad2 S.length c2, .func (.func 149) #[] #[.pointer (some ⟨w.heap.size + 1 + 1, 0, none⟩)], .int .i64 ((S.length - 1 - k : Nat) : Int), .int .i64 (num S.reverse k : Nat), undef, undef, undef, undef, undef, undef, undef, undef, undef, undef, undef, undef, undef, undef, undef, undef, undef, undef, undef, undef, undef, undef, undef, undef, undef, undef], defers := [] }) ?assign ?body ?done
  case bl =>
    intro b o hb hp
    obtain ⟨b', o', e, hc⟩ := hS 0 hp
    rw [hb] at e
    simp only [Option.some.injEq, Addr.mk.injEq, and_true] at e
    have := cell_lt hc
    dsimp only at this
    have := hB0.size
    omega
  case assign =>
    intro l' k W K' hk hK'
    gi_wp2
    exact hK'
  case body =>
    intro l' k W hM hk hsz
    obtain ⟨h1, h2, h3, h4⟩ := hM.cells
    have hst := (G.mem _).1 (by have := num_mem (o := S.reverse) (i := k) (by simpa using hk); rwa [List.mem_reverse] at this)
    have hBW : Below w0.heap.size w0 W := hM.touch.below hB0 hB0.size hr0 hg0
    have hroom : (f0 l S k (buck l (num S.reverse k))).length < room l.length (buck l) (buck l (num S.reverse k)) := G.f0_room hk
    gi_wp2_with (gi_at_call 138; refine (CallsIn.inRound l' (callsIn_wide.2 (put_any ad ad' l c c' kinds (num S.reverse k) r g l.length K _ (f0 l S k) W (hl.later hBW) (hs.later hBW) hst.1 (hv _) hM.bk (hKb _ hst.1) hroom))).mono ?_; rintro e w' ⟨rfl, hbk', hT'⟩)
    refine ⟨hT'.keepsFrom (by omega) (by omega), hT'.kept (by omega), ?_⟩
    rw [f0_succ hk]
    exact hM.next hrlt hglt hT' hbk'
  case done =>
    intro D W hD hM hdef
    obtain ⟨h1, h2, h3, h4⟩ := hM.cells
    gi_wp2
    gi_loopw [8] (fun i wr => ∃ (m : Nat) (f : Nat → List Nat), m ≤ K ∧ i = .int .i64 ((m : Int) - 1) ∧ Mid ad ad' l c c' kinds r g K w wr f ∧ wr.heap[D]? = some (.deferred (some [])) ∧ (m = 0 → Fin1 l lt1 f) ∧ (0 < m → Inv1 l lt1 f (m - 1) 0)) (fun i _ => (intOf i + 1).toNat)
    case atStart => exact ⟨K, f0 l S S.length, Nat.le_refl _, rfl, hM, hdef, fun h => by omega, fun _ => G.start1 (fun p hp => by have := hKb p hp; omega)⟩
    case round =>
      clear hM hdef h1 h2 h3 h4 hM0 hbx hcb hBR
      obtain ⟨m, f, hm, rfl, hM, hdef, hfin, hinv⟩ := hrel
      obtain ⟨h1, h2, h3, h4⟩ := hM.cells
      have hBW : Below w0.heap.size w0 wr := hM.touch.below hB0 hB0.size hr0 hg0
      have hDl : D < wr.heap.size := lt_of_block hdef
      by_cases h0 : 0 < m
      · obtain ⟨b, rfl⟩ : ∃ b, m = b + 1 := ⟨m - 1, by omega⟩
        have hiv := hinv h0
        rw [Nat.add_sub_cancel] at hiv
        rw [show (((b + 1 : Nat)) : Int) - 1 = (b : Int) by omega]
        clear hfin hinv
        gi_wp2_with (gi_at_call 139; refine (callsIn_wide.2 (induceAhead_any ad ad' l c c' kinds b 1 r g K f w0 wr G.pass1 (fun p _ => Iff.rfl) hKb (by omega) hl hs hv hn hBW hr0 hg0 hM.bk hiv)).mono ?_; rintro e w' ⟨rfl, f', hbk', hinv', hT'⟩)
        go_roundw
        case rel =>
          refine ⟨b, f', by omega, by go_num, hM.next hrlt hglt hT' hbk', ?_, fun h => ?_, fun h => ?_⟩
          · rw [hT'.block D hDl (by omega) (by omega)]; exact hdef
          · subst h; exact G.fin1 hinv'
          · exact hinv'.next (fun c => by omega)
        case measure => simp [intOf]
      · have hm0 : m = 0 := by omega
        subst hm0
        have hF1 := hfin rfl
        clear hfin hinv h0 hm
        rw [show ((0 : Nat) : Int) - 1 = -1 from rfl]
        gi_wp2
        gi_loopw [9] (fun i wx => ∃ t : Nat, t ≤ K ∧ i = .int .i64 (((2 * t + 1 : Nat)) : Int) ∧ Mid ad ad' l c c' kinds r g K w wx (odds f t) ∧ wx.heap[D]? = some (.deferred (some []))) (fun i _ => K + 2 - (intOf i).toNat)
        case atStart => exact ⟨0, Nat.zero_le _, rfl, by rw [odds_zero]; exact hM, hdef⟩
        case round =>
          clear hM hdef h1 h2 h3 h4 hBW hDl
          obtain ⟨t, ht, rfl, hM, hdef⟩ := hrel
          obtain ⟨h1, h2, h3, h4⟩ := hM.cells
          have hDl : D < wr.heap.size := lt_of_block hdef
          by_cases hlt : 2 * t + 1 < K
          · obtain ⟨o, ho, hro, hrw⟩ := hM.bk.row
            have hcell : wr.cell? ⟨g, 2 * t + 1, none⟩ = some (hdr r (room l.length (buck l)) (fun c => (odds f t c).length) (2 * t + 1)) := vtab_cell hM.bk.hd hlt
            have hfit := hM.bk.fit (2 * t + 1) hlt
            have hps := ps_next (room l.length (buck l)) hlt
            have htot := hM.bk.tot
            obtain ⟨b, hb⟩ : ∃ b, b = 2 * t + 1 := ⟨_, rfl⟩
            have HB : Hid (b = 2 * t + 1) := hb
            rw [← hb] at hcell hfit hps hlt ⊢
            have hbK : (b : Int) < (K : Int) := by omega
            have hnx : ∀ w' f', Bk w' r g l.length K (room l.length (buck l)) f' → (∀ g', Touch r g' wr w') → Mid ad ad' l c c' kinds r g K w w' f' ∧ w'.heap[D]? = some (.deferred (some [])) := fun w' f' hk hT' =>
              ⟨hM.next hrlt hglt (hT' g) hk, by rw [(hT' g).block D hDl (by omega) (by omega)]; exact hdef⟩
            have HN : Hid _ := hnx
            by_cases hz : room l.length (buck l) b = 0
            · have hrev : ∀ w', (∀ g', Touch r g' wr w') → ∀ t', t' + t' ≤ 1 → Row w' r (turned o 0 0 t') → Bk w' r g l.length K (room l.length (buck l)) (odds f (t + 1)) := fun w' hT' t' ht' hr' => by
                have := hM.bk.rev_none (b := b) hlt hz hT' hro hr' ht'
                rwa [HB.out, odds_succ] at this
              have HV : Hid _ := hrev
              have hcell2 : wr.cell? ⟨g, b, none⟩ = some (.slice (some ⟨r, 0, none⟩) 0 0) := by
                rw [hcell]; simp only [hdr, hz, if_true]; rw [show (odds f t b).length = 0 by omega]
              clear hb hcell hfit hps hnx hrev hz
              gi_wp2_with (gi_at_call 140; refine (callsIn_wide.2 (reverse_any r 0 0 0 o wr hro (by omega) (by omega))).mono ?_; rintro e w' ⟨rfl, t', ht1, ht2, hr', _, hT'⟩)
              have hb' := HV.out w' hT' t' (by omega) hr'
              have hfin := HN.out w' _ hb' hT'
              have hbo := HB.out
              go_roundw
              case rel => exact ⟨t + 1, by omega, by congr 1; omega, hfin.1, hfin.2⟩
              case measure => simp [intOf]; omega
            · have hrev : ∀ w', (∀ g', Touch r g' wr w') → ∀ t', (odds f t b).length ≤ t' + t' + 1 → t' + t' ≤ (odds f t b).length + 1 → Row w' r (turned o (ps (room l.length (buck l)) b) (odds f t b).length t') → Bk w' r g l.length K (room l.length (buck l)) (odds f (t + 1)) := fun w' hT' t' h1' h2' hr' => by
                have := Bk.rev (b := b) hlt hM.bk.hd ho hrw hM.bk.fit hM.bk.tot hM.bk.ne hT' h1' h2' hr'
                rwa [HB.out, odds_succ] at this
              have HV : Hid _ := hrev
              have hcell2 : wr.cell? ⟨g, b, none⟩ = some (.slice (some ⟨r, ps (room l.length (buck l)) b, none⟩) (odds f t b).length (room l.length (buck l) b)) := by
                rw [hcell]; simp only [hdr]; rw [if_neg hz]
              clear hb hcell hnx hrev hz
              gi_wp2_with (gi_at_call 140; refine (callsIn_wide.2 (reverse_any r (ps (room l.length (buck l)) b) (odds f t b).length _ o wr hro (by omega) (by omega))).mono ?_; rintro e w' ⟨rfl, t', ht1, ht2, hr', _, hT'⟩)
              have hb' := HV.out w' hT' t' ht1 ht2 hr'
              have hfin := HN.out w' _ hb' hT'
              have hbo := HB.out
              go_roundw
              case rel => exact ⟨t + 1, by omega, by congr 1; omega, hfin.1, hfin.2⟩
              case measure => simp [intOf]; omega
          · obtain ⟨b, hb⟩ : ∃ b, b = 2 * t + 1 := ⟨_, rfl⟩
            have hbK : (K : Int) ≤ (b : Int) := by omega
            rw [← hb]
            have hfb := hM.bk.congr (f' := fun c => if c % 2 = 1 then (f c).reverse else f c) (fun c hc => by
              unfold odds
              by_cases e : c % 2 = 1
              · rw [if_pos e, if_pos ⟨e, by omega⟩]
              · rw [if_neg e, if_neg (by omega)])
            have htc := hM.touch
            clear hb hlt
            gi_wp2
            refine ⟨by simp, .inl ⟨_, _, rfl, run_takeDeferred hdef, ?_⟩⟩
            exact ⟨.tuple #[], results_none rfl _ _ _, rfl, f, hF1, hfb.putObj (by omega) (by omega) _, htc.putObj (by omega) _⟩
end Go.Proofs.YtepklbboejnecaaGreat
