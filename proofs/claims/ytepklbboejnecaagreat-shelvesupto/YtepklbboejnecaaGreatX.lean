/- Several texts as one. -/
import Derived.Test.YtepklbboejnecaaGreatWp
import Derived.Test.YtepklbboejnecaaGreatM
import Derived.Deep.DeepCutAuto
import Derived.Test.YtepklbboejnecaaGreatWv
import Derived.Deep.RegionHeldLaw
import Derived.Laws.AppendOwnNone
import Derived.Test.YtepklbboejnecaaGreatWz
import Derived.Laws.EntriesVeiled
import Derived.Lib.SliceRun
/- Doubling: halves, sorting by them, naming by them. -/
namespace Go.Proofs.YtepklbboejnecaaGreat
open Go.RowKit Go.Shelf Sedge
attribute [local go_sem ↓] Go.wp_at_zero Go.wp_at_succ

set_option maxHeartbeats 1000000 in
/-- 'halves'. -/
theorem halves_any (ad : Option Addr) (l : List Nat) (c : Nat) (kinds : Int) (p h : Nat) (w : World) (hl : Sl w ad l) (hv : ∀ p, num l p ≤ 1000000) (hp : p ≤ 1000000) (hh : h ≤ 10000000) :
    Calls Tryz.prog 108 #[.agg #[.slice ad l.length c, .int .i64 kinds], .int .i64 p, .int .i64 h] w fun e w' => e = .returned (.agg #[.int .i64 (rk l p), .int .i64 (rk l (p + h))]) ∧ Below w.heap.size w w' := by
  have hb0 : Below w.heap.size w ((w.alloc (Obj.cells #[Value.slice ad l.length c, Value.int .i64 kinds] 122)).alloc (Obj.cells #[.int .i64 0, .int .i64 0] 164)) := ((Below.refl _ _).alloc (Nat.le_refl _) _).alloc (by simp) _
  have wa : IntKind.i64.wrap ((p : Int) + (h : Int)) = (p : Int) + (h : Int) := by rw [IntKind.wrap_i64]; omega
  have ek : (((p + h : Nat) : Int)) = (p : Int) + (h : Int) := by omega
  have C1 := fun W => at_any ad l c kinds p W
  have C2 := fun W => at_any ad l c kinds (p + h) W
  rw [ek] at C2
  have D1 : Hid _ := C1
  have D2 : Hid _ := C2
  have hz2 : w.heap.size < w.heap.size + 1 + 1 := by omega
  clear C1 C2 ek
  go_enter Tryz.func108, Tryz.ntmps108
  go_wp2
  go_region_held3 (fun w' => w'.cell? ⟨w.heap.size, 0, none⟩ = some (.slice ad l.length c) ∧ w'.cell? ⟨w.heap.size, 1, none⟩ = some (.int .i64 kinds)) (go_keep)
    (first
      | (go_at_call_of 136 (Value.int .i64 (p : Int)); refine (D1.out _ (hl.later hb0.drew) (hv p)).mono ?_; rintro e w2 ⟨rfl, hb2⟩; obtain ⟨hk, hk'⟩ := bcell hb2)
      | (go_at_call_of 136 (Value.int .i64 ((p : Int) + (h : Int))); refine (D2.out _ (hl.later (Below.later hb0.drew hb2)) (hv _)).mono ?_; rintro e w3 ⟨rfl, hb3⟩; have hsz2 := hb2.size; have hsz3 : w.heap.size + 1 < w2.heap.size := (by simp at hsz2; omega); have hsz4 : w.heap.size < w2.heap.size := (by omega); obtain ⟨hk3, hk3'⟩ := bcell hb3))
  go_wp2
  refine bodyPost_ret (v := .agg #[.int .i64 (rk l p), .int .i64 (rk l (p + h))]) (by simp [results, Tryz.results108, go_sem, hsz3, hk3, hk]; exact ⟨rfl, rfl⟩) rfl ⟨rfl, ?_⟩
  exact ((Below.later (Below.later hb0.drew hb2) hb3).setCell (p := ⟨w.heap.size + 1, 0, none⟩) (by simp) _).setCell (p := ⟨w.heap.size + 1, 1, none⟩) (by simp) _

/-- What the closures over a row and a width ask of the world. -/
structure Wid (ad : Option Addr) (l : List Nat) (c br bh h : Nat) (kinds : Int) (W : World) : Prop where
  sl : Sl W ad l
  row : Blk W br 122 [.slice ad l.length c, .int .i64 kinds]
  wid : Blk W bh 3 [.int .i64 (h : Int)]
theorem Wid.later {ad : Option Addr} {l : List Nat} {c br bh h : Nat} {kinds : Int} {w w' : World} (H : Wid ad l c br bh h kinds w) (hb : Below w.heap.size w w') : Wid ad l c br bh h kinds w' := ⟨H.sl.later hb, H.row.later hb, H.wid.later hb⟩

theorem cell1 {W : World} {b : Nat} {T : TypeId} {x : Value} (h : Blk W b T [x]) : W.cell? ⟨b, 0, none⟩ = some x := by
  have := Blk.cell h (k := 0) (by simp); simpa using this

theorem idx2_0 (x y : Value) (w : World) : (Instr.index 164 (.agg #[x, y]) (.int .i64 0)).run Tryz.prog w = .ok x w := by kernel_rfl
theorem idx2_1 (x y : Value) (w : World) : (Instr.index 164 (.agg #[x, y]) (.int .i64 1)).run Tryz.prog w = .ok y w := by kernel_rfl

set_option maxHeartbeats 1000000 in
theorem tells_behind (ad : Option Addr) (l : List Nat) (c br bh h : Nat) (kinds : Int) (hv : ∀ p, num l p ≤ 1000000) (hn : l.length ≤ 1000000) (hh : h ≤ 10000000) :
    Tells 107 #[] #[.pointer (some ⟨br, 0, none⟩), .pointer (some ⟨bh, 0, none⟩)] (Wid ad l c br bh h kinds) (fun p => rk l (p + h)) l.length where
  enter := enters_of Tryz.func107 (by kernel_rfl) rfl
  keep w w' H hb := H.later hb
  run p w H hp := by
    obtain ⟨hx0, hx1⟩ := cells2 H.row
    have hx2 := cell1 H.wid
    have CH := halves_any ad l c kinds p h w H.sl hv (by omega) hh
    have HC : Hid _ := CH
    clear CH H
    go_enter Tryz.func107, Tryz.ntmps107
    go_wp2_with fail
    refine Calls.mono HC.out ?_
    rintro e w2 ⟨rfl, hb2⟩
    have i1 := idx2_1
    go_wp2
    go_ret
    exact ⟨rfl, hb2⟩

set_option maxHeartbeats 1000000 in
theorem tells_front (ad : Option Addr) (l : List Nat) (c br bh h : Nat) (kinds : Int) (hv : ∀ p, num l p ≤ 1000000) (hn : l.length ≤ 1000000) (hh : h ≤ 10000000) :
    Tells 109 #[] #[.pointer (some ⟨br, 0, none⟩), .pointer (some ⟨bh, 0, none⟩)] (Wid ad l c br bh h kinds) (fun p => rk l p) l.length where
  enter := enters_of Tryz.func109 (by kernel_rfl) rfl
  keep w w' H hb := H.later hb
  run p w H hp := by
    obtain ⟨hx0, hx1⟩ := cells2 H.row
    have hx2 := cell1 H.wid
    have CH := halves_any ad l c kinds p h w H.sl hv (by omega) hh
    have HC : Hid _ := CH
    clear CH H
    go_enter Tryz.func109, Tryz.ntmps109
    go_wp2_with fail
    refine Calls.mono HC.out ?_
    rintro e w2 ⟨rfl, hb2⟩
    have i1 := idx2_0
    go_wp2
    go_ret
    exact ⟨rfl, hb2⟩

set_option maxHeartbeats 1000000 in
theorem tells_alike (ad : Option Addr) (l : List Nat) (c br bh h : Nat) (kinds : Int) (hv : ∀ p, num l p ≤ 1000000) (hn : l.length ≤ 1000000) (hh : h ≤ 10000000) :
    Tells2 110 #[] #[.pointer (some ⟨br, 0, none⟩), .pointer (some ⟨bh, 0, none⟩)] (Wid ad l c br bh h kinds) (fun p q => p < l.length ∧ q < l.length ∧ p ≠ q) (fun a b => decide (rk l a = rk l b ∧ rk l (a + h) = rk l (b + h))) where
  enter := enters_of Tryz.func110 (by kernel_rfl) rfl
  keep w w' H hb := H.later hb
  run p q w H hp := by
    obtain ⟨hp, hq, hne⟩ := hp
    obtain ⟨hx0, hx1⟩ := cells2 H.row
    have hx2 := cell1 H.wid
    have hg2 := guard2
    have hq2 := eq2
    have CH := fun W p H hp => halves_any ad l c kinds p h W H hv hp hh
    have HC : Hid _ := CH
    have hl1 := H.row.lt
    have hl2 := H.wid.lt
    clear CH
    go_enter Tryz.func110, Tryz.ntmps110
    go_wp2_with fail
    go_region_held3 (fun w' => w'.cell? ⟨br, 0, none⟩ = some (.slice ad l.length c) ∧ w'.cell? ⟨br, 1, none⟩ = some (.int .i64 kinds) ∧ w'.cell? ⟨bh, 0, none⟩ = some (.int .i64 (h : Int))) (go_keep)
      (first
        | (go_at_call_of 108 (Value.int .i64 (p : Int)); refine (HC.out _ p (H.sl.later (Below.refl _ w).drew) (by omega)).mono ?_; rintro e w2 ⟨rfl, hb2⟩; have s0 := (hb2.cell (p := ⟨br, 0, none⟩) hl1).trans hx0; have s1 := (hb2.cell (p := ⟨br, 1, none⟩) hl1).trans hx1; have s2 := (hb2.cell (p := ⟨bh, 0, none⟩) hl2).trans hx2)
        | (go_at_call_of 108 (Value.int .i64 (q : Int)); refine (HC.out _ q ((H.sl.later (Below.refl _ w).drew).later hb2) (by omega)).mono ?_; rintro e w3 ⟨rfl, hb3⟩; have hsz2 := hb2.size; have hsz3 : br < w2.heap.size := (by simp at hsz2; omega); have hsz4 : bh < w2.heap.size := (by simp at hsz2; omega); have t0 := (hb3.cell (p := ⟨br, 0, none⟩) hsz3).trans s0; have t1 := (hb3.cell (p := ⟨br, 1, none⟩) hsz3).trans s1; have t2 := (hb3.cell (p := ⟨bh, 0, none⟩) hsz4).trans s2))
    clear hx0 hx1 hx2 s0 s1 s2 t0 t1 t2 HC hg2 hq2 hl1 hl2
    go_wp2
    go_ret
    refine ⟨?_, Below.later (Below.later (Below.refl _ w).drew hb2) hb3⟩
    congr 2
    by_cases e1 : rk l p = rk l q <;> by_cases e2 : rk l (p + h) = rk l (q + h) <;> simp [e1, e2] <;> omega

set_option maxHeartbeats 1000000 in
/-- 'sortedByHalves'. -/
theorem sortedByHalves_any (ad ao : Option Addr) (l o : List Nat) (c co h K : Nat) (w : World) (hl : Sl w ad l) (ho : Sl w ao o) (hM : ∀ p, p ∈ o → p < l.length) (hn : l.length ≤ 1000000) (hno : o.length ≤ 1000000) (hK : ∀ p, p < l.length → num l p < K) (hKn : K ≤ 100000) (hh : h ≤ 10000000) :
    Calls Tryz.prog 81 #[.agg #[.slice ad l.length c, .int .i64 K], .slice ao o.length co, .int .i64 h] w fun e w' =>
      ∃ g, e = .returned (.slice (some ⟨g, 0, none⟩) o.length o.length) ∧ w.heap.size ≤ g ∧ Row w' g (flat (Sedge.part (fun p => rk l p) (flat (Sedge.part (fun p => rk l (p + h)) o) (K + 1))) (K + 1)) ∧ Below w.heap.size w w' := by
  have hv : ∀ p, num l p ≤ 1000000 := fun p => by
    by_cases hp : p < l.length
    · have := hK p hp; omega
    · simp [num, List.getD, List.getElem?_eq_none (show l.length ≤ p by omega)]
  have hrk : ∀ p, rk l p < K + 1 := fun p => by
    unfold rk; split
    · have := hK p (by assumption); omega
    · omega
  have hW : Wid ad l c w.heap.size (w.heap.size + 1) h (K : Int) ((w.alloc (Obj.cells #[Value.slice ad l.length c, Value.int .i64 (K : Int)] 122)).alloc (Obj.cells #[Value.int .i64 (h : Int)] 3)) :=
    ⟨(hl.later ((Below.refl _ _).alloc (Nat.le_refl _) _)).later ((Below.refl _ _).alloc (Nat.le_refl _) _), Blk.alloc (Blk.new w _ _ rfl) _, by
      have := Blk.new (w.alloc (Obj.cells #[Value.slice ad l.length c, Value.int .i64 (K : Int)] 122)) [Value.int .i64 (h : Int)] 3 rfl
      simpa using this⟩
  have hb0 : Below w.heap.size w ((w.alloc (Obj.cells #[Value.slice ad l.length c, Value.int .i64 (K : Int)] 122)).alloc (Obj.cells #[Value.int .i64 (h : Int)] 3)) := ((Below.refl _ _).alloc (Nat.le_refl _) _).alloc (by simp) _
  go_enter Tryz.func81, Tryz.ntmps81
  have hmf : ∀ (fn : Fn) (first cap : Array Value) (w : World), (Instr.makeFunc fn first cap).run Tryz.prog w = .ok (.func fn first cap) w := fun _ _ _ _ => rfl
  have ek : (((K + 1 : Nat) : Int)) = (K : Int) + 1 := by omega
  have D := fun (fn : FuncId) (β : Nat → Nat) (ht : Tells fn #[] #[.pointer (some ⟨w.heap.size, 0, none⟩), .pointer (some ⟨w.heap.size + 1, 0, none⟩)] (Wid ad l c w.heap.size (w.heap.size + 1) h (K : Int)) β l.length) ad o c w hl hM hβ hI hn => deal_any fn #[] _ _ β l.length ht ad o c (K + 1) w hl hM hβ hI hn (by omega)
  rw [ek] at D
  have HD : Hid _ := D
  have wK : IntKind.i64.wrap ((K : Int) + 1) = (K : Int) + 1 := by rw [IntKind.wrap_i64]; omega
  have ho1 := ho.later hb0
  clear D ek
  go_wp2_with fail
  generalize (w.alloc (Obj.cells #[Value.slice ad l.length c, Value.int .i64 (K : Int)] 122)).alloc (Obj.cells #[Value.int .i64 (h : Int)] 3) = w1 at hW hb0 ho1 ⊢
  refine (HD.out _ _ (tells_behind ad l c w.heap.size (w.heap.size + 1) h (K : Int) hv hn hh) ao o co w1 ho1 (fun k hk => hM _ (num_mem hk)) (fun p _ => hrk _) hW hno).mono ?_
  rintro e w2 ⟨g2, rfl, hg2, hr2, hb2⟩
  obtain ⟨o2, ho2⟩ : ∃ o2, o2 = flat (Sedge.part (fun p => rk l (p + h)) o) (K + 1) := ⟨_, rfl⟩
  rw [← ho2] at hr2
  have HO2 : Hid _ := ho2
  have hlen2 : o2.length = o.length := by rw [ho2, flat_length]; exact ps_cnt (fun p _ => hrk _)
  have hmem2 : ∀ p, p ∈ o2 → p < l.length := fun p hp => by
    rw [ho2] at hp
    exact hM p ((mem_flat_part (fun p _ => hrk _) p).1 hp)
  have hW2 := hW.later hb2
  obtain ⟨hy0, hy1⟩ := cells2 hW2.row
  have C2 := HD.out _ _ (tells_front ad l c w.heap.size (w.heap.size + 1) h (K : Int) hv hn hh) (some ⟨g2, 0, none⟩) o2 o.length w2 (Row.sl hr2) (fun k hk => hmem2 _ (num_mem hk)) (fun p _ => hrk _) hW2 (by rw [hlen2]; exact hno)
  rw [hlen2] at C2
  have HC2 : Hid _ := C2
  clear C2 HD ho2 hlen2
  go_wp2_with fail
  refine Calls.mono HC2.out ?_
  rintro e w3 ⟨g3, rfl, hg3, hr3, hb3⟩
  have hB := Below.later (Below.later hb0 hb2) hb3
  have h2 := hb0.size
  have h3 := hb2.size
  clear HC2
  go_wp2
  go_ret
  rw [HO2.out] at hr3
  exact ⟨g3, rfl, by omega, hr3, hB⟩

/-- Alike by both halves. -/
def two (l : List Nat) (h a b : Nat) : Bool := decide (rk l a = rk l b ∧ rk l (a + h) = rk l (b + h))

set_option maxHeartbeats 1000000 in
/-- 'doubled'. -/
theorem doubled_any (ad ao : Option Addr) (l o : List Nat) (c co h : Nat) (K : Nat) (w : World) (hl : Sl w ad l) (ho : Sl w ao o) (hnd : o.Nodup) (hM : ∀ p, p ∈ o → p < l.length) (hn : l.length ≤ 1000000) (hno : o.length ≤ 1000000) (hv : ∀ p, num l p ≤ 1000000) (hh : h ≤ 10000000) :
    Calls Tryz.prog 82 #[.agg #[.slice ad l.length c, .int .i64 K], .slice ao o.length co, .int .i64 h] w fun e w' =>
      ∃ g, e = .returned (.agg #[.slice (some ⟨g, 0, none⟩) l.length l.length, .int .i64 (kindsOf (two l h) o)]) ∧ w.heap.size ≤ g ∧ Row w' g (tab l.length (nameOf (two l h) o)) ∧ Below w.heap.size w w' := by
  have hW : Wid ad l c w.heap.size (w.heap.size + 1) h (K : Int) (((w.alloc (Obj.cells #[Value.slice ad l.length c, Value.int .i64 (K : Int)] 122)).alloc (Obj.cells #[Value.int .i64 (h : Int)] 3)).alloc (Obj.cells #[.slice none 0 0, .int .i64 0] 122)) :=
    Wid.later ⟨(hl.later ((Below.refl _ _).alloc (Nat.le_refl _) _)).later ((Below.refl _ _).alloc (Nat.le_refl _) _), Blk.alloc (Blk.new w _ _ rfl) _, by
      have := Blk.new (w.alloc (Obj.cells #[Value.slice ad l.length c, Value.int .i64 (K : Int)] 122)) [Value.int .i64 (h : Int)] 3 rfl
      simpa using this⟩ ((Below.refl _ _).alloc (Nat.le_refl _) _)
  have hb0 : Below w.heap.size w (((w.alloc (Obj.cells #[Value.slice ad l.length c, Value.int .i64 (K : Int)] 122)).alloc (Obj.cells #[Value.int .i64 (h : Int)] 3)).alloc (Obj.cells #[.slice none 0 0, .int .i64 0] 122)) := (((Below.refl _ _).alloc (Nat.le_refl _) _).alloc (by simp) _).alloc (by simp; omega) _
  have hbr : Blk (((w.alloc (Obj.cells #[Value.slice ad l.length c, Value.int .i64 (K : Int)] 122)).alloc (Obj.cells #[Value.int .i64 (h : Int)] 3)).alloc (Obj.cells #[.slice none 0 0, .int .i64 0] 122)) (w.heap.size + 2) 122 [.slice none 0 0, .int .i64 0] := by
    have := Blk.new ((w.alloc (Obj.cells #[Value.slice ad l.length c, Value.int .i64 (K : Int)] 122)).alloc (Obj.cells #[Value.int .i64 (h : Int)] 3)) [.slice none 0 0, .int .i64 0] 122 rfl
    simpa using this
  have ho1 := ho.later hb0
  go_enter Tryz.func82, Tryz.ntmps82
  have hmf : ∀ (fn : Fn) (first cap : Array Value) (w : World), (Instr.makeFunc fn first cap).run Tryz.prog w = .ok (.func fn first cap) w := fun _ _ _ _ => rfl
  go_wp2_with fail
  generalize (((w.alloc (Obj.cells #[Value.slice ad l.length c, Value.int .i64 (K : Int)] 122)).alloc (Obj.cells #[Value.int .i64 (h : Int)] 3)).alloc (Obj.cells #[.slice none 0 0, .int .i64 0] 122)) = w1 at hW hb0 ho1 hbr ⊢
  refine (named_any _ #[] _ _ _ (two l h) (tells_alike ad l c w.heap.size (w.heap.size + 1) h (K : Int) hv hn hh) ao o co l.length w1 ho1 hnd (fun k hk => hM _ (num_mem hk)) (fun k hk => ⟨hM _ (num_mem (by omega)), hM _ (num_mem hk), fun e => by
    have h1 := idx_num hnd (show k < o.length by omega)
    have h2 := idx_num hnd hk
    rw [e, h2] at h1; omega⟩) hW hn hno).mono ?_
  rintro e w2 ⟨g2, rfl, hg2, hr2, hb2⟩
  have hbr2 := hbr.later hb2
  have hbl := hbr.lt
  obtain ⟨hy0, hy1⟩ := cells2 hbr2
  have hf0 := Blk.free hbr2 0
  have hf1 := Blk.free hbr2 1
  have hB := Below.later hb0 hb2
  have h2 := hb0.size
  clear hbr hW ho1 hb0 hb2
  go_wp2
  refine bodyPost_ret (v := .agg #[.slice (some ⟨g2, 0, none⟩) l.length l.length, .int .i64 (kindsOf (two l h) o)]) (by simp [results, Tryz.results82, go_sem, hy0, hy1]) rfl ⟨g2, rfl, by omega, ?_, ?_⟩
  · exact Blk.other (Blk.other hr2 (by simp; omega) _) (by simp; omega) _
  · exact (hB.setCell (p := ⟨w.heap.size + 2, 0, none⟩) (by simp) _).setCell (p := ⟨w.heap.size + 2, 1, none⟩) (by simp) _
end Go.Proofs.YtepklbboejnecaaGreat

/- Thirds: threes, the places of a class. -/
namespace Go.Proofs.YtepklbboejnecaaGreat
open Go.RowKit Go.Shelf Sedge
attribute [local go_sem ↓] Go.wp_at_zero Go.wp_at_succ

set_option maxHeartbeats 2000000 in
/-- 'three'. -/
theorem three_any (ad : Option Addr) (l : List Nat) (c : Nat) (kinds : Int) (p : Nat) (w : World) (hl : Sl w ad l) (hv : ∀ p, num l p ≤ 1000000) (hp : p ≤ 1000000) :
    Calls Tryz.prog 118 #[.agg #[.slice ad l.length c, .int .i64 kinds], .int .i64 p] w fun e w' => e = .returned (.agg #[.int .i64 (rk l p), .int .i64 (rk l (p + 1)), .int .i64 (rk l (p + 2))]) ∧ Below w.heap.size w w' := by
  have hb0 : Below w.heap.size w ((w.alloc (Obj.cells #[Value.slice ad l.length c, Value.int .i64 kinds] 122)).alloc (Obj.cells #[.int .i64 0, .int .i64 0, .int .i64 0] 169)) := ((Below.refl _ _).alloc (Nat.le_refl _) _).alloc (by simp) _
  have hbx : Blk ((w.alloc (Obj.cells #[Value.slice ad l.length c, Value.int .i64 kinds] 122)).alloc (Obj.cells #[.int .i64 0, .int .i64 0, .int .i64 0] 169)) w.heap.size 122 [.slice ad l.length c, .int .i64 kinds] := Blk.alloc (Blk.new w _ _ rfl) _
  have wa : IntKind.i64.wrap ((p : Int) + 1) = (p : Int) + 1 := by rw [IntKind.wrap_i64]; omega
  have wb : IntKind.i64.wrap ((p : Int) + 2) = (p : Int) + 2 := by rw [IntKind.wrap_i64]; omega
  have ek : (((p + 1 : Nat) : Int)) = (p : Int) + 1 := by omega
  have ek' : (((p + 2 : Nat) : Int)) = (p : Int) + 2 := by omega
  have C1 := fun W => at_any ad l c kinds p W
  have C2 := fun W => at_any ad l c kinds (p + 1) W
  have C3 := fun W => at_any ad l c kinds (p + 2) W
  rw [ek] at C2
  rw [ek'] at C3
  have D1 : Hid _ := C1
  have D2 : Hid _ := C2
  have D3 : Hid _ := C3
  have hz2 : w.heap.size < w.heap.size + 1 + 1 := by omega
  clear C1 C2 C3 ek ek'
  go_enter Tryz.func118, Tryz.ntmps118
  go_wp2
  go_region_held3 (fun w' => w'.cell? ⟨w.heap.size, 0, none⟩ = some (.slice ad l.length c) ∧ w'.cell? ⟨w.heap.size, 1, none⟩ = some (.int .i64 kinds)) (go_keep)
    (first
      | (go_at_call 136; have q := hb3; clear q; refine (D3.out _ (hl.later (Below.later (Below.later hb0.drew hb2) hb3)) (hv _)).mono ?_; rintro e w4 ⟨rfl, hb4⟩; have hsz5 := hb3.size; have hsz6 : w.heap.size + 1 < w3.heap.size := (by omega); have hsz7 : w.heap.size < w3.heap.size := (by omega); have hx4 := Blk.later hx3 hb4; obtain ⟨r0, r1⟩ := cells2 hx4; obtain ⟨hk3, hk3'⟩ := HX6.out; obtain ⟨hk4, hk4'⟩ := bcell hb4)
      | (go_at_call 136; have q := hb2; clear q; refine (D2.out _ (hl.later (Below.later hb0.drew hb2)) (hv _)).mono ?_; rintro e w3 ⟨rfl, hb3⟩; have hsz2 := hb2.size; have hsz3 : w.heap.size + 1 < w2.heap.size := (by simp at hsz2; omega); have hsz4 : w.heap.size < w2.heap.size := (by omega); have hx3 := Blk.later hx2 hb3; obtain ⟨t0, t1⟩ := cells2 hx3; have hx6 := bcell hb3; have HX6 : Hid _ := hx6; clear hx6)
      | (go_at_call 136; refine (D1.out _ (hl.later hb0.drew) (hv p)).mono ?_; rintro e w2 ⟨rfl, hb2⟩; obtain ⟨hk, hk'⟩ := bcell hb2; have hx2 := Blk.later (Blk.drew hbx) hb2; obtain ⟨s0, s1⟩ := cells2 hx2))
  go_wp2
  refine bodyPost_ret (v := .agg #[.int .i64 (rk l p), .int .i64 (rk l (p + 1)), .int .i64 (rk l (p + 2))]) (by simp [results, Tryz.results118, go_sem, hsz3, hsz6, hk4, hk3, hk]; exact ⟨rfl, rfl, rfl⟩) rfl ⟨rfl, ?_⟩
  exact (((Below.later (Below.later (Below.later hb0.drew hb2) hb3) hb4).setCell (p := ⟨w.heap.size + 1, 0, none⟩) (by simp) _).setCell (p := ⟨w.heap.size + 1, 1, none⟩) (by simp) _).setCell (p := ⟨w.heap.size + 1, 2, none⟩) (by simp) _

theorem idx3_0 (x y z : Value) (w : World) : (Instr.index 169 (.agg #[x, y, z]) (.int .i64 0)).run Tryz.prog w = .ok x w := by kernel_rfl
theorem idx3_1 (x y z : Value) (w : World) : (Instr.index 169 (.agg #[x, y, z]) (.int .i64 1)).run Tryz.prog w = .ok y w := by kernel_rfl
theorem idx3_2 (x y z : Value) (w : World) : (Instr.index 169 (.agg #[x, y, z]) (.int .i64 2)).run Tryz.prog w = .ok z w := by kernel_rfl

set_option maxHeartbeats 1000000 in
theorem tells_third (ad : Option Addr) (l : List Nat) (c br bh i : Nat) (kinds : Int) (hv : ∀ p, num l p ≤ 1000000) (hn : l.length ≤ 1000000) (hi : i < 3) :
    Tells 117 #[] #[.pointer (some ⟨br, 0, none⟩), .pointer (some ⟨bh, 0, none⟩)] (Wid ad l c br bh i kinds) (fun p => rk l (p + i)) l.length where
  enter := enters_of Tryz.func117 (by kernel_rfl) rfl
  keep w w' H hb := H.later hb
  run p w H hp := by
    obtain ⟨hx0, hx1⟩ := cells2 H.row
    have hx2 := cell1 H.wid
    have CH := fun W H => three_any ad l c kinds p W H hv (by omega)
    have HC : Hid _ := CH
    have ix : ∀ w, (Instr.index 169 (.agg #[.int .i64 (rk l p), .int .i64 (rk l (p + 1)), .int .i64 (rk l (p + 2))]) (.int .i64 (i : Int))).run Tryz.prog w = .ok (.int .i64 (rk l (p + i))) w := fun w => by
      match i, hi with
      | 0, _ => exact idx3_0 _ _ _ w
      | 1, _ => exact idx3_1 _ _ _ w
      | 2, _ => exact idx3_2 _ _ _ w
    have hl1 := H.row.lt
    have hl2 := H.wid.lt
    have HW : Hid (Wid ad l c br bh i kinds w) := H
    clear CH H hi
    go_enter Tryz.func117, Tryz.ntmps117
    go_wp2_with fail
    go_region_held3 (fun w' => w'.cell? ⟨br, 0, none⟩ = some (.slice ad l.length c) ∧ w'.cell? ⟨br, 1, none⟩ = some (.int .i64 kinds) ∧ w'.cell? ⟨bh, 0, none⟩ = some (.int .i64 (i : Int))) (go_keep)
      (first
        | (go_at_call 118; refine (HC.out _ (HW.out.sl.later (Below.refl _ w).drew)).mono ?_; rintro e w2 ⟨rfl, hb2⟩; have s0 := (hb2.cell (p := ⟨br, 0, none⟩) hl1).trans hx0; have s1 := (hb2.cell (p := ⟨br, 1, none⟩) hl1).trans hx1; have s2 := (hb2.cell (p := ⟨bh, 0, none⟩) hl2).trans hx2))
    clear hx0 hx1 hx2 s0 s1 s2
    go_wp2
    go_ret
    exact ⟨rfl, Below.later (Below.refl _ w).drew hb2⟩

/-- What the closure over a row alone asks of the world. -/
structure Held3 (ad : Option Addr) (l : List Nat) (c br : Nat) (kinds : Int) (W : World) : Prop where
  sl : Sl W ad l
  row : Blk W br 122 [.slice ad l.length c, .int .i64 kinds]
theorem Held3.later {ad : Option Addr} {l : List Nat} {c br : Nat} {kinds : Int} {w w' : World} (H : Held3 ad l c br kinds w) (hb : Below w.heap.size w w') : Held3 ad l c br kinds w' := ⟨H.sl.later hb, H.row.later hb⟩

set_option maxHeartbeats 1000000 in
theorem tells_threes (ad : Option Addr) (l : List Nat) (c br : Nat) (kinds : Int) (hv : ∀ p, num l p ≤ 1000000) (hn : l.length ≤ 1000000) :
    Tells2 119 #[] #[.pointer (some ⟨br, 0, none⟩)] (Held3 ad l c br kinds) (fun p q => p < l.length ∧ q < l.length ∧ p ≠ q) (Sedge.three l) where
  enter := enters_of Tryz.func119 (by kernel_rfl) rfl
  keep w w' H hb := H.later hb
  run p q w H hp := by
    obtain ⟨hp, hq, hne⟩ := hp
    obtain ⟨hx0, hx1⟩ := cells2 H.row
    have hg3 := guard3
    have hq3 := eq3
    have CH := fun W p H hp => three_any ad l c kinds p W H hv hp
    have HC : Hid _ := CH
    have hl1 := H.row.lt
    clear CH
    go_enter Tryz.func119, Tryz.ntmps119
    go_wp2_with fail
    go_region_held3 (fun w' => w'.cell? ⟨br, 0, none⟩ = some (.slice ad l.length c) ∧ w'.cell? ⟨br, 1, none⟩ = some (.int .i64 kinds)) (go_keep)
      (first
        | (go_at_call_of 118 (Value.int .i64 (p : Int)); refine (HC.out _ p (H.sl.later (Below.refl _ w).drew) (by omega)).mono ?_; rintro e w2 ⟨rfl, hb2⟩; have s0 := (hb2.cell (p := ⟨br, 0, none⟩) hl1).trans hx0; have s1 := (hb2.cell (p := ⟨br, 1, none⟩) hl1).trans hx1)
        | (go_at_call_of 118 (Value.int .i64 (q : Int)); refine (HC.out _ q ((H.sl.later (Below.refl _ w).drew).later hb2) (by omega)).mono ?_; rintro e w3 ⟨rfl, hb3⟩; have hsz2 := hb2.size; have hsz3 : br < w2.heap.size := (by simp at hsz2; omega); have t0 := (hb3.cell (p := ⟨br, 0, none⟩) hsz3).trans s0; have t1 := (hb3.cell (p := ⟨br, 1, none⟩) hsz3).trans s1))
    clear hx0 hx1 s0 s1 t0 t1 HC hg3 hq3 hl1
    go_wp2
    go_ret
    refine ⟨?_, Below.later (Below.later (Below.refl _ w).drew hb2) hb3⟩
    congr 2
    unfold Sedge.three
    by_cases e1 : rk l p = rk l q <;> by_cases e2 : rk l (p + 1) = rk l (q + 1) <;> by_cases e3 : rk l (p + 2) = rk l (q + 2) <;> simp [e1, e2, e3] <;> omega
end Go.Proofs.YtepklbboejnecaaGreat

/- Thirds: the places of a class; the others. -/
namespace Go.Proofs.YtepklbboejnecaaGreat
open Go.RowKit Go.Shelf Sedge
attribute [local go_sem ↓] Go.wp_at_zero Go.wp_at_succ

set_option maxHeartbeats 1000000 in
/-- 'ofClass'. -/
theorem ofClass_any (ad : Option Addr) (n c k : Nat) (kinds : Int) (w : World) (hn : n ≤ 100000) (hk3 : k < 3) :
    Calls Tryz.prog 116 #[.agg #[.slice ad n c, .int .i64 kinds], .int .i64 k] w fun e w' =>
      ∃ v, e = .returned v ∧ w'.ownsRow w.heap.size 3 1 v (ofC n k).length (IV (ofC n k)) ∧ Below w.heap.size w w' := by
  obtain ⟨i0, hi, hz0, hz1, hz2⟩ := info_parts Tryz.infoInt
  go_enter Tryz.func116, Tryz.ntmps116
  go_wp2
  go_loopw [5, 10] (fun v i wr => ∃ j : Nat, j ≤ n ∧ i = .int .i64 j ∧ wr.ownsRow (w.heap.size + 1) 3 1 v ((List.range j).filter (fun p => (n - p) % 3 == k)).length (IV ((List.range j).filter (fun p => (n - p) % 3 == k))) ∧ Blk wr w.heap.size 122 [.slice ad n c, .int .i64 kinds] ∧ Below w.heap.size w wr) (fun _ i _ => n - (intOf i).toNat)
  case atStart => exact ⟨0, Nat.zero_le _, rfl, World.ownsRow_nil _ _ _ _, by unfold Blk; rw [heap_alloc_new], (Below.refl _ _).alloc (Nat.le_refl _) _⟩
  case round =>
    obtain ⟨j, hj, rfl, hown, hbx, hb⟩ := hrel
    by_cases hlt : j < n
    · obtain ⟨hx0, hx1⟩ := cells2 hbx
      have i2 : (j : Int) < (n : Int) := by omega
      go_wp2_with fail
      refine (class_any ad n c kinds (j : Int) wr (by omega) (by omega) hn).mono ?_
      rintro e w2 ⟨rfl, hb2⟩
      have hown2 := own_later hown hb2
      have hbx2 := hbx.later hb2
      have hb3 := Below.later hb hb2
      have hts : (List.range (j + 1)).filter (fun p => (n - p) % 3 == k) = if (n - j) % 3 = k then (List.range j).filter (fun p => (n - p) % 3 == k) ++ [j] else (List.range j).filter (fun p => (n - p) % 3 == k) := by
        rw [List.range_succ, List.filter_append]
        by_cases e : (n - j) % 3 = k
        · simp [e]
        · simp [e]
      have hlen : ((List.range j).filter (fun p => (n - p) % 3 == k)).length < 1000000 := by have := List.length_filter_le (fun p => (n - p) % 3 == k) (List.range j); rw [List.length_range] at this; omega
      have hsz : w.heap.size + 1 ≤ w2.heap.size := by have := hbx2.lt; omega
      have HTS : Hid _ := hts
      clear hown hbx hb hb2 hx0 hx1 hts
      by_cases hst : (n - j) % 3 = k
      · have hst' : ((n : Int) - (j : Int)) % 3 = (k : Int) := by omega
        have HST : Hid ((n - j) % 3 = k) := hst
        clear hst
        go_wp2_with (first | (at_builtin; refine wpList_push _ rfl _ _ rfl (w.heap.size + 1) _ _ rfl (hown2.alloc _) ⟨w2.heap.size, 0, none⟩ j rfl (by simp) hlen (by simp; omega) ?_; intro v' w3 hown3 hb4) | fail)
        go_roundw
        case rel =>
          have hts := HTS.out
          rw [if_pos HST.out] at hts
          refine ⟨j + 1, by omega, by go_num, by rw [hts]; exact hown3, (hbx2.alloc _).below hb4 (by omega), ?_⟩
          exact (hb3.alloc hb3.size _).trans (hb4.mono (by omega))
        case measure => simp [intOf]; omega
      · have hst' : (((n : Int) - (j : Int)) % 3 == (k : Int)) = false := by rw [beq_eq_false_iff_ne]; omega
        have HST : Hid (¬ (n - j) % 3 = k) := hst
        clear hst
        go_wp2
        go_roundw
        case rel =>
          have hts := HTS.out
          rw [if_neg HST.out] at hts
          exact ⟨j + 1, by omega, by go_num, by rw [hts]; exact hown2, hbx2, hb3⟩
        case measure => simp [intOf]; omega
    · have : j = n := by omega
      subst this
      go_wp2
      go_ret
      exact ⟨_, rfl, own_mono hown (by omega), hb⟩

theorem othersOf_succ {n k : Nat} {S : List Nat} (h : k < S.length) : othersOf n (S.take (k + 1)) = if 0 < num S k ∧ (n - num S k) % 3 = 2 then othersOf n (S.take k) ++ [num S k - 1] else othersOf n (S.take k) := by
  unfold othersOf
  rw [take_num h, List.filter_append, List.map_append]
  by_cases e : 0 < num S k ∧ (n - num S k) % 3 = 2
  · rw [if_pos e]; simp [e.1, e.2]
  · rw [if_neg e]
    have : ([num S k].filter fun p => decide (0 < p) && (n - p) % 3 == 2) = [] := by
      rw [List.filter_cons_of_neg]
      · rfl
      · simp only [Bool.and_eq_true, decide_eq_true_eq, beq_iff_eq]; exact e
    rw [this]; simp
theorem othersOf_length (n : Nat) (S : List Nat) : (othersOf n S).length ≤ S.length := by
  unfold othersOf; rw [List.length_map]; exact List.length_filter_le _ _

set_option maxHeartbeats 1000000 in
theorem tells_other (ad : Option Addr) (l : List Nat) (c br : Nat) (kinds : Int) :
    Tells 122 #[] #[.pointer (some ⟨br, 0, none⟩)] (Held3 ad l c br kinds) (num l) l.length where
  enter := enters_of Tryz.func122 (by kernel_rfl) rfl
  keep w w' H hb := H.later hb
  run p w H hp := by
    obtain ⟨hx0, hx1⟩ := cells2 H.row
    obtain ⟨b, o1, rfl, hc⟩ := H.sl p hp
    have i1 : (0 : Int) ≤ (p : Int) := by omega
    have i2 : (p : Int) < (l.length : Int) := by omega
    clear H
    go_enter Tryz.func122, Tryz.ntmps122
    go_wp2
    go_ret
    exact ⟨rfl, Below.refl _ _⟩

set_option maxHeartbeats 2000000 in
/-- 'sortedOthers'. -/
theorem sortedOthers_any (ad ad2 : Option Addr) (l S : List Nat) (c c2 kd : Nat) (w : World) (hl : Sl w ad l) (hS : Sl w ad2 S) (hM : ∀ p, p ∈ S → p < l.length) (hn : l.length ≤ 100000) (hSn : S.length ≤ 100000) (hkd : ∀ p, p < l.length → num l p < kd) (hkm : kd ≤ 500000) :
    Calls Tryz.prog 92 #[.agg #[.slice ad l.length c, .int .i64 (kd : Int)], .slice ad2 S.length c2] w fun e w' =>
      ∃ g, e = .returned (.slice (some ⟨g, 0, none⟩) (othersOf l.length S).length (othersOf l.length S).length) ∧ w.heap.size ≤ g ∧ Row w' g (flat (Sedge.part (num l) (othersOf l.length S)) kd) ∧ Below w.heap.size w w' := by
  obtain ⟨i0, hi, hz0, hz1, hz2⟩ := info_parts Tryz.infoInt
  go_enter Tryz.func92, Tryz.ntmps92
  go_wp2
  go_loopw [5, 10] (fun v i wr => ∃ k : Nat, k ≤ S.length ∧ i = .int .i64 k ∧ wr.ownsRow (w.heap.size + 1) 3 1 v (othersOf l.length (S.take k)).length (IV (othersOf l.length (S.take k))) ∧ Blk wr w.heap.size 122 [.slice ad l.length c, .int .i64 (kd : Int)] ∧ Below w.heap.size w wr) (fun _ i _ => S.length - (intOf i).toNat)
  case atStart => exact ⟨0, Nat.zero_le _, rfl, World.ownsRow_nil _ _ _ _, by unfold Blk; rw [heap_alloc_new], (Below.refl _ _).alloc (Nat.le_refl _) _⟩
  case round =>
    obtain ⟨k, hk, rfl, hown, hbx, hb⟩ := hrel
    by_cases hlt : k < S.length
    · obtain ⟨b, o1, rfl, hc⟩ := hS k hlt
      have hc' := (hb.cell (cell_lt hc)).trans hc
      obtain ⟨hx0, hx1⟩ := cells2 hbx
      have hMk := hM _ (num_mem hlt)
      have i2 : (k : Int) < (S.length : Int) := by omega
      have HTS : Hid _ := othersOf_succ (n := l.length) hlt
      have hlen : (othersOf l.length (S.take k)).length < 1000000 := by have := othersOf_length l.length (S.take k); rw [List.length_take] at this; omega
      by_cases h0 : 0 < num S k
      · have h0' : (0 : Int) < (num S k : Int) := by omega
        go_wp2_with fail
        refine (class_any ad l.length c (kd : Int) (num S k : Int) wr (by omega) (by omega) hn).mono ?_
        rintro e w2 ⟨rfl, hb2⟩
        have hown2 := own_later hown hb2
        have hbx2 := hbx.later hb2
        have hb3 := Below.later hb hb2
        have hsz : w.heap.size + 1 ≤ w2.heap.size := by have := hbx2.lt; omega
        clear hown hbx hb hb2 hx0 hx1 hc hc'
        by_cases hst : (l.length - num S k) % 3 = 2
        · have hst' : ((l.length : Int) - (num S k : Int)) % 3 = 2 := by omega
          have HST : Hid (0 < num S k ∧ (l.length - num S k) % 3 = 2) := ⟨h0, hst⟩
          have v1 : IntKind.i64.wrap ((num S k : Int) - 1) = ((num S k - 1 : Nat) : Int) := by rw [IntKind.wrap_i64]; omega
          clear hst
          go_wp2_with (first | (at_builtin; refine wpList_push _ rfl _ _ rfl (w.heap.size + 1) _ _ rfl (hown2.alloc _) ⟨w2.heap.size, 0, none⟩ (num S k - 1) rfl (by simp) hlen (by simp; omega) ?_; intro v' w3 hown3 hb4) | fail)
          go_roundw
          case rel =>
            have hts := HTS.out
            rw [if_pos HST.out] at hts
            refine ⟨k + 1, by omega, by go_num, by rw [hts]; exact hown3, (hbx2.alloc _).below hb4 (by omega), ?_⟩
            exact (hb3.alloc hb3.size _).trans (hb4.mono (by omega))
          case measure => simp [intOf]; omega
        · have hst' : (((l.length : Int) - (num S k : Int)) % 3 == 2) = false := by rw [beq_eq_false_iff_ne]; omega
          have HST : Hid (¬ (0 < num S k ∧ (l.length - num S k) % 3 = 2)) := fun h => hst h.2
          clear hst
          go_wp2
          go_roundw
          case rel =>
            have hts := HTS.out
            rw [if_neg HST.out] at hts
            exact ⟨k + 1, by omega, by go_num, by rw [hts]; exact hown2, hbx2, hb3⟩
          case measure => simp [intOf]; omega
      · have h0' : ¬ (0 : Int) < (num S k : Int) := by omega
        have HST : Hid (¬ (0 < num S k ∧ (l.length - num S k) % 3 = 2)) := fun h => h0 h.1
        go_wp2
        go_roundw
        case rel =>
          have hts := HTS.out
          rw [if_neg HST.out] at hts
          exact ⟨k + 1, by omega, by go_num, by rw [hts]; exact hown, hbx, hb⟩
        case measure => simp [intOf]; omega
    · have : k = S.length := by omega
      subst this
      rw [List.take_length] at hown
      have hol : (othersOf l.length S).length ≤ 1000000 := by have := othersOf_length l.length S; omega
      obtain ⟨ad5, c5, rfl, hS5⟩ := own_sl hown
      have hmem : ∀ p, p ∈ othersOf l.length S → p < l.length := fun p hp => by
        unfold othersOf at hp
        obtain ⟨a, ha, rfl⟩ := List.mem_map.1 hp
        have := hM a (List.mem_filter.1 ha).1
        omega
      have hmf : ∀ (fn : Fn) (first cap : Array Value) (w : World), (Instr.makeFunc fn first cap).run Tryz.prog w = .ok (.func fn first cap) w := fun _ _ _ _ => rfl
      obtain ⟨hx0, hx1⟩ := cells2 hbx
      have CD := deal_any _ #[] _ _ _ _ (tells_other ad l c w.heap.size (kd : Int)) ad5 (othersOf l.length S) c5 kd wr hS5 (fun k hk => hmem _ (num_mem hk)) hkd ⟨hl.later hb, hbx⟩ hol (by omega)
      have HCD : Hid _ := CD
      have hsz := hb.size
      clear CD hown hS5
      go_wp2_with fail
      refine Calls.mono HCD.out ?_
      rintro e w3 ⟨g3, rfl, hg3, hr3, hb3⟩
      go_wp2
      go_ret
      exact ⟨g3, rfl, by omega, hr3, Below.later hb hb3⟩
end Go.Proofs.YtepklbboejnecaaGreat

/- Thirds: comparing lists of numbers; what is read of an end. -/
namespace Go.Proofs.YtepklbboejnecaaGreat
open Go.RowKit Go.Shelf Sedge
attribute [local go_sem ↓] Go.wp_at_zero Go.wp_at_succ

theorem isNaN_any (a : Int) (w : World) : Calls Tryz.prog 104 #[.int .i64 a] w fun e w' => e = .returned (.bool false) ∧ w' = w := by
  go_enter Tryz.func104, Tryz.ntmps104
  go_wp2
  go_ret
  exact ⟨rfl, rfl⟩

/-- Less, equal, greater as -1, 0, 1. -/
def sgn (a b : Nat) : Int := if a < b then -1 else if b < a then 1 else 0

set_option maxHeartbeats 1000000 in
theorem compare_any (a b : Nat) (w : World) : Calls Tryz.prog 75 #[.int .i64 a, .int .i64 b] w fun e w' => e = .returned (.int .i64 (sgn a b)) ∧ w' = w := by
  go_enter Tryz.func75, Tryz.ntmps75
  go_wp2_with fail
  refine (isNaN_any _ _).mono ?_
  rintro e w1 ⟨rfl, rfl⟩
  go_wp2_with fail
  refine (isNaN_any _ _).mono ?_
  rintro e w2 ⟨rfl, rfl⟩
  by_cases h1 : a < b
  · have i1 : (a : Int) < (b : Int) := by omega
    go_wp2
    go_ret
    exact ⟨by simp [sgn, h1], rfl⟩
  · have i1 : ¬ (a : Int) < (b : Int) := by omega
    by_cases h2 : b < a
    · have i2 : (b : Int) < (a : Int) := by omega
      go_wp2
      go_ret
      exact ⟨by simp [sgn, h1, h2], rfl⟩
    · have i2 : ¬ (b : Int) < (a : Int) := by omega
      go_wp2
      go_ret
      exact ⟨by simp [sgn, h1, h2], rfl⟩

theorem lt_at {X Y : List Nat} : ∀ k, k < X.length → k < Y.length → (∀ j, j < k → num X j = num Y j) → (X < Y ↔ num X k < num Y k ∨ (num X k = num Y k ∧ X.drop (k + 1) < Y.drop (k + 1))) := by
  intro k hx hy h
  have e : X.take k = Y.take k := by
    apply List.ext_getElem
    · simp; omega
    · intro j h1 h2
      simp only [List.length_take] at h1 h2
      rw [List.getElem_take, List.getElem_take]
      have := h j (by omega)
      rwa [num_eq (by omega), num_eq (by omega)] at this
  conv => lhs; rw [← List.take_append_drop k X, ← List.take_append_drop k Y, e]
  rw [drop_num hx, drop_num hy]
  constructor
  · intro c
    rcases lt_tri (num X k :: X.drop (k + 1)) (num Y k :: Y.drop (k + 1)) with d | d | d
    · exact List.cons_lt_cons_iff.1 d
    · rw [d] at c; exact absurd c (lt_irr _)
    · exact absurd c (lt_as (List.append_left_lt d))
  · intro c
    exact List.append_left_lt (List.cons_lt_cons_iff.2 c)

set_option maxHeartbeats 2000000 in
/-- 'slices.Compare' of two lists of one length. -/
theorem compares_any (ax ay : Option Addr) (X Y : List Nat) (cx cy : Nat) (w : World) (hX : Sl w ax X) (hY : Sl w ay Y) (hlen : X.length = Y.length) (hn : X.length ≤ 1000) :
    Calls Tryz.prog 142 #[.slice ax X.length cx, .slice ay X.length cy] w fun e w' => ∃ r : Int, e = .returned (.int .i64 r) ∧ (r < 0 ↔ X < Y) ∧ w' = w := by
  have HLEN : Hid (X.length = Y.length) := hlen
  clear hlen
  go_enter Tryz.func142, Tryz.ntmps142
  go_wp2
  go_loopw [11] (fun i wr => ∃ k : Nat, k ≤ X.length ∧ i = .int .i64 k ∧ (∀ j, j < k → num X j = num Y j) ∧ wr = w) (fun i _ => X.length - (intOf i).toNat)
  case atStart => exact ⟨0, Nat.zero_le _, rfl, fun j hj => by omega, rfl⟩
  case round =>
    obtain ⟨k, hk, rfl, heq, rfl⟩ := hrel
    have HEQ : Hid (∀ j, j < k → num X j = num Y j) := heq
    clear heq
    by_cases hlt : k < X.length
    · obtain ⟨b, o1, rfl, hc⟩ := hX k hlt
      obtain ⟨b2, o2, rfl, hc2⟩ := hY k (by rw [← HLEN.out]; exact hlt)
      have i1 : (k : Int) < (X.length : Int) := by omega
      have i2 : (0 : Int) ≤ (k : Int) := by omega
      go_wp2_with fail
      refine (compare_any _ _ _).mono ?_
      rintro e w1 ⟨rfl, rfl⟩
      have LT := lt_at k hlt (by rw [← HLEN.out]; exact hlt) HEQ.out
      have HLT : Hid _ := LT
      clear LT
      by_cases c1 : num X k = num Y k
      · have hz : sgn (num X k) (num Y k) = 0 := by simp [sgn, c1]
        rw [hz]
        clear hz
        have HC1 : Hid (num X k = num Y k) := c1
        clear c1
        go_wp2
        go_roundw
        case rel => exact ⟨k + 1, by omega, by go_num, fun j hj => by
          by_cases e : j = k
          · rw [e]; exact HC1.out
          · exact HEQ.out j (by omega), trivial⟩
        case measure => simp [intOf]; omega
      · have hz : (sgn (num X k) (num Y k) == 0) = false := by
          rw [beq_eq_false_iff_ne]; unfold sgn; split
          · omega
          · split <;> omega
        have HC1 : Hid (¬ num X k = num Y k) := c1
        clear c1
        obtain ⟨r, hr⟩ : ∃ r, r = sgn (num X k) (num Y k) := ⟨_, rfl⟩
        rw [← hr] at hz ⊢
        have HR : Hid (r = sgn (num X k) (num Y k)) := hr
        clear hr
        go_wp2
        go_ret
        refine ⟨r, rfl, ?_, rfl⟩
        rw [HLT.out, HR.out]
        have := HC1.out
        unfold sgn; split
        · simp [*]
        · split <;> simp [*]
    · have hk' : k = X.length := by omega
      have HKX : Hid (k = X.length) := hk'
      have i1 : ¬ (k : Int) < (X.length : Int) := by omega
      clear hk'
      go_wp2
      go_ret
      refine ⟨0, rfl, ⟨fun h => by omega, fun h => ?_⟩, rfl⟩
      have e : X = Y := by
        apply List.ext_getElem HLEN.out
        intro j h1 h2
        have := HEQ.out j (by rw [HKX.out]; exact h1)
        rwa [num_eq h1, num_eq h2] at this
      rw [e] at h
      exact absurd h (lt_irr _)

set_option maxHeartbeats 2000000 in
/-- 'readUpTo', one number. -/
theorem readUpTo_one (ad ar : Option Addr) (l r : List Nat) (c cr : Nat) (kinds kr : Int) (p : Nat) (w : World) (hl : Sl w ad l) (hr : Sl w ar r) (hv : ∀ p, num l p ≤ 1000000) (hvr : ∀ p, num r p ≤ 1000000) (hp : p ≤ 1000000) :
    Calls Tryz.prog 141 #[.agg #[.slice ad l.length c, .int .i64 kinds], .int .i64 p, .int .i64 1, .agg #[.slice ar r.length cr, .int .i64 kr]] w fun e w' => e = .returned (.agg #[.int .i64 (rk l p), .int .i64 (rk r (p + 1)), .int .i64 0]) ∧ Below w.heap.size w w' := by
  have hb0 : Below w.heap.size w (((w.alloc (Obj.cells #[Value.slice ad l.length c, Value.int .i64 kinds] 122)).alloc (Obj.cells #[Value.slice ar r.length cr, Value.int .i64 kr] 122)).alloc (Obj.cells #[.int .i64 0, .int .i64 0, .int .i64 0] 169)) := (((Below.refl _ _).alloc (Nat.le_refl _) _).alloc (by simp) _).alloc (by simp; omega) _
  have hbx : Blk (((w.alloc (Obj.cells #[Value.slice ad l.length c, Value.int .i64 kinds] 122)).alloc (Obj.cells #[Value.slice ar r.length cr, Value.int .i64 kr] 122)).alloc (Obj.cells #[.int .i64 0, .int .i64 0, .int .i64 0] 169)) w.heap.size 122 [.slice ad l.length c, .int .i64 kinds] := Blk.alloc (Blk.alloc (Blk.new w _ _ rfl) _) _
  have hby : Blk (((w.alloc (Obj.cells #[Value.slice ad l.length c, Value.int .i64 kinds] 122)).alloc (Obj.cells #[Value.slice ar r.length cr, Value.int .i64 kr] 122)).alloc (Obj.cells #[.int .i64 0, .int .i64 0, .int .i64 0] 169)) (w.heap.size + 1) 122 [.slice ar r.length cr, .int .i64 kr] := Blk.alloc (Blk.new _ _ _ (by simp)) _
  have hbz : Blk (((w.alloc (Obj.cells #[Value.slice ad l.length c, Value.int .i64 kinds] 122)).alloc (Obj.cells #[Value.slice ar r.length cr, Value.int .i64 kr] 122)).alloc (Obj.cells #[.int .i64 0, .int .i64 0, .int .i64 0] 169)) (w.heap.size + 1 + 1) 169 [.int .i64 0, .int .i64 0, .int .i64 0] := Blk.new _ _ _ (by simp)
  have ne1 : ¬ w.heap.size + 1 + 1 = w.heap.size := by omega
  have ne2 : ¬ w.heap.size = w.heap.size + 1 + 1 := by omega
  have wa : IntKind.i64.wrap ((p : Int) + 1) = (p : Int) + 1 := by rw [IntKind.wrap_i64]; omega
  have wb : IntKind.i64.wrap ((p : Int) + 2) = (p : Int) + 2 := by rw [IntKind.wrap_i64]; omega
  have ek : (((p + 1 : Nat) : Int)) = (p : Int) + 1 := by omega
  have ek' : (((p + 2 : Nat) : Int)) = (p : Int) + 2 := by omega
  have C1 := fun W => at_any ad l c kinds p W
  have C2 := fun W => at_any ar r cr kr (p + 1) W
  rw [ek] at C2
  have D1 : Hid _ := C1
  have D2 : Hid _ := C2
  clear C1 C2 ek ek'
  go_enter Tryz.func141, Tryz.ntmps141
  go_wp2
  generalize (((w.alloc (Obj.cells #[Value.slice ad l.length c, Value.int .i64 kinds] 122)).alloc (Obj.cells #[Value.slice ar r.length cr, Value.int .i64 kr] 122)).alloc (Obj.cells #[.int .i64 0, .int .i64 0, .int .i64 0] 169)) = w1 at hb0 hbx hby hbz ⊢
  obtain ⟨x0, x1⟩ := cells2 hbx
  obtain ⟨y0, y1⟩ := cells2 hby
  have A1 : Below w1.heap.size w1 w1.drew := (Below.refl _ _).drew
  have HA1 : Hid _ := A1
  clear A1
  go_region_held3 (fun w' => w'.cell? ⟨w.heap.size, 0, none⟩ = some (.slice ad l.length c) ∧ w'.cell? ⟨w.heap.size, 1, none⟩ = some (.int .i64 kinds) ∧ w'.cell? ⟨w.heap.size + 1, 0, none⟩ = some (.slice ar r.length cr) ∧ w'.cell? ⟨w.heap.size + 1, 1, none⟩ = some (.int .i64 kr)) (go_keep)
    (first
      | (go_at_call 136; have q := hb2; clear q; refine (D2.out _ (hr.later (Below.later (Below.later hb0 HA1.out) hb2)) (hvr _)).mono ?_; rintro e w3 ⟨rfl, hb3⟩; obtain ⟨x4, x5⟩ := cells2 (Blk.later (Blk.later (Blk.later hbx HA1.out) hb2) hb3); obtain ⟨y4, y5⟩ := cells2 (Blk.later (Blk.later (Blk.later hby HA1.out) hb2) hb3); have hbz3 := Blk.later (Blk.later (Blk.later hbz HA1.out) hb2) hb3; obtain ⟨z0, z1, z2⟩ := cells3 hbz3; have f0 := Blk.free hbz3 0; have f1 := Blk.free hbz3 1; have f2 := Blk.free hbz3 2)
      | (go_at_call 136; refine (D1.out _ (hl.later (Below.later hb0 HA1.out)) (hv p)).mono ?_; rintro e w2 ⟨rfl, hb2⟩; obtain ⟨x2, x3⟩ := cells2 (Blk.later (Blk.later hbx HA1.out) hb2); obtain ⟨y2, y3⟩ := cells2 (Blk.later (Blk.later hby HA1.out) hb2); obtain ⟨u0, u1, u2⟩ := cells3 (Blk.later (Blk.later hbz HA1.out) hb2)))
  have hB : Below w.heap.size w w3 := Below.later (Below.later (Below.later hb0 HA1.out) hb2) hb3
  go_wp2
  refine bodyPost_ret (v := .agg #[.int .i64 (rk l p), .int .i64 (rk r (p + 1)), .int .i64 0]) (by simp [results, Tryz.results141, go_sem, z0, z1, z2]; exact ⟨rfl, rfl⟩) rfl ⟨rfl, ?_⟩
  exact ((hB.setCell (p := ⟨w.heap.size + 1 + 1, 0, none⟩) (by simp; omega) _).setCell (p := ⟨w.heap.size + 1 + 1, 1, none⟩) (by simp; omega) _).setCell (p := ⟨w.heap.size + 1 + 1, 2, none⟩) (by simp; omega) _
set_option maxHeartbeats 2000000 in
/-- 'readUpTo', two numbers. -/
theorem readUpTo_two (ad ar : Option Addr) (l r : List Nat) (c cr : Nat) (kinds kr : Int) (p : Nat) (w : World) (hl : Sl w ad l) (hr : Sl w ar r) (hv : ∀ p, num l p ≤ 1000000) (hvr : ∀ p, num r p ≤ 1000000) (hp : p ≤ 1000000) :
    Calls Tryz.prog 141 #[.agg #[.slice ad l.length c, .int .i64 kinds], .int .i64 p, .int .i64 2, .agg #[.slice ar r.length cr, .int .i64 kr]] w fun e w' => e = .returned (.agg #[.int .i64 (rk l p), .int .i64 (rk l (p + 1)), .int .i64 (rk r (p + 2))]) ∧ Below w.heap.size w w' := by
  have hb0 : Below w.heap.size w (((w.alloc (Obj.cells #[Value.slice ad l.length c, Value.int .i64 kinds] 122)).alloc (Obj.cells #[Value.slice ar r.length cr, Value.int .i64 kr] 122)).alloc (Obj.cells #[.int .i64 0, .int .i64 0, .int .i64 0] 169)) := (((Below.refl _ _).alloc (Nat.le_refl _) _).alloc (by simp) _).alloc (by simp; omega) _
  have hbx : Blk (((w.alloc (Obj.cells #[Value.slice ad l.length c, Value.int .i64 kinds] 122)).alloc (Obj.cells #[Value.slice ar r.length cr, Value.int .i64 kr] 122)).alloc (Obj.cells #[.int .i64 0, .int .i64 0, .int .i64 0] 169)) w.heap.size 122 [.slice ad l.length c, .int .i64 kinds] := Blk.alloc (Blk.alloc (Blk.new w _ _ rfl) _) _
  have hby : Blk (((w.alloc (Obj.cells #[Value.slice ad l.length c, Value.int .i64 kinds] 122)).alloc (Obj.cells #[Value.slice ar r.length cr, Value.int .i64 kr] 122)).alloc (Obj.cells #[.int .i64 0, .int .i64 0, .int .i64 0] 169)) (w.heap.size + 1) 122 [.slice ar r.length cr, .int .i64 kr] := Blk.alloc (Blk.new _ _ _ (by simp)) _
  have hbz : Blk (((w.alloc (Obj.cells #[Value.slice ad l.length c, Value.int .i64 kinds] 122)).alloc (Obj.cells #[Value.slice ar r.length cr, Value.int .i64 kr] 122)).alloc (Obj.cells #[.int .i64 0, .int .i64 0, .int .i64 0] 169)) (w.heap.size + 1 + 1) 169 [.int .i64 0, .int .i64 0, .int .i64 0] := Blk.new _ _ _ (by simp)
  have ne1 : ¬ w.heap.size + 1 + 1 = w.heap.size := by omega
  have ne2 : ¬ w.heap.size = w.heap.size + 1 + 1 := by omega
  have wa : IntKind.i64.wrap ((p : Int) + 1) = (p : Int) + 1 := by rw [IntKind.wrap_i64]; omega
  have wb : IntKind.i64.wrap ((p : Int) + 2) = (p : Int) + 2 := by rw [IntKind.wrap_i64]; omega
  have ek : (((p + 1 : Nat) : Int)) = (p : Int) + 1 := by omega
  have ek' : (((p + 2 : Nat) : Int)) = (p : Int) + 2 := by omega
  have C1 := fun W => at_any ad l c kinds p W
  have C2 := fun W => at_any ad l c kinds (p + 1) W
  have C3 := fun W => at_any ar r cr kr (p + 2) W
  rw [ek] at C2
  rw [ek'] at C3
  have D1 : Hid _ := C1
  have D2 : Hid _ := C2
  have D3 : Hid _ := C3
  clear C1 C2 C3 ek ek'
  go_enter Tryz.func141, Tryz.ntmps141
  go_wp2
  generalize (((w.alloc (Obj.cells #[Value.slice ad l.length c, Value.int .i64 kinds] 122)).alloc (Obj.cells #[Value.slice ar r.length cr, Value.int .i64 kr] 122)).alloc (Obj.cells #[.int .i64 0, .int .i64 0, .int .i64 0] 169)) = w1 at hb0 hbx hby hbz ⊢
  obtain ⟨x0, x1⟩ := cells2 hbx
  obtain ⟨y0, y1⟩ := cells2 hby
  have A1 : Below w1.heap.size w1 w1.drew := (Below.refl _ _).drew
  have HA1 : Hid _ := A1
  clear A1
  go_region_held3 (fun w' => w'.cell? ⟨w.heap.size, 0, none⟩ = some (.slice ad l.length c) ∧ w'.cell? ⟨w.heap.size, 1, none⟩ = some (.int .i64 kinds) ∧ w'.cell? ⟨w.heap.size + 1, 0, none⟩ = some (.slice ar r.length cr) ∧ w'.cell? ⟨w.heap.size + 1, 1, none⟩ = some (.int .i64 kr)) (go_keep)
    (first
      | (go_at_call 136; have q := hb3; clear q; refine (D3.out _ (hr.later (Below.later (Below.later (Below.later hb0 HA1.out) hb2) hb3)) (hvr _)).mono ?_; rintro e w4 ⟨rfl, hb4⟩; obtain ⟨x6, x7⟩ := cells2 (Blk.later (Blk.later (Blk.later (Blk.later hbx HA1.out) hb2) hb3) hb4); obtain ⟨y6, y7⟩ := cells2 (Blk.later (Blk.later (Blk.later (Blk.later hby HA1.out) hb2) hb3) hb4); have hbz4 := Blk.later (Blk.later (Blk.later (Blk.later hbz HA1.out) hb2) hb3) hb4; obtain ⟨z0, z1, z2⟩ := cells3 hbz4; have f0 := Blk.free hbz4 0; have f1 := Blk.free hbz4 1; have f2 := Blk.free hbz4 2)
      | (go_at_call 136; have q := hb2; clear q; refine (D2.out _ (hl.later (Below.later (Below.later hb0 HA1.out) hb2)) (hv _)).mono ?_; rintro e w3 ⟨rfl, hb3⟩; obtain ⟨x4, x5⟩ := cells2 (Blk.later (Blk.later (Blk.later hbx HA1.out) hb2) hb3); obtain ⟨y4, y5⟩ := cells2 (Blk.later (Blk.later (Blk.later hby HA1.out) hb2) hb3); obtain ⟨u3, u4, u5⟩ := cells3 (Blk.later (Blk.later (Blk.later hbz HA1.out) hb2) hb3))
      | (go_at_call 136; refine (D1.out _ (hl.later (Below.later hb0 HA1.out)) (hv p)).mono ?_; rintro e w2 ⟨rfl, hb2⟩; obtain ⟨x2, x3⟩ := cells2 (Blk.later (Blk.later hbx HA1.out) hb2); obtain ⟨y2, y3⟩ := cells2 (Blk.later (Blk.later hby HA1.out) hb2); obtain ⟨u0, u1, u2⟩ := cells3 (Blk.later (Blk.later hbz HA1.out) hb2)))
  have hB : Below w.heap.size w w4 := Below.later (Below.later (Below.later (Below.later hb0 HA1.out) hb2) hb3) hb4
  go_wp2
  refine bodyPost_ret (v := .agg #[.int .i64 (rk l p), .int .i64 (rk l (p + 1)), .int .i64 (rk r (p + 2))]) (by simp [results, Tryz.results141, go_sem, z0, z1, z2]; exact ⟨rfl, rfl, rfl⟩) rfl ⟨rfl, ?_⟩
  exact ((hB.setCell (p := ⟨w.heap.size + 1 + 1, 0, none⟩) (by simp; omega) _).setCell (p := ⟨w.heap.size + 1 + 1, 1, none⟩) (by simp; omega) _).setCell (p := ⟨w.heap.size + 1 + 1, 2, none⟩) (by simp; omega) _
end Go.Proofs.YtepklbboejnecaaGreat

/- Thirds: what never takes two for alike. -/
namespace Go.Proofs.YtepklbboejnecaaGreat
open Go.RowKit Go.Shelf Sedge
attribute [local go_sem ↓] Go.wp_at_zero Go.wp_at_succ

theorem tells_never : Tells2 90 #[] #[] (fun _ => True) (fun _ _ => True) (fun _ _ => false) where
  enter := enters_of Tryz.func90 (by kernel_rfl) rfl
  keep _ _ _ _ := trivial
  run p q w _ _ := by
    go_enter Tryz.func90, Tryz.ntmps90
    go_wp2
    go_ret
    exact ⟨rfl, Below.refl _ _⟩
end Go.Proofs.YtepklbboejnecaaGreat

/- Thirds: which end is ahead. -/
namespace Go.Proofs.YtepklbboejnecaaGreat
open Go.RowKit Go.Shelf Sedge
attribute [local go_sem ↓] Go.wp_at_zero Go.wp_at_succ

theorem Blk.set3 {w : World} {g : Nat} {T : TypeId} {a b c : Value} (h : Blk w g T [a, b, c]) (x y z : Value) : Blk (((w.setCell ⟨g, 0, none⟩ x).setCell ⟨g, 1, none⟩ y).setCell ⟨g, 2, none⟩ z) g T [x, y, z] := ((h.set 0 x).set 1 y).set 2 z
theorem Blk.keep3 {w : World} {g j : Nat} {T : TypeId} {vs : List Value} (h : Blk w g T vs) (hj : g ≠ j) (x y z : Value) : Blk (((w.setCell ⟨j, 0, none⟩ x).setCell ⟨j, 1, none⟩ y).setCell ⟨j, 2, none⟩ z) g T vs := ((h.other (a := ⟨j, 0, none⟩) hj x).other (a := ⟨j, 1, none⟩) hj y).other (a := ⟨j, 2, none⟩) hj z
theorem below_set3 {B : Nat} {w W : World} (h : Below B w W) {j : Nat} (hj : B ≤ j) (x y z : Value) : Below B w (((W.setCell ⟨j, 0, none⟩ x).setCell ⟨j, 1, none⟩ y).setCell ⟨j, 2, none⟩ z) := ((h.setCell (p := ⟨j, 0, none⟩) hj x).setCell (p := ⟨j, 1, none⟩) hj y).setCell (p := ⟨j, 2, none⟩) hj z

theorem sl3 {w : World} {g : Nat} {T : TypeId} {a b c : Nat} (h : Blk w g T [.int .i64 a, .int .i64 b, .int .i64 c]) : Sl w (some ⟨g, 0, none⟩) [a, b, c] := by
  obtain ⟨x, y, z⟩ := cells3 h
  intro k hk
  match k, hk with
  | 0, _ => exact ⟨g, 0, rfl, x⟩
  | 1, _ => exact ⟨g, 0, rfl, y⟩
  | 2, _ => exact ⟨g, 0, rfl, z⟩
set_option maxHeartbeats 4000000 in
/-- 'isAhead', by what is read of both. -/
theorem isAhead_of (ad ar : Option Addr) (l r : List Nat) (c cr : Nat) (kinds kr : Int) (o p v : Nat) (w : World) (hl : Sl w ad l) (hr : Sl w ar r) (hn : l.length ≤ 100000) (hp : p < l.length)
    (hv : ((l.length : Int) - (p : Int)) % 3 = 3 - (v : Int)) (x0 x1 x2 y0 y1 y2 : Nat)
    (h1 : ∀ W, Sl W ad l → Sl W ar r → Calls Tryz.prog 141 #[.agg #[.slice ad l.length c, .int .i64 kinds], .int .i64 o, .int .i64 v, .agg #[.slice ar r.length cr, .int .i64 kr]] W fun e w' => e = .returned (.agg #[.int .i64 (x0 : Int), .int .i64 (x1 : Int), .int .i64 (x2 : Int)]) ∧ Below W.heap.size W w')
    (h2 : ∀ W, Sl W ad l → Sl W ar r → Calls Tryz.prog 141 #[.agg #[.slice ad l.length c, .int .i64 kinds], .int .i64 p, .int .i64 v, .agg #[.slice ar r.length cr, .int .i64 kr]] W fun e w' => e = .returned (.agg #[.int .i64 (y0 : Int), .int .i64 (y1 : Int), .int .i64 (y2 : Int)]) ∧ Below W.heap.size W w') :
    Calls Tryz.prog 120 #[.agg #[.slice ad l.length c, .int .i64 kinds], .int .i64 o, .int .i64 p, .agg #[.slice ar r.length cr, .int .i64 kr]] w fun e w' => e = .returned (.bool (decide ([x0, x1, x2] < [y0, y1, y2]))) ∧ Below w.heap.size w w' := by
  have H1 : Hid _ := h1
  have H2 : Hid _ := h2
  have HV : Hid _ := hv
  have HP : Hid (p < l.length) := hp
  clear h1 h2 hv
  have hb0 : Below w.heap.size w ((w.alloc (Obj.cells #[Value.slice ad l.length c, Value.int .i64 kinds] 122)).alloc (Obj.cells #[Value.slice ar r.length cr, Value.int .i64 kr] 122)) := ((Below.refl _ _).alloc (Nat.le_refl _) _).alloc (by simp) _
  have hbx : Blk ((w.alloc (Obj.cells #[Value.slice ad l.length c, Value.int .i64 kinds] 122)).alloc (Obj.cells #[Value.slice ar r.length cr, Value.int .i64 kr] 122)) w.heap.size 122 [.slice ad l.length c, .int .i64 kinds] := Blk.alloc (Blk.new w _ _ rfl) _
  have hby : Blk ((w.alloc (Obj.cells #[Value.slice ad l.length c, Value.int .i64 kinds] 122)).alloc (Obj.cells #[Value.slice ar r.length cr, Value.int .i64 kr] 122)) (w.heap.size + 1) 122 [.slice ar r.length cr, .int .i64 kr] := Blk.new _ _ _ (by simp)
  go_enter Tryz.func120, Tryz.ntmps120
  go_wp2_with fail
  refine (class_any ad l.length c kinds (p : Int) _ (by omega) (by omega) hn).mono ?_
  rintro e w2 ⟨rfl, hb2⟩
  have hbx2 := hbx.later hb2
  have hby2 := hby.later hb2
  have hB2 := Below.later hb0 hb2
  have hl2 := hl.later hB2
  have hr2 := hr.later hB2
  have wv : IntKind.i64.wrap (3 - ((l.length : Int) - (p : Int)) % 3) = (v : Int) := by have := HV.out; rw [IntKind.wrap_i64]; omega
  obtain ⟨a0, a1⟩ := cells2 hbx2
  obtain ⟨b0, b1⟩ := cells2 hby2
  clear hbx hby hb0 hb2
  have A1 : Below w2.heap.size w2 w2.drew := (Below.refl _ _).drew
  have HA1 : Hid _ := A1
  clear A1
  go_wp2_with fail
  go_cut [10, 11] (fun x y wx => ∃ bx by' : Nat, x = .pointer (some ⟨bx, 0, none⟩) ∧ y = .pointer (some ⟨by', 0, none⟩) ∧ Blk wx bx 169 [.int .i64 x0, .int .i64 x1, .int .i64 x2] ∧ Blk wx by' 169 [.int .i64 y0, .int .i64 y1, .int .i64 y2] ∧ Below w.heap.size w wx)
  case first =>
    go_region_held3 (fun w' => w'.cell? ⟨w.heap.size, 0, none⟩ = some (.slice ad l.length c) ∧ w'.cell? ⟨w.heap.size, 1, none⟩ = some (.int .i64 kinds) ∧ w'.cell? ⟨w.heap.size + 1, 0, none⟩ = some (.slice ar r.length cr) ∧ w'.cell? ⟨w.heap.size + 1, 1, none⟩ = some (.int .i64 kr)) (go_keep)
      (first
        | (go_at_call_of 141 (Value.int .i64 (o : Int)); refine (H1.out w2.drew (hl2.later HA1.out) (hr2.later HA1.out)).mono ?_; rintro e w3 ⟨rfl, hb3⟩; have hB3 := Below.later HA1.out hb3; obtain ⟨x4, x5⟩ := cells2 (Blk.later hbx2 hB3); obtain ⟨y4, y5⟩ := cells2 (Blk.later hby2 hB3); have q2 := hby2.lt; have q3 := hB3.size; have na0 : ¬ w2.heap.size = w.heap.size := (by omega); have na1 : ¬ w.heap.size = w2.heap.size := (by omega); have na2 : ¬ w2.heap.size = w.heap.size + 1 := (by omega); have na3 : ¬ w.heap.size + 1 = w2.heap.size := (by omega); have na4 : ¬ w2.heap.size + 1 = w.heap.size := (by omega); have na5 : ¬ w.heap.size = w2.heap.size + 1 := (by omega); have na6 : ¬ w2.heap.size + 1 = w.heap.size + 1 := (by omega); have na7 : ¬ w.heap.size + 1 = w2.heap.size + 1 := (by omega); have nb0 : ¬ w3.heap.size = w.heap.size := (by omega); have nb1 : ¬ w.heap.size = w3.heap.size := (by omega); have nb2 : ¬ w3.heap.size = w.heap.size + 1 := (by omega); have nb3 : ¬ w.heap.size + 1 = w3.heap.size := (by omega); have nb4 : ¬ w3.heap.size + 1 = w.heap.size := (by omega); have nb5 : ¬ w.heap.size = w3.heap.size + 1 := (by omega); have nb6 : ¬ w3.heap.size + 1 = w.heap.size + 1 := (by omega); have nb7 : ¬ w.heap.size + 1 = w3.heap.size + 1 := (by omega))
        | (go_at_call_of 141 (Value.int .i64 (o : Int)); refine (H1.out (w2.drew.alloc (Obj.cells #[.int .i64 0, .int .i64 0, .int .i64 0] 169)) (hl2.later (HA1.out.alloc (by simp) _)) (hr2.later (HA1.out.alloc (by simp) _))).mono ?_; rintro e w3 ⟨rfl, hb3⟩; have hB3 := Below.later (HA1.out.alloc (by simp) _) hb3; have zA := Blk.later (Blk.new (n := w2.heap.size) w2.drew [.int .i64 0, .int .i64 0, .int .i64 0] 169 rfl) hb3; obtain ⟨zA0, zA1, zA2⟩ := cells3 zA; have zAf0 := Blk.free zA 0; have zAf1 := Blk.free zA 1; have zAf2 := Blk.free zA 2; have zAl := Blk.lt zA; obtain ⟨x4, x5⟩ := cells2 (Blk.later hbx2 hB3); obtain ⟨y4, y5⟩ := cells2 (Blk.later hby2 hB3); have q2 := hby2.lt; have q3 := hB3.size; have na0 : ¬ w2.heap.size = w.heap.size := (by omega); have na1 : ¬ w.heap.size = w2.heap.size := (by omega); have na2 : ¬ w2.heap.size = w.heap.size + 1 := (by omega); have na3 : ¬ w.heap.size + 1 = w2.heap.size := (by omega); have na4 : ¬ w2.heap.size + 1 = w.heap.size := (by omega); have na5 : ¬ w.heap.size = w2.heap.size + 1 := (by omega); have na6 : ¬ w2.heap.size + 1 = w.heap.size + 1 := (by omega); have na7 : ¬ w.heap.size + 1 = w2.heap.size + 1 := (by omega); have nb0 : ¬ w3.heap.size = w.heap.size := (by omega); have nb1 : ¬ w.heap.size = w3.heap.size := (by omega); have nb2 : ¬ w3.heap.size = w.heap.size + 1 := (by omega); have nb3 : ¬ w.heap.size + 1 = w3.heap.size := (by omega); have nb4 : ¬ w3.heap.size + 1 = w.heap.size := (by omega); have nb5 : ¬ w.heap.size = w3.heap.size + 1 := (by omega); have nb6 : ¬ w3.heap.size + 1 = w.heap.size + 1 := (by omega); have nb7 : ¬ w.heap.size + 1 = w3.heap.size + 1 := (by omega))
        | (go_at_call_of 141 (Value.int .i64 (o : Int)); refine (H1.out ((w2.drew.alloc (Obj.cells #[.int .i64 0, .int .i64 0, .int .i64 0] 169)).alloc (Obj.cells #[.int .i64 0, .int .i64 0, .int .i64 0] 169)) (hl2.later ((HA1.out.alloc (by simp) _).alloc (by simp) _)) (hr2.later ((HA1.out.alloc (by simp) _).alloc (by simp) _))).mono ?_; rintro e w3 ⟨rfl, hb3⟩; have hB3 := Below.later ((HA1.out.alloc (by simp) _).alloc (by simp) _) hb3; have zA := Blk.later (Blk.alloc (Blk.new (n := w2.heap.size) w2.drew [.int .i64 0, .int .i64 0, .int .i64 0] 169 rfl) (Obj.cells #[.int .i64 0, .int .i64 0, .int .i64 0] 169)) hb3; have zB := Blk.later (Blk.new (n := w2.heap.size + 1) (w2.drew.alloc (Obj.cells #[.int .i64 0, .int .i64 0, .int .i64 0] 169)) [.int .i64 0, .int .i64 0, .int .i64 0] 169 (by simp)) hb3; obtain ⟨zA0, zA1, zA2⟩ := cells3 zA; have zAf0 := Blk.free zA 0; have zAf1 := Blk.free zA 1; have zAf2 := Blk.free zA 2; have zAl := Blk.lt zA; obtain ⟨zB0, zB1, zB2⟩ := cells3 zB; have zBf0 := Blk.free zB 0; have zBf1 := Blk.free zB 1; have zBf2 := Blk.free zB 2; have zBl := Blk.lt zB; obtain ⟨x4, x5⟩ := cells2 (Blk.later hbx2 hB3); obtain ⟨y4, y5⟩ := cells2 (Blk.later hby2 hB3); have q2 := hby2.lt; have q3 := hB3.size; have na0 : ¬ w2.heap.size = w.heap.size := (by omega); have na1 : ¬ w.heap.size = w2.heap.size := (by omega); have na2 : ¬ w2.heap.size = w.heap.size + 1 := (by omega); have na3 : ¬ w.heap.size + 1 = w2.heap.size := (by omega); have na4 : ¬ w2.heap.size + 1 = w.heap.size := (by omega); have na5 : ¬ w.heap.size = w2.heap.size + 1 := (by omega); have na6 : ¬ w2.heap.size + 1 = w.heap.size + 1 := (by omega); have na7 : ¬ w.heap.size + 1 = w2.heap.size + 1 := (by omega); have nb0 : ¬ w3.heap.size = w.heap.size := (by omega); have nb1 : ¬ w.heap.size = w3.heap.size := (by omega); have nb2 : ¬ w3.heap.size = w.heap.size + 1 := (by omega); have nb3 : ¬ w.heap.size + 1 = w3.heap.size := (by omega); have nb4 : ¬ w3.heap.size + 1 = w.heap.size := (by omega); have nb5 : ¬ w.heap.size = w3.heap.size + 1 := (by omega); have nb6 : ¬ w3.heap.size + 1 = w.heap.size + 1 := (by omega); have nb7 : ¬ w.heap.size + 1 = w3.heap.size + 1 := (by omega))
        | (go_at_call_of 141 (Value.int .i64 (p : Int)); refine (H2.out w3 (hl2.later hB3) (hr2.later hB3)).mono ?_; rintro e w4 ⟨rfl, hb4⟩; have hB4 := Below.later hB3 hb4; have hL := Below.later (Below.refl w3.heap.size w3) hb4; (try (have yA := Blk.later zA hL; obtain ⟨yA0, yA1, yA2⟩ := cells3 yA; have yAf0 := Blk.free yA 0; have yAf1 := Blk.free yA 1; have yAf2 := Blk.free yA 2; have yAl := Blk.lt yA)); (try (have yB := Blk.later zB hL; obtain ⟨yB0, yB1, yB2⟩ := cells3 yB; have yBf0 := Blk.free yB 0; have yBf1 := Blk.free yB 1; have yBf2 := Blk.free yB 2; have yBl := Blk.lt yB)); obtain ⟨x6, x7⟩ := cells2 (Blk.later hbx2 hB4); obtain ⟨y6, y7⟩ := cells2 (Blk.later hby2 hB4); have q4 := hL.size; (try (have m1 : ¬ w2.heap.size = w3.heap.size := (by omega); have m2 : ¬ w3.heap.size = w2.heap.size := (by omega); have m3 : ¬ w2.heap.size = w3.heap.size + 1 := (by omega); have m4 : ¬ w3.heap.size + 1 = w2.heap.size := (by omega))); (try (have m5 : ¬ w2.heap.size = w4.heap.size := (by omega); have m6 : ¬ w4.heap.size = w2.heap.size := (by omega))); (try (have m7 : ¬ w3.heap.size = w4.heap.size := (by omega); have m8 : ¬ w4.heap.size = w3.heap.size := (by omega))); (try (have m9 : ¬ w3.heap.size + 1 = w4.heap.size := (by omega); have m10 : ¬ w4.heap.size = w3.heap.size + 1 := (by omega))))
        | (go_at_call_of 141 (Value.int .i64 (p : Int)); refine (H2.out (w3.alloc (Obj.cells #[.int .i64 0, .int .i64 0, .int .i64 0] 169)) (hl2.later (hB3.alloc hB3.size _)) (hr2.later (hB3.alloc hB3.size _))).mono ?_; rintro e w4 ⟨rfl, hb4⟩; have hB4 := Below.later (hB3.alloc hB3.size _) hb4; have zC := Blk.later (Blk.new (n := w3.heap.size) w3 [.int .i64 0, .int .i64 0, .int .i64 0] 169 rfl) hb4; obtain ⟨zC0, zC1, zC2⟩ := cells3 zC; have zCf0 := Blk.free zC 0; have zCf1 := Blk.free zC 1; have zCf2 := Blk.free zC 2; have zCl := Blk.lt zC; have hL := Below.later ((Below.refl w3.heap.size w3).alloc (by simp) _) hb4; (try (have yA := Blk.later zA hL; obtain ⟨yA0, yA1, yA2⟩ := cells3 yA; have yAf0 := Blk.free yA 0; have yAf1 := Blk.free yA 1; have yAf2 := Blk.free yA 2; have yAl := Blk.lt yA)); (try (have yB := Blk.later zB hL; obtain ⟨yB0, yB1, yB2⟩ := cells3 yB; have yBf0 := Blk.free yB 0; have yBf1 := Blk.free yB 1; have yBf2 := Blk.free yB 2; have yBl := Blk.lt yB)); obtain ⟨x6, x7⟩ := cells2 (Blk.later hbx2 hB4); obtain ⟨y6, y7⟩ := cells2 (Blk.later hby2 hB4); have q4 := hL.size; (try (have m1 : ¬ w2.heap.size = w3.heap.size := (by omega); have m2 : ¬ w3.heap.size = w2.heap.size := (by omega); have m3 : ¬ w2.heap.size = w3.heap.size + 1 := (by omega); have m4 : ¬ w3.heap.size + 1 = w2.heap.size := (by omega))); (try (have m5 : ¬ w2.heap.size = w4.heap.size := (by omega); have m6 : ¬ w4.heap.size = w2.heap.size := (by omega))); (try (have m7 : ¬ w3.heap.size = w4.heap.size := (by omega); have m8 : ¬ w4.heap.size = w3.heap.size := (by omega))); (try (have m9 : ¬ w3.heap.size + 1 = w4.heap.size := (by omega); have m10 : ¬ w4.heap.size = w3.heap.size + 1 := (by omega))))
        | (go_at_call_of 141 (Value.int .i64 (p : Int)); refine (H2.out ((w3.alloc (Obj.cells #[.int .i64 0, .int .i64 0, .int .i64 0] 169)).alloc (Obj.cells #[.int .i64 0, .int .i64 0, .int .i64 0] 169)) (hl2.later ((hB3.alloc hB3.size _).alloc (by simp; have := hB3.size; omega) _)) (hr2.later ((hB3.alloc hB3.size _).alloc (by simp; have := hB3.size; omega) _))).mono ?_; rintro e w4 ⟨rfl, hb4⟩; have hB4 := Below.later ((hB3.alloc hB3.size _).alloc (by simp; have := hB3.size; omega) _) hb4; have zC := Blk.later (Blk.alloc (Blk.new (n := w3.heap.size) w3 [.int .i64 0, .int .i64 0, .int .i64 0] 169 rfl) (Obj.cells #[.int .i64 0, .int .i64 0, .int .i64 0] 169)) hb4; have zD := Blk.later (Blk.new (n := w3.heap.size + 1) (w3.alloc (Obj.cells #[.int .i64 0, .int .i64 0, .int .i64 0] 169)) [.int .i64 0, .int .i64 0, .int .i64 0] 169 (by simp)) hb4; obtain ⟨zC0, zC1, zC2⟩ := cells3 zC; have zCf0 := Blk.free zC 0; have zCf1 := Blk.free zC 1; have zCf2 := Blk.free zC 2; have zCl := Blk.lt zC; obtain ⟨zD0, zD1, zD2⟩ := cells3 zD; have zDf0 := Blk.free zD 0; have zDf1 := Blk.free zD 1; have zDf2 := Blk.free zD 2; have zDl := Blk.lt zD; have hL := Below.later (((Below.refl w3.heap.size w3).alloc (by simp) _).alloc (by simp) _) hb4; (try (have yA := Blk.later zA hL; obtain ⟨yA0, yA1, yA2⟩ := cells3 yA; have yAf0 := Blk.free yA 0; have yAf1 := Blk.free yA 1; have yAf2 := Blk.free yA 2; have yAl := Blk.lt yA)); (try (have yB := Blk.later zB hL; obtain ⟨yB0, yB1, yB2⟩ := cells3 yB; have yBf0 := Blk.free yB 0; have yBf1 := Blk.free yB 1; have yBf2 := Blk.free yB 2; have yBl := Blk.lt yB)); obtain ⟨x6, x7⟩ := cells2 (Blk.later hbx2 hB4); obtain ⟨y6, y7⟩ := cells2 (Blk.later hby2 hB4); have q4 := hL.size; (try (have m1 : ¬ w2.heap.size = w3.heap.size := (by omega); have m2 : ¬ w3.heap.size = w2.heap.size := (by omega); have m3 : ¬ w2.heap.size = w3.heap.size + 1 := (by omega); have m4 : ¬ w3.heap.size + 1 = w2.heap.size := (by omega))); (try (have m5 : ¬ w2.heap.size = w4.heap.size := (by omega); have m6 : ¬ w4.heap.size = w2.heap.size := (by omega))); (try (have m7 : ¬ w3.heap.size = w4.heap.size := (by omega); have m8 : ¬ w4.heap.size = w3.heap.size := (by omega))); (try (have m9 : ¬ w3.heap.size + 1 = w4.heap.size := (by omega); have m10 : ¬ w4.heap.size = w3.heap.size + 1 := (by omega)))))
    all_goals (go_wp2_with fail)
    all_goals go_meet
    all_goals (have hBw := Below.later hB2 hB4; have hsw := hBw.size)
    · with_reducible exact ⟨_, _, rfl, rfl, Blk.alloc (Blk.new (n := w4.heap.size) w4 _ _ rfl) _, Blk.new _ _ _ (by simp), (hBw.alloc hBw.size _).alloc (by simp; omega) _⟩
    · with_reducible exact ⟨_, _, rfl, rfl, Blk.new _ _ _ (by simp), Blk.alloc (Blk.new (n := w4.heap.size) w4 _ _ rfl) _, (hBw.alloc hBw.size _).alloc (by simp; omega) _⟩
    · with_reducible exact ⟨_, _, rfl, rfl, Blk.alloc (Blk.set3 zC _ _ _) _, Blk.new _ _ _ (by simp), (below_set3 hBw (by omega) _ _ _).alloc (by simp; omega) _⟩
    · with_reducible exact ⟨_, _, rfl, rfl, Blk.keep3 (Blk.set3 zC _ _ _) (by omega) _ _ _, Blk.set3 (Blk.keep3 zD (by omega) _ _ _) _ _ _, below_set3 (below_set3 hBw (by omega) _ _ _) (by omega) _ _ _⟩
    · with_reducible exact ⟨_, _, rfl, rfl, Blk.new _ _ _ (by simp), Blk.alloc (Blk.set3 zC _ _ _) _, (below_set3 hBw (by omega) _ _ _).alloc (by simp; omega) _⟩
    · with_reducible exact ⟨_, _, rfl, rfl, Blk.keep3 (Blk.set3 zD _ _ _) (by omega) _ _ _, Blk.set3 (Blk.keep3 zC (by omega) _ _ _) _ _ _, below_set3 (below_set3 hBw (by omega) _ _ _) (by omega) _ _ _⟩
    · with_reducible exact ⟨_, _, rfl, rfl, Blk.alloc (Blk.set3 yA _ _ _) _, Blk.new _ _ _ (by simp), (below_set3 hBw (by omega) _ _ _).alloc (by simp; omega) _⟩
    · with_reducible exact ⟨_, _, rfl, rfl, Blk.keep3 (Blk.set3 yA _ _ _) (by omega) _ _ _, Blk.set3 (Blk.keep3 zC (by omega) _ _ _) _ _ _, below_set3 (below_set3 hBw (by omega) _ _ _) (by omega) _ _ _⟩
    · with_reducible exact ⟨_, _, rfl, rfl, Blk.keep3 (Blk.set3 yA _ _ _) (by omega) _ _ _, Blk.set3 (Blk.keep3 yB (by omega) _ _ _) _ _ _, below_set3 (below_set3 hBw (by omega) _ _ _) (by omega) _ _ _⟩
    · with_reducible exact ⟨_, _, rfl, rfl, Blk.new _ _ _ (by simp), Blk.alloc (Blk.set3 yA _ _ _) _, (below_set3 hBw (by omega) _ _ _).alloc (by simp; omega) _⟩
    · with_reducible exact ⟨_, _, rfl, rfl, Blk.keep3 (Blk.set3 zC _ _ _) (by omega) _ _ _, Blk.set3 (Blk.keep3 yA (by omega) _ _ _) _ _ _, below_set3 (below_set3 hBw (by omega) _ _ _) (by omega) _ _ _⟩
    · with_reducible exact ⟨_, _, rfl, rfl, Blk.keep3 (Blk.set3 yB _ _ _) (by omega) _ _ _, Blk.set3 (Blk.keep3 yA (by omega) _ _ _) _ _ _, below_set3 (below_set3 hBw (by omega) _ _ _) (by omega) _ _ _⟩
  case rest =>
  obtain ⟨bx, by', rfl, rfl, hx, hy, hB⟩ := hcut
  have CC := compares_any (some ⟨bx, 0, none⟩) (some ⟨by', 0, none⟩) [x0, x1, x2] [y0, y1, y2] 3 3
  have A5 : Below wc.heap.size wc wc.drew := (Below.refl _ _).drew
  have HA5 : Hid _ := A5
  clear A5
  have HC : Hid _ := CC
  obtain ⟨X0, X1, X2⟩ := cells3 hx
  obtain ⟨Y0, Y1, Y2⟩ := cells3 hy
  clear CC
  go_wp2_with fail
  go_region_held3 (fun w' => w'.cell? ⟨bx, 0, none⟩ = some (.int .i64 (x0 : Int)) ∧ w'.cell? ⟨by', 0, none⟩ = some (.int .i64 (y0 : Int))) (go_keep)
    (first
      | (go_at_call 142; refine (HC.out _ (sl3 (hx.later HA5.out)) (sl3 (hy.later HA5.out)) rfl (by simp)).mono ?_; rintro e w6 ⟨rr, rfl, hrr, rfl⟩))
  go_wp2
  go_ret
  exact ⟨rfl, hB.drew⟩

/-- 'isAhead'. -/
theorem isAhead_any (ad ar : Option Addr) (l r : List Nat) (c cr : Nat) (kinds kr : Int) (o p : Nat) (w : World) (hl : Sl w ad l) (hr : Sl w ar r) (hn : l.length ≤ 100000) (hv : ∀ p, num l p ≤ 1000000) (hvr : ∀ p, num r p ≤ 1000000) (R : RankOf l r)
    (ho : o < l.length) (ho' : (l.length - o) % 3 = 0) (hp : p < l.length) (hp' : (l.length - p) % 3 ≠ 0) :
    Calls Tryz.prog 120 #[.agg #[.slice ad l.length c, .int .i64 kinds], .int .i64 o, .int .i64 p, .agg #[.slice ar r.length cr, .int .i64 kr]] w fun e w' => ∃ b : Bool, e = .returned (.bool b) ∧ (b = true ↔ suf l o p) ∧ Below w.heap.size w w' := by
  by_cases c2 : (l.length - p) % 3 = 2
  · refine (isAhead_of ad ar l r c cr kinds kr o p 1 w hl hr hn hp (by omega) (rk l o) (rk r (o + 1)) 0 (rk l p) (rk r (p + 1)) 0 (fun W h1 h2 => readUpTo_one ad ar l r c cr kinds kr o W h1 h2 hv hvr (by omega)) (fun W h1 h2 => readUpTo_one ad ar l r c cr kinds kr p W h1 h2 hv hvr (by omega))).mono ?_
    rintro e w' ⟨rfl, hb⟩
    exact ⟨_, rfl, by rw [decide_eq_true_eq]; exact ahead1 R ho ho' hp c2, hb⟩
  · refine (isAhead_of ad ar l r c cr kinds kr o p 2 w hl hr hn hp (by omega) (rk l o) (rk l (o + 1)) (rk r (o + 2)) (rk l p) (rk l (p + 1)) (rk r (p + 2)) (fun W h1 h2 => readUpTo_two ad ar l r c cr kinds kr o W h1 h2 hv hvr (by omega)) (fun W h1 h2 => readUpTo_two ad ar l r c cr kinds kr p W h1 h2 hv hvr (by omega))).mono ?_
    rintro e w' ⟨rfl, hb⟩
    exact ⟨_, rfl, by rw [decide_eq_true_eq]; exact ahead2 R ho ho' hp (by omega), hb⟩
end Go.Proofs.YtepklbboejnecaaGreat

/- Thirds: merging. -/
namespace Go.Proofs.YtepklbboejnecaaGreat
open Go.RowKit Go.Shelf Sedge
attribute [local go_sem ↓] Go.wp_at_zero Go.wp_at_succ

theorem run_make_cap (n : Nat) (hn : n ≤ 1000000) (w : World) : (Instr.makeSlice 55 (.int .i64 0) (.int .i64 (n : Int))).run Tryz.prog w = .ok (.slice (some ⟨w.heap.size, 0, none⟩) 0 n) (w.alloc (.cells (IV (tab n fun _ => 0)).toArray 3)) := by
  obtain ⟨i0, hi, hz0, hz1, hz2⟩ := info_parts Tryz.infoInt
  have hr := run_make (P := Tryz.prog) w 55 3 i0 (.int .i64 0) Tryz.underlying55 hi hz0 .i64 .i64 0 n (by omega) (by omega) (by rw [hz2]; omega) (by omega)
  simp only [Int.toNat_natCast] at hr
  rw [← tab_zero]
  have e : (madeCells (Value.int .i64 0).cells (n * 1)) = (IV (List.replicate n 0)).toArray := by
    apply Array.ext'
    have := toList_madeCells_one (.int .i64 0) n
    simpa [Value.cells, IV] using this
  rw [← e]
  rw [hz1] at hr
  exact hr
theorem own_made (n : Nat) (hn : n ≤ 1000000) (w : World) : (w.alloc (.cells (IV (tab n fun _ => 0)).toArray 3)).ownsRow w.heap.size 3 1 (.slice (some ⟨w.heap.size, 0, none⟩) 0 n) ([] : List Nat).length (IV []) := by
  refine ⟨rfl, .inr ⟨w.heap.size, n, _, rfl, Nat.le_refl _, heap_alloc_new w _, Nat.zero_le _, by unfold maxLen; omega, ?_, rfl⟩⟩
  simp [IV, tab]

/-- What holds all along the merging. -/
structure MG (ad ar : Option Addr) (l r : List Nat) (c cr : Nat) (kinds kr : Int) (w wr : World) : Prop where
  bx : Blk wr w.heap.size 122 [.slice ad l.length c, .int .i64 kinds]
  by' : Blk wr (w.heap.size + 1) 122 [.slice ar r.length cr, .int .i64 kr]
  b : Below w.heap.size w wr
theorem MG.later {ad ar : Option Addr} {l r : List Nat} {c cr : Nat} {kinds kr : Int} {w wr w2 : World} (h : MG ad ar l r c cr kinds kr w wr) (hb : Below wr.heap.size wr w2) : MG ad ar l r c cr kinds kr w w2 := ⟨h.bx.later hb, h.by'.later hb, Below.later h.b hb⟩
theorem MG.below {ad ar : Option Addr} {l r : List Nat} {c cr : Nat} {kinds kr : Int} {w wr w2 : World} (h : MG ad ar l r c cr kinds kr w wr) (hb : Below (w.heap.size + 2) wr w2) : MG ad ar l r c cr kinds kr w w2 := ⟨h.bx.below hb (by omega), h.by'.below hb (by omega), h.b.trans (hb.mono (by omega))⟩

/-- The rest of the others, as the variable holds it. -/
structure Rest (bO : Nat) (O : List Nat) (j : Nat) (vo : Value) (off cap : Nat) (wr : World) : Prop where
  v : vo = .slice (some ⟨bO, off, none⟩) (O.drop j).length cap
  le : (O.drop j).length ≤ cap
  cap' : cap ≤ 9223372036854775807
  sl : Sl wr (some ⟨bO, off, none⟩) (O.drop j)
  j : j ≤ O.length
theorem Rest.below {bO : Nat} {O : List Nat} {j : Nat} {vo : Value} {off cap B : Nat} {wr w2 : World} (h : Rest bO O j vo off cap wr) (hb : Below B wr w2) (hB : bO < B) : Rest bO O j vo off cap w2 := ⟨h.v, h.le, h.cap', h.sl.below hb (fun b o e => by simp at e; omega), h.j⟩

set_option maxHeartbeats 4000000 in
/-- 'merged'. -/
theorem merged_any (ad adS ar : Option Addr) (l S O r : List Nat) (c cS cr bO : Nat) (kinds kr : Int) (w : World) (hl : Sl w ad l) (hS : Sl w adS S) (hO : Sl w (some ⟨bO, 0, none⟩) O) (hbO : bO < w.heap.size) (hr : Sl w ar r) (hn : l.length ≤ 100000) (hv : ∀ p, num l p ≤ 1000000) (hvr : ∀ p, num r p ≤ 1000000) (R : RankOf l r)
    (sS : S.Pairwise (suf l)) (mS : ∀ p, p ∈ S ↔ p ∈ chosen l.length) (sO : O.Pairwise (suf l)) (mO : ∀ p, p ∈ O ↔ p < l.length ∧ (l.length - p) % 3 = 0) (nS : S.length ≤ 100000) (nO : O.length ≤ 100000) :
    Calls Tryz.prog 91 #[.agg #[.slice ad l.length c, .int .i64 kinds], .slice adS S.length cS, .slice (some ⟨bO, 0, none⟩) O.length O.length, .agg #[.slice ar r.length cr, .int .i64 kr]] w (Answers l w) := by
  have hmk := run_make_cap l.length (by omega)
  have hb0 : Below w.heap.size w ((w.alloc (Obj.cells #[Value.slice ad l.length c, Value.int .i64 kinds] 122)).alloc (Obj.cells #[Value.slice ar r.length cr, Value.int .i64 kr] 122)) := ((Below.refl _ _).alloc (Nat.le_refl _) _).alloc (by simp) _
  have hbx : Blk ((w.alloc (Obj.cells #[Value.slice ad l.length c, Value.int .i64 kinds] 122)).alloc (Obj.cells #[Value.slice ar r.length cr, Value.int .i64 kr] 122)) w.heap.size 122 [.slice ad l.length c, .int .i64 kinds] := Blk.alloc (Blk.new w _ _ rfl) _
  have hby : Blk ((w.alloc (Obj.cells #[Value.slice ad l.length c, Value.int .i64 kinds] 122)).alloc (Obj.cells #[Value.slice ar r.length cr, Value.int .i64 kr] 122)) (w.heap.size + 1) 122 [.slice ar r.length cr, .int .i64 kr] := Blk.new _ _ _ (by simp)
  have HSS : Hid _ := sS
  have HMS : Hid _ := mS
  have HSO : Hid _ := sO
  have HMO : Hid _ := mO
  have HR : Hid _ := R
  clear sS mS sO mO R
  have CA := fun W o p a1 a2 => isAhead_any ad ar l r c cr kinds kr o p W a1 a2 hn hv hvr HR.out
  have HCA : Hid _ := CA
  clear CA hv hvr
  go_enter Tryz.func91, Tryz.ntmps91
  go_wp2
  go_loopw [2, 9, 18] (fun vo vord i wr => ∃ (k j off cap : Nat) (ord : List Nat), k ≤ S.length ∧ i = .int .i64 k ∧ Rest bO O j vo off cap wr ∧ wr.ownsRow (w.heap.size + 2) 3 1 vord ord.length (IV ord) ∧ Merged l S O k j ord ∧ MG ad ar l r c cr kinds kr w wr) (fun _ _ i _ => S.length - (intOf i).toNat)
  case atStart =>
    refine ⟨0, 0, 0, O.length, [], Nat.zero_le _, rfl, ⟨rfl, Nat.le_refl _, by omega, ((hO.later hb0).alloc _), Nat.zero_le _⟩, ?_, Merged.start HSS.out HSO.out, ?_⟩
    · have := own_made l.length (by omega) ((w.alloc (Obj.cells #[Value.slice ad l.length c, Value.int .i64 kinds] 122)).alloc (Obj.cells #[Value.slice ar r.length cr, Value.int .i64 kr] 122))
      rw [World.size_alloc, World.size_alloc] at this
      exact this
    · exact ⟨hbx.alloc _, hby.alloc _, hb0.alloc hb0.size _⟩
  case round =>
    clear hb0 hbx hby hmk
    obtain ⟨k, j0, off0, cap0, ord0, hk, rfl, hRest0, hown0, hM0, hG0⟩ := hrel
    by_cases hlt : k < S.length
    · obtain ⟨b, o1, rfl, hc⟩ := hS k hlt
      have hc' := (hG0.b.cell (cell_lt hc)).trans hc
      have hMk := mem_chosen.1 ((HMS.out _).1 (num_mem hlt))
      have i2 : (k : Int) < (S.length : Int) := by omega
      have HMk : Hid _ := hMk
      clear hMk
      go_wp2_with fail
      go_loopw [2, 9] (fun vo vord wr => ∃ (j off cap : Nat) (ord : List Nat), Rest bO O j vo off cap wr ∧ wr.ownsRow (w.heap.size + 2) 3 1 vord ord.length (IV ord) ∧ Merged l S O k j ord ∧ MG ad ar l r c cr kinds kr w wr) (fun vo _ _ => lenOf vo)
      case atStart => exact ⟨j0, off0, cap0, ord0, hRest0, hown0, hM0, hG0⟩
      case round =>
        clear hRest0 hown0 hM0 hG0 hc hc'
        obtain ⟨j, off, cap, ord, hRest, hown, hM, hG⟩ := hrel
        have hol : ord.length < 1000000 := by have := hM.len; have := hRest.j; omega
        by_cases hj : j < O.length
        · obtain ⟨rfl, hle, hcap', hsl, hjle⟩ := hRest
          rw [drop_num hj] at hle hsl ⊢
          rw [List.length_cons] at hle ⊢
          obtain ⟨b0, o0, e0, hc0⟩ := hsl 0 (by simp)
          simp only [Option.some.injEq, Addr.mk.injEq, and_true] at e0
          obtain ⟨rfl, rfl⟩ := e0
          rw [show num (num O j :: O.drop (j + 1)) 0 = num O j from rfl, Nat.add_zero] at hc0
          have hmO := (HMO.out _).1 (num_mem hj)
          have HmO : Hid _ := hmO
          obtain ⟨x0, x1⟩ := cells2 hG.bx
          obtain ⟨y0, y1⟩ := cells2 hG.by'
          have j1 : (0 : Int) < (((O.drop (j + 1)).length + 1 : Nat) : Int) := by omega
          have A5 : Below wr.heap.size wr wr.drew := (Below.refl _ _).drew
          have HA5 : Hid _ := A5
          have hlz := cell_lt hc0
          clear A5 hmO
          go_wp2_with fail
          go_region_held3 (fun w' => w'.cell? ⟨w.heap.size, 0, none⟩ = some (.slice ad l.length c) ∧ w'.cell? ⟨w.heap.size, 1, none⟩ = some (.int .i64 kinds) ∧ w'.cell? ⟨w.heap.size + 1, 0, none⟩ = some (.slice ar r.length cr) ∧ w'.cell? ⟨w.heap.size + 1, 1, none⟩ = some (.int .i64 kr) ∧ w'.cell? ⟨bO, off, none⟩ = some (.int .i64 (num O j : Int))) (go_keep)
            (first
              | (go_at_call 120; refine (HCA.out _ (num O j) (num S k) (hl.later (Below.later hG.b HA5.out)) (hr.later (Below.later hG.b HA5.out)) HmO.out.1 HmO.out.2 HMk.out.1 HMk.out.2).mono ?_; rintro e w2 ⟨bb, rfl, hbb, hb2⟩; have hbw := Below.later HA5.out hb2; have hG2 := hG.later hbw; obtain ⟨x4, x5⟩ := cells2 hG2.bx; obtain ⟨y4, y5⟩ := cells2 hG2.by'; have hc2 := (hbw.cell hlz).trans hc0))
          have hown2 := own_later hown hbw
          have hsl2 := hsl.later hbw
          have hd1 : Sl w2 (some ⟨bO, off + 1, none⟩) (O.drop (j + 1)) := hsl2.drop (m := 1)
          have hlm : (O.drop (j + 1)).length = O.length - (j + 1) := List.length_drop
          have hsz2 : w.heap.size + 2 ≤ w2.heap.size := by have := hG2.by'.lt; omega
          rw [hlm] at hle
          have HLM : Hid _ := hlm
          clear hlm hown hsl hc0 hG x0 x1 y0 y1 j1 hb2 hbw hlz
          cases bb with
          | true =>
            have HMg : Hid _ := hM.other hlt hj (hbb.1 rfl)
            clear hbb hM
            have j2 : (1 : Int) ≤ ((O.length - (j + 1) + 1 : Nat) : Int) := by omega
            have j3 : (1 : Int) ≤ (cap : Int) := by omega
            by_cases hcap : cap = 1
            · have hz : O.length - (j + 1) = 0 := by omega
              have HZ : Hid _ := hz
              clear hz
              go_wp2_with (first | (at_builtin; refine wpList_push _ rfl _ _ rfl (w.heap.size + 2) _ _ rfl (hown2.alloc _) ⟨w2.heap.size, 0, none⟩ (num O j) rfl (by simp) hol (by simp; omega) ?_; intro v' w3 hown3 hb4) | fail)
              have hB4 : Below (w.heap.size + 2) w2 w3 := ((Below.refl _ w2).alloc (by omega) _).trans hb4
              have hRn : Rest bO O (j + 1) (.slice (some ⟨bO, off, none⟩) (O.length - (j + 1)) 0) off 0 w3 := ⟨by rw [HLM.out], by rw [HLM.out, HZ.out]; exact Nat.le_refl _, by omega, fun q hq => by rw [HLM.out, HZ.out] at hq; omega, hj⟩
              go_roundw
              case rel => exact ⟨j + 1, off, 0, ord ++ [num O j], hRn, hown3, HMg.out, hG2.below hB4⟩
              case measure => simp [lenOf]
            · go_wp2_with (first | (at_builtin; refine wpList_push _ rfl _ _ rfl (w.heap.size + 2) _ _ rfl (hown2.alloc _) ⟨w2.heap.size, 0, none⟩ (num O j) rfl (by simp) hol (by simp; omega) ?_; intro v' w3 hown3 hb4) | fail)
              have hB4 : Below (w.heap.size + 2) w2 w3 := ((Below.refl _ w2).alloc (by omega) _).trans hb4
              have hRn : Rest bO O (j + 1) (.slice (some ⟨bO, off + 1, none⟩) (O.length - (j + 1)) (cap - 1)) (off + 1) (cap - 1) w3 := ⟨by rw [HLM.out], by rw [HLM.out]; omega, by omega, hd1.below hB4 (fun b o e => by simp at e; omega), hj⟩
              go_roundw
              case rel => exact ⟨j + 1, off + 1, cap - 1, ord ++ [num O j], hRn, hown3, HMg.out, hG2.below hB4⟩
              case measure => simp [lenOf]
          | false =>
            have hns : suf l (num S k) (num O j) := by
              rcases lt_tri (l.drop (num O j)) (l.drop (num S k)) with d | d | d
              · exact absurd (hbb.2 d) (by simp)
              · have := congrArg List.length d
                rw [List.length_drop, List.length_drop] at this
                have := HmO.out; have := HMk.out; omega
              · exact d
            have HMg : Hid _ := hM.taken hlt (Merged.ahead HSO.out hj hns)
            clear hbb hM hns
            go_wp2_with (first | (at_builtin; refine wpList_push _ rfl _ _ rfl (w.heap.size + 2) _ _ rfl (hown2.alloc _) ⟨w2.heap.size, 0, none⟩ (num S k) rfl (by simp) hol (by simp; omega) ?_; intro v' w3 hown3 hb4) | fail)
            have hB4 : Below (w.heap.size + 2) w2 w3 := ((Below.refl _ w2).alloc (by omega) _).trans hb4
            have hRn : Rest bO O j (.slice (some ⟨bO, off, none⟩) (O.length - (j + 1) + 1) cap) off cap w3 := ⟨by rw [List.length_drop]; congr 1; omega, by rw [List.length_drop]; omega, by omega, by rw [drop_num hj]; exact hsl2.below hB4 (fun b o e => by simp at e; omega), by omega⟩
            go_roundw
            case rel => exact ⟨k + 1, j, off, cap, ord ++ [num S k], by omega, by go_num, hRn, hown3, HMg.out, hG2.below hB4⟩
            case measure => simp [intOf]; omega
        · have hjO : O.drop j = [] := List.drop_of_length_le (by omega)
          have HMg : Hid _ := hM.taken hlt (fun x hx => by rw [hjO] at hx; cases hx)
          have hsz2 : w.heap.size + 2 ≤ wr.heap.size := by have := hG.by'.lt; omega
          have hRest' := hRest
          have HRest' : Hid _ := hRest'
          obtain ⟨rfl, hle, hcap', hsl, hjle⟩ := hRest
          have HjO : Hid _ := hjO
          rw [hjO, List.length_nil]
          clear hM hRest' hjO
          go_wp2
          go_quiet (fail)
          have hown2 : World.ownsRow (wr.drewN nq) (w.heap.size + 2) 3 1 _ ord.length (IV ord) := hown
          go_wp2_with (first | (at_builtin; refine wpList_push _ rfl _ _ rfl (w.heap.size + 2) _ ord rfl (hown2.alloc _) ⟨wr.heap.size, 0, none⟩ (num S k) rfl (cell_new (wr.drewN nq) _ _) hol (by show w.heap.size + 2 ≤ ((wr.drewN nq).alloc _).heap.size; rw [World.size_alloc]; exact Nat.le_succ_of_le hsz2) ?_; intro v3 w3 hown3 hb3) | fail)
          have hB4 : Below (w.heap.size + 2) wr w3 := (((Below.refl (w.heap.size + 2) wr).drewN nq).alloc hsz2 _).trans hb3
          have hRn := HRest'.out.below hB4 (by omega)
          rw [HjO.out, List.length_nil] at hRn
          go_roundw
          case rel => exact ⟨k + 1, j, off, cap, ord ++ [num S k], by omega, by go_num, hRn, hown3, HMg.out, hG.below hB4⟩
          case measure => simp [intOf]; omega
    · have hkS : k = S.length := by omega
      subst hkS
      have hlen := hM0.len
      have HD : Hid _ := hM0.done HMS.out HMO.out
      obtain ⟨rfl, hle, hcap', hsl, hjle⟩ := hRest0
      have hsz2 : w.heap.size + 2 ≤ wr.heap.size := by have := hG0.by'.lt; omega
      have hll : ord0.length + (O.drop j0).length ≤ 1000000 := by rw [List.length_drop]; omega
      have HL : Hid _ := hlen
      clear hlen hM0
      obtain ⟨ys, hys⟩ : ∃ ys, ys = O.drop j0 := ⟨_, rfl⟩
      rw [← hys] at hle hsl hll HD ⊢
      clear hys
      go_wp2_with (first
        | (at_builtin; refine wpList_pushAll _ rfl (.tmp 47) (.tmp 48) rfl (w.heap.size + 2) _ ord0 rfl hown0 bO off0 cap0 ys rfl hsl hll hsz2 ?_; intro v3 w3 hown3 hb3)
        | fail)
      go_ret
      exact ⟨_, ord0 ++ ys, rfl, own_mono hown3 (by omega), HD.out, hG0.b.trans (hb3.mono (by omega))⟩
end Go.Proofs.YtepklbboejnecaaGreat

/- Thirds: the chosen places, sorted. -/
namespace Go.Proofs.YtepklbboejnecaaGreat
open Go.RowKit Go.Shelf Sedge
attribute [local go_sem ↓] Go.wp_at_zero Go.wp_at_succ

/-- 'append(s, t...)' of two lists of the call's own, as one operation. -/
theorem wp_pushOwn {o : Oper} {a : Act} {w : World} {K : Act → World → Prop} {Q : Exit → Act → World → Prop}
    (s x : Operand) (hop : o.op = Op.call { callee := Callee.builtin Builtin.append, args := #[s, x], argTypes := #[55, 55] })
    (base : Nat) (v : Value) (xs : List Nat) (hs : a.eval s = v) (hown : w.ownsRow base 3 1 v xs.length (IV xs))
    (base2 : Nat) (vy : Value) (ys : List Nat) (hx : a.eval x = vy) (hy : w.ownsRow base2 3 1 vy ys.length (IV ys)) (hlen : xs.length + ys.length ≤ 1000000) (hbase : base ≤ w.heap.size)
    (hK : ∀ v' w', w'.ownsRow base 3 1 v' (xs ++ ys).length (IV (xs ++ ys)) → Below base w w' → K (a.put o.dst v') w') :
    o.wp Tryz.prog a w K Q := by
  obtain ⟨i0, hi, hz0, hz1, hz2⟩ := info_parts Tryz.infoInt
  obtain ⟨ad, c, e, hS⟩ := own_sl hy
  cases ad with
  | none =>
    have h0 : ys = [] := by
      match ys, hS with
      | [], _ => rfl
      | y :: ys, hS => obtain ⟨b, o, e, _⟩ := hS 0 (by simp); cases e
    subst h0
    have e0 : vy = .slice none 0 0 := by
      rcases hy.2 with ⟨h1, _⟩ | ⟨g, cap, cur, h1, _⟩
      · exact h1
      · rw [h1] at e; simp at e
    have hrun := run_append_owned_none (P := Tryz.prog) (w := w) base 55 o.type 3 i0 1 Tryz.underlying55 hi v xs.length (IV xs) hown
    have := hK v w (by simpa using hown) (Below.refl _ _)
    unfold Oper.wp execOp
    simp only [hop, resolve, invoke, builtin, Sem.run_bind, Sem.run_pure, Result.andThen_ok, List.map_toArray, List.map_cons, List.map_nil, hs, hx, e0, hrun]
    exact this
  | some ad =>
    have had : ∃ b off, ad = ⟨b, off, none⟩ := by
      rcases hy.2 with ⟨h1, _⟩ | ⟨g, cap, cur, h1, _⟩
      · rw [h1] at e; simp at e
      · rw [h1] at e; simp at e; exact ⟨g, 0, e.1.symm⟩
    obtain ⟨b, off, rfl⟩ := had
    refine wp_append_own w s x 55 hop base 3 i0 (.int .i64 0) 1 8 Tryz.underlying55 hi hz0 hz1 hz2 rfl (by decide) v xs.length (IV xs) hs hown ⟨b, off, none⟩ ys.length c (IV ys) (hx.trans e) (by simp [IV]) ?_ ?_ ?_ ?_ hbase ?_
    · intro j u hj
      have hj' : j < ys.length := by have := (List.getElem?_eq_some_iff.1 hj).1; simpa [IV] using this
      obtain ⟨b', o', e, hc⟩ := hS j hj'
      simp only [Option.some.injEq, Addr.mk.injEq, and_true] at e
      obtain ⟨rfl, rfl⟩ := e
      rw [Addr.add_lit, hc]
      rw [← hj]; simp [IV, num, List.getD, hj']
    · intro u hu
      simp only [IV, List.mem_map] at hu
      obtain ⟨y, _, rfl⟩ := hu; rfl
    · unfold maxLen; omega
    · omega
    · intro v' w' h1 h2 _
      refine hK v' w' ?_ ((Below.refl base w).grown h2 hbase (fun k e => (hown.lt k e).1))
      have e : IV (xs ++ ys) = IV xs ++ IV ys := by simp [IV]
      rw [e, List.length_append]; exact h1
theorem step_pushOwn {ops : Array Oper} {o : Oper} {a : Act} {w : World} {K : Act → World → Prop} {Q : Exit → Act → World → Prop} {E : Prop} (hg : o.guard = none) (d : Option Tmp) (hd : o.dst = d)
    (s x : Operand) (hop : o.op = Op.call { callee := Callee.builtin Builtin.append, args := #[s, x], argTypes := #[55, 55] })
    (base : Nat) (v : Value) (xs : List Nat) (hs : a.eval s = v) (hown : w.ownsRow base 3 1 v xs.length (IV xs))
    (base2 : Nat) (vy : Value) (ys : List Nat) (hx : a.eval x = vy) (hy : w.ownsRow base2 3 1 vy ys.length (IV ys)) (hlen : xs.length + ys.length ≤ 1000000) (hbase : base ≤ w.heap.size)
    (hK : ∀ v' w', w'.ownsRow base 3 1 v' (xs ++ ys).length (IV (xs ++ ys)) → Below base w w' → K (a.put d v') w') :
    if Region.wanted o (yielded ops a.tmps) = true then Oper.wp Tryz.prog o a w K Q else E := by
  subst hd
  have hw : Region.wanted o (yielded ops a.tmps) = true := by simp [Region.wanted, hg]
  rw [if_pos hw]
  exact wp_pushOwn s x hop base v xs hs hown base2 vy ys hx hy hlen hbase hK

theorem ofC_le (n k : Nat) : (ofC n k).length ≤ n := by
  have := List.length_filter_le (fun p => (n - p) % 3 == k) (List.range n)
  rw [List.length_range] at this; exact this
theorem chosen_le {n : Nat} : (chosen n).length ≤ n := by
  have := (chosen_nodup n).length_le_of_subset (l₂ := List.range n) (fun p hp => List.mem_range.2 (mem_chosen.1 hp).1)
  rwa [List.length_range] at this
theorem chosen_less {n : Nat} (h : 3 ≤ n) : (chosen n).length < n := by
  have h1 : ((n - 3) :: chosen n).Nodup := List.nodup_cons.2 ⟨fun c => by have := mem_chosen.1 c; omega, chosen_nodup n⟩
  have := h1.length_le_of_subset (l₂ := List.range n) (fun p hp => by
    rcases List.mem_cons.1 hp with rfl | hp
    · exact List.mem_range.2 (by omega)
    · exact List.mem_range.2 (mem_chosen.1 hp).1)
  rw [List.length_range, List.length_cons] at this; omega

theorem kinds_full {sm : Nat → Nat → Bool} {o : List Nat} (h : ∀ i, i + 1 < o.length → sm (num o i) (num o (i + 1)) = false) : kindsOf sm o = o.length := by
  have k : ∀ i, i < o.length → nm sm o i = i := by
    intro i
    induction i with
    | zero => intro _; rfl
    | succ i ih => intro hi; rw [nm, ih (by omega), h i hi]; simp
  unfold kindsOf
  split
  · omega
  · rw [k _ (by omega)]; omega
theorem kinds_short {l s : List Nat} {sm : Nat → Nat → Bool} (hs : Sorted (kh l 3) sm s) (hm : ∀ p, p ∈ s ↔ p ∈ chosen l.length) (h : l.length < 3) : kindsOf sm s = s.length := by
  refine kinds_full fun i hi => ?_
  cases hb : sm (num s i) (num s (i + 1)) with
  | false => rfl
  | true =>
    have e := congrArg List.length ((hs.same i hi).1 hb)
    rw [kh_length, kh_length] at e
    have a := (mem_chosen.1 ((hm _).1 (num_mem (show i < s.length by omega)))).1
    have b := (mem_chosen.1 ((hm _).1 (num_mem hi))).1
    have ab : num s i = num s (i + 1) := by omega
    have x1 := idx_num hs.nd (show i < s.length by omega)
    have x2 := idx_num hs.nd hi
    rw [ab, x2] at x1
    omega

/-- So many deals, the least weighty first. -/
def dealt (l C : List Nat) (K : Nat) : Nat → List Nat
  | 0 => C
  | t + 1 => flat (Sedge.part (fun p => rk l (p + (2 - t))) (dealt l C K t)) K
theorem dealt_three (l C : List Nat) (K : Nat) : dealt l C K 3 = deals3 l C K := rfl
theorem dealt_mem {l C : List Nat} {K : Nat} (hK : ∀ p, rk l p < K) : ∀ t p, p ∈ dealt l C K t ↔ p ∈ C
  | 0, p => Iff.rfl
  | t + 1, p => by
    show p ∈ flat (Sedge.part (fun p => rk l (p + (2 - t))) (dealt l C K t)) K ↔ _
    rw [mem_flat_part (fun p _ => hK _), dealt_mem hK t p]
theorem flat_part_length {β : Nat → Nat} {l : List Nat} {K : Nat} (h : ∀ p, p ∈ l → β p < K) : (flat (Sedge.part β l) K).length = l.length := by
  have := ps_cnt (β := β) (l := l) (K := K) h
  rw [← this]
  exact flat_length K
end Go.Proofs.YtepklbboejnecaaGreat

/- Thirds: the chosen places, sorted: the walk. -/
namespace Go.Proofs.YtepklbboejnecaaGreat
open Go.RowKit Go.Shelf Sedge
attribute [local go_sem ↓] Go.wp_at_zero Go.wp_at_succ

/-- What 'sortedChosen' answers. -/
def Chose (l : List Nat) (w : World) (e : Ending) (w' : World) : Prop :=
  ∃ ad S c, e = .returned (.slice ad S.length c) ∧ Sl w' ad S ∧ S.Pairwise (suf l) ∧ (∀ p, p ∈ S ↔ p ∈ chosen l.length) ∧ S.length = (chosen l.length).length ∧ Below w.heap.size w w'

/-- One more than the number that a variable in memory holds. -/
def boxed (b : Value) (w : World) : Nat :=
  match b with
  | .pointer (some a) => (intOf ((w.cell? a).getD undef) + 1).toNat
  | _ => 0
theorem boxed_of {w : World} {bh : Nat} {i : Int} (h : Blk w bh 3 [.int .i64 i]) : boxed (.pointer (some ⟨bh, 0, none⟩)) w = (i + 1).toNat := by
  have e := cell1 h
  simp only [boxed, e]; rfl

/-- What holds at the head of the deals' loop. -/
structure DL (ad : Option Addr) (l : List Nat) (c kd : Nat) (vch : Value) (w wr : World) (t bh : Nat) (ad4 : Option Addr) : Prop where
  t3 : t ≤ 3
  sl : Sl wr ad4 (dealt l (chosen l.length) (kd + 1) t)
  len : (dealt l (chosen l.length) (kd + 1) t).length = (chosen l.length).length
  box : Blk wr bh 3 [.int .i64 ((2 : Int) - (t : Int))]
  held : Held3 ad l c w.heap.size (kd : Int) wr
  own : wr.ownsRow (w.heap.size + 1) 3 1 vch (chosen l.length).length (IV (chosen l.length))
  b : Below w.heap.size w wr

set_option maxRecDepth 20000 in
set_option maxHeartbeats 4000000 in
theorem sortedChosen_of (l : List Nat) (IH : ∀ l' : List Nat, l'.length < l.length → ∀ (ad : Option Addr) (c kd : Nat) (w : World), Sl w ad l' → (∀ p, p < l'.length → num l' p < kd) → kd ≤ 500000 → l'.length ≤ 90000 → Calls Tryz.prog 56 #[.agg #[.slice ad l'.length c, .int .i64 (kd : Int)]] w (Answers l' w))
    (ad : Option Addr) (c kd : Nat) (w : World) (hl : Sl w ad l) (hkd : ∀ p, p < l.length → num l p < kd) (hkm : kd ≤ 500000) (hn : l.length ≤ 90000) :
    Calls Tryz.prog 89 #[.agg #[.slice ad l.length c, .int .i64 (kd : Int)]] w (Chose l w) := by
  have hH : Held3 ad l c w.heap.size (kd : Int) (w.alloc (Obj.cells #[Value.slice ad l.length c, Value.int .i64 (kd : Int)] 122)) := ⟨hl.later ((Below.refl _ _).alloc (Nat.le_refl _) _), Blk.new w _ _ rfl⟩
  have hb0 : Below w.heap.size w (w.alloc (Obj.cells #[Value.slice ad l.length c, Value.int .i64 (kd : Int)] 122)) := (Below.refl _ _).alloc (Nat.le_refl _) _
  have hmf : ∀ (fn : Fn) (first cap : Array Value) (w : World), (Instr.makeFunc fn first cap).run Tryz.prog w = .ok (.func fn first cap) w := fun _ _ _ _ => rfl
  have hv : ∀ p, num l p ≤ 1000000 := fun p => by
    by_cases c : p < l.length
    · have := hkd p c; omega
    · simp [num, List.getD, Nat.not_lt.1 c]
  have hrk : ∀ p, rk l p < kd + 1 := fun p => by
    unfold rk; split
    · have := hkd p (by assumption); omega
    · omega
  have hchl := chosen_le (n := l.length)
  have HI : Hid _ := IH
  have HRK : Hid _ := hrk
  have HV : Hid _ := hv
  have HKD : Hid _ := hkd
  have l1 := ofC_le l.length 1
  have l2 := ofC_le l.length 2
  clear IH hrk hv hkd
  go_enter Tryz.func89, Tryz.ntmps89
  go_wp2_with fail
  generalize w.alloc (Obj.cells #[Value.slice ad l.length c, Value.int .i64 (kd : Int)] 122) = w1 at hH hb0 ⊢
  obtain ⟨hx0, hx1⟩ := cells2 hH.row
  have hlt0 := hH.row.lt
  have A1 : Below w1.heap.size w1 w1.drew := (Below.refl _ _).drew
  have HA1 : Hid _ := A1
  clear A1
  go_cut [3] (fun s wx => wx.ownsRow (w.heap.size + 1) 3 1 s (chosen l.length).length (IV (chosen l.length)) ∧ Held3 ad l c w.heap.size (kd : Int) wx ∧ Below w.heap.size w wx)
  case first =>
    go_region_held_law (fun w' => w'.cell? ⟨w.heap.size, 0, none⟩ = some (.slice ad l.length c) ∧ w'.cell? ⟨w.heap.size, 1, none⟩ = some (.int .i64 (kd : Int))) (go_keep)
      (first
        | (refine step_pushOwn rfl (some 12) rfl _ _ rfl (w.heap.size + 1) v2 (ofC l.length 1) rfl ho2 w2.heap.size v3 (ofC l.length 2) rfl ho3 (by omega) (by have := hH3.row.lt; omega) ?_; intro v4 w4 ho4 hb4; have hH4 : Held3 ad l c w.heap.size (kd : Int) w4 := ⟨hl.later ((Below.later hB2 hb3).trans (hb4.mono (by omega))), hH3.row.below hb4 (by omega)⟩; obtain ⟨hu0, hu1⟩ := cells2 hH4.row)
        | (go_at_call_of 116 (Value.int .i64 1); refine (ofClass_any ad l.length c 1 (kd : Int) w1.drew (by omega) (by omega)).mono ?_; rintro e w2 ⟨v2, rfl, ho2', hb2⟩; have hH2 := Held3.later (Held3.later hH HA1.out) hb2; obtain ⟨hy0, hy1⟩ := cells2 hH2.row; have hB2 := Below.later (Below.later hb0 HA1.out) hb2; have ho2a := own_mono ho2' (base' := w.heap.size + 1) hlt0)
        | (go_at_call_of 116 (Value.int .i64 2); refine (ofClass_any ad l.length c 2 (kd : Int) w2 (by omega) (by omega)).mono ?_; rintro e w3 ⟨v3, rfl, ho3, hb3⟩; have hH3 := Held3.later hH2 hb3; obtain ⟨hz0, hz1⟩ := cells2 hH3.row; have ho2 := own_later ho2a hb3))
    all_goals (have HO4 : Hid _ := ho4; clear ho4 ho3 ho2 ho2a ho2' l1 l2 hchl hmf)
    all_goals (go_wp2_with fail)
    all_goals go_meet
    all_goals exact ⟨HO4.out, hH4, (Below.later hB2 hb3).trans (hb4.mono (by omega))⟩
  case rest =>
  obtain ⟨hoc, hHc, hBc⟩ := hcut
  obtain ⟨adc, cc, rfl, hSc⟩ := own_sl hoc
  obtain ⟨hz0, hz1⟩ := cells2 hHc.row
  clear hx0 hx1 hlt0 HA1 hH hb0 l1 l2
  have hltc := hHc.row.lt
  go_wp2_with fail
  go_loopw [4, 5] (fun s b wr => ∃ (t bh : Nat) (ad4 : Option Addr) (c4 : Nat), s = .slice ad4 (chosen l.length).length c4 ∧ b = .pointer (some ⟨bh, 0, none⟩) ∧ DL ad l c kd (.slice adc (chosen l.length).length cc) w wr t bh ad4) (fun _ b wr => boxed b wr)
  case atStart =>
    refine ⟨0, wc.heap.size, adc, cc, rfl, rfl, by omega, hSc.alloc _, rfl, Blk.new wc _ _ rfl, ⟨hHc.sl.alloc _, hHc.row.alloc _⟩, hoc.alloc _, hBc.alloc hBc.size _⟩
  case round =>
    obtain ⟨t, bh, ad4, c4, rfl, rfl, hD⟩ := hrel
    clear hz0 hz1 hltc hHc hBc hSc hoc
    have hbx := cell1 hD.box
    obtain ⟨hx0, hx1⟩ := cells2 hD.held.row
    have ht3 := hD.t3
    have hsz := hD.held.row.lt
    by_cases hlt : t < 3
    · have ei : (2 : Int) - (t : Int) = ((2 - t : Nat) : Int) := by omega
      have hW : Wid ad l c w.heap.size bh (2 - t) (kd : Int) wr := ⟨hD.held.sl, hD.held.row, by rw [← ei]; exact hD.box⟩
      have hmem := dealt_mem (C := chosen l.length) HRK.out
      have CD := deal_any _ #[] _ _ _ _ (tells_third ad l c w.heap.size bh (2 - t) (kd : Int) HV.out (by omega) (by omega)) ad4 (dealt l (chosen l.length) (kd + 1) t) c4 (kd + 1) wr hD.sl (fun k hk => (mem_chosen.1 ((hmem t _).1 (num_mem hk))).1) (fun p _ => HRK.out _) hW (by rw [hD.len]; omega) (by omega)
      rw [hD.len] at CD
      have e1 : (((kd + 1 : Nat)) : Int) = (kd : Int) + 1 := by omega
      rw [e1] at CD
      have HCD : Hid _ := CD
      have i1 : (0 : Int) ≤ 2 - (t : Int) := by omega
      have v1 : IntKind.i64.wrap ((kd : Int) + 1) = (kd : Int) + 1 := by rw [IntKind.wrap_i64]; omega
      have v2 : IntKind.i64.wrap ((2 : Int) - (t : Int) - 1) = (2 : Int) - ((t + 1 : Nat) : Int) := by rw [IntKind.wrap_i64]; omega
      clear CD e1 ei hmem
      go_wp2_with fail
      refine Calls.mono HCD.out ?_
      rintro e w3 ⟨g3, rfl, hg3, hr3, hb3⟩
      have hbox3 := Blk.later hD.box hb3
      have hbx3 := cell1 hbox3
      clear hbx hx0 hx1
      go_wp2_with fail
      have hH3 := hD.held.later hb3
      have hnb : Blk (w3.alloc (Obj.cells #[Value.int .i64 (2 - ((t : Int) + 1))] 3)) w3.heap.size 3 [.int .i64 (2 - ((t : Int) + 1))] := Blk.new w3 _ _ rfl
      have hdl : (dealt l (chosen l.length) (kd + 1) (t + 1)).length = (chosen l.length).length := (flat_part_length (fun p _ => HRK.out _)).trans hD.len
      go_roundw
      case rel => exact ⟨t + 1, w3.heap.size, some ⟨g3, 0, none⟩, _, rfl, rfl, by omega, (Row.sl hr3).alloc _, hdl, hnb, ⟨hH3.sl.alloc _, hH3.row.alloc _⟩, (own_later hD.own hb3).alloc _, (Below.later hD.b hb3).alloc (by have := hb3.size; omega) _⟩
      case measure => rw [boxed_of hnb, boxed_of hD.box]; omega
    · have ht : t = 3 := by omega
      subst ht
      have hS4 := hD.sl
      have hlen4 := hD.len
      rw [dealt_three] at hS4 hlen4
      have hsrt : Sorted (kh l 3) (Sedge.three l) (deals3 l (chosen l.length) (kd + 1)) := deals3_sorted (chosen_nodup _)
      have hmem : ∀ p, p ∈ deals3 l (chosen l.length) (kd + 1) ↔ p ∈ chosen l.length := deals3_mem HRK.out
      obtain ⟨s4, hs4⟩ : ∃ s4, s4 = deals3 l (chosen l.length) (kd + 1) := ⟨_, rfl⟩
      rw [← hs4] at hS4 hlen4 hsrt hmem
      have hlt4 : ∀ k, k < s4.length → num s4 k < l.length := fun k hk => (mem_chosen.1 ((hmem _).1 (num_mem hk))).1
      have hne4 : ∀ k, k + 1 < s4.length → num s4 k ≠ num s4 (k + 1) := fun k hk e => by
        have x1 := idx_num hsrt.nd (show k < s4.length by omega)
        have x2 := idx_num hsrt.nd hk
        rw [e, x2] at x1; omega
      have CN := named_any _ #[] _ _ _ _ (tells_threes ad l c w.heap.size (kd : Int) HV.out (by omega)) ad4 s4 c4 l.length wr hS4 hsrt.nd hlt4 (fun k hk => ⟨hlt4 k (by omega), hlt4 _ hk, hne4 k hk⟩) hD.held (by omega) (by omega)
      rw [hlen4] at CN
      have HCN : Hid _ := CN
      have HS4 : Hid _ := hsrt
      have HM4 : Hid _ := hmem
      have HL4 : Hid _ := hlen4
      have i1 : ¬ (0 : Int) ≤ 2 - ((3 : Nat) : Int) := by omega
      clear CN hsrt hmem hs4 hlt4 hne4 hlen4
      go_wp2_with fail
      refine Calls.mono HCN.out ?_
      rintro e w3 ⟨g3, rfl, hg3, hr3, hb3⟩
      clear hbx hx0 hx1
      have hB3 := Below.later hD.b hb3
      have hoc3 := own_later hD.own hb3
      have hS43 := hS4.later hb3
      have hsz3 := hB3.size
      obtain ⟨kn, hkn⟩ : ∃ kn, kn = kindsOf (Sedge.three l) s4 := ⟨_, rfl⟩
      rw [← hkn]
      have HKN : Hid _ := hkn
      clear hkn HCN hS4
      by_cases hk : kn = (chosen l.length).length
      · have hk' : ((kn : Int) == ((chosen l.length).length : Int)) = true := by rw [beq_iff_eq]; omega
        have HK : Hid _ := hk
        clear hk
        go_wp2
        go_ret
        refine ⟨ad4, s4, c4, by rw [HL4.out]; rfl, hS43.alloc _, chosen_by_names HS4.out (by rw [← HKN.out, HK.out, HL4.out]), HM4.out, HL4.out, hB3.alloc hsz3 _⟩
      · have hk' : ((kn : Int) == ((chosen l.length).length : Int)) = false := by rw [beq_eq_false_iff_ne]; omega
        have HK : Hid _ := hk
        clear hk
        have hbn : Blk (w3.alloc (Obj.cells #[Value.slice (some ⟨g3, 0, none⟩) l.length l.length, Value.int .i64 (kn : Int)] 122)) w3.heap.size 122 [.slice (some ⟨g3, 0, none⟩) l.length l.length, .int .i64 (kn : Int)] := Blk.new w3 _ _ rfl
        have hrn := Blk.alloc hr3 (Obj.cells #[Value.slice (some ⟨g3, 0, none⟩) l.length l.length, Value.int .i64 (kn : Int)] 122)
        have hon := hoc3.alloc (Obj.cells #[Value.slice (some ⟨g3, 0, none⟩) l.length l.length, Value.int .i64 (kn : Int)] 122)
        have hBn := hB3.alloc hsz3 (Obj.cells #[Value.slice (some ⟨g3, 0, none⟩) l.length l.length, Value.int .i64 (kn : Int)] 122)
        clear hD hr3 hoc3 hS43
        go_wp2_with fail
        generalize w3.alloc (Obj.cells #[Value.slice (some ⟨g3, 0, none⟩) l.length l.length, Value.int .i64 (kn : Int)] 122) = w4 at hbn hrn hon hBn ⊢
        obtain ⟨n0, n1⟩ := cells2 hbn
        have A1 : Below w4.heap.size w4 w4.drew := (Below.refl _ _).drew
        have HA1 : Hid _ := A1
        have CP := fun W (hb : Below w4.heap.size w4 W) => pick_any (some ⟨g3, 0, none⟩) adc (tab l.length (nameOf (Sedge.three l) s4)) (chosen l.length) l.length cc W (Row.sl (Blk.later hrn hb)) (by obtain ⟨ad9, c9, e9, h9⟩ := own_sl (own_later hon hb); cases e9; exact h9) (fun k hk => by rw [tab_length]; exact (mem_chosen.1 (num_mem hk)).1) (by omega) (by rw [tab_length]; omega)
        simp only [tab_length] at CP
        have HCP : Hid _ := CP
        clear A1 CP
        go_cut [7] (fun x wx => ∃ b g5 : Nat, x = .pointer (some ⟨b, 0, none⟩) ∧ Blk wx b 122 [.slice (some ⟨g5, 0, none⟩) (chosen l.length).length (chosen l.length).length, .int .i64 (kn : Int)] ∧ Row wx g5 ((chosen l.length).map (num (tab l.length (nameOf (Sedge.three l) s4)))) ∧ Below w4.heap.size w4 wx)
        case first =>
          go_region_held3 (fun w' => w'.cell? ⟨w3.heap.size, 0, none⟩ = some (.slice (some ⟨g3, 0, none⟩) l.length l.length) ∧ w'.cell? ⟨w3.heap.size, 1, none⟩ = some (.int .i64 (kn : Int))) (go_keep)
            (first
              | (go_at_call 88; refine (HCP.out w4.drew HA1.out).mono ?_; rintro e w5 ⟨g5, rfl, hg5, hr5, hb5⟩; have hB5 := Below.later HA1.out hb5; obtain ⟨p0, p1⟩ := cells2 (Blk.later hbn hB5); have zA : w5 = w5 := rfl)
              | (go_at_call 88; refine (HCP.out (w4.drew.alloc (Obj.cells #[.slice none 0 0, .int .i64 0] 122)) (HA1.out.alloc (by simp) _)).mono ?_; rintro e w5 ⟨g5, rfl, hg5, hr5, hb5⟩; have hB5 := Below.later (HA1.out.alloc (by simp) _) hb5; obtain ⟨p0, p1⟩ := cells2 (Blk.later hbn hB5); have zA := Blk.later (Blk.new (n := w4.heap.size) w4.drew [.slice none 0 0, .int .i64 0] 122 rfl) hb5; obtain ⟨zA0, zA1⟩ := cells2 zA; have zf0 := Blk.free zA 0; have zf1 := Blk.free zA 1; have zl := Blk.lt zA; have q1 := hbn.lt; have q2 : ¬ w4.heap.size = w3.heap.size := (by omega); have q3 : ¬ w3.heap.size = w4.heap.size := (by omega)))
          all_goals (go_wp2_with fail)
          all_goals go_meet
          · exact ⟨_, g5, rfl, Blk.new w5 _ _ rfl, Blk.alloc hr5 _, hB5.alloc hB5.size _⟩
          · have hg6 : g5 ≠ w4.heap.size := by simp at hg5; omega
            exact ⟨_, g5, rfl, (zA.set 0 _).set 1 _, (Blk.other hr5 (a := ⟨w4.heap.size, 0, none⟩) hg6 _).other (a := ⟨w4.heap.size, 1, none⟩) hg6 _, (hB5.setCell (p := ⟨w4.heap.size, 0, none⟩) (Nat.le_refl _) _).setCell (p := ⟨w4.heap.size, 1, none⟩) (Nat.le_refl _) _⟩
        case rest =>
        obtain ⟨b, g5, rfl, hb5, hr5, hB5⟩ := hcut
        have hmap : (chosen l.length).map (num (tab l.length (nameOf (Sedge.three l) s4))) = (chosen l.length).map (nameOf (Sedge.three l) s4) := List.map_congr_left fun p hp => tab_num (mem_chosen.1 hp).1
        rw [hmap] at hr5
        have h3 : 3 ≤ l.length := by
          by_cases c : 3 ≤ l.length
          · exact c
          · have := kinds_short HS4.out HM4.out (by omega)
            rw [← HKN.out, HL4.out] at this
            exact absurd this HK.out
        have hlm : ((chosen l.length).map (nameOf (Sedge.three l) s4)).length = (chosen l.length).length := List.length_map _
        have C1 := HI.out ((chosen l.length).map (nameOf (Sedge.three l) s4)) (by rw [hlm]; exact chosen_less h3) (some ⟨g5, 0, none⟩) (chosen l.length).length kn wc (Row.sl hr5) (fun p hp => by
            rw [hlm] at hp
            have : num ((chosen l.length).map (nameOf (Sedge.three l) s4)) p = nameOf (Sedge.three l) s4 (num (chosen l.length) p) := by simp [num, List.getD, hp]
            rw [this, HKN.out]
            exact name_lt_kinds ((HM4.out _).2 (num_mem hp))) (by have := kinds_le (same := Sedge.three l) (o := s4); rw [← HKN.out, HL4.out] at this; omega) (by rw [hlm]; omega)
        rw [hlm] at C1
        have HC1 : Hid _ := C1
        have HLM : Hid _ := hlm
        obtain ⟨m0, m1⟩ := cells2 hb5
        have honc := own_later hon hB5
        have hBc := Below.later hBn hB5
        clear C1 hlm hmap n0 n1 hbn hrn hon hBn hB5 HA1 HCP
        go_wp2_with fail
        refine Calls.mono HC1.out ?_
        rintro e w6 ⟨v6, o6, rfl, ho6, hsa6, hb6⟩
        obtain ⟨ad6, c6, rfl, hS6⟩ := own_sl ho6
        obtain ⟨ad7, c7, e7, hS7⟩ := own_sl (own_later honc hb6)
        simp only [Value.slice.injEq, true_and] at e7
        obtain ⟨rfl, rfl⟩ := e7
        have C2 := pick_any adc ad6 (chosen l.length) o6 cc c6 w6 hS7 hS6 (fun k hk => by have := (hsa6.2 _).1 (num_mem hk); rw [HLM.out] at this; exact this) (by have := hsa6.length; rw [HLM.out] at this; omega) (by omega)
        have HC2 : Hid _ := C2
        have HSA : Hid _ := hsa6
        clear C2 hsa6 HC1 m0 m1 hb5 hr5
        go_wp2_with fail
        refine Calls.mono HC2.out ?_
        rintro e w8 ⟨g8, rfl, hg8, hr8, hb8⟩
        go_wp2
        go_ret
        have hch := chosen_by_row HS4.out HM4.out HSA.out
        refine ⟨_, _, _, by rw [List.length_map]; rfl, Row.sl hr8, hch.1, hch.2, by rw [List.length_map, IsSA.length HSA.out, HLM.out], Below.later (Below.later hBc hb6) hb8⟩
end Go.Proofs.YtepklbboejnecaaGreat

/- Thirds, whole. -/
namespace Go.Proofs.YtepklbboejnecaaGreat
open Go.RowKit Go.Shelf Sedge
attribute [local go_sem ↓] Go.wp_at_zero Go.wp_at_succ

theorem nameOf_lt {S : List Nat} {n : Nat} (h : S.length ≤ n) (p : Nat) : nameOf (fun _ _ => false) S p ≤ n := by
  unfold nameOf; split
  · rw [nm_false]; have := (idx_of_mem (by assumption)).1; omega
  · omega

set_option maxRecDepth 20000 in
set_option maxHeartbeats 4000000 in
theorem thirds_step (l : List Nat) (IH : ∀ l' : List Nat, l'.length < l.length → ∀ (ad : Option Addr) (c kd : Nat) (w : World), Sl w ad l' → (∀ p, p < l'.length → num l' p < kd) → kd ≤ 500000 → l'.length ≤ 90000 → Calls Tryz.prog 56 #[.agg #[.slice ad l'.length c, .int .i64 (kd : Int)]] w (Answers l' w))
    (ad : Option Addr) (c kd : Nat) (w : World) (hl : Sl w ad l) (hkd : ∀ p, p < l.length → num l p < kd) (hkm : kd ≤ 500000) (hn : l.length ≤ 90000) :
    Calls Tryz.prog 56 #[.agg #[.slice ad l.length c, .int .i64 (kd : Int)]] w (Answers l w) := by
  have hH : Held3 ad l c w.heap.size (kd : Int) (w.alloc (Obj.cells #[Value.slice ad l.length c, Value.int .i64 (kd : Int)] 122)) := ⟨hl.later ((Below.refl _ _).alloc (Nat.le_refl _) _), Blk.new w _ _ rfl⟩
  have hb0 : Below w.heap.size w (w.alloc (Obj.cells #[Value.slice ad l.length c, Value.int .i64 (kd : Int)] 122)) := (Below.refl _ _).alloc (Nat.le_refl _) _
  have hv : ∀ p, num l p ≤ 1000000 := fun p => by
    by_cases c : p < l.length
    · have := hkd p c; omega
    · simp [num, List.getD, Nat.not_lt.1 c]
  have hchl := chosen_le (n := l.length)
  have C1 := fun W (h : Sl W ad l) => sortedChosen_of l IH ad c kd W h hkd hkm hn
  have HC1 : Hid _ := C1
  have HKD : Hid _ := hkd
  have HV : Hid _ := hv
  clear C1 IH hkd hv
  go_enter Tryz.func56, Tryz.ntmps56
  go_wp2_with fail
  generalize w.alloc (Obj.cells #[Value.slice ad l.length c, Value.int .i64 (kd : Int)] 122) = w1 at hH hb0 ⊢
  refine Calls.mono (HC1.out w1 hH.sl) ?_
  rintro e w2 ⟨ad2, S, c2, rfl, hS2, sS, mS, lS, hb2⟩
  have hH2 := hH.later hb2
  have hB2 := Below.later hb0 hb2
  obtain ⟨hy0, hy1⟩ := cells2 hH2.row
  have hnd : S.Nodup := nodup_of_irr (fun _ => lt_irr _) sS
  have C2 := named_any _ #[] #[] _ _ _ tells_never ad2 S c2 l.length w2 hS2 hnd (fun k hk => (mem_chosen.1 ((mS _).1 (num_mem hk))).1) (fun _ _ => trivial) trivial (by omega) (by omega)
  have HC2 : Hid _ := C2
  have HS : Hid _ := sS
  have HM : Hid _ := mS
  have hlS : S.length ≤ l.length := by omega
  clear C2 HC1 sS mS lS hnd hH hb0
  go_wp2_with fail
  refine Calls.mono HC2.out ?_
  rintro e w3 ⟨g3, rfl, hg3, hr3, hb3⟩
  have hB3 := Below.later hB2 hb3
  have hH3 := hH2.later hb3
  have hS3 := hS2.later hb3
  have hsz3 := hB3.size
  obtain ⟨kr, hkr⟩ : ∃ kr : Int, kr = ((kindsOf (fun _ _ => false) S : Nat) : Int) := ⟨_, rfl⟩
  rw [← hkr]
  have hbn : Blk (w3.alloc (Obj.cells #[Value.slice (some ⟨g3, 0, none⟩) l.length l.length, Value.int .i64 kr] 122)) w3.heap.size 122 [.slice (some ⟨g3, 0, none⟩) l.length l.length, .int .i64 kr] := Blk.new w3 _ _ rfl
  have hrn : Row _ _ _ := Blk.alloc hr3 (Obj.cells #[Value.slice (some ⟨g3, 0, none⟩) l.length l.length, Value.int .i64 kr] 122)
  have hHn : Held3 ad l c w.heap.size (kd : Int) (w3.alloc (Obj.cells #[Value.slice (some ⟨g3, 0, none⟩) l.length l.length, Value.int .i64 kr] 122)) := ⟨hH3.sl.alloc _, hH3.row.alloc _⟩
  have hSn := hS3.alloc (Obj.cells #[Value.slice (some ⟨g3, 0, none⟩) l.length l.length, Value.int .i64 kr] 122)
  have hBn := hB3.alloc hsz3 (Obj.cells #[Value.slice (some ⟨g3, 0, none⟩) l.length l.length, Value.int .i64 kr] 122)
  clear HC2 hkr hS2 hb2 hH2 hB2 hy0 hy1 hr3 hb3 hH3 hS3
  go_wp2_with fail
  generalize w3.alloc (Obj.cells #[Value.slice (some ⟨g3, 0, none⟩) l.length l.length, Value.int .i64 kr] 122) = w4 at hbn hrn hHn hSn hBn ⊢
  obtain ⟨r, hr⟩ : ∃ r, r = tab l.length (nameOf (fun _ _ => false) S) := ⟨_, rfl⟩
  rw [← hr] at hrn
  have hrl : r.length = l.length := by rw [hr]; exact tab_length _ _
  have hR : RankOf l r := by rw [hr]; exact rankOf_names HS.out HM.out
  have hvr : ∀ p, num r p ≤ 1000000 := fun p => by
    by_cases cc : p < l.length
    · rw [hr, tab_num cc]; have := nameOf_lt (S := S) hlS p; omega
    · simp [num, List.getD, show r.length ≤ p by omega]
  have hO := others_sorted HS.out HM.out HKD.out
  have hOl : (flat (Sedge.part (num l) (othersOf l.length S)) kd).length = (othersOf l.length S).length := flat_part_length (fun p hp => HKD.out p ((others_mem HM.out p).1 hp).1)
  have hol := othersOf_length l.length S
  have CO := fun W (h1 : Sl W ad l) (h2 : Sl W ad2 S) => sortedOthers_any ad ad2 l S c c2 kd W h1 h2 (fun p hp => (mem_chosen.1 ((HM.out p).1 hp)).1) (by omega) (by omega) HKD.out hkm
  rw [← hOl] at hol
  simp only [← hOl] at CO
  obtain ⟨O, hOe⟩ : ∃ O, O = flat (Sedge.part (num l) (othersOf l.length S)) kd := ⟨_, rfl⟩
  rw [← hOe] at hO hol CO
  have CM := fun W (g : Nat) h1 h2 (h3 : Sl W (some ⟨g, 0, none⟩) O) h4 h5 => merged_any ad ad2 (some ⟨g3, 0, none⟩) l S O r c c2 l.length g (kd : Int) kr W h1 h2 h3 h4 h5 (by omega) HV.out hvr hR HS.out HM.out hO.1 hO.2 (by omega) (by omega)
  rw [hrl] at CM
  have HCO : Hid _ := CO
  have HCM : Hid _ := CM
  obtain ⟨x0, x1⟩ := cells2 hHn.row
  obtain ⟨n0, n1⟩ := cells2 hbn
  have A1 : Below w4.heap.size w4 w4.drew := (Below.refl _ _).drew
  have HA1 : Hid _ := A1
  clear A1 CO CM hrl hR hvr hO hOl hr hOe
  go_region_held3 (fun w' => w'.cell? ⟨w.heap.size, 0, none⟩ = some (.slice ad l.length c) ∧ w'.cell? ⟨w.heap.size, 1, none⟩ = some (.int .i64 (kd : Int)) ∧ w'.cell? ⟨w3.heap.size, 0, none⟩ = some (.slice (some ⟨g3, 0, none⟩) l.length l.length) ∧ w'.cell? ⟨w3.heap.size, 1, none⟩ = some (.int .i64 kr)) (go_keep)
    (first
      | (go_at_call 92; refine (HCO.out _ (hHn.sl.later HA1.out) (hSn.later HA1.out)).mono ?_; rintro e w5 ⟨g5, rfl, hg5, hr5, hb5⟩; have hB5 := Below.later HA1.out hb5; have hH5 := hHn.later hB5; have hr5' : Row w5 g5 O := hr5; obtain ⟨x4, x5⟩ := cells2 hH5.row; obtain ⟨n4, n5⟩ := cells2 (Blk.later hbn hB5))
      | (go_at_call 91; refine (HCM.out w5 g5 hH5.sl (hSn.later hB5) (Row.sl hr5') (Blk.lt hr5') (Row.sl (Blk.later hrn hB5))).mono ?_; rintro e w6 ⟨v6, o6, rfl, ho6, hsa6, hb6⟩; have hH6 := hH5.later hb6; obtain ⟨x6, x7⟩ := cells2 hH6.row; obtain ⟨n6, n7⟩ := cells2 (Blk.later (Blk.later hbn hB5) hb6)))
  go_wp2
  go_ret
  have hBw5 := Below.later hBn hB5
  exact ⟨_, o6, rfl, own_mono ho6 hBw5.size, hsa6, Below.later hBw5 hb6⟩

/-- 'Thirds': whatever the text. -/
theorem thirds_any : ∀ (m : Nat) (l : List Nat), l.length = m → ∀ (ad : Option Addr) (c kd : Nat) (w : World), Sl w ad l → (∀ p, p < l.length → num l p < kd) → kd ≤ 500000 → l.length ≤ 90000 →
    Calls Tryz.prog 56 #[.agg #[.slice ad l.length c, .int .i64 (kd : Int)]] w (Answers l w) := by
  intro m
  induction m using Nat.strongRecOn with
  | _ m ih =>
    intro l hm ad c kd w hl hkd hkm hn
    exact thirds_step l (fun l' hl' ad c kd w a b d e => ih l'.length (by omega) l' rfl ad c kd w a b d e) ad c kd w hl hkd hkm hn
end Go.Proofs.YtepklbboejnecaaGreat

/- Doubling, whole. -/
namespace Go.Proofs.YtepklbboejnecaaGreat
open Go.RowKit Go.Shelf Sedge
attribute [local go_sem ↓] Go.wp_at_zero Go.wp_at_succ

/-- What the closures over a row ask of the world. -/
structure Held1 (ad : Option Addr) (l : List Nat) (c br : Nat) (kinds : Int) (W : World) : Prop where
  sl : Sl W ad l
  row : Blk W br 122 [.slice ad l.length c, .int .i64 kinds]
theorem Held1.later {ad : Option Addr} {l : List Nat} {c br : Nat} {kinds : Int} {w w' : World} (H : Held1 ad l c br kinds w) (hb : Below w.heap.size w w') : Held1 ad l c br kinds w' := ⟨H.sl.later hb, H.row.later hb⟩

set_option maxHeartbeats 1000000 in
theorem tells_first (ad : Option Addr) (l : List Nat) (c br : Nat) (kinds : Int) :
    Tells 78 #[] #[.pointer (some ⟨br, 0, none⟩)] (Held1 ad l c br kinds) (num l) l.length where
  enter := enters_of Tryz.func78 (by kernel_rfl) rfl
  keep w w' H hb := H.later hb
  run p w H hp := by
    obtain ⟨hx0, hx1⟩ := cells2 H.row
    obtain ⟨b, o1, rfl, hc⟩ := H.sl p hp
    have i1 : (0 : Int) ≤ (p : Int) := by omega
    have i2 : (p : Int) < (l.length : Int) := by omega
    clear H
    go_enter Tryz.func78, Tryz.ntmps78
    go_wp2
    go_ret
    exact ⟨rfl, Below.refl _ _⟩

set_option maxHeartbeats 1000000 in
theorem tells_first2 (ad : Option Addr) (l : List Nat) (c br : Nat) (kinds : Int) :
    Tells2 80 #[] #[.pointer (some ⟨br, 0, none⟩)] (Held1 ad l c br kinds) (fun p q => p < l.length ∧ q < l.length) (fun a b => decide (num l a = num l b)) where
  enter := enters_of Tryz.func80 (by kernel_rfl) rfl
  keep w w' H hb := H.later hb
  run p q w H hp := by
    obtain ⟨hp, hq⟩ := hp
    obtain ⟨hx0, hx1⟩ := cells2 H.row
    obtain ⟨b, o1, rfl, hc⟩ := H.sl p hp
    obtain ⟨b', o1', e', hc'⟩ := H.sl q hq
    simp only [Option.some.injEq, Addr.mk.injEq, and_true] at e'
    obtain ⟨rfl, rfl⟩ := e'
    have i1 : (0 : Int) ≤ (p : Int) := by omega
    have i2 : (p : Int) < (l.length : Int) := by omega
    have i3 : (0 : Int) ≤ (q : Int) := by omega
    have i4 : (q : Int) < (l.length : Int) := by omega
    clear H
    go_enter Tryz.func80, Tryz.ntmps80
    go_wp2
    go_quiet (fail)
    go_wp2
    go_ret
    refine ⟨?_, (Below.refl _ _).drewN _⟩
    congr 2
    by_cases e : num l p = num l q <;> simp [e] <;> omega

/-- Where the doubling stands: order o in block g, ranks in block gr, both by h numbers; the ranks' variable is block rb. -/
structure Dbl (l : List Nat) (w : World) (rb : Nat) (h g : Nat) (wr : World) : Prop where
  pos : 0 < h
  le : h ≤ 2 * l.length + 1
  below : Below w.heap.size w wr
  own : w.heap.size ≤ g
  get : ∃ (sm : Nat → Nat → Bool) (o : List Nat) (gr : Nat), ByH l h sm o ∧ Row wr g o ∧ Blk wr rb 122 [.slice (some ⟨gr, 0, none⟩) l.length l.length, .int .i64 (kindsOf sm o)] ∧ Row wr gr (tab l.length (nameOf sm o))

set_option maxHeartbeats 4000000 in
theorem doubling_any (l : List Nat) (ad : Option Addr) (c kd : Nat) (w : World) (hl : Sl w ad l) (hkd : ∀ p, p < l.length → num l p < kd) (hkm : kd ≤ 500000) (hn : l.length ≤ 90000) :
    Calls Tryz.prog 54 #[.agg #[.slice ad l.length c, .int .i64 (kd : Int)]] w (Answers l w) := by
  have hH : Held1 ad l c w.heap.size (kd : Int) (w.alloc (Obj.cells #[Value.slice ad l.length c, Value.int .i64 (kd : Int)] 122)) := ⟨hl.later ((Below.refl _ _).alloc (Nat.le_refl _) _), Blk.new w _ _ rfl⟩
  have hb0 : Below w.heap.size w (w.alloc (Obj.cells #[Value.slice ad l.length c, Value.int .i64 (kd : Int)] 122)) := (Below.refl _ _).alloc (Nat.le_refl _) _
  have hmf : ∀ (fn : Fn) (first cap : Array Value) (w : World), (Instr.makeFunc fn first cap).run Tryz.prog w = .ok (.func fn first cap) w := fun _ _ _ _ => rfl
  have CD := fun (W : World) (g : Nat) (hr : Row W g (List.range l.length)) hI => deal_any _ #[] _ _ _ _ (tells_first ad l c w.heap.size (kd : Int)) (some ⟨g, 0, none⟩) (List.range l.length) l.length kd W (Row.sl hr) (fun k hk => by rw [num_eq hk]; simpa using hk) hkd hI (by rw [List.length_range]; omega) (by omega)
  rw [List.length_range] at CD
  have HD : Hid _ := CD
  clear CD
  go_enter Tryz.func54, Tryz.ntmps54
  go_wp2_with fail
  generalize w.alloc (Obj.cells #[Value.slice ad l.length c, Value.int .i64 (kd : Int)] 122) = w1 at hH hb0 ⊢
  obtain ⟨hx0, hx1⟩ := cells2 hH.row
  have hlt0 := hH.row.lt
  have A1 : Below w1.heap.size w1 w1.drew := (Below.refl _ _).drew
  have HA1 : Hid _ := A1
  clear A1
  go_cut [4] (fun s wx => ∃ g3 : Nat, s = .slice (some ⟨g3, 0, none⟩) l.length l.length ∧ w.heap.size ≤ g3 ∧ Row wx g3 (flat (Sedge.part (num l) (List.range l.length)) kd) ∧ Held1 ad l c w.heap.size (kd : Int) wx ∧ Below w.heap.size w wx)
  case first =>
    go_region_held3 (fun w' => w'.cell? ⟨w.heap.size, 0, none⟩ = some (.slice ad l.length c) ∧ w'.cell? ⟨w.heap.size, 1, none⟩ = some (.int .i64 (kd : Int))) (go_keep)
      (first
        | (go_at_call 77; refine (upTo_any l.length _ (by omega)).mono ?_; rintro e w2 ⟨g2, rfl, hg2, hr2, hb2⟩; have hH2 := Held1.later (Held1.later hH HA1.out) hb2; obtain ⟨hy0, hy1⟩ := cells2 hH2.row)
        | (go_at_call 76; refine (HD.out w2 g2 hr2 hH2).mono ?_; rintro e w3 ⟨g3, rfl, hg3, hr3, hb3⟩; have hH3 := Held1.later hH2 hb3; obtain ⟨hz0, hz1⟩ := cells2 hH3.row))
    all_goals (go_wp2_with fail)
    all_goals go_meet
    all_goals exact ⟨g3, rfl, (by have := (Below.later (Below.later hb0 HA1.out) hb2).size; omega), hr3, hH3, Below.later (Below.later (Below.later hb0 HA1.out) hb2) hb3⟩
  case rest =>
  obtain ⟨g3, rfl, hg3, hr3, hH3, hB3⟩ := hcut
  obtain ⟨hz0, hz1⟩ := cells2 hH3.row
  have B1 := byH_one hkd
  obtain ⟨o3, ho3⟩ : ∃ o3, o3 = flat (Sedge.part (num l) (List.range l.length)) kd := ⟨_, rfl⟩
  rw [← ho3] at B1 hr3
  have hlen3 := B1.length
  have HL3 : Hid (o3.length = l.length) := hlen3
  have CN := named_any _ #[] _ _ _ _ (tells_first2 ad l c w.heap.size (kd : Int)) (some ⟨g3, 0, none⟩) o3 l.length l.length wc (Row.sl hr3) B1.srt.nd (fun k hk => (B1.mem _).1 (num_mem hk)) (fun k hk => ⟨(B1.mem _).1 (num_mem (by omega)), (B1.mem _).1 (num_mem hk)⟩) hH3 (by omega) (by omega)
  rw [hlen3] at CN
  have HCN : Hid _ := CN
  clear CN hlen3 ho3 hx0 hx1 hH HD hb0 HA1
  go_wp2_with fail
  refine Calls.mono HCN.out ?_
  rintro e w4 ⟨g4, rfl, hg4, hr4, hb4⟩
  have hB4 := Below.later hB3 hb4
  have hr34 : Row w4 g3 o3 := Blk.later hr3 hb4
  have hs4 := hB4.size
  clear HCN hz0 hz1 hr3 hb4 hB3 hH3
  go_wp2_with fail
  go_loopw [4, 6] (fun s d wr => ∃ h g : Nat, s = .slice (some ⟨g, 0, none⟩) l.length l.length ∧ d = .int .i64 (h : Int) ∧ Dbl l w w4.heap.size h g wr) (fun _ d _ => 2 * l.length + 1 - (intOf d).toNat)
  case atStart =>
    refine ⟨1, g3, rfl, rfl, by omega, by omega, hB4.alloc hB4.size _, hg3, _, o3, g4, B1, Blk.alloc hr34 _, ?_, Blk.alloc hr4 _⟩
    exact Blk.new w4 _ _ rfl
  case round =>
    obtain ⟨h, g, rfl, rfl, hD⟩ := hrel
    obtain ⟨hpos, hle, hb, hg, sm, o, gr, B, hro, hbx, hrr⟩ := hD
    have hlen := B.length
    have hkl : kindsOf sm o ≤ l.length := by rw [← hlen]; exact kinds_le
    obtain ⟨hx0, hx1⟩ := cells2 hbx
    clear hr34 hr4 B1 HL3 hB4 hg3 hg4
    by_cases hk : kindsOf sm o < l.length
    · have hk' : ((kindsOf sm o : Nat) : Int) < (l.length : Int) := by omega
      have hhn : h < l.length := by
        by_cases c : h < l.length
        · exact c
        · have := B.full (by omega); omega
      have hrL : (tab l.length (nameOf sm o)).length = l.length := tab_length _ _
      have R : Ranks l h (tab l.length (nameOf sm o)) := B.ranks
      have hname : ∀ p, p < l.length → num (tab l.length (nameOf sm o)) p < kindsOf sm o := fun p hp => by
        rw [tab_num hp]; exact name_lt_kinds ((B.mem p).2 hp)
      have B2 := R.step hpos (K := kindsOf sm o + 1) (fun p => by
        unfold rk; split
        · have := hname p (by rw [hrL] at *; assumption); omega
        · omega) B
      have C1 := sortedByHalves_any (some ⟨gr, 0, none⟩) (some ⟨g, 0, none⟩) (tab l.length (nameOf sm o)) o l.length l.length h (kindsOf sm o) wr (Row.sl hrr) (Row.sl hro) (fun p hp => by rw [hrL]; exact (B.mem p).1 hp) (by rw [hrL]; omega) (by omega) (fun p hp => hname p (by rw [hrL] at hp; exact hp)) (by omega) (by omega)
      obtain ⟨r, hr⟩ : ∃ r, r = tab l.length (nameOf sm o) := ⟨_, rfl⟩
      rw [← hr] at R B2 C1 hrL hrr hname
      obtain ⟨o2, ho2⟩ : ∃ o2, o2 = flat (Sedge.part (fun p => rk r p) (flat (Sedge.part (fun p => rk r (p + h)) o) (kindsOf sm o + 1))) (kindsOf sm o + 1) := ⟨_, rfl⟩
      rw [← ho2] at B2 C1
      rw [hrL, hlen] at C1
      have HC1 : Hid _ := C1
      have HRL : Hid _ := hrL
      clear C1 hr ho2 hlen
      go_wp2_with fail
      refine Calls.mono HC1.out ?_
      rintro e w5 ⟨g5, rfl, hg5, hr5, hb5⟩
      have hbx5 := hbx.later hb5
      have hrr5 : Row w5 gr r := Blk.later hrr hb5
      have hlt5 := hbx.lt
      have hB5 := Below.later hb hb5
      have hs5 := hb.size
      have hlen2 := B2.length
      have C2 := doubled_any (some ⟨gr, 0, none⟩) (some ⟨g5, 0, none⟩) r o2 l.length l.length h (kindsOf sm o) w5 (Row.sl hrr5) (Row.sl hr5) B2.srt.nd (fun p hp => by rw [HRL.out]; exact (B2.mem p).1 hp) (by rw [HRL.out]; omega) (by omega) (fun p => by
        by_cases hp : p < l.length
        · have := hname p hp; omega
        · have : r.length ≤ p := by rw [HRL.out]; omega
          simp [num, List.getD, List.getElem?_eq_none this]) (by omega)
      rw [HRL.out, hlen2] at C2
      have HC2 : Hid _ := C2
      have HL2 : Hid _ := hlen2
      obtain ⟨hy0, hy1⟩ := cells2 hbx5
      clear C2 HC1 hlen2 hx0 hx1 hbx hrr hro hb hb5
      go_wp2_with fail
      refine Calls.mono HC2.out ?_
      rintro e w6 ⟨g6, rfl, hg6, hr6, hb6⟩
      have hbx6 := hbx5.later hb6
      have hr56 : Row w6 g5 o2 := Blk.later hr5 hb6
      have hB6 := Below.later hB5 hb6
      have hs6 := hb6.size
      have hlt6 := hbx5.lt
      have hs7 := hB5.size
      obtain ⟨hz0, hz1⟩ := cells2 hbx6
      have hf0 := Blk.free hbx6 0
      have hf1 := Blk.free hbx6 1
      have wh : IntKind.i64.wrap ((h : Int) * 2) = ((h + h : Nat) : Int) := by rw [IntKind.wrap_i64]; omega
      clear HC2 hy0 hy1 hbx5 hrr5 hr5 hb6 hB5
      go_wp2
      go_roundw
      case rel =>
        refine ⟨h + h, g5, rfl, rfl, by omega, by omega, ?_, by omega, two r h, o2, g6, B2, ?_, ?_, ?_⟩
        · exact (hB6.setCell (p := ⟨w4.heap.size, 0, none⟩) hs4 _).setCell (p := ⟨w4.heap.size, 1, none⟩) hs4 _
        · exact Blk.other (Blk.other hr56 (by simp; omega) _) (by simp; omega) _
        · have := (hbx6.set 0 (.slice (some ⟨g6, 0, none⟩) l.length l.length)).set 1 (.int .i64 (kindsOf (two r h) o2))
          simpa using this
        · exact Blk.other (Blk.other hr6 (by simp; omega) _) (by simp; omega) _
      case measure => simp [intOf]; omega
    · have hk' : (l.length : Int) ≤ ((kindsOf sm o : Nat) : Int) := by omega
      have hfin := B.done (by omega)
      have hown := Row.own hro hg (by rw [hlen]; unfold maxLen; omega)
      rw [hlen] at hown
      have HO : Hid _ := hown
      have HL : Hid _ := hlen
      have HF : Hid _ := hfin
      clear hlen hown hfin
      go_wp2
      go_ret
      refine ⟨_, o, rfl, ?_, HF.out, hb⟩
      rw [HL.out]; exact HO.out
end Go.Proofs.YtepklbboejnecaaGreat

/- Sort by doubling; the example. -/
namespace Go.Proofs.YtepklbboejnecaaGreat
open Go.RowKit Go.Shelf Sedge
attribute [local go_sem ↓] Go.wp_at_zero Go.wp_at_succ

/-- What Sort answers where nothing is wrong. -/
def Sorts (s : ByteArray) (w : World) (e : Ending) (w' : World) : Prop :=
  ∃ v o, e = .returned (.tuple #[v, .int .i64 0]) ∧ w'.ownsRow w.heap.size 3 1 v o.length (IV o) ∧ IsSA (bl s) o ∧ Below w.heap.size w w'

set_option maxHeartbeats 4000000 in
theorem sort0_any (s : ByteArray) (w : World) (hs : s.size ≤ 1000) : Calls Tryz.prog 38 #[.string s, .int .i64 0] w (Sorts s w) := by
  have hen : ∀ args w, Sem.run Tryz.prog (callFunc 54 args) w = .ok (.enter 54 args) w := enters_of Tryz.func54 (by kernel_rfl) rfl
  have i1 : (s.size : Int) ≤ 1000 := by omega
  go_enter Tryz.func38, Tryz.ntmps38
  have hbx : Blk (w.alloc (Obj.cells #[.func (.func 54) #[] #[], .func (.func 55) #[] #[], .func (.func 56) #[] #[]] 123)) w.heap.size 123 [.func (.func 54) #[] #[], .func (.func 55) #[] #[], .func (.func 56) #[] #[]] := Blk.new w _ _ rfl
  have hb0 : Below w.heap.size w (w.alloc (Obj.cells #[.func (.func 54) #[] #[], .func (.func 55) #[] #[], .func (.func 56) #[] #[]] 123)) := (Below.refl _ _).alloc (Nat.le_refl _) _
  go_wp2_with fail
  generalize w.alloc (Obj.cells #[.func (.func 54) #[] #[], .func (.func 55) #[] #[], .func (.func 56) #[] #[]] 123) = w1 at hbx hb0 ⊢
  obtain ⟨hx0, hx1, hx2⟩ := cells3 hbx
  have CI := fun (W : World) (g1 : Nat) (hr1 : Row W g1 (bl s)) => doubling_any (bl s) (some ⟨g1, 0, none⟩) s.size 256 W (Row.sl hr1) (fun p _ => bl_lt s p) (by omega) (by rw [bl_length]; omega)
  rw [bl_length, show (((256 : Nat)) : Int) = 256 from rfl] at CI
  have HCI : Hid _ := CI
  have A1 : Below w1.heap.size w1 w1.drew := (Below.refl _ _).drew
  have HA1 : Hid _ := A1
  clear A1 CI
  go_region_held3 (fun w' => w'.cell? ⟨w.heap.size, 0, none⟩ = some (.func (.func 54) #[] #[])) (go_keep)
    (first
      | (go_at_call 57; refine (endsOf_any s _ (by omega)).mono ?_; rintro e w2 ⟨g2, rfl, hg2, hr2, hb2⟩; have hbx2 := Blk.later (Blk.later hbx HA1.out) hb2; obtain ⟨hy0, hy1, hy2⟩ := cells3 hbx2)
      | (go_at_call 54; refine (HCI.out w2 g2 hr2).mono ?_; rintro e w3 ⟨v3, o3, rfl, hown3, hsa3, hb3⟩; have hbx3 := Blk.later hbx2 hb3; obtain ⟨hz0, hz1, hz2⟩ := cells3 hbx3))
  have hs2 := (Below.later (Below.later hb0 HA1.out) hb2).size
  clear hx0 hx1 hx2 hy0 hy1 hy2 hz0 hz1 hz2 hen HCI
  go_wp2
  go_ret2
  exact ⟨v3, o3, rfl, own_mono hown3 hs2, hsa3, Below.later (Below.later (Below.later hb0 HA1.out) hb2) hb3⟩

theorem banana_SA : IsSA (bl ⟨#[98, 97, 110, 97, 110, 97]⟩) [5, 3, 1, 0, 4, 2] := by
  have e : bl ⟨#[98, 97, 110, 97, 110, 97]⟩ = [98, 97, 110, 97, 110, 97] := by simp [bl]
  rw [e]
  refine ⟨?_, fun p => ?_⟩
  · unfold suf; decide
  · simp; omega

set_option maxHeartbeats 4000000 in
/-- 'awake'. -/
theorem awake_any (w : World) : Calls Tryz.prog 10 #[] w fun e w' => e = .returned (.bool true) ∧ Below w.heap.size w w' := by
  go_enter Tryz.func10, Tryz.ntmps10
  go_wp2_with fail
  refine (sort0_any _ _ (by decide)).mono ?_
  rintro e w1 ⟨v, o, rfl, hown, hsa, hb⟩
  have he := hsa.unique banana_SA
  subst he
  obtain ⟨ad, c, rfl, hS⟩ := own_sl hown
  obtain ⟨b, o1, rfl, hc0⟩ := hS 0 (by simp)
  have g := fun k (hk : k < 6) => hS k (by simpa using hk)
  have cl : ∀ k, k < 6 → w1.cell? ⟨b, o1 + k, none⟩ = some (.int .i64 (num [5, 3, 1, 0, 4, 2] k)) := fun k hk => by
    obtain ⟨b', o1', e', h⟩ := g k hk
    simp only [Option.some.injEq, Addr.mk.injEq, and_true] at e'
    obtain ⟨rfl, rfl⟩ := e'
    exact h
  have c0 : w1.cell? ⟨b, o1, none⟩ = some (.int .i64 5) := cl 0 (by omega)
  have c1 : w1.cell? ⟨b, o1 + 1, none⟩ = some (.int .i64 3) := cl 1 (by omega)
  have c2 : w1.cell? ⟨b, o1 + 2, none⟩ = some (.int .i64 1) := cl 2 (by omega)
  have c3 : w1.cell? ⟨b, o1 + 3, none⟩ = some (.int .i64 0) := cl 3 (by omega)
  have c4 : w1.cell? ⟨b, o1 + 4, none⟩ = some (.int .i64 4) := cl 4 (by omega)
  have c5 : w1.cell? ⟨b, o1 + 5, none⟩ = some (.int .i64 2) := cl 5 (by omega)
  clear hc0 g cl hS hown hsa
  go_wp2
  go_ret
  exact ⟨rfl, hb⟩
end Go.Proofs.YtepklbboejnecaaGreat

/- Sort: by inducing; what it refuses. -/
namespace Go.Proofs.YtepklbboejnecaaGreat
open Go.RowKit Go.Shelf Sedge
attribute [local go_sem ↓] Go.wp_at_zero Go.wp_at_succ

set_option maxHeartbeats 4000000 in
theorem sort1_any (s : ByteArray) (w : World) (hs : s.size ≤ 1000) : Calls Tryz.prog 38 #[.string s, .int .i64 1] w (Sorts s w) := by
  have hen : ∀ args w, Sem.run Tryz.prog (callFunc 55 args) w = .ok (.enter 55 args) w := enters_of Tryz.func55 (by kernel_rfl) rfl
  have i1 : (s.size : Int) ≤ 1000 := by omega
  go_enter Tryz.func38, Tryz.ntmps38
  have hbx : Blk (w.alloc (Obj.cells #[.func (.func 54) #[] #[], .func (.func 55) #[] #[], .func (.func 56) #[] #[]] 123)) w.heap.size 123 [.func (.func 54) #[] #[], .func (.func 55) #[] #[], .func (.func 56) #[] #[]] := Blk.new w _ _ rfl
  have hb0 : Below w.heap.size w (w.alloc (Obj.cells #[.func (.func 54) #[] #[], .func (.func 55) #[] #[], .func (.func 56) #[] #[]] 123)) := (Below.refl _ _).alloc (Nat.le_refl _) _
  go_wp2_with fail
  generalize w.alloc (Obj.cells #[.func (.func 54) #[] #[], .func (.func 55) #[] #[], .func (.func 56) #[] #[]] 123) = w1 at hbx hb0 ⊢
  obtain ⟨hx0, hx1, hx2⟩ := cells3 hbx
  have CI := fun (W : World) (g1 : Nat) (hr1 : Row W g1 (bl s)) => inducing_any (bl s).length (bl s) rfl (some ⟨g1, 0, none⟩) s.size 256 W (Row.sl hr1) (fun p _ => bl_lt s p) (by omega) (by rw [bl_length]; omega)
  rw [bl_length, show (((256 : Nat)) : Int) = 256 from rfl] at CI
  have HCI : Hid _ := CI
  have A1 : Below w1.heap.size w1 w1.drew := (Below.refl _ _).drew
  have HA1 : Hid _ := A1
  clear A1 CI
  go_region_held3 (fun w' => w'.cell? ⟨w.heap.size, 1, none⟩ = some (.func (.func 55) #[] #[])) (go_keep)
    (first
      | (go_at_call 57; refine (endsOf_any s _ (by omega)).mono ?_; rintro e w2 ⟨g2, rfl, hg2, hr2, hb2⟩; have hbx2 := Blk.later (Blk.later hbx HA1.out) hb2; obtain ⟨hy0, hy1, hy2⟩ := cells3 hbx2)
      | (go_at_call 55; refine (HCI.out w2 g2 hr2).mono ?_; rintro e w3 ⟨v3, o3, rfl, hown3, hsa3, hb3⟩; have hbx3 := Blk.later hbx2 hb3; obtain ⟨hz0, hz1, hz2⟩ := cells3 hbx3))
  have hs2 := (Below.later (Below.later hb0 HA1.out) hb2).size
  clear hx0 hx1 hx2 hy0 hy1 hy2 hz0 hz1 hz2 hen HCI
  go_wp2
  go_ret2
  exact ⟨v3, o3, rfl, own_mono hown3 hs2, hsa3, Below.later (Below.later (Below.later hb0 HA1.out) hb2) hb3⟩


set_option maxHeartbeats 1000000 in
theorem sort_way (s : ByteArray) (n : Int) (w : World) (h : n < 0 ∨ 3 ≤ n) : Calls Tryz.prog 38 #[.string s, .int .i64 n] w fun e w' => e = .returned (.tuple #[.slice none 0 0, .int .i64 1]) ∧ Below w.heap.size w w' := by
  rcases h with h | h
  · go_enter Tryz.func38, Tryz.ntmps38
    go_wp2
    go_ret2
    exact ⟨rfl, (Below.refl _ _).alloc (Nat.le_refl _) _⟩
  · have h' : ¬ n < 0 := by omega
    go_enter Tryz.func38, Tryz.ntmps38
    go_wp2
    go_ret2
    exact ⟨rfl, (Below.refl _ _).alloc (Nat.le_refl _) _⟩

set_option maxHeartbeats 1000000 in
theorem sort_long (s : ByteArray) (n : Int) (w : World) (h0 : 0 ≤ n) (h3 : n < 3) (hs : 1000 < s.size) : Calls Tryz.prog 38 #[.string s, .int .i64 n] w fun e w' => e = .returned (.tuple #[.slice none 0 0, .int .i64 2]) ∧ Below w.heap.size w w' := by
  have i1 : (1000 : Int) < (s.size : Int) := by omega
  go_enter Tryz.func38, Tryz.ntmps38
  go_wp2
  go_ret2
  exact ⟨rfl, (Below.refl _ _).alloc (Nat.le_refl _) _⟩
end Go.Proofs.YtepklbboejnecaaGreat

/- Sort: by thirds. -/
namespace Go.Proofs.YtepklbboejnecaaGreat
open Go.RowKit Go.Shelf Sedge
attribute [local go_sem ↓] Go.wp_at_zero Go.wp_at_succ

set_option maxHeartbeats 4000000 in
theorem sort2_any (s : ByteArray) (w : World) (hs : s.size ≤ 1000) : Calls Tryz.prog 38 #[.string s, .int .i64 2] w (Sorts s w) := by
  have hen : ∀ args w, Sem.run Tryz.prog (callFunc 56 args) w = .ok (.enter 56 args) w := enters_of Tryz.func56 (by kernel_rfl) rfl
  have i1 : (s.size : Int) ≤ 1000 := by omega
  go_enter Tryz.func38, Tryz.ntmps38
  have hbx : Blk (w.alloc (Obj.cells #[.func (.func 54) #[] #[], .func (.func 55) #[] #[], .func (.func 56) #[] #[]] 123)) w.heap.size 123 [.func (.func 54) #[] #[], .func (.func 55) #[] #[], .func (.func 56) #[] #[]] := Blk.new w _ _ rfl
  have hb0 : Below w.heap.size w (w.alloc (Obj.cells #[.func (.func 54) #[] #[], .func (.func 55) #[] #[], .func (.func 56) #[] #[]] 123)) := (Below.refl _ _).alloc (Nat.le_refl _) _
  go_wp2_with fail
  generalize w.alloc (Obj.cells #[.func (.func 54) #[] #[], .func (.func 55) #[] #[], .func (.func 56) #[] #[]] 123) = w1 at hbx hb0 ⊢
  obtain ⟨hx0, hx1, hx2⟩ := cells3 hbx
  have CI := fun (W : World) (g1 : Nat) (hr1 : Row W g1 (bl s)) => thirds_any (bl s).length (bl s) rfl (some ⟨g1, 0, none⟩) s.size 256 W (Row.sl hr1) (fun p _ => bl_lt s p) (by omega) (by rw [bl_length]; omega)
  rw [bl_length, show (((256 : Nat)) : Int) = 256 from rfl] at CI
  have HCI : Hid _ := CI
  have A1 : Below w1.heap.size w1 w1.drew := (Below.refl _ _).drew
  have HA1 : Hid _ := A1
  clear A1 CI
  go_region_held3 (fun w' => w'.cell? ⟨w.heap.size, 2, none⟩ = some (.func (.func 56) #[] #[])) (go_keep)
    (first
      | (go_at_call 57; refine (endsOf_any s _ (by omega)).mono ?_; rintro e w2 ⟨g2, rfl, hg2, hr2, hb2⟩; have hbx2 := Blk.later (Blk.later hbx HA1.out) hb2; obtain ⟨hy0, hy1, hy2⟩ := cells3 hbx2)
      | (go_at_call 56; refine (HCI.out w2 g2 hr2).mono ?_; rintro e w3 ⟨v3, o3, rfl, hown3, hsa3, hb3⟩; have hbx3 := Blk.later hbx2 hb3; obtain ⟨hz0, hz1, hz2⟩ := cells3 hbx3))
  have hs2 := (Below.later (Below.later hb0 HA1.out) hb2).size
  clear hx0 hx1 hx2 hy0 hy1 hy2 hz0 hz1 hz2 hen HCI
  go_wp2
  go_ret2
  exact ⟨v3, o3, rfl, own_mono hown3 hs2, hsa3, Below.later (Below.later (Below.later hb0 HA1.out) hb2) hb3⟩

/-- Sort, whichever way. -/
theorem sort_any (s : ByteArray) (n : Int) (w : World) (h0 : 0 ≤ n) (h3 : n < 3) (hs : s.size ≤ 1000) : Calls Tryz.prog 38 #[.string s, .int .i64 n] w (Sorts s w) := by
  have : n = 0 ∨ n = 1 ∨ n = 2 := by omega
  rcases this with rfl | rfl | rfl
  · exact sort0_any s w hs
  · exact sort1_any s w hs
  · exact sort2_any s w hs
end Go.Proofs.YtepklbboejnecaaGreat

/- The document's own Sort; Common's error. -/
namespace Go.Proofs.YtepklbboejnecaaGreat
open Go.RowKit Go.Shelf Sedge
attribute [local go_sem ↓] Go.wp_at_zero Go.wp_at_succ

end Go.Proofs.YtepklbboejnecaaGreat

/- Common: a list copied; the program's and the document's. -/
namespace Go.Proofs.YtepklbboejnecaaGreat
open Go.RowKit Go.Shelf Sedge
attribute [local go_sem ↓] Go.wp_at_zero Go.wp_at_succ

theorem eq_nil (a : Option Addr) (n c : Nat) (w : World) : (binOp .eql 55 (.slice a n c) (.slice none 0 0)).run Tryz.prog w = .ok (.bool a.isNone) w := Lib.run_eql_slice_nil w 55 3 a n c 0 0 Tryz.underlying55

set_option maxRecDepth 20000 in
set_option maxHeartbeats 2000000 in
/-- slices.Clone of numbers. -/
theorem iclone_some (b off : Nat) (L : List Nat) (c : Nat) (w : World) (hS : Sl w (some ⟨b, off, none⟩) L) (hn : L.length ≤ 100000) :
    Calls Tryz.prog 66 #[.slice (some ⟨b, off, none⟩) L.length c] w fun e w' => ∃ v, e = .returned v ∧ w'.ownsRow w.heap.size 3 1 v L.length (IV L) ∧ Below w.heap.size w w' := by
  have heq := eq_nil
  have hrow : Row (w.alloc (.cells #[] 3)) w.heap.size [] := Blk.new w [] 3 rfl
  have hown := Row.own hrow (Nat.le_refl _) (by simp)
  have hb0 : Below w.heap.size w (w.alloc (.cells #[] 3)) := (Below.refl _ _).alloc (Nat.le_refl _) _
  have hS1 := hS.later hb0
  have HB0 : Hid _ := hb0
  clear hb0 hrow
  go_enter Tryz.func66, Tryz.ntmps66
  go_wp2_with (first | (at_builtin; refine wpList_pushAll _ rfl _ _ rfl w.heap.size _ [] rfl hown b off c L rfl hS1 (by simp; omega) (by simp) ?_; intro v' w3 hown3 hb4) | fail)
  go_ret
  exact ⟨v', rfl, by simpa using hown3, HB0.out.trans hb4⟩

set_option maxHeartbeats 2000000 in
/-- 'parts.Of'. -/
theorem partsOf_full (s : ByteArray) (w : World) (hs : s.size ≤ 500000) :
    Calls Tryz.prog 44 #[.string s] w fun e w' => ∃ ad b o c c', e = .returned (tv s ad (some ⟨b, 0, none⟩) o.length c c') ∧ Tab w' s ad (some ⟨b, 0, none⟩) o ∧ Below w.heap.size w w' := by
  have hres : Blk (w.alloc (Obj.cells #[.string ⟨#[]⟩, .slice none 0 0, .slice none 0 0] 99)) w.heap.size 99 [.string ⟨#[]⟩, .slice none 0 0, .slice none 0 0] := Blk.new w _ _ rfl
  have hB0 : Below w.heap.size w (w.alloc (Obj.cells #[.string ⟨#[]⟩, .slice none 0 0, .slice none 0 0] 99)) := (Below.refl _ _).alloc (Nat.le_refl _) _
  go_enter Tryz.func44, Tryz.ntmps44
  go_wp2_with fail
  refine (endsOf_any s _ (by omega)).mono ?_
  rintro e w1 ⟨g1, rfl, hg1, hr1, hb1⟩
  have hres1 := hres.later hb1
  have hB1 := Below.later hB0 hb1
  have CI := inducing_any (bl s).length (bl s) rfl (some ⟨g1, 0, none⟩) s.size 256 w1 (Row.sl hr1) (fun p _ => bl_lt s p) (by omega) (by rw [bl_length]; exact hs)
  rw [bl_length, show (((256 : Nat)) : Int) = 256 from rfl] at CI
  have HCI : Hid _ := CI
  clear CI hres hB0 hb1 hg1
  go_wp2_with fail
  refine Calls.mono HCI.out ?_
  rintro e w2 ⟨v2, o, rfl, hown, hSA, hb2⟩
  obtain ⟨ad, c, rfl, hS, hba⟩ := own_base hown
  have hba' : ∀ b o, ad = some ⟨b, o, none⟩ → b ≠ w.heap.size := fun b o e => by have := hba b o e; have := hres1.lt; omega
  have HBA : Hid _ := hba'
  clear hba hba'
  have hres2 := hres1.later hb2
  have hB2 := Below.later hB1 hb2
  clear HCI hres1 hB1 hb2 hown
  go_wp2_with fail
  refine (common_any s ad o c w2 (by omega) hS hSA).mono ?_
  rintro e w3 ⟨g3, rfl, hg3, hr3, hb3⟩
  have hres3 := hres2.later hb3
  have hB3 := Below.later hB2 hb3
  have hS3 := hS.later hb3
  obtain ⟨hx0, hx1, hx2⟩ := cells3 hres3
  have hf0 := Blk.free hres3 0
  have hf1 := Blk.free hres3 1
  have hf2 := Blk.free hres3 2
  have hg3' : w.heap.size < g3 := by have := hres2.lt; omega
  have hr3' := Row.sl hr3
  have hSx := ((hS3.other (a := ⟨w.heap.size, 0, none⟩) HBA.out (.string s)).other (a := ⟨w.heap.size, 1, none⟩) HBA.out (.slice ad o.length c)).other (a := ⟨w.heap.size, 2, none⟩) HBA.out (.slice (some ⟨g3, 0, none⟩) o.length o.length)
  have hCx := ((hr3'.other (a := ⟨w.heap.size, 0, none⟩) (fun b o' e => by simp at e; simp; omega) (.string s)).other (a := ⟨w.heap.size, 1, none⟩) (fun b o' e => by simp at e; simp; omega) (.slice ad o.length c)).other (a := ⟨w.heap.size, 2, none⟩) (fun b o' e => by simp at e; simp; omega) (.slice (some ⟨g3, 0, none⟩) o.length o.length)
  have HX : Hid _ := hSx
  have HY : Hid _ := hCx
  clear hSx hCx hr3 hS hS3
  have HB4 : Hid (Below w.heap.size w (((w3.setCell ⟨w.heap.size, 0, none⟩ (.string s)).setCell ⟨w.heap.size, 1, none⟩ (.slice ad o.length c)).setCell ⟨w.heap.size, 2, none⟩ (.slice (some ⟨g3, 0, none⟩) o.length o.length))) := ((hB3.setCell (by simp) _).setCell (by simp) _).setCell (by simp) _
  go_wp2
  exact bodyPost_ret (v := tv s ad (some ⟨g3, 0, none⟩) o.length c o.length) (by simp [results, Tryz.results44, go_sem, hx0, hx1, hx2]) rfl ⟨ad, _, o, c, _, rfl, ⟨HX.out, HY.out, hSA⟩, HB4.out⟩

end Go.Proofs.YtepklbboejnecaaGreat

/- The document's own Common. -/
namespace Go.Proofs.YtepklbboejnecaaGreat
open Go.RowKit Go.Shelf Sedge
attribute [local go_sem ↓] Go.wp_at_zero Go.wp_at_succ

theorem tab_succ (n : Nat) (f : Nat → Nat) : tab (n + 1) f = tab n f ++ [f n] := by simp [tab, List.range_succ]

end Go.Proofs.YtepklbboejnecaaGreat

/- The parts in their order, as strings. -/
namespace Go.Proofs.YtepklbboejnecaaGreat
open Go.RowKit Go.Shelf Sedge
attribute [local go_sem ↓] Go.wp_at_zero Go.wp_at_succ

theorem bl_extract2 (s : ByteArray) (a m : Nat) : bl (s.extract a (a + m)) = ((bl s).drop a).take m := by
  unfold bl
  have e : (s.extract a (a + m)).data.toList = (s.data.toList.drop a).take m := by
    rw [ByteArray.data_extract, Array.toList_extract, List.extract_eq_take_drop, Nat.add_sub_cancel_left]
  rw [e, List.map_take, List.map_drop]

theorem bl_inj {s t : ByteArray} (h : bl s = bl t) : s = t := by
  unfold bl at h
  have := List.map_inj_right (f := UInt8.toNat) (fun a b e => UInt8.toNat_inj.1 e) |>.1 h
  cases s; cases t
  simp at this
  rw [this]

/-- Where part k lies. -/
theorem part_at {s : ByteArray} {o : List Nat} {k : Nat} (h : k < many (bl s) o o.length) :
    ∃ i a, i < o.length ∧ k = many (bl s) o i + a ∧ a < brings (bl s) o i ∧ cm (bl s) o i + a + 1 ≤ s.size - num o i ∧ ptext s o k = s.extract (num o i) (num o i + (cm (bl s) o i + a + 1)) ∧ perr (bl s) o k = 0 := by
  obtain ⟨i, h1, h2, h3⟩ := many_at h
  have h4 : many (bl s) o (i + 1) = many (bl s) o i + brings (bl s) o i := rfl
  have HP : pidx (bl s) o k = some i := pidx_some h1 h3 (fun j hj => by have := many_mono (bl s) o (show j + 1 ≤ i by omega); omega)
  have h5 : brings (bl s) o i = s.size - num o i - cm (bl s) o i := by unfold brings; rw [bl_length]
  refine ⟨i, k - many (bl s) o i, h1, by omega, by omega, by omega, ?_, by unfold perr; rw [HP]; rfl⟩
  rw [ptext_some HP]
  congr 1
  omega

theorem part_bl {s : ByteArray} {o : List Nat} {k i a : Nat} (h : ptext s o k = s.extract (num o i) (num o i + (cm (bl s) o i + a + 1))) : bl (ptext s o k) = ((bl s).drop (num o i)).take (cm (bl s) o i + a + 1) := by
  rw [h, bl_extract2]

/-- Later ones are greater. -/
theorem parts_lt {s : ByteArray} {o : List Nat} (ho : IsSA (bl s) o) {k k' : Nat} (hk : k < k') (h : k' < many (bl s) o o.length) : bl (ptext s o k) < bl (ptext s o k') := by
  obtain ⟨i, a, i1, i2, i3, i4, i5, _⟩ := part_at (show k < many (bl s) o o.length by omega)
  obtain ⟨j, b, j1, j2, j3, j4, j5, _⟩ := part_at h
  rw [part_bl i5, part_bl j5]
  refine ho.part_lt j1 ?_ (by rw [bl_length]; exact j4)
  by_cases c : i < j
  · exact Or.inl c
  · by_cases e : i = j
    · subst e; exact Or.inr ⟨rfl, by omega⟩
    · exfalso
      have h1 := many_mono (bl s) o (show j + 1 ≤ i by omega)
      have h4 : many (bl s) o (j + 1) = many (bl s) o j + brings (bl s) o j := rfl
      omega

/-- Every part is told. -/
theorem parts_told {s : ByteArray} {o : List Nat} (ho : IsSA (bl s) o) {p m : Nat} (hm : 0 < m) (hp : p + m ≤ s.size) : ∃ k, k < many (bl s) o o.length ∧ ptext s o k = s.extract p (p + m) := by
  obtain ⟨i, a, h1, h2, h3, h4⟩ := ho.told hm (by rw [bl_length]; exact hp)
  have h5 : many (bl s) o (i + 1) = many (bl s) o i + brings (bl s) o i := rfl
  have h6 : many (bl s) o (i + 1) ≤ many (bl s) o o.length := many_mono (bl s) o (by omega)
  have HP : pidx (bl s) o (many (bl s) o i + a) = some i := pidx_some h1 (by omega) (fun j hj => by have := many_mono (bl s) o (show j + 1 ≤ i by omega); omega)
  refine ⟨many (bl s) o i + a, by omega, bl_inj ?_⟩
  rw [ptext_some HP, show num o i + cm (bl s) o i + (many (bl s) o i + a - many (bl s) o i) + 1 = num o i + (cm (bl s) o i + a + 1) by omega, bl_extract2, bl_extract2]
  exact h2.symm

theorem less_bl (a b : ByteArray) : Op.bytesLess a.toList b.toList = decide (bl a < bl b) := by
  rw [ByteArray.toList_eq, ByteArray.toList_eq, less_map]
  rfl

theorem str_eq (a b : ByteArray) : (a.toList == b.toList) = decide (a = b) := by
  rw [ByteArray.toList_eq, ByteArray.toList_eq]
  by_cases e : a = b
  · simp [e]
  · have : ¬ a.data = b.data := fun h => e (by cases a; cases b; simp at h; rw [h])
    simp [e, this]

/-- What is left of a text that is cut at 1000 bytes. -/
def cutTo (s : ByteArray) : ByteArray := if s.size ≤ 1000 then s else s.extract 0 1000
theorem cutTo_size (s : ByteArray) : (cutTo s).size ≤ 1000 := by
  unfold cutTo; split
  · assumption
  · simp; omega

set_option maxHeartbeats 1000000 in
/-- 'short'. -/
theorem short_any (s : ByteArray) (w : World) : Calls Tryz.prog 12 #[.string s, .int .i64 1000] w fun e w' => e = .returned (.string (cutTo s)) ∧ w' = w := by
  by_cases h : s.size ≤ 1000
  · have i1 : (s.size : Int) ≤ 1000 := by omega
    have e : cutTo s = s := by simp [cutTo, h]
    rw [e]
    clear e
    go_enter Tryz.func12, Tryz.ntmps12
    go_wp2
    go_ret
    exact ⟨rfl, rfl⟩
  · have i1 : (1000 : Int) < (s.size : Int) := by omega
    have i2 : (1000 : Int) ≤ (s.size : Int) := by omega
    have e : cutTo s = s.extract 0 1000 := by simp [cutTo, h]
    rw [e]
    clear e
    go_enter Tryz.func12, Tryz.ntmps12
    go_wp2
    go_ret
    exact ⟨rfl, rfl⟩

set_option maxHeartbeats 1000000 in
/-- 'pick'. -/
theorem kpick_any (c : Int) (n : Nat) (w : World) (h1 : -9223372036854775808 ≤ c) (h2 : c ≤ 9223372036854775807) (hn : 0 < n) (hn2 : n ≤ 10000000) :
    Calls Tryz.prog 17 #[.int .i64 c, .int .i64 n] w fun e w' => (∃ k : Nat, k < n ∧ e = .returned (.int .i64 k)) ∧ w' = w := by
  have hz : ¬ (n : Int) = 0 := by omega
  by_cases h : c < 0
  · have v1 : IntKind.i64.wrap (c + 1) = c + 1 := by rw [IntKind.wrap_i64]; omega
    have v2 : IntKind.i64.wrap (-(c + 1)) = -(c + 1) := by rw [IntKind.wrap_i64]; omega
    go_enter Tryz.func17, Tryz.ntmps17
    go_wp2
    go_ret
    obtain ⟨m, hm⟩ : ∃ m : Nat, c + 1 = -(m : Int) := ⟨(-(c + 1)).toNat, by omega⟩
    refine ⟨⟨m % n, Nat.mod_lt _ hn, ?_⟩, rfl⟩
    show Ending.returned (Value.int .i64 (-((c + 1).tmod n))) = _
    rw [hm, Int.neg_tmod, Int.neg_neg, ← Int.ofNat_tmod]
  · have h' : 0 ≤ c := by omega
    go_enter Tryz.func17, Tryz.ntmps17
    go_wp2
    go_ret
    obtain ⟨m, rfl⟩ := Int.eq_ofNat_of_zero_le h'
    exact ⟨⟨m % n, Nat.mod_lt _ hn, rfl⟩, rfl⟩

set_option maxHeartbeats 1000000 in
/-- 'has', of a part that is there. -/
theorem has_any (s t : ByteArray) (p : Nat) (w : World) (hs : s.size ≤ 1000) (hp : p + t.size ≤ s.size) (ht : t = s.extract p (p + t.size)) :
    Calls Tryz.prog 18 #[.string s, .string t] w fun e w' => e = .returned (.bool true) ∧ Below w.heap.size w w' := by
  have HT : Hid (t = s.extract p (p + t.size)) := ht
  clear ht
  go_enter Tryz.func18, Tryz.ntmps18
  go_wp2_with fail
  go_loopw [5] (fun i wr => ∃ k : Nat, k ≤ p ∧ i = .int .i64 k ∧ wr = w) (fun i _ => p - (intOf i).toNat)
  case atStart => exact ⟨0, Nat.zero_le _, rfl, rfl⟩
  case round =>
    obtain ⟨k, hk, rfl, rfl⟩ := hrel
    have v1 : IntKind.i64.wrap ((k : Int) + (t.size : Int)) = (k : Int) + (t.size : Int) := by rw [IntKind.wrap_i64]; omega
    have j1 : (k : Int) + (t.size : Int) ≤ (s.size : Int) := by omega
    have j2 : (0 : Int) ≤ (k : Int) := by omega
    have j3 : (k : Int) ≤ (k : Int) + (t.size : Int) := by omega
    by_cases e : s.extract k (k + t.size) = t
    · go_wp2
      go_ret
      exact ⟨rfl, Below.refl _ _⟩
    · have hlt : k < p := by
        by_cases c : k = p
        · exact absurd (by rw [c]; exact HT.out.symm) e
        · omega
      have e' : ((s.extract k (k + t.size)).toList == t.toList) = false := by rw [str_eq]; simpa using e
      clear e
      go_wp2
      go_roundw
      case rel => exact ⟨k + 1, by omega, by go_num, trivial⟩
      case measure => simp [intOf]; omega
end Go.Proofs.YtepklbboejnecaaGreat
