/- Doubling: halves, sorting by them, naming by them. -/
import Derived.Test.YtepklbboejnecaaWp
import Derived.Test.YtepklbboejnecaaM
namespace Go.Proofs.Ytepklbboejnecaa
open Go.RowKit Go.Shelf Sedge
attribute [local go_sem ↓] Go.wp_at_zero Go.wp_at_succ

set_option maxHeartbeats 1000000 in
/-- 'halves'. -/
theorem halves_any (ad : Option Addr) (l : List Nat) (c : Nat) (kinds : Int) (p h : Nat) (w : World) (hl : Sl w ad l) (hv : ∀ p, num l p ≤ 1000000) (hp : p ≤ 1000000) (hh : h ≤ 10000000) :
    Calls Try.prog 113 #[.agg #[.slice ad l.length c, .int .i64 kinds], .int .i64 p, .int .i64 h] w fun e w' => e = .returned (.agg #[.int .i64 (rk l p), .int .i64 (rk l (p + h))]) ∧ Below w.heap.size w w' := by
  have hb0 : Below w.heap.size w ((w.alloc (Obj.cells #[Value.slice ad l.length c, Value.int .i64 kinds] 87)).alloc (Obj.cells #[.int .i64 0, .int .i64 0] 150)) := ((Below.refl _ _).alloc (Nat.le_refl _) _).alloc (by simp) _
  have wa : IntKind.i64.wrap ((p : Int) + (h : Int)) = (p : Int) + (h : Int) := by rw [IntKind.wrap_i64]; omega
  have ek : (((p + h : Nat) : Int)) = (p : Int) + (h : Int) := by omega
  have C1 := fun W => at_any ad l c kinds p W
  have C2 := fun W => at_any ad l c kinds (p + h) W
  rw [ek] at C2
  have D1 : Hid _ := C1
  have D2 : Hid _ := C2
  have hz2 : w.heap.size < w.heap.size + 1 + 1 := by omega
  clear C1 C2 ek
  go_enter Try.func113, Try.ntmps113
  go_wp2
  go_region_held3 (fun w' => w'.cell? ⟨w.heap.size, 0, none⟩ = some (.slice ad l.length c) ∧ w'.cell? ⟨w.heap.size, 1, none⟩ = some (.int .i64 kinds)) (go_keep)
    (first
      | (go_at_call_of 137 (Value.int .i64 (p : Int)); refine (D1.out _ (hl.later hb0.drew) (hv p)).mono ?_; rintro e w2 ⟨rfl, hb2⟩; obtain ⟨hk, hk'⟩ := bcell hb2)
      | (go_at_call_of 137 (Value.int .i64 ((p : Int) + (h : Int))); refine (D2.out _ (hl.later (Below.later hb0.drew hb2)) (hv _)).mono ?_; rintro e w3 ⟨rfl, hb3⟩; have hsz2 := hb2.size; have hsz3 : w.heap.size + 1 < w2.heap.size := (by simp at hsz2; omega); have hsz4 : w.heap.size < w2.heap.size := (by omega); obtain ⟨hk3, hk3'⟩ := bcell hb3))
  go_wp2
  refine bodyPost_ret (v := .agg #[.int .i64 (rk l p), .int .i64 (rk l (p + h))]) (by simp [results, Try.results113, go_sem, hsz3, hk3, hk]; exact ⟨rfl, rfl⟩) rfl ⟨rfl, ?_⟩
  exact ((Below.later (Below.later hb0.drew hb2) hb3).setCell (p := ⟨w.heap.size + 1, 0, none⟩) (by simp) _).setCell (p := ⟨w.heap.size + 1, 1, none⟩) (by simp) _

/-- What the closures over a row and a width ask of the world. -/
structure Wid (ad : Option Addr) (l : List Nat) (c br bh h : Nat) (kinds : Int) (W : World) : Prop where
  sl : Sl W ad l
  row : Blk W br 87 [.slice ad l.length c, .int .i64 kinds]
  wid : Blk W bh 3 [.int .i64 (h : Int)]
theorem Wid.later {ad : Option Addr} {l : List Nat} {c br bh h : Nat} {kinds : Int} {w w' : World} (H : Wid ad l c br bh h kinds w) (hb : Below w.heap.size w w') : Wid ad l c br bh h kinds w' := ⟨H.sl.later hb, H.row.later hb, H.wid.later hb⟩

theorem cell1 {W : World} {b : Nat} {T : TypeId} {x : Value} (h : Blk W b T [x]) : W.cell? ⟨b, 0, none⟩ = some x := by
  have := Blk.cell h (k := 0) (by simp); simpa using this

theorem idx2_0 (x y : Value) (w : World) : (Instr.index 150 (.agg #[x, y]) (.int .i64 0)).run Try.prog w = .ok x w := by kernel_rfl
theorem idx2_1 (x y : Value) (w : World) : (Instr.index 150 (.agg #[x, y]) (.int .i64 1)).run Try.prog w = .ok y w := by kernel_rfl

set_option maxHeartbeats 1000000 in
theorem tells_behind (ad : Option Addr) (l : List Nat) (c br bh h : Nat) (kinds : Int) (hv : ∀ p, num l p ≤ 1000000) (hn : l.length ≤ 1000000) (hh : h ≤ 10000000) :
    Tells 112 #[] #[.pointer (some ⟨br, 0, none⟩), .pointer (some ⟨bh, 0, none⟩)] (Wid ad l c br bh h kinds) (fun p => rk l (p + h)) l.length where
  enter := enters_of Try.func112 (by kernel_rfl) rfl
  keep w w' H hb := H.later hb
  run p w H hp := by
    obtain ⟨hx0, hx1⟩ := cells2 H.row
    have hx2 := cell1 H.wid
    have CH := halves_any ad l c kinds p h w H.sl hv (by omega) hh
    have HC : Hid _ := CH
    clear CH H
    go_enter Try.func112, Try.ntmps112
    go_wp2_with fail
    refine Calls.mono HC.out ?_
    rintro e w2 ⟨rfl, hb2⟩
    have i1 := idx2_1
    go_wp2
    go_ret
    exact ⟨rfl, hb2⟩

set_option maxHeartbeats 1000000 in
theorem tells_front (ad : Option Addr) (l : List Nat) (c br bh h : Nat) (kinds : Int) (hv : ∀ p, num l p ≤ 1000000) (hn : l.length ≤ 1000000) (hh : h ≤ 10000000) :
    Tells 114 #[] #[.pointer (some ⟨br, 0, none⟩), .pointer (some ⟨bh, 0, none⟩)] (Wid ad l c br bh h kinds) (fun p => rk l p) l.length where
  enter := enters_of Try.func114 (by kernel_rfl) rfl
  keep w w' H hb := H.later hb
  run p w H hp := by
    obtain ⟨hx0, hx1⟩ := cells2 H.row
    have hx2 := cell1 H.wid
    have CH := halves_any ad l c kinds p h w H.sl hv (by omega) hh
    have HC : Hid _ := CH
    clear CH H
    go_enter Try.func114, Try.ntmps114
    go_wp2_with fail
    refine Calls.mono HC.out ?_
    rintro e w2 ⟨rfl, hb2⟩
    have i1 := idx2_0
    go_wp2
    go_ret
    exact ⟨rfl, hb2⟩

set_option maxHeartbeats 1000000 in
theorem tells_alike (ad : Option Addr) (l : List Nat) (c br bh h : Nat) (kinds : Int) (hv : ∀ p, num l p ≤ 1000000) (hn : l.length ≤ 1000000) (hh : h ≤ 10000000) :
    Tells2 115 #[] #[.pointer (some ⟨br, 0, none⟩), .pointer (some ⟨bh, 0, none⟩)] (Wid ad l c br bh h kinds) (fun p q => p < l.length ∧ q < l.length ∧ p ≠ q) (fun a b => decide (rk l a = rk l b ∧ rk l (a + h) = rk l (b + h))) where
  enter := enters_of Try.func115 (by kernel_rfl) rfl
  keep w w' H hb := H.later hb
  run p q w H hp := by
    obtain ⟨hp, hq, hne⟩ := hp
    obtain ⟨hx0, hx1⟩ := cells2 H.row
    have hx2 := cell1 H.wid
    have hg2 := guard2
    have hq2 := eq2
    have CH := fun W p H hp => halves_any ad l c kinds p h W H hv hp hh
    have HC : Hid _ := CH
    have hl1 := H.row.lt
    have hl2 := H.wid.lt
    clear CH
    go_enter Try.func115, Try.ntmps115
    go_wp2_with fail
    go_region_held3 (fun w' => w'.cell? ⟨br, 0, none⟩ = some (.slice ad l.length c) ∧ w'.cell? ⟨br, 1, none⟩ = some (.int .i64 kinds) ∧ w'.cell? ⟨bh, 0, none⟩ = some (.int .i64 (h : Int))) (go_keep)
      (first
        | (go_at_call_of 113 (Value.int .i64 (p : Int)); refine (HC.out _ p (H.sl.later (Below.refl _ w).drew) (by omega)).mono ?_; rintro e w2 ⟨rfl, hb2⟩; have s0 := (hb2.cell (p := ⟨br, 0, none⟩) hl1).trans hx0; have s1 := (hb2.cell (p := ⟨br, 1, none⟩) hl1).trans hx1; have s2 := (hb2.cell (p := ⟨bh, 0, none⟩) hl2).trans hx2)
        | (go_at_call_of 113 (Value.int .i64 (q : Int)); refine (HC.out _ q ((H.sl.later (Below.refl _ w).drew).later hb2) (by omega)).mono ?_; rintro e w3 ⟨rfl, hb3⟩; have hsz2 := hb2.size; have hsz3 : br < w2.heap.size := (by simp at hsz2; omega); have hsz4 : bh < w2.heap.size := (by simp at hsz2; omega); have t0 := (hb3.cell (p := ⟨br, 0, none⟩) hsz3).trans s0; have t1 := (hb3.cell (p := ⟨br, 1, none⟩) hsz3).trans s1; have t2 := (hb3.cell (p := ⟨bh, 0, none⟩) hsz4).trans s2))
    clear hx0 hx1 hx2 s0 s1 s2 t0 t1 t2 HC hg2 hq2 hl1 hl2
    go_wp2
    go_ret
    refine ⟨?_, Below.later (Below.later (Below.refl _ w).drew hb2) hb3⟩
    congr 2
    by_cases e1 : rk l p = rk l q <;> by_cases e2 : rk l (p + h) = rk l (q + h) <;> simp [e1, e2] <;> omega

set_option maxHeartbeats 1000000 in
/-- 'sortedByHalves'. -/
theorem sortedByHalves_any (ad ao : Option Addr) (l o : List Nat) (c co h K : Nat) (w : World) (hl : Sl w ad l) (ho : Sl w ao o) (hM : ∀ p, p ∈ o → p < l.length) (hn : l.length ≤ 1000000) (hno : o.length ≤ 1000000) (hK : ∀ p, p < l.length → num l p < K) (hKn : K ≤ 100000) (hh : h ≤ 10000000) :
    Calls Try.prog 79 #[.agg #[.slice ad l.length c, .int .i64 K], .slice ao o.length co, .int .i64 h] w fun e w' =>
      ∃ g, e = .returned (.slice (some ⟨g, 0, none⟩) o.length o.length) ∧ w.heap.size ≤ g ∧ Row w' g (flat (Sedge.part (fun p => rk l p) (flat (Sedge.part (fun p => rk l (p + h)) o) (K + 1))) (K + 1)) ∧ Below w.heap.size w w' := by
  have hv : ∀ p, num l p ≤ 1000000 := fun p => by
    by_cases hp : p < l.length
    · have := hK p hp; omega
    · simp [num, List.getD, List.getElem?_eq_none (show l.length ≤ p by omega)]
  have hrk : ∀ p, rk l p < K + 1 := fun p => by
    unfold rk; split
    · have := hK p (by assumption); omega
    · omega
  have hW : Wid ad l c w.heap.size (w.heap.size + 1) h (K : Int) ((w.alloc (Obj.cells #[Value.slice ad l.length c, Value.int .i64 (K : Int)] 87)).alloc (Obj.cells #[Value.int .i64 (h : Int)] 3)) :=
    ⟨(hl.later ((Below.refl _ _).alloc (Nat.le_refl _) _)).later ((Below.refl _ _).alloc (Nat.le_refl _) _), Blk.alloc (Blk.new w _ _ rfl) _, by
      have := Blk.new (w.alloc (Obj.cells #[Value.slice ad l.length c, Value.int .i64 (K : Int)] 87)) [Value.int .i64 (h : Int)] 3 rfl
      simpa using this⟩
  have hb0 : Below w.heap.size w ((w.alloc (Obj.cells #[Value.slice ad l.length c, Value.int .i64 (K : Int)] 87)).alloc (Obj.cells #[Value.int .i64 (h : Int)] 3)) := ((Below.refl _ _).alloc (Nat.le_refl _) _).alloc (by simp) _
  go_enter Try.func79, Try.ntmps79
  have hmf : ∀ (fn : Fn) (first cap : Array Value) (w : World), (Instr.makeFunc fn first cap).run Try.prog w = .ok (.func fn first cap) w := fun _ _ _ _ => rfl
  have ek : (((K + 1 : Nat) : Int)) = (K : Int) + 1 := by omega
  have D := fun (fn : FuncId) (β : Nat → Nat) (ht : Tells fn #[] #[.pointer (some ⟨w.heap.size, 0, none⟩), .pointer (some ⟨w.heap.size + 1, 0, none⟩)] (Wid ad l c w.heap.size (w.heap.size + 1) h (K : Int)) β l.length) ad o c w hl hM hβ hI hn => deal_any fn #[] _ _ β l.length ht ad o c (K + 1) w hl hM hβ hI hn (by omega)
  rw [ek] at D
  have HD : Hid _ := D
  have wK : IntKind.i64.wrap ((K : Int) + 1) = (K : Int) + 1 := by rw [IntKind.wrap_i64]; omega
  have ho1 := ho.later hb0
  clear D ek
  go_wp2_with fail
  generalize (w.alloc (Obj.cells #[Value.slice ad l.length c, Value.int .i64 (K : Int)] 87)).alloc (Obj.cells #[Value.int .i64 (h : Int)] 3) = w1 at hW hb0 ho1 ⊢
  refine (HD.out _ _ (tells_behind ad l c w.heap.size (w.heap.size + 1) h (K : Int) hv hn hh) ao o co w1 ho1 (fun k hk => hM _ (num_mem hk)) (fun p _ => hrk _) hW hno).mono ?_
  rintro e w2 ⟨g2, rfl, hg2, hr2, hb2⟩
  obtain ⟨o2, ho2⟩ : ∃ o2, o2 = flat (Sedge.part (fun p => rk l (p + h)) o) (K + 1) := ⟨_, rfl⟩
  rw [← ho2] at hr2
  have HO2 : Hid _ := ho2
  have hlen2 : o2.length = o.length := by rw [ho2, flat_length]; exact ps_cnt (fun p _ => hrk _)
  have hmem2 : ∀ p, p ∈ o2 → p < l.length := fun p hp => by
    rw [ho2] at hp
    exact hM p ((mem_flat_part (fun p _ => hrk _) p).1 hp)
  have hW2 := hW.later hb2
  obtain ⟨hy0, hy1⟩ := cells2 hW2.row
  have C2 := HD.out _ _ (tells_front ad l c w.heap.size (w.heap.size + 1) h (K : Int) hv hn hh) (some ⟨g2, 0, none⟩) o2 o.length w2 (Row.sl hr2) (fun k hk => hmem2 _ (num_mem hk)) (fun p _ => hrk _) hW2 (by rw [hlen2]; exact hno)
  rw [hlen2] at C2
  have HC2 : Hid _ := C2
  clear C2 HD ho2 hlen2
  go_wp2_with fail
  refine Calls.mono HC2.out ?_
  rintro e w3 ⟨g3, rfl, hg3, hr3, hb3⟩
  have hB := Below.later (Below.later hb0 hb2) hb3
  have h2 := hb0.size
  have h3 := hb2.size
  clear HC2
  go_wp2
  go_ret
  rw [HO2.out] at hr3
  exact ⟨g3, rfl, by omega, hr3, hB⟩

/-- Alike by both halves. -/
def two (l : List Nat) (h a b : Nat) : Bool := decide (rk l a = rk l b ∧ rk l (a + h) = rk l (b + h))

set_option maxHeartbeats 1000000 in
/-- 'doubled'. -/
theorem doubled_any (ad ao : Option Addr) (l o : List Nat) (c co h : Nat) (K : Nat) (w : World) (hl : Sl w ad l) (ho : Sl w ao o) (hnd : o.Nodup) (hM : ∀ p, p ∈ o → p < l.length) (hn : l.length ≤ 1000000) (hno : o.length ≤ 1000000) (hv : ∀ p, num l p ≤ 1000000) (hh : h ≤ 10000000) :
    Calls Try.prog 80 #[.agg #[.slice ad l.length c, .int .i64 K], .slice ao o.length co, .int .i64 h] w fun e w' =>
      ∃ g, e = .returned (.agg #[.slice (some ⟨g, 0, none⟩) l.length l.length, .int .i64 (kindsOf (two l h) o)]) ∧ w.heap.size ≤ g ∧ Row w' g (tab l.length (nameOf (two l h) o)) ∧ Below w.heap.size w w' := by
  have hW : Wid ad l c w.heap.size (w.heap.size + 1) h (K : Int) (((w.alloc (Obj.cells #[Value.slice ad l.length c, Value.int .i64 (K : Int)] 87)).alloc (Obj.cells #[Value.int .i64 (h : Int)] 3)).alloc (Obj.cells #[.slice none 0 0, .int .i64 0] 87)) :=
    Wid.later ⟨(hl.later ((Below.refl _ _).alloc (Nat.le_refl _) _)).later ((Below.refl _ _).alloc (Nat.le_refl _) _), Blk.alloc (Blk.new w _ _ rfl) _, by
      have := Blk.new (w.alloc (Obj.cells #[Value.slice ad l.length c, Value.int .i64 (K : Int)] 87)) [Value.int .i64 (h : Int)] 3 rfl
      simpa using this⟩ ((Below.refl _ _).alloc (Nat.le_refl _) _)
  have hb0 : Below w.heap.size w (((w.alloc (Obj.cells #[Value.slice ad l.length c, Value.int .i64 (K : Int)] 87)).alloc (Obj.cells #[Value.int .i64 (h : Int)] 3)).alloc (Obj.cells #[.slice none 0 0, .int .i64 0] 87)) := (((Below.refl _ _).alloc (Nat.le_refl _) _).alloc (by simp) _).alloc (by simp; omega) _
  have hbr : Blk (((w.alloc (Obj.cells #[Value.slice ad l.length c, Value.int .i64 (K : Int)] 87)).alloc (Obj.cells #[Value.int .i64 (h : Int)] 3)).alloc (Obj.cells #[.slice none 0 0, .int .i64 0] 87)) (w.heap.size + 2) 87 [.slice none 0 0, .int .i64 0] := by
    have := Blk.new ((w.alloc (Obj.cells #[Value.slice ad l.length c, Value.int .i64 (K : Int)] 87)).alloc (Obj.cells #[Value.int .i64 (h : Int)] 3)) [.slice none 0 0, .int .i64 0] 87 rfl
    simpa using this
  have ho1 := ho.later hb0
  go_enter Try.func80, Try.ntmps80
  have hmf : ∀ (fn : Fn) (first cap : Array Value) (w : World), (Instr.makeFunc fn first cap).run Try.prog w = .ok (.func fn first cap) w := fun _ _ _ _ => rfl
  go_wp2_with fail
  generalize (((w.alloc (Obj.cells #[Value.slice ad l.length c, Value.int .i64 (K : Int)] 87)).alloc (Obj.cells #[Value.int .i64 (h : Int)] 3)).alloc (Obj.cells #[.slice none 0 0, .int .i64 0] 87)) = w1 at hW hb0 ho1 hbr ⊢
  refine (named_any _ #[] _ _ _ (two l h) (tells_alike ad l c w.heap.size (w.heap.size + 1) h (K : Int) hv hn hh) ao o co l.length w1 ho1 hnd (fun k hk => hM _ (num_mem hk)) (fun k hk => ⟨hM _ (num_mem (by omega)), hM _ (num_mem hk), fun e => by
    have h1 := idx_num hnd (show k < o.length by omega)
    have h2 := idx_num hnd hk
    rw [e, h2] at h1; omega⟩) hW hn hno).mono ?_
  rintro e w2 ⟨g2, rfl, hg2, hr2, hb2⟩
  have hbr2 := hbr.later hb2
  have hbl := hbr.lt
  obtain ⟨hy0, hy1⟩ := cells2 hbr2
  have hf0 := Blk.free hbr2 0
  have hf1 := Blk.free hbr2 1
  have hB := Below.later hb0 hb2
  have h2 := hb0.size
  clear hbr hW ho1 hb0 hb2
  go_wp2
  refine bodyPost_ret (v := .agg #[.slice (some ⟨g2, 0, none⟩) l.length l.length, .int .i64 (kindsOf (two l h) o)]) (by simp [results, Try.results80, go_sem, hy0, hy1]) rfl ⟨g2, rfl, by omega, ?_, ?_⟩
  · exact Blk.other (Blk.other hr2 (by simp; omega) _) (by simp; omega) _
  · exact (hB.setCell (p := ⟨w.heap.size + 2, 0, none⟩) (by simp) _).setCell (p := ⟨w.heap.size + 2, 1, none⟩) (by simp) _
end Go.Proofs.Ytepklbboejnecaa
