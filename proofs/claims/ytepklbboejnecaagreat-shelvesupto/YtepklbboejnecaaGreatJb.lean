/- Shelves: lists of texts put together. -/
import Derived.Test.YtepklbboejnecaaGreatJa
import Derived.Maps.AppendAt
import Derived.Laws.AppendOwnNone
import Derived.Lib.AppendZeros
import Derived.Test.YtepklbboejnecaaGreatWs
namespace Go.Proofs.YtepklbboejnecaaGreat
open Go.RowKit Go.Shelf Sedge
attribute [local go_sem ↓] Go.wp_at_zero Go.wp_at_succ

theorem Tryz.infoEnt : (Tryz.prog.info? 129).map (fun i => (i.zero, i.size, i.bytes)) = some (some (.agg #[.int .i64 0, .string ⟨#[]⟩]), 2, 24) := by kernel_rfl
theorem ent_src {w : World} {ad : Option Addr} {l : List Vol} (h : ES w ad l) : ∀ b, ad = some b → ∀ j v, (EV l)[j]? = some v → w.cell? (b.add j) = some v := by
  intro b hb j v hj
  have hlt := (List.getElem?_eq_some_iff.1 hj).1
  rw [EV_length] at hlt
  obtain ⟨q, r, hr, rfl⟩ : ∃ q r, r < 2 ∧ j = q * 2 + r := ⟨j / 2, j % 2, by omega, by omega⟩
  have hk : q < l.length := by omega
  obtain ⟨b', o', e, c0, c1⟩ := h q hk
  rw [hb] at e
  simp only [Option.some.injEq] at e
  subst e
  have ea : (⟨b', o', none⟩ : Addr).add (q * 2 + r) = ⟨b', o' + q * 2 + r, none⟩ := by unfold Addr.add; split <;> simp_all [Nat.add_assoc]
  have ha := EV_at l q hk
  rw [ea, ← hj]
  match r, hr with
  | 0, _ => exact c0.trans ha.1.symm
  | 1, _ => exact c1.trans ha.2.symm
/-- 'append(l, b...)' of texts. -/
theorem wpList_appendE (t e : TypeId) (hu : Tryz.prog.underlying t = some (.slice e)) (hinf : (Tryz.prog.info? e).map (fun i => (i.zero, i.size, i.bytes)) = some (some (.agg #[.int .i64 0, .string ⟨#[]⟩]), 2, 24))
    (w : World) {ops : Array Oper} {rest : List Oper} {o : Oper} {a : Act} {Q : Exit → Act → World → Prop} (hg : o.guard = none)
    (s x : Operand) (hop : o.op = Op.call { callee := Callee.builtin Builtin.append, args := #[s, x], argTypes := #[t, t] })
    (base : Nat) (v : Value) (A : List Vol) (hs : a.eval s = v) (hown : w.ownsRow base e 2 v A.length (EV A))
    (ad : Option Addr) (c : Nat) (B : List Vol) (hx : a.eval x = .slice ad B.length c) (hB : ES w ad B) (hnil : ad = none → c = 0) (hn : A.length + B.length ≤ 1000000) (hbase : base ≤ w.heap.size)
    (hK : ∀ v' w', w'.ownsRow base e 2 v' (A ++ B).length (EV (A ++ B)) → Below base w w' → wpList Tryz.prog ops Q rest (a.put o.dst v') w') :
    wpList Tryz.prog ops Q (o :: rest) a w := by
  refine wpList_plain hg fun K hK' => ?_
  obtain ⟨i0, hi, hz0, hz1, hz2⟩ := info_parts hinf
  cases ad with
  | none =>
    have hc := hnil rfl
    subst hc
    have e0 : B = [] := List.eq_nil_of_length_eq_zero (by
      by_cases h0 : B.length = 0
      · exact h0
      · obtain ⟨b, o, q, _⟩ := hB 0 (by omega); cases q)
    subst e0
    have hrun := run_append_owned_none (P := Tryz.prog) (w := w) base t o.type e i0 2 hu hi v A.length (EV A) hown
    unfold Oper.wp execOp
    simp only [hop, resolve, invoke, builtin, Sem.run_bind, Sem.run_pure, Result.andThen_ok, List.map_toArray, List.map_cons, List.map_nil, hs, hx, List.length_nil, hrun]
    exact hK' _ _ (hK _ _ (by simpa using hown) (Below.refl _ _))
  | some ad =>
    obtain ⟨v', w', hr, h2, h3, _⟩ := run_append_own_at (P := Tryz.prog) w base t o.type e i0 (.agg #[.int .i64 0, .string ⟨#[]⟩]) 2 24 hu hi hz0 hz1 hz2 rfl (by decide) v A.length (EV A) hown ad B.length c (EV B) (EV_length B) (ent_src hB ad rfl) (EV_one B) (by unfold maxLen; omega) (by omega) hbase
    unfold Oper.wp execOp
    simp only [hop, resolve, invoke, builtin, Sem.run_bind, Sem.run_pure, Result.andThen_ok, List.map_toArray, List.map_cons, List.map_nil, hs, hx, hr]
    refine hK' _ _ (hK v' w' (by rw [List.length_append, EV_append]; exact h2) ((Below.refl _ w).grown h3 hbase (fun k e => (hown.lt k e).1)))

set_option maxRecDepth 20000 in
set_option maxHeartbeats 1000000 in
/-- slices.Grow of nothing. -/
theorem growE_any (n : Nat) (w : World) (hn : n ≤ 1000000) :
    Calls Tryz.prog 96 #[.slice none 0 0, .int .i64 n] w fun e w' => ∃ v, e = .returned v ∧ w'.ownsRow w.heap.size 129 2 v 0 [] ∧ Below w.heap.size w w' := by
  by_cases h0 : n = 0
  · subst h0
    go_enter Tryz.func96, Tryz.ntmps96
    go_wp2
    go_ret
    exact ⟨_, rfl, World.ownsRow_nil _ _ _ _, Below.refl _ _⟩
  · obtain ⟨i0, hi, hz0, hz1, hz2⟩ := info_parts Tryz.infoEnt
    have hrun := Lib.run_append_nil_zeros (P := Tryz.prog) w 88 3 88 129 i0 _ .i64 .i64 Tryz.underlying88 Tryz.underlying3 hi hz0 n (by omega) (by omega) (by omega) (by rw [hz2]; omega)
    have hge := grownCap_ge w n 0 129
    have hle := grownCap_le_maxLen w n 0 129 (by unfold maxLen; omega)
    obtain ⟨cp, hcp⟩ : ∃ cp, cp = grownCap w n 0 129 := ⟨_, rfl⟩
    rw [← hcp] at hrun hge hle
    obtain ⟨Z, hZ⟩ : ∃ Z, Z = Builtin.zeroCells (Value.agg #[.int .i64 0, .string ⟨#[]⟩]).cells n ++ Builtin.zeroCells (Value.agg #[.int .i64 0, .string ⟨#[]⟩]).cells (cp - n) := ⟨_, rfl⟩
    have hZs : Z.size = cp * 2 := by
      rw [hZ, Array.size_append, size_zeroCells, size_zeroCells, show (Value.agg #[.int .i64 0, .string ⟨#[]⟩]).cells.size = 2 from rfl]; omega
    rw [← hZ] at hrun
    have HLE : Hid _ := hle
    have HZS : Hid _ := hZs
    have HR : Hid _ := hrun
    have j1 : (0 : Int) < (n : Int) := by omega
    have j2 : ¬ (n : Int) < 0 := by omega
    have j3 : (0 : Int) ≤ (cp : Int) := by omega
    clear hrun hZ hZs hcp h0 hle
    go_enter Tryz.func96, Tryz.ntmps96
    go_wp2_with (first | (at_builtin; refine Lib.wpList_append_run _ rfl _ _ _ _ rfl _ _ rfl rfl _ _ HR.out ?_) | fail)
    go_ret
    exact ⟨_, rfl, ⟨rfl, .inr ⟨w.heap.size, cp, Z, rfl, Nat.le_refl _, heap_alloc_new w _, Nat.zero_le _, HLE.out, HZS.out, by simp⟩⟩, ((Below.refl _ w).alloc (Nat.le_refl _) _).drew⟩

/-- Pieces that are put together. -/
abbrev Pcs := List (Option Addr × Nat × List Vol)
def cat (ps : Pcs) : List Vol := (ps.map (·.2.2)).flatten
theorem cat_succ {ps : Pcs} {k : Nat} (h : k < ps.length) : cat (ps.take (k + 1)) = cat (ps.take k) ++ ps[k].2.2 := by
  unfold cat
  rw [List.take_add_one, List.getElem?_eq_getElem h, List.map_append, List.flatten_append]
  simp only [Option.toList, List.map_cons, List.map_nil, List.flatten_cons, List.flatten_nil, List.append_nil]
theorem cat_le {ps : Pcs} {k : Nat} : (cat (ps.take k)).length ≤ (cat ps).length := by
  unfold cat
  have : ps = ps.take k ++ ps.drop k := (List.take_append_drop k ps).symm
  conv => rhs; rw [this, List.map_append, List.flatten_append, List.length_append]
  omega
structure PSE (w : World) (g : Nat) (ps : Pcs) : Prop where
  cell : ∀ k (h : k < ps.length), w.cell? ⟨g, k, none⟩ = some (.slice ps[k].1 ps[k].2.2.length ps[k].2.1)
  es : ∀ k (h : k < ps.length), ES w ps[k].1 ps[k].2.2
  nil : ∀ k (h : k < ps.length), ps[k].1 = none → ps[k].2.1 = 0

set_option maxRecDepth 20000 in
set_option maxHeartbeats 2000000 in
/-- slices.Concat. -/
theorem concat_any (g c : Nat) (ps : Pcs) (w : World) (hP : PSE w g ps) (hc : (cat ps).length ≤ 1000) (hps : ps.length ≤ 1000) :
    Calls Tryz.prog 60 #[.slice (some ⟨g, 0, none⟩) ps.length c] w fun e w' => ∃ v, e = .returned v ∧ w'.ownsRow w.heap.size 129 2 v (cat ps).length (EV (cat ps)) ∧ Below w.heap.size w w' := by
  have HP : Hid _ := hP
  clear hP
  go_enter Tryz.func60, Tryz.ntmps60
  go_wp2_with fail
  go_loopw [3, 5, 11] (fun sv _ iv wr => wr = w ∧ ∃ k : Nat, k ≤ ps.length ∧ sv = .int .i64 ((cat (ps.take k)).length : Nat) ∧ iv = .int .i64 k) (fun _ _ iv _ => ps.length - (intOf iv).toNat)
  case atStart => exact ⟨rfl, 0, Nat.zero_le _, rfl, rfl⟩
  case round =>
    obtain ⟨hw, k, hk, rfl, rfl⟩ := hrel
    subst hw
    by_cases hlt : k < ps.length
    · have hle := cat_le (ps := ps) (k := k + 1)
      have hcs := congrArg List.length (cat_succ hlt)
      rw [List.length_append] at hcs
      have d0 := HP.out.cell k hlt
      have HCS : Hid _ := hcs
      have hl1 : (cat (ps.take k)).length + ps[k].2.2.length ≤ 1000 := by omega
      generalize ps[k].2.2.length = m at d0 HCS hl1
      generalize ps[k].1 = ad at d0
      generalize ps[k].2.1 = c1 at d0
      generalize (cat (ps.take k)).length = n at HCS hl1 ⊢
      have i1 : (k : Int) < (ps.length : Int) := by omega
      have i2 : (0 : Int) ≤ (k : Int) := by omega
      have i3 : ¬ (n : Int) + (m : Int) < 0 := by omega
      have v1 : IntKind.i64.wrap ((n : Int) + (m : Int)) = (n : Int) + (m : Int) := by rw [IntKind.wrap_i64]; omega
      clear hcs hle
      go_wp2
      go_roundw
      case rel => exact ⟨trivial, k + 1, by omega, by rw [HCS.out]; go_num, by go_num⟩
      case measure => simp [intOf]; omega
    · have ek : k = ps.length := by omega
      subst ek
      have i1 : ¬ (ps.length : Int) < (ps.length : Int) := by omega
      rw [List.take_length]
      clear hk hlt
      go_wp2_with fail
      refine (growE_any _ _ (by omega)).mono ?_
      rintro e w1 ⟨v, rfl, hown, hb⟩
      obtain ⟨A0, hA0⟩ : ∃ A : List Vol, A = [] := ⟨_, rfl⟩
      have HO : Hid (w1.ownsRow wr.heap.size 129 2 v A0.length (EV A0)) := by unfold Hid; rw [hA0]; exact hown
      have HA : Hid _ := hA0
      clear hA0
      have HB : Hid _ := hb
      clear hown hb
      obtain ⟨w0, hw0⟩ : ∃ w0, w0 = wr := ⟨_, rfl⟩
      subst hw0
      go_wp2_with fail
      go_loopw [6, 8, 27] (fun v _ iv wr => ∃ k : Nat, k ≤ ps.length ∧ wr.ownsRow w0.heap.size 129 2 v (cat (ps.take k)).length (EV (cat (ps.take k))) ∧ iv = .int .i64 k ∧ Below w0.heap.size w0 wr) (fun _ _ iv _ => ps.length - (intOf iv).toNat)
      case atStart => exact ⟨0, Nat.zero_le _, by have := HO.out; rw [HA.out] at this; exact this, rfl, HB.out⟩
      case round =>
        obtain ⟨k, hk, hown, rfl, hb⟩ := hrel
        by_cases hlt : k < ps.length
        · have hle := cat_le (ps := ps) (k := k + 1)
          have hcs := cat_succ hlt
          have hcl := congrArg List.length hcs
          rw [List.length_append] at hcl
          have c0 := HP.out.cell k hlt
          have d0 := (hb.cell (cell_lt c0)).trans c0
          have HE : Hid _ := (HP.out.es k hlt).later hb
          have HN : Hid _ := HP.out.nil k hlt
          have HCS : Hid _ := hcs
          have hl1 : (cat (ps.take k)).length + ps[k].2.2.length ≤ 1000 := by omega
          have HW : Hid _ := hown
          have hbs := hb.size
          have i1 : (k : Int) < (ps.length : Int) := by omega
          have i2 : (0 : Int) ≤ (k : Int) := by omega
          clear c0 hcs hcl hown
          generalize ps[k].2.2 = B at d0 HE HCS hl1
          generalize ps[k].1 = ad at d0 HE HN
          generalize ps[k].2.1 = c1 at d0 HN
          generalize cat (ps.take k) = A at HCS hl1 HW
          go_wp2_with (first | (at_builtin; refine wpList_appendE 88 129 Tryz.underlying88 Tryz.infoEnt _ rfl _ _ rfl w0.heap.size _ A rfl HW.out ad c1 B rfl HE.out HN.out (by omega) (by omega) ?_; intro v' w3 hown3 hb3) | fail)
          go_roundw
          case rel => exact ⟨k + 1, by omega, by rw [HCS.out]; exact hown3, by go_num, hb.trans hb3⟩
          case measure => simp [intOf]; omega
        · have ek : k = ps.length := by omega
          subst ek
          rw [List.take_length] at hown
          have i1 : ¬ (ps.length : Int) < (ps.length : Int) := by omega
          go_wp2
          go_ret
          exact ⟨_, rfl, hown, hb⟩
end Go.Proofs.YtepklbboejnecaaGreat
