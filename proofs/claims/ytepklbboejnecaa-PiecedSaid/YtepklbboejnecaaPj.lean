/- Proved: at all strings text, other and every slice l of factors the statement sedgelaw.Pieced ends and returns true, and its arguments read as before. No condition. -/
import Derived.Test.YtepklbboejnecaaH
import Derived.ProofKit
import Derived.Deep.Strs
import Derived.SizedLaws
namespace Go.Proofs.Ytepklbboejnecaa
open Go.ChangeShapes Go.WideShapes Go.ChangeAt Go.RowKit
open Go.ChangeMaps (open_string shut_string)

theorem Try.own : ownKnob Try.prog.godebug = none := by kernel_rfl
theorem Try.laidOut : laidOutB Try.prog = true := by kernel_rfl
theorem Try.cellsFac : Try.prog.cellsOf 64 = 3 := by kernel_rfl
theorem Try.cellsI : Try.prog.cellsOf 3 = 1 := by kernel_rfl
theorem Try.cellsU : Try.prog.cellsOf 5 = 1 := by kernel_rfl
theorem Try.bytesFac : Try.prog.bytesOf 64 = 24 := by kernel_rfl

set_option maxRecDepth 100000 in
/-- A slice of factors that came in, read. -/
theorem open_facs {H : Type} {enc : TypeId × Value → H} {W : World} {a0 : Option Addr} {len cap fuel : Nat} {x : DataW H × List MemPlace} (h : DataW.trod enc Try.prog W 0 (fun _ => true) true fuel 61 [.slice a0 len cap] = some x) :
    ∃ l : List (Int × Int × Nat), l.length = len ∧ FacS W a0 l ∧ (a0 = none → l = [] ∧ cap = 0) ∧ (x.1 = .nil ∨ ∃ el sp, x.1 = .slice el sp ∧ el.length = len) := by
  rcases Deep.open_slice Try.underlying61 h with ⟨h0, hx⟩ | ⟨a, len', cap', m, n, D, Pl, hcs, hb, hl, hm, hmm, hx, each⟩
  · simp at h0
    obtain ⟨rfl, rfl, rfl⟩ := h0
    exact ⟨[], rfl, fun k hk => by simp at hk, fun _ => ⟨rfl, rfl⟩, .inl (by rw [hx])⟩
  · simp at hcs
    obtain ⟨rfl, rfl, rfl⟩ := hcs
    simp only [if_true] at hmm
    have hlm : len ≤ m := by omega
    have h1 : ∀ i, i < len → ∃ p : Int × Int × Nat, W.cell? (a.add (i * 3)) = some (.int .i64 p.1) ∧ W.cell? (a.add (i * 3 + 1)) = some (.int .i64 p.2.1) ∧ W.cell? (a.add (i * 3 + 2)) = some (.int .u8 (p.2.2 : Nat)) := fun i hi => by
      obtain ⟨cs, g1, g2⟩ := each i (by omega)
      rw [Try.cellsFac] at g1
      obtain ⟨_, hlen, hcell⟩ := World.cells?_some g1
      obtain ⟨y0, y1, y2, k, _, _, t0, t1, t2⟩ := Deep.trod_struct3 Try.underlying64 g2
      match cs, hlen with
      | [v0, v1, v2], _ =>
        simp [Try.cellsI, Try.cellsU] at t0 t1 t2
        obtain ⟨p0, e0, _, _⟩ := DataW.trod_int Try.underlying3 t0
        obtain ⟨p1, e1, _, _⟩ := DataW.trod_int Try.underlying3 t1
        obtain ⟨p2, e2, _, w2⟩ := DataW.trod_int Try.underlying5 t2
        have hp2 : 0 ≤ p2 := by simp [Lit.wf, IntKind.min, IntKind.max, IntKind.signed, IntKind.bits] at w2; omega
        simp at e0 e1 e2
        have q0 := hcell 0 (by omega)
        have q1 := hcell 1 (by omega)
        have q2 := hcell 2 (by omega)
        rw [Deep.add_add] at q0 q1 q2
        refine ⟨(p0, p1, p2.toNat), by simpa [e0] using q0, by simpa [e1] using q1, ?_⟩
        have : ((p2.toNat : Nat) : Int) = p2 := by omega
        simp only [this]
        simpa [e2] using q2
    obtain ⟨f, hf⟩ := Deep.choose_lt h1
    refine ⟨(List.range len).map f, by simp, fun k hk => ?_, (fun h => by cases h), .inr ⟨_, _, by rw [hx], by simp⟩⟩
    have hk' : k < len := by simpa using hk
    obtain ⟨b, o, sp⟩ := a
    have hsp : sp = none := by simpa [Addr.add] using World.cell?_spot (hf 0 (by omega)).1
    subst hsp
    obtain ⟨c0, c1, c2⟩ := hf k hk'
    rw [add_plain] at c0 c1 c2
    refine ⟨b, o, rfl, ?_, ?_, ?_⟩
    · simpa using c0
    · simpa [Nat.add_assoc] using c1
    · simpa [Nat.add_assoc] using c2

set_option maxRecDepth 100000 in
theorem pieced_lifted (os : Os) (started : os.Started) (H : Type) (enc : TypeId × Value → H) :
    ReturnsInHanded {} Try.checked os 11 .any (Rows.piecedSpec.pre6 enc Try.prog Try.f11 Rows.piecedRow.domain false) (Rows.piecedSpec.post enc Try.prog Try.f11 false true false false) := by
  refine returnsInHanded_of_change_sized (C := Try.checked) Try.own started (by kernel_rfl) Try.func11
    (ChangeSpec.witness6 (enc := enc) (C := Try.checked) false ⟨#[], #[.string ⟨#[]⟩, .slice none 0 0, .string ⟨#[]⟩], []⟩ 8 (by kernel_rfl) (by kernel_rfl) (by kernel_rfl) (by kernel_rfl)) ?_
  intro W base args ds gs before hval0 hW hcnd hsz0 _
  have hsz : (DataW.weightsEach Try.prog (Try.f11.params.toList ++ Rows.piecedSpec.plain.varTypes Try.prog) (ds ++ gs)).all (· ≤ reachBytes) = true := hsz0
  clear hsz0
  have hval : ∀ (j : Nat) t v, Try.f11.params[j]? = some t → args[j]? = some v → Value.okWide Try.prog W .any base t v := hval0
  have hW' := hW
  obtain ⟨p, q, hA0, hV, rfl, hfz, hnd⟩ := hW
  have hA : DataW.TrodAll enc Try.prog W 0 (fun _ => true) true Try.f11.params.toList args.toList ds p := hA0
  rw [Try.params11] at hA hval hsz
  obtain ⟨v0, v1, v2, d0, d1, d2, p0, p1, p2, rfl, rfl, rfl, h0, h1, h2⟩ := trodAll_three hA
  obtain ⟨rfl, rfl⟩ := trodVars_none hV
  obtain ⟨a, rfl, rfl, rfl, k0⟩ := open_string Try.underlying9 (hval 0 9 v0 rfl rfl) h0
  obtain ⟨b, rfl, rfl, rfl, k2⟩ := open_string Try.underlying9 (hval 2 9 v2 rfl rfl) h2
  have h1k := h1
  obtain ⟨fuel, hf⟩ := h1
  clear hA0 hval0
  simp only [List.append_nil, List.nil_append] at hW'
  have hlt : ∀ x ∈ p1, x.block < W.heap.size := fun x hx => by simpa using hW'.lt x (by simpa using hx)
  have hback : ∀ W', Below W.heap.size W W' → DataW.Trod enc Try.prog W' 0 (fun b => decide (b < W.heap.size)) true 61 v1 d1 p1 := fun W' hb =>
    Below.trod Try.laidOut (by kernel_rfl) (of_decide_eq_true (by kernel_rfl)) h1k hb hlt
  obtain ⟨a0, len, cap, rfl⟩ := okWide_slice Try.underlying61 (hval 1 61 v1 rfl rfl)
  obtain ⟨l, hll, hFS, hnil, hd⟩ := open_facs (a0 := a0) (len := len) (cap := cap) (by simpa [Value.cells] using hf)
  have hlen : l.length ≤ 5864062014640 := by
    rcases hd with hd | ⟨el, sp, hd, hel⟩
    · have : len = 0 := by
        rcases Deep.open_slice Try.underlying61 (cs := [.slice a0 len cap]) (by simpa [Value.cells] using hf) with ⟨h0, _⟩ | ⟨a', len', cap', m, n, D, Pl, hcs, _, _, _, _, hx, _⟩
        · simp at h0; exact h0.2.1
        · rw [hx] at hd; cases hd
      omega
    · simp only at hd
      subst hd
      have hr := sized_slice hsz (j := 1) (t := 61) (e := 64) rfl rfl Try.underlying61
      rw [Try.bytesFac] at hr
      unfold reachBytes at hr
      omega
  subst hll
  refine (pieced_any a a0 l cap b W hFS hnil hlen).mono fun e W' ⟨he, hg⟩ => ?_
  subst he
  exact ⟨_, rfl, _, _, _, [], [] ++ (p1 ++ []), [], hW', trodAll_mk1 (shut_bool Try.underlying4 _), trodAll_mk3 (shut_string Try.underlying9 k0) (hback W' hg) (shut_string Try.underlying9 k2), rfl, hg.frame _, fun h => by cases h⟩

theorem pieced_holds : Rows.PiecedSaid :=
  OpenClaim.holds_of_wide 11 Try.f11 rfl rfl rfl rfl rfl rfl rfl ⟨rfl, rfl, rfl, rfl, rfl⟩ rfl rfl rfl rfl rfl (by kernel_rfl) Try.func11 (by kernel_rfl)
    (of_decide_eq_true (by kernel_rfl)) (by unfold Func.isWrapper; first | (rw [if_pos (by decide +kernel)]; kernel_rfl) | (rw [if_neg (by decide +kernel)]; exact ⟨rfl, rfl⟩))
    (fun os started H enc _ => pieced_lifted os started H enc)
end Go.Proofs.Ytepklbboejnecaa
