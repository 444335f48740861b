/- Together: more small ones. -/
import Derived.Test.YtepklbboejnecaaGreatJk
import Derived.Deep.Cut
namespace Go.Proofs.YtepklbboejnecaaGreat
open Go.RowKit Go.Shelf Sedge
attribute [local go_sem ↓] Go.wp_at_zero Go.wp_at_succ
attribute [local go_sem ↓] eqHJ
attribute [local go_sem] guardHJ

theorem putE_new {ts : List ByteArray} {t : ByteArray} (hl : ts.length < 6) (ht : t.size ≤ 60) : putE (nb 0 ts) ((7 * ts.length : Nat) : Int) t = 0 := by
  unfold putE
  rw [if_neg (by omega), if_neg (by rw [nb_new]; simp), if_neg (by omega), if_neg (by rw [nb_length]; omega)]
theorem putB_new {ts : List ByteArray} {t : ByteArray} (hl : ts.length < 6) (ht : t.size ≤ 60) : putB (nb 0 ts) ((7 * ts.length : Nat) : Int) t = nb 0 (ts ++ [t]) := by
  unfold putB
  rw [putE_new hl ht, if_pos rfl, Int.toNat_natCast, nb_ins]
theorem nb_mem_last (ts : List ByteArray) (t : ByteArray) : hasId (nb 0 (ts ++ [t])) ((7 * ts.length : Nat) : Int) = true := by
  rw [nb_append]
  unfold hasId
  rw [List.any_eq_true]
  exact ⟨(7 * (0 + ts.length), t), by simp, by simp⟩
theorem putE_again {ts : List ByteArray} {t u : ByteArray} (hl : ts.length < 6) : putE (nb 0 (ts ++ [t])) ((7 * ts.length : Nat) : Int) u = 9 := by
  unfold putE
  rw [if_neg (by omega), if_pos (nb_mem_last ts t)]
theorem putB_again {ts : List ByteArray} {t u : ByteArray} (hl : ts.length < 6) : putB (nb 0 (ts ++ [t])) ((7 * ts.length : Nat) : Int) u = nb 0 (ts ++ [t]) := by
  unfold putB
  rw [putE_again hl, if_neg (by omega)]
theorem txs_nb (i : Nat) (ts : List ByteArray) : txs (nb i ts) = ts.map bl := by
  induction ts generalizing i with
  | nil => rfl
  | cons t ts ih => have := ih (i + 1); unfold txs at this ⊢; simp only [nb, List.map_cons, this]
theorem two_of {ts : List ByteArray} (h : ts.length = 2) : ∃ a b, ts = [a, b] := by
  match ts, h with
  | [x, y], _ => exact ⟨x, y, rfl⟩
theorem str_two {w : World} {base : Nat} {v : Value} {ts : List ByteArray} (h : w.ownsRow base 9 1 v ts.length (SV ts)) {a b : ByteArray} (e : ts = [a, b]) : ∃ g c, v = .slice (some ⟨g, 0, none⟩) ts.length c ∧ w.cell? ⟨g, 0, none⟩ = some (.string a) ∧ w.cell? ⟨g, 1, none⟩ = some (.string b) := by
  subst e
  obtain ⟨g, c, e, d0⟩ := own_str h (i := 0) (by simp)
  obtain ⟨g', c', e', d1⟩ := own_str h (i := 1) (by simp)
  rw [e] at e'
  simp only [Value.slice.injEq, Option.some.injEq, Addr.mk.injEq, and_true, true_and] at e'
  obtain ⟨rfl, rfl⟩ := e'
  exact ⟨g, c, e, d0, d1⟩
theorem emptied_at (ts : List ByteArray) (part : ByteArray) (hts : ts.length ≤ 6) (hp1 : 0 < part.size) (hp2 : part.size ≤ 60) (sb : Nat) (k : Int) (hk : k = (ts.length : Int)) (w : World) (h : SH w sb 92 129 (nb 0 ts)) :
    Calls Tryz.prog 20 #[.pointer (some ⟨sb, 0, none⟩), .int .i64 k, .string part] w fun e w' => e = .returned (.bool true) ∧ Below sb w w' := by
  subst hk
  exact emptied_any ts part hts hp1 hp2 sb w h
theorem eqPtrNil (a : Addr) (w : World) : (binOp .eql 47 (.pointer (some a)) (.pointer none)).run Tryz.prog w = .ok (.bool false) w := by
  go_simp

end Go.Proofs.YtepklbboejnecaaGreat
