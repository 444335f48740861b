/- Turning a text. -/
import Derived.Test.YtepklbboejnecaaZb
import Derived.Deep.DeepAppendRoom
namespace Go.Proofs.Ytepklbboejnecaa
open Go.RowKit Go.Shelf Sedge
attribute [local go_sem ↓] Go.wp_at_zero Go.wp_at_succ

/-- 'append(b, x)' of a byte, where there is room. -/
theorem wpList_roomB (w : World) {ops : Array Oper} {rest : List Oper} {o : Oper} {a : Act} {Q : Exit → Act → World → Prop}
    (hg : o.guard = none) (s x : Operand) (hop : o.op = Op.call { callee := Callee.builtin Builtin.append, args := #[s, x], argTypes := #[139, 139] })
    (base g cap : Nat) (xs : List Nat) (hs : a.eval s = .slice (some ⟨g, 0, none⟩) xs.length cap) (hown : w.ownsRow base 5 1 (.slice (some ⟨g, 0, none⟩) xs.length cap) xs.length (UV xs))
    (ad : Addr) (y : Nat) (hx : a.eval x = .slice (some ad) 1 1) (hc : w.cell? ad = some (.int .u8 y)) (hroom : xs.length + 1 ≤ cap)
    (hK : ∀ w', w'.ownsRow base 5 1 (.slice (some ⟨g, 0, none⟩) (xs ++ [y]).length cap) (xs ++ [y]).length (UV (xs ++ [y])) → w.grownBy w' (some g) → wpList Try.prog ops Q rest (a.put o.dst (.slice (some ⟨g, 0, none⟩) (xs.length + 1) cap)) w') :
    wpList Try.prog ops Q (o :: rest) a w := by
  obtain ⟨i0, hi, hz0, hz1, hz2⟩ := info_parts Try.infoByte
  refine wpList_append_own_spare w hg s x 139 hop base 5 i0 1 Try.underlying139 hi hz1 g xs.length cap (UV xs) hs hown ad 1 1 [.int .u8 y] hx rfl ?_ ?_ hroom ?_
  · intro j u hj
    match j, hj with
    | 0, hj => simp at hj; subst hj; simpa [Addr.add] using hc
  · intro u hu; simp at hu; subst hu; rfl
  · intro w' h1 h2
    refine hK w' ?_ h2
    have e : UV (xs ++ [y]) = UV xs ++ [.int .u8 y] := by simp [UV]
    rw [e, List.length_append]; exact h1
theorem sl_grown {w w' : World} {ad : Option Addr} {l : List Nat} {g : Nat} (h : Sl w ad l) (hg : w.grownBy w' (some g)) (hne : ∀ b o, ad = some ⟨b, o, none⟩ → b ≠ g) : Sl w' ad l := by
  intro k hk
  obtain ⟨b, o, e, hc⟩ := h k hk
  exact ⟨b, o, e, hg.cell hc (fun q => hne b o e (by simpa using q))⟩

/-- What was turned so far. -/
def turnTo (l R : List Nat) (k : Nat) : List Nat := turnL l (R.take k)
def rowTo (R : List Nat) (k : Nat) : Nat := if 0 ∈ R.take k then R.idxOf 0 else 0
theorem turnTo_succ {l R : List Nat} {k : Nat} (h : k < R.length) : turnTo l R (k + 1) = if num R k = 0 then turnTo l R k else turnTo l R k ++ [num l (num R k - 1)] := by
  unfold turnTo turnL
  rw [take_num h, List.filter_append, List.map_append]
  by_cases e : num R k = 0
  · rw [if_pos e, List.filter_cons_of_neg (by simpa using e)]; simp
  · rw [if_neg e, List.filter_cons_of_pos (by simpa using e)]; simp
theorem turnTo_le {l R : List Nat} (k : Nat) : (turnTo l R k).length ≤ (turnL l R).length := by
  unfold turnTo turnL
  rw [List.length_map, List.length_map]
  exact (List.Sublist.filter _ (List.take_sublist k R)).length_le
theorem rowTo_succ {l R : List Nat} (hR : IsMA l R) {k : Nat} (h : k < R.length) : rowTo R (k + 1) = if num R k = 0 then k else rowTo R k := by
  unfold rowTo
  by_cases e : num R k = 0
  · have hx := idx_num hR.nodup h
    rw [e] at hx
    rw [if_pos e, if_pos ((mem_take_succ h).2 (Or.inr e.symm)), hx]
  · rw [if_neg e]
    by_cases c : 0 ∈ R.take k
    · rw [if_pos c, if_pos ((mem_take_succ h).2 (Or.inl c))]
    · rw [if_neg c, if_neg (fun d => ((mem_take_succ h).1 d).elim c (fun q => e q.symm))]

set_option maxRecDepth 20000 in
set_option maxHeartbeats 4000000 in
/-- turn.Text. -/
theorem text_any (s : ByteArray) (o : List Nat) (ho : IsSA (bl s) o) (w : World) (hs : s.size ≤ 1000) :
    Calls Try.prog 64 #[.string s] w fun e w' => e = .returned (.tuple #[.string (ofL (turnL (bl s) (s.size :: o))), .int .i64 ((s.size :: o).idxOf 0 : Nat)]) ∧ Below w.heap.size w w' := by
  have hMA : IsMA (bl s) (s.size :: o) := by have := IsMA.of_SA ho; rwa [bl_length] at this
  have hRl : (s.size :: o).length = s.size + 1 := by have := hMA.length; rwa [bl_length] at this
  have CM := fun W => marked_any s o ho W (by omega)
  obtain ⟨R, hRe⟩ : ∃ R, R = s.size :: o := ⟨_, rfl⟩
  rw [← hRe] at hMA hRl CM ⊢
  have hTl : (turnL (bl s) R).length = s.size := by rw [turnL_length hMA, bl_length]
  obtain ⟨ob, hmk, hown0⟩ := run_make_capB s.size (by omega) w
  have hb1 : Below w.heap.size w (w.alloc ob) := (Below.refl _ _).alloc (Nat.le_refl _) _
  have HCM : Hid _ := CM
  have HMA : Hid _ := hMA
  have HRL : Hid _ := hRl
  have HTL : Hid _ := hTl
  have HW0 : Hid _ := hown0
  have HB1 : Hid _ := hb1
  clear CM hMA hRl hTl hown0 hb1 ho hRe
  go_enter Try.func64, Try.ntmps64
  go_wp2_with fail
  refine Calls.mono (HCM.out _) ?_
  rintro e w2 ⟨v2, rfl, hown2, hb2⟩
  obtain ⟨ad2, c2, rfl, hS2⟩ := own_sl hown2
  have hba : ∀ b o, ad2 = some ⟨b, o, none⟩ → b ≠ w.heap.size := fun b o e => by
    subst e
    have := (hown2.lt b rfl).1
    simp at this; omega
  have HBA : Hid _ := hba
  have hW2 := ownB_later HW0.out hb2
  have hB2 := Below.later HB1.out hb2
  have hs2 : w.heap.size < w2.heap.size := by have := hb2.size; simp at this; omega
  clear hmk hba hown2 hb2 HW0 HB1 HCM
  rw [HRL.out]
  go_wp2_with fail
  go_loopw [3, 4, 13] (fun rw' tv i wr => ∃ k : Nat, k ≤ s.size + 1 ∧ i = .int .i64 k ∧ rw' = .int .i64 (rowTo R k : Nat) ∧ tv = .slice (some ⟨w.heap.size, 0, none⟩) (turnTo (bl s) R k).length s.size ∧ wr.ownsRow w.heap.size 5 1 (.slice (some ⟨w.heap.size, 0, none⟩) (turnTo (bl s) R k).length s.size) (turnTo (bl s) R k).length (UV (turnTo (bl s) R k)) ∧ Sl wr ad2 R ∧ Below w.heap.size w wr ∧ w.heap.size < wr.heap.size) (fun _ _ i _ => s.size + 1 - (intOf i).toNat)
  case atStart => exact ⟨0, Nat.zero_le _, rfl, by simp [rowTo], rfl, hW2, hS2, hB2, hs2⟩
  case round =>
    clear hW2 hS2 hB2 hs2
    obtain ⟨k, hk, rfl, rfl, rfl, hW, hS, hB, hsz⟩ := hrel
    by_cases hlt : k < s.size + 1
    · have hkR : k < R.length := by rw [HRL.out]; exact hlt
      obtain ⟨b, o1, rfl, hc⟩ := hS k hkR
      have hpm : num R k ≤ s.size := by have := (HMA.out.2 _).1 (num_mem hkR); rwa [bl_length] at this
      have i1 : (k : Int) < (s.size : Int) + 1 := by omega
      have i2 : (0 : Int) ≤ (k : Int) := by omega
      have hts := turnTo_succ (l := bl s) hkR
      have hrs := rowTo_succ HMA.out hkR
      have htl := turnTo_le (l := bl s) (R := R) (k + 1)
      rw [HTL.out] at htl
      by_cases h0 : num R k = 0
      · rw [if_pos h0] at hts hrs
        have HTS : Hid _ := hts
        have HRS : Hid _ := hrs
        have h0' : ((num R k : Int) == 0) = true := by rw [h0]; rfl
        clear hts hrs htl h0
        go_wp2
        go_roundw
        case rel => exact ⟨k + 1, by omega, by go_num, by rw [HRS.out], by rw [HTS.out], by rw [HTS.out]; exact hW, hS, hB, hsz⟩
        case measure => simp [intOf]; omega
      · rw [if_neg h0] at hts hrs
        rw [hts, List.length_append, List.length_singleton] at htl
        have HTS : Hid _ := hts
        have HRS : Hid _ := hrs
        have h0' : ((num R k : Int) == 0) = false := by rw [beq_eq_false_iff_ne]; omega
        have v1 : IntKind.i64.wrap ((num R k : Int) - 1) = ((num R k - 1 : Nat) : Int) := by rw [IntKind.wrap_i64]; omega
        have hlt2 : num R k - 1 < s.size := by omega
        have i3 : ((num R k - 1 : Nat) : Int) < (s.size : Int) := by omega
        have hby : num (bl s) (num R k - 1) = s[num R k - 1].toNat := bl_num hlt2
        have HBY : Hid _ := hby
        have HW : Hid _ := hW
        clear hts hrs h0 hby hW
        go_wp2_with (first | (at_builtin; refine wpList_roomB _ rfl _ _ rfl w.heap.size w.heap.size s.size (turnTo (bl s) R k) rfl (World.ownsRow.alloc HW.out _) ⟨wr.heap.size, 0, none⟩ (s[num R k - 1].toNat) rfl (by simp) htl ?_; intro w3 hown3 hg3) | fail)
        have hts' : turnTo (bl s) R (k + 1) = turnTo (bl s) R k ++ [s[num R k - 1].toNat] := by rw [HTS.out, HBY.out]
        have hB4 : Below w.heap.size w w3 := (hB.alloc (by omega) _).grown hg3 (by simp; omega) (fun j e => by simp at e; omega)
        have hz := hg3.size
        simp only [World.size_alloc] at hz
        go_roundw
        case rel => exact ⟨k + 1, by omega, by go_num, by rw [HRS.out], by rw [hts', List.length_append]; rfl, by rw [hts']; exact hown3, sl_grown (hS.alloc _) hg3 HBA.out, hB4, by omega⟩
        case measure => simp [intOf]; omega
    · have hk' : k = R.length := by rw [HRL.out]; omega
      have ht : turnTo (bl s) R k = turnL (bl s) R := by rw [hk', turnTo, List.take_length]
      have hr : rowTo R k = R.idxOf 0 := by rw [hk', rowTo, List.take_length, if_pos ((HMA.out.2 0).2 (Nat.zero_le _))]
      rw [ht] at hW ⊢
      rw [hr]
      have hcv := convert_own hW
      have i1 : ¬ (k : Int) < (s.size : Int) + 1 := by omega
      clear hk' ht hr hW
      go_wp2
      go_ret2
      exact ⟨rfl, hB⟩

set_option maxHeartbeats 1000000 in
/-- sedge.Turn. -/
theorem Turn_any (s : ByteArray) (o : List Nat) (ho : IsSA (bl s) o) (w : World) (hs : s.size ≤ 1000) :
    Calls Try.prog 31 #[.string s] w fun e w' => e = .returned (.tuple #[.string (ofL (turnL (bl s) (s.size :: o))), .int .i64 ((s.size :: o).idxOf 0 : Nat), .int .i64 0]) ∧ Below w.heap.size w w' := by
  have i1 : (s.size : Int) ≤ 1000 := by omega
  have C := text_any s o ho w hs
  generalize turnL (bl s) (s.size :: o) = L at C ⊢
  generalize (s.size :: o).idxOf 0 = r at C ⊢
  have HC : Hid _ := C
  clear C
  go_enter Try.func31, Try.ntmps31
  go_wp2_with fail
  refine Calls.mono HC.out ?_
  rintro e w1 ⟨rfl, hb⟩
  go_wp2
  go_ret3
  exact ⟨rfl, hb⟩
set_option maxHeartbeats 1000000 in
theorem Turn_long (s : ByteArray) (w : World) (hs : 1000 < s.size) :
    Calls Try.prog 31 #[.string s] w fun e w' => e = .returned (.tuple #[.string ⟨#[]⟩, .int .i64 0, .int .i64 2]) ∧ Below w.heap.size w w' := by
  have i1 : (1000 : Int) < (s.size : Int) := by omega
  go_enter Try.func31, Try.ntmps31
  go_wp2
  go_ret3
  exact ⟨rfl, Below.refl _ _⟩
end Go.Proofs.Ytepklbboejnecaa
