/- What is held: Sort and Common, held against the document's. -/
import Derived.Test.YtmmbljcjeianfaaYg
namespace Go.Proofs.Ytmmbljcjeianfaa
open Go.RowKit Go.Shelf Sedge
attribute [local go_sem ↓] Go.wp_at_zero Go.wp_at_succ

/-- What Sort tells, by the document. -/
def sortL (s : ByteArray) (n : Int) (o : List Nat) : List Nat := if n < 0 ∨ 3 ≤ n then [] else if 1000 < s.size then [] else o
def sortE (s : ByteArray) (n : Int) : Int := if n < 0 ∨ 3 ≤ n then 1 else if 1000 < s.size then 2 else 0
/-- What a call told: a list of its own, and a number. -/
def Tell (L : List Nat) (k : Int) (w : World) (e : Ending) (w' : World) : Prop := ∃ v, e = .returned (.tuple #[v, .int .i64 k]) ∧ w'.ownsRow w.heap.size 3 1 v L.length (IV L) ∧ Below w.heap.size w w'
def TellR (L : List Nat) (k : Int) (w : World) (e : Ending) (w' : World) : Prop := ∃ ad c, e = .returned (.tuple #[.slice ad L.length c, .int .i64 k]) ∧ Sl w' ad L ∧ Below w.heap.size w w'

theorem Sort_tell (s : ByteArray) (n : Int) (o : List Nat) (ho : IsSA (bl s) o) (w : World) : Calls Try.prog 19 #[.string s, .int .i64 n] w (Tell (sortL s n o) (sortE s n) w) := by
  unfold sortL sortE
  by_cases h : n < 0 ∨ 3 ≤ n
  · rw [if_pos h, if_pos h]
    refine (sort_way s n w h).mono ?_
    rintro e w' ⟨rfl, hb⟩
    exact ⟨_, rfl, World.ownsRow_nil _ _ _ _, hb⟩
  · rw [if_neg h, if_neg h]
    by_cases h2 : 1000 < s.size
    · rw [if_pos h2, if_pos h2]
      refine (sort_long s n w (by omega) (by omega) h2).mono ?_
      rintro e w' ⟨rfl, hb⟩
      exact ⟨_, rfl, World.ownsRow_nil _ _ _ _, hb⟩
    · rw [if_neg h2, if_neg h2]
      refine (sort_any s n w (by omega) (by omega) (by omega)).mono ?_
      rintro e w' ⟨v, o', rfl, hown, hsa, hb⟩
      have he := IsSA.unique hsa ho
      subst he
      exact ⟨v, rfl, hown, hb⟩
theorem refSort_tell (s : ByteArray) (n : Int) (o : List Nat) (ho : IsSA (bl s) o) (w : World) : Calls Try.prog 37 #[.string s, .int .i64 n] w (TellR (sortL s n o) (sortE s n) w) := by
  unfold sortL sortE
  by_cases h : n < 0 ∨ 3 ≤ n
  · rw [if_pos h, if_pos h]
    refine (refSort_way s n w h).mono ?_
    rintro e w' ⟨rfl, hb⟩
    exact ⟨none, 0, rfl, fun k hk => by simp at hk, hb⟩
  · rw [if_neg h, if_neg h]
    by_cases h2 : 1000 < s.size
    · rw [if_pos h2, if_pos h2]
      refine (refSort_long s n w (by omega) (by omega) h2).mono ?_
      rintro e w' ⟨rfl, hb⟩
      exact ⟨none, 0, rfl, fun k hk => by simp at hk, hb⟩
    · rw [if_neg h2, if_neg h2]
      refine (refSort_any s n w (by omega) (by omega) (by omega)).mono ?_
      rintro e w' ⟨ad, c, R, rfl, hS, hsa, hb⟩
      have he := IsSA.unique hsa ho
      subst he
      exact ⟨ad, c, rfl, hS, hb⟩
theorem sortL_le {s : ByteArray} {n : Int} {o : List Nat} (ho : IsSA (bl s) o) : (sortL s n o).length ≤ 100000 := by
  have := IsSA.length ho
  rw [bl_length] at this
  unfold sortL
  split
  · simp
  · split
    · simp
    · omega

set_option maxRecDepth 20000 in
set_option maxHeartbeats 4000000 in
/-- 'h.sort'. -/
theorem hsort_any (B : Nat) (W : World) (hb N : Nat) (vI vT vR : Value) (E : List (Value × Int)) (T : List (Value × Value × List Nat)) (H : HInv B W hb N vI vT vR E T) (hT : T.length < 100) (s : ByteArray) (n : Int) :
    Calls Try.prog 13 #[.pointer (some ⟨hb, 0, none⟩), .string s, .int .i64 n] W fun e w' => e = .returned (.bool true) ∧ ∃ vT' vR' x, HInv B w' hb N vI vT' vR' E (T ++ [x]) ∧ Below B W w' := by
  obtain ⟨o, ho⟩ := exists_SA (bl s)
  have HH : Hid _ := H
  have hsz : B ≤ W.heap.size := by have := H.base; have := H.box.lt; omega
  have C1 := fun W => Sort_tell s n o ho W
  have C2 := fun W => refSort_tell s n o ho W
  have hL := sortL_le (n := n) ho
  generalize sortL s n o = L at C1 C2 hL
  generalize sortE s n = k at C1 C2
  have HC1 : Hid _ := C1
  have HC2 : Hid _ := C2
  clear H C1 C2 ho
  go_enter Try.func13, Try.ntmps13
  go_wp2_with fail
  refine Calls.mono (HC1.out _) ?_
  rintro e w1 ⟨v, rfl, hv, hb1⟩
  obtain ⟨ad, cv, rfl⟩ := own_val hv
  have HV : Hid _ := hv
  have HB1 : Hid _ := hb1
  clear hv hb1
  go_wp2_with fail
  refine Calls.mono (HC2.out _) ?_
  rintro e w2 ⟨ad2, c2, rfl, hS2, hb2⟩
  have hv2 := own_fr HV.out (Fr.of_below hb2) (free_nil _)
  obtain ⟨ad3, c3, e3, hS3⟩ := own_sl hv2
  simp only [Value.slice.injEq, true_and] at e3
  obtain ⟨rfl, rfl⟩ := e3
  have HV2 : Hid _ := hv2
  have HB2 : Hid _ := hb2
  clear hb2 hv2
  go_wp2_with fail
  refine (sameInts_any ad ad2 L L cv c2 w2 hS3 hS2 rfl (by omega)).mono ?_
  rintro e w3 ⟨rfl, hb3⟩
  have HB3 : Hid _ := hb3
  have hB13 : Below w1.heap.size w1 w3 := Below.later HB2.out hb3
  have hB03 : Below W.heap.size W w3 := Below.later HB1.out hB13
  have hH3 := HInv.later HH.out hB03
  have hF := HInv.fresh HH.out (x := .slice ad L.length cv) (fun g hg => (World.ownsRow.lt HV.out g hg).1)
  have hv3 : w3.ownsRow B 3 1 (.slice ad L.length cv) L.length (IV L) := own_mono (own_fr HV2.out (Fr.of_below hb3) (free_nil _)) hsz
  have CI := ints_any B w3 hb N vI vT vR E T hH3 (.slice ad L.length cv) L hv3 hL hF.1 hF.2.1 hF.2.2 hT
  have HCI : Hid _ := CI
  have HB03 : Hid _ := hB03
  clear hb3 hB13 hB03 hH3 hF hv3 CI hS2 hS3
  go_wp2_with fail
  refine Calls.mono HCI.out ?_
  rintro e w4 ⟨rfl, u, vT', vR', hH4, hb4⟩
  go_wp2_with (first | (go_at_call 40; refine (num_any k _).mono ?_; rintro e w5 ⟨rfl, rfl⟩) | fail)
  go_ret
  exact ⟨rfl, vT', vR', _, hH4, (HB03.out.mono hsz).trans hb4⟩
/-- What Common tells, by the document. -/
def comL (s : ByteArray) (o : List Nat) : List Nat := if 1000 < s.size then [] else tab o.length (cm (bl s) o)
def comE (s : ByteArray) : Int := if 1000 < s.size then 2 else 0
theorem Common_tell (s : ByteArray) (o : List Nat) (ho : IsSA (bl s) o) (w : World) : Calls Try.prog 20 #[.string s] w (Tell (comL s o) (comE s) w) := by
  unfold comL comE
  by_cases h2 : 1000 < s.size
  · rw [if_pos h2, if_pos h2]
    refine (Common_long s w h2).mono ?_
    rintro e w' ⟨rfl, hb⟩
    exact ⟨_, rfl, World.ownsRow_nil _ _ _ _, hb⟩
  · rw [if_neg h2, if_neg h2]
    refine (Common_any s w (by omega) o ho).mono ?_
    rintro e w' ⟨v, rfl, hown, hb⟩
    exact ⟨v, rfl, by rw [tab_length]; exact hown, hb⟩
theorem refCommon_tell (s : ByteArray) (o : List Nat) (ho : IsSA (bl s) o) (w : World) : Calls Try.prog 41 #[.string s] w (TellR (comL s o) (comE s) w) := by
  unfold comL comE
  by_cases h2 : 1000 < s.size
  · rw [if_pos h2, if_pos h2]
    refine (refCommon_long s w h2).mono ?_
    rintro e w' ⟨rfl, hb⟩
    exact ⟨none, 0, rfl, fun k hk => by simp at hk, hb⟩
  · rw [if_neg h2, if_neg h2]
    refine (refCommon_any s w (by omega) o ho).mono ?_
    rintro e w' ⟨v, rfl, hown, hb⟩
    have hown' : w'.ownsRow w.heap.size 3 1 v (tab o.length (cm (bl s) o)).length (IV (tab o.length (cm (bl s) o))) := hown
    obtain ⟨ad, c, rfl, hS⟩ := own_sl hown'
    exact ⟨ad, c, rfl, hS, hb⟩
theorem comL_le {s : ByteArray} {o : List Nat} (ho : IsSA (bl s) o) : (comL s o).length ≤ 100000 := by
  have := IsSA.length ho
  rw [bl_length] at this
  unfold comL
  split
  · simp
  · rw [tab_length]; omega

set_option maxRecDepth 20000 in
set_option maxHeartbeats 4000000 in
/-- 'h.common'. -/
theorem hcommon_any (B : Nat) (W : World) (hb N : Nat) (vI vT vR : Value) (E : List (Value × Int)) (T : List (Value × Value × List Nat)) (H : HInv B W hb N vI vT vR E T) (hT : T.length < 100) (s : ByteArray) :
    Calls Try.prog 14 #[.pointer (some ⟨hb, 0, none⟩), .string s] W fun e w' => e = .returned (.bool true) ∧ ∃ vT' vR' x, HInv B w' hb N vI vT' vR' E (T ++ [x]) ∧ Below B W w' := by
  obtain ⟨o, ho⟩ := exists_SA (bl s)
  have HH : Hid _ := H
  have hsz : B ≤ W.heap.size := by have := H.base; have := H.box.lt; omega
  have C1 := fun W => Common_tell s o ho W
  have C2 := fun W => refCommon_tell s o ho W
  have hL := comL_le ho
  generalize comL s o = L at C1 C2 hL
  generalize comE s = k at C1 C2
  have HC1 : Hid _ := C1
  have HC2 : Hid _ := C2
  clear H C1 C2 ho
  go_enter Try.func14, Try.ntmps14
  go_wp2_with fail
  refine Calls.mono (HC1.out _) ?_
  rintro e w1 ⟨v, rfl, hv, hb1⟩
  obtain ⟨ad, cv, rfl⟩ := own_val hv
  have HV : Hid _ := hv
  have HB1 : Hid _ := hb1
  clear hv hb1
  go_wp2_with fail
  refine Calls.mono (HC2.out _) ?_
  rintro e w2 ⟨ad2, c2, rfl, hS2, hb2⟩
  have hv2 := own_fr HV.out (Fr.of_below hb2) (free_nil _)
  obtain ⟨ad3, c3, e3, hS3⟩ := own_sl hv2
  simp only [Value.slice.injEq, true_and] at e3
  obtain ⟨rfl, rfl⟩ := e3
  have HV2 : Hid _ := hv2
  have HB2 : Hid _ := hb2
  clear hb2 hv2
  go_wp2_with fail
  refine (sameInts_any ad ad2 L L cv c2 w2 hS3 hS2 rfl (by omega)).mono ?_
  rintro e w3 ⟨rfl, hb3⟩
  have HB3 : Hid _ := hb3
  have hB13 : Below w1.heap.size w1 w3 := Below.later HB2.out hb3
  have hB03 : Below W.heap.size W w3 := Below.later HB1.out hB13
  have hH3 := HInv.later HH.out hB03
  have hF := HInv.fresh HH.out (x := .slice ad L.length cv) (fun g hg => (World.ownsRow.lt HV.out g hg).1)
  have hv3 : w3.ownsRow B 3 1 (.slice ad L.length cv) L.length (IV L) := own_mono (own_fr HV2.out (Fr.of_below hb3) (free_nil _)) hsz
  have CI := ints_any B w3 hb N vI vT vR E T hH3 (.slice ad L.length cv) L hv3 hL hF.1 hF.2.1 hF.2.2 hT
  have HCI : Hid _ := CI
  have HB03 : Hid _ := hB03
  clear hb3 hB13 hB03 hH3 hF hv3 CI hS2 hS3
  go_wp2_with fail
  refine Calls.mono HCI.out ?_
  rintro e w4 ⟨rfl, u, vT', vR', hH4, hb4⟩
  go_wp2_with (first | (go_at_call 40; refine (num_any k _).mono ?_; rintro e w5 ⟨rfl, rfl⟩) | fail)
  go_ret
  exact ⟨rfl, vT', vR', _, hH4, (HB03.out.mono hsz).trans hb4⟩
end Go.Proofs.Ytmmbljcjeianfaa
