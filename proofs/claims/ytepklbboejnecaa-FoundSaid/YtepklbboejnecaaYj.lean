/- What is held: Find, held against the document's. -/
import Derived.Test.YtepklbboejnecaaY
import Derived.Test.YtepklbboejnecaaF
namespace Go.Proofs.Ytepklbboejnecaa
open Go.RowKit Go.Shelf Sedge
attribute [local go_sem ↓] Go.wp_at_zero Go.wp_at_succ

theorem findL_le (s pat : ByteArray) : (findL s pat).length ≤ 100000 := by
  have := plcs_le (bl s) (bl pat)
  rw [bl_length] at this
  unfold findL
  split
  · simp
  · split
    · simp
    · omega

set_option maxRecDepth 20000 in
set_option maxHeartbeats 4000000 in
/-- 'h.find'. -/
theorem hfind_any (B : Nat) (W : World) (hb N : Nat) (vI vT vR : Value) (E : List (Value × Int)) (T : List (Value × Value × List Nat)) (H : HInv B W hb N vI vT vR E T) (hT : T.length < 100) (s pat : ByteArray) :
    Calls Try.prog 25 #[.pointer (some ⟨hb, 0, none⟩), .string s, .string pat] W fun e w' => e = .returned (.bool true) ∧ ∃ vT' vR' x, HInv B w' hb N vI vT' vR' E (T ++ [x]) ∧ Below B W w' := by
  have HH : Hid _ := H
  have hsz : B ≤ W.heap.size := by have := H.base; have := H.box.lt; omega
  have C1 := fun W => Find_tell s pat W
  have C2 := fun W => refFind_tell s pat W
  have hL := findL_le s pat
  generalize findL s pat = L at C1 C2 hL
  generalize findE s pat = k at C1 C2
  have HC1 : Hid _ := C1
  have HC2 : Hid _ := C2
  clear H C1 C2
  go_enter Try.func25, Try.ntmps25
  go_wp2_with fail
  refine Calls.mono (HC1.out _) ?_
  rintro e w1 ⟨v, rfl, hv, hb1⟩
  obtain ⟨ad, cv, rfl⟩ := own_val hv
  have HV : Hid _ := hv
  have HB1 : Hid _ := hb1
  clear hv hb1
  go_wp2_with fail
  refine Calls.mono (HC2.out _) ?_
  rintro e w2 ⟨v2, rfl, hown2, hb2⟩
  obtain ⟨ad2, c2, rfl, hS2⟩ := own_sl hown2
  have hv2 := own_fr HV.out (Fr.of_below hb2) (free_nil _)
  obtain ⟨ad3, c3, e3, hS3⟩ := own_sl hv2
  simp only [Value.slice.injEq, true_and] at e3
  obtain ⟨rfl, rfl⟩ := e3
  have HV2 : Hid _ := hv2
  have HB2 : Hid _ := hb2
  clear hb2 hv2 hown2
  go_wp2_with fail
  refine (sameInts_any ad ad2 L L cv c2 w2 hS3 hS2 rfl (by omega)).mono ?_
  rintro e w3 ⟨rfl, hb3⟩
  have HB3 : Hid _ := hb3
  have hB13 : Below w1.heap.size w1 w3 := Below.later HB2.out hb3
  have hB03 : Below W.heap.size W w3 := Below.later HB1.out hB13
  have hH3 := HInv.later HH.out hB03
  have hF := HInv.fresh HH.out (x := .slice ad L.length cv) (fun g hg => (World.ownsRow.lt HV.out g hg).1)
  have hv3 : w3.ownsRow B 3 1 (.slice ad L.length cv) L.length (IV L) := own_mono (own_fr HV2.out (Fr.of_below hb3) (free_nil _)) hsz
  have CI := ints_any B w3 hb N vI vT vR E T hH3 (.slice ad L.length cv) L hv3 hL hF.1 hF.2.1 hF.2.2 hT
  have HCI : Hid _ := CI
  have HB03 : Hid _ := hB03
  clear hb3 hB13 hB03 hH3 hF hv3 CI hS2 hS3
  go_wp2_with fail
  refine Calls.mono HCI.out ?_
  rintro e w4 ⟨rfl, u, vT', vR', hH4, hb4⟩
  go_wp2_with (first | (go_at_call 40; refine (num_any k _).mono ?_; rintro e w5 ⟨rfl, rfl⟩) | fail)
  go_ret
  exact ⟨rfl, vT', vR', _, hH4, (HB03.out.mono hsz).trans hb4⟩
theorem hfind_holds (B hb N k : Nat) (W : World) (H : Holds B hb N k W) (hk : k < 100) (s pat : ByteArray) :
    Calls Try.prog 25 #[.pointer (some ⟨hb, 0, none⟩), .string s, .string pat] W fun e w' => e = .returned (.bool true) ∧ Holds B hb N (k + 1) w' ∧ Below B W w' := by
  obtain ⟨vI, vT, vR, E, T, h, hT⟩ := H
  refine (hfind_any B W hb N vI vT vR E T h (by omega) s pat).mono ?_
  rintro e w' ⟨rfl, vT', vR', x, h', hb'⟩
  exact ⟨rfl, ⟨_, _, _, _, _, h', by simp [hT]⟩, hb'⟩
end Go.Proofs.Ytepklbboejnecaa
