/- Turning a piece of a row round, in place. -/
import Derived.Test.YtepklbboejnecaaGreatWj
import Derived.RegionTactic
import Derived.BigRegion
namespace Go.Proofs.YtepklbboejnecaaGreat
open Go.RowKit Sedge

/-- A row whose piece of m places from off on has been turned round by t places from both sides. -/
def turned (o : List Nat) (off m t : Nat) : List Nat := tab o.length fun q => if (off ≤ q ∧ q < off + t) ∨ (off + m ≤ q + t ∧ q < off + m) then num o (off + (m - 1 - (q - off))) else num o q
theorem turned_length (o : List Nat) (off m t : Nat) : (turned o off m t).length = o.length := tab_length _ _
theorem turned_zero (o : List Nat) (off m : Nat) : turned o off m 0 = o := by
  conv => rhs; rw [← tab_self o]
  refine tab_congr fun q _ => ?_
  rw [if_neg (by omega)]
theorem turned_mid {o : List Nat} {off m t q : Nat} (h : off + m ≤ o.length) (h1 : off + t ≤ q) (h2 : q + t < off + m) : num (turned o off m t) q = num o q := by
  unfold turned; rw [tab_num (by omega), if_neg (by omega)]
theorem turned_succ {o : List Nat} {off m t : Nat} (ht : t + t + 1 < m) : ((turned o off m t).set (off + t) (num o (off + (m - 1 - t)))).set (off + (m - 1 - t)) (num o (off + t)) = turned o off m (t + 1) := by
  unfold turned
  rw [tab_set (g := fun q => if q = off + t then num o (off + (m - 1 - t)) else if (off ≤ q ∧ q < off + t) ∨ (off + m ≤ q + t ∧ q < off + m) then num o (off + (m - 1 - (q - off))) else num o q) (fun _ _ => rfl)]
  refine tab_set fun q _ => ?_
  by_cases e : q = off + (m - 1 - t)
  · rw [if_pos e, if_pos (by omega), e]; congr 1; omega
  · rw [if_neg e]
    by_cases d : q = off + t
    · rw [if_pos d, if_pos (by omega), d]; congr 1; omega
    · rw [if_neg d]
      by_cases c : (off ≤ q ∧ q < off + t) ∨ (off + m ≤ q + t ∧ q < off + m)
      · rw [if_pos c, if_pos (by omega)]
      · rw [if_neg c, if_neg (by omega)]
theorem turned_done {o : List Nat} {off m t q : Nat} (h : off + m ≤ o.length) (ht : m ≤ t + t + 1) (hq : q < m) : num (turned o off m t) (off + q) = num o (off + (m - 1 - q)) := by
  unfold turned; rw [tab_num (by omega)]
  split
  · congr 1; omega
  · congr 1; omega
theorem turned_out {o : List Nat} {off m t q : Nat} (h : q < o.length) (ht : t + t ≤ m + 1) (hq : q < off ∨ off + m ≤ q) : num (turned o off m t) q = num o q := by
  unfold turned; rw [tab_num h]
  split
  · omega
  · rfl

set_option maxHeartbeats 1000000 in
/-- slices.Reverse, on a piece of a row. -/
theorem reverse_any (r off m c : Nat) (o : List Nat) (w : World) (hr : Row w r o) (hm : off + m ≤ o.length) (hn : o.length ≤ 1000000) :
    Calls Tryz.prog 140 #[.slice (some ⟨r, off, none⟩) m c] w fun e w' =>
      e = .returned (.tuple #[]) ∧ ∃ t, m ≤ t + t + 1 ∧ t + t ≤ m + 1 ∧ Row w' r (turned o off m t) ∧ w'.heap.size = w.heap.size ∧ ∀ g, Touch r g w w' := by
  go_enter Tryz.func140, Tryz.ntmps140
  go_wp2
  go_loopw [2, 3] (fun i j wr => ∃ t : Nat, t + t ≤ m + 1 ∧ i = .int .i64 t ∧ j = .int .i64 ((m : Int) - 1 - t) ∧ Row wr r (turned o off m t) ∧ wr.heap.size = w.heap.size ∧ ∀ g, Touch r g w wr) (fun i _ _ => m - (intOf i).toNat)
  case atStart => exact ⟨0, by omega, rfl, by simp, by rw [turned_zero]; exact hr, rfl, fun g => Touch.refl _ _ _⟩
  case round =>
    clear hr
    obtain ⟨t, ht, rfl, rfl, hr, hz, hT⟩ := hrel
    by_cases hlt : t + t + 1 < m
    · have hci := Row.cell hr (k := off + t) (by rw [turned_length]; omega)
      have hcj := Row.cell hr (k := off + (m - 1 - t)) (by rw [turned_length]; omega)
      rw [turned_mid hm (by omega) (by omega)] at hci hcj
      have hfi := Blk.free hr (off + t)
      have hfj := Blk.free hr (off + (m - 1 - t))
      have hr' := Row.set (Row.set hr (off + t) (num o (off + (m - 1 - t)))) (off + (m - 1 - t)) (num o (off + t))
      rw [turned_succ hlt] at hr'
      have hT' : ∀ g, Touch r g w ((wr.setCell ⟨r, off + t, none⟩ (.int .i64 (num o (off + (m - 1 - t))))).setCell ⟨r, off + (m - 1 - t), none⟩ (.int .i64 (num o (off + t)))) := fun g => ((hT g).set_r _ _).set_r _ _
      obtain ⟨j, hj⟩ : ∃ j : Nat, m - 1 - t = j := ⟨_, rfl⟩
      rw [hj] at hcj hfj hr' hT'
      have hj' : (m : Int) - 1 - t = (j : Int) := by omega
      rw [hj']
      have HJ : Hid ((m : Int) - 1 - t = (j : Int)) := hj'
      have hjm : (j : Int) < (m : Int) := by omega
      have htm : (t : Int) < (m : Int) := by omega
      have htj : (t : Int) < (j : Int) := by omega
      have hne : ¬ off + t = off + j := by omega
      have hne2 : ¬ off + j = off + t := by omega
      have hmn : m ≤ 1000000 := by omega
      have HR : Hid _ := hr'
      have HT : Hid _ := hT'
      clear hj hj' hr hT hr' hT'
      go_wp2
      go_region
      go_wp2
      go_roundw
      case rel => exact ⟨t + 1, by omega, by go_num, by have := HJ.out; congr 1; omega, HR.out, by simpa using hz, fun g => (HT.out g).drewN 1⟩
      case measure => simp [intOf]; omega
    · have hge : (m : Int) - 1 - t ≤ (t : Int) := by omega
      go_wp2
      go_end0
      exact ⟨rfl, t, by omega, ht, hr, hz, hT⟩
end Go.Proofs.YtepklbboejnecaaGreat
