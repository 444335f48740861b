/- Thirds, whole. -/
import Derived.Test.YtepklbboejnecaaXq
namespace Go.Proofs.Ytepklbboejnecaa
open Go.RowKit Go.Shelf Sedge
attribute [local go_sem ↓] Go.wp_at_zero Go.wp_at_succ

theorem nameOf_lt {S : List Nat} {n : Nat} (h : S.length ≤ n) (p : Nat) : nameOf (fun _ _ => false) S p ≤ n := by
  unfold nameOf; split
  · rw [nm_false]; have := (idx_of_mem (by assumption)).1; omega
  · omega

set_option maxRecDepth 20000 in
set_option maxHeartbeats 4000000 in
theorem thirds_step (l : List Nat) (IH : ∀ l' : List Nat, l'.length < l.length → ∀ (ad : Option Addr) (c kd : Nat) (w : World), Sl w ad l' → (∀ p, p < l'.length → num l' p < kd) → kd ≤ 500000 → l'.length ≤ 90000 → Calls Try.prog 51 #[.agg #[.slice ad l'.length c, .int .i64 (kd : Int)]] w (Answers l' w))
    (ad : Option Addr) (c kd : Nat) (w : World) (hl : Sl w ad l) (hkd : ∀ p, p < l.length → num l p < kd) (hkm : kd ≤ 500000) (hn : l.length ≤ 90000) :
    Calls Try.prog 51 #[.agg #[.slice ad l.length c, .int .i64 (kd : Int)]] w (Answers l w) := by
  have hH : Held3 ad l c w.heap.size (kd : Int) (w.alloc (Obj.cells #[Value.slice ad l.length c, Value.int .i64 (kd : Int)] 87)) := ⟨hl.later ((Below.refl _ _).alloc (Nat.le_refl _) _), Blk.new w _ _ rfl⟩
  have hb0 : Below w.heap.size w (w.alloc (Obj.cells #[Value.slice ad l.length c, Value.int .i64 (kd : Int)] 87)) := (Below.refl _ _).alloc (Nat.le_refl _) _
  have hv : ∀ p, num l p ≤ 1000000 := fun p => by
    by_cases c : p < l.length
    · have := hkd p c; omega
    · simp [num, List.getD, Nat.not_lt.1 c]
  have hchl := chosen_le (n := l.length)
  have C1 := fun W (h : Sl W ad l) => sortedChosen_of l IH ad c kd W h hkd hkm hn
  have HC1 : Hid _ := C1
  have HKD : Hid _ := hkd
  have HV : Hid _ := hv
  clear C1 IH hkd hv
  go_enter Try.func51, Try.ntmps51
  go_wp2_with fail
  generalize w.alloc (Obj.cells #[Value.slice ad l.length c, Value.int .i64 (kd : Int)] 87) = w1 at hH hb0 ⊢
  refine Calls.mono (HC1.out w1 hH.sl) ?_
  rintro e w2 ⟨ad2, S, c2, rfl, hS2, sS, mS, lS, hb2⟩
  have hH2 := hH.later hb2
  have hB2 := Below.later hb0 hb2
  obtain ⟨hy0, hy1⟩ := cells2 hH2.row
  have hnd : S.Nodup := nodup_of_irr (fun _ => lt_irr _) sS
  have C2 := named_any _ #[] #[] _ _ _ tells_never ad2 S c2 l.length w2 hS2 hnd (fun k hk => (mem_chosen.1 ((mS _).1 (num_mem hk))).1) (fun _ _ => trivial) trivial (by omega) (by omega)
  have HC2 : Hid _ := C2
  have HS : Hid _ := sS
  have HM : Hid _ := mS
  have hlS : S.length ≤ l.length := by omega
  clear C2 HC1 sS mS lS hnd hH hb0
  go_wp2_with fail
  refine Calls.mono HC2.out ?_
  rintro e w3 ⟨g3, rfl, hg3, hr3, hb3⟩
  have hB3 := Below.later hB2 hb3
  have hH3 := hH2.later hb3
  have hS3 := hS2.later hb3
  have hsz3 := hB3.size
  obtain ⟨kr, hkr⟩ : ∃ kr : Int, kr = ((kindsOf (fun _ _ => false) S : Nat) : Int) := ⟨_, rfl⟩
  rw [← hkr]
  have hbn : Blk (w3.alloc (Obj.cells #[Value.slice (some ⟨g3, 0, none⟩) l.length l.length, Value.int .i64 kr] 87)) w3.heap.size 87 [.slice (some ⟨g3, 0, none⟩) l.length l.length, .int .i64 kr] := Blk.new w3 _ _ rfl
  have hrn : Row _ _ _ := Blk.alloc hr3 (Obj.cells #[Value.slice (some ⟨g3, 0, none⟩) l.length l.length, Value.int .i64 kr] 87)
  have hHn : Held3 ad l c w.heap.size (kd : Int) (w3.alloc (Obj.cells #[Value.slice (some ⟨g3, 0, none⟩) l.length l.length, Value.int .i64 kr] 87)) := ⟨hH3.sl.alloc _, hH3.row.alloc _⟩
  have hSn := hS3.alloc (Obj.cells #[Value.slice (some ⟨g3, 0, none⟩) l.length l.length, Value.int .i64 kr] 87)
  have hBn := hB3.alloc hsz3 (Obj.cells #[Value.slice (some ⟨g3, 0, none⟩) l.length l.length, Value.int .i64 kr] 87)
  clear HC2 hkr hS2 hb2 hH2 hB2 hy0 hy1 hr3 hb3 hH3 hS3
  go_wp2_with fail
  generalize w3.alloc (Obj.cells #[Value.slice (some ⟨g3, 0, none⟩) l.length l.length, Value.int .i64 kr] 87) = w4 at hbn hrn hHn hSn hBn ⊢
  obtain ⟨r, hr⟩ : ∃ r, r = tab l.length (nameOf (fun _ _ => false) S) := ⟨_, rfl⟩
  rw [← hr] at hrn
  have hrl : r.length = l.length := by rw [hr]; exact tab_length _ _
  have hR : RankOf l r := by rw [hr]; exact rankOf_names HS.out HM.out
  have hvr : ∀ p, num r p ≤ 1000000 := fun p => by
    by_cases cc : p < l.length
    · rw [hr, tab_num cc]; have := nameOf_lt (S := S) hlS p; omega
    · simp [num, List.getD, show r.length ≤ p by omega]
  have hO := others_sorted HS.out HM.out HKD.out
  have hOl : (flat (Sedge.part (num l) (othersOf l.length S)) kd).length = (othersOf l.length S).length := flat_part_length (fun p hp => HKD.out p ((others_mem HM.out p).1 hp).1)
  have hol := othersOf_length l.length S
  have CO := fun W (h1 : Sl W ad l) (h2 : Sl W ad2 S) => sortedOthers_any ad ad2 l S c c2 kd W h1 h2 (fun p hp => (mem_chosen.1 ((HM.out p).1 hp)).1) (by omega) (by omega) HKD.out hkm
  rw [← hOl] at hol
  simp only [← hOl] at CO
  obtain ⟨O, hOe⟩ : ∃ O, O = flat (Sedge.part (num l) (othersOf l.length S)) kd := ⟨_, rfl⟩
  rw [← hOe] at hO hol CO
  have CM := fun W (g : Nat) h1 h2 (h3 : Sl W (some ⟨g, 0, none⟩) O) h4 h5 => merged_any ad ad2 (some ⟨g3, 0, none⟩) l S O r c c2 l.length g (kd : Int) kr W h1 h2 h3 h4 h5 (by omega) HV.out hvr hR HS.out HM.out hO.1 hO.2 (by omega) (by omega)
  rw [hrl] at CM
  have HCO : Hid _ := CO
  have HCM : Hid _ := CM
  obtain ⟨x0, x1⟩ := cells2 hHn.row
  obtain ⟨n0, n1⟩ := cells2 hbn
  have A1 : Below w4.heap.size w4 w4.drew := (Below.refl _ _).drew
  have HA1 : Hid _ := A1
  clear A1 CO CM hrl hR hvr hO hOl hr hOe
  go_region_held3 (fun w' => w'.cell? ⟨w.heap.size, 0, none⟩ = some (.slice ad l.length c) ∧ w'.cell? ⟨w.heap.size, 1, none⟩ = some (.int .i64 (kd : Int)) ∧ w'.cell? ⟨w3.heap.size, 0, none⟩ = some (.slice (some ⟨g3, 0, none⟩) l.length l.length) ∧ w'.cell? ⟨w3.heap.size, 1, none⟩ = some (.int .i64 kr)) (go_keep)
    (first
      | (go_at_call 90; refine (HCO.out _ (hHn.sl.later HA1.out) (hSn.later HA1.out)).mono ?_; rintro e w5 ⟨g5, rfl, hg5, hr5, hb5⟩; have hB5 := Below.later HA1.out hb5; have hH5 := hHn.later hB5; have hr5' : Row w5 g5 O := hr5; obtain ⟨x4, x5⟩ := cells2 hH5.row; obtain ⟨n4, n5⟩ := cells2 (Blk.later hbn hB5))
      | (go_at_call 89; refine (HCM.out w5 g5 hH5.sl (hSn.later hB5) (Row.sl hr5') (Blk.lt hr5') (Row.sl (Blk.later hrn hB5))).mono ?_; rintro e w6 ⟨v6, o6, rfl, ho6, hsa6, hb6⟩; have hH6 := hH5.later hb6; obtain ⟨x6, x7⟩ := cells2 hH6.row; obtain ⟨n6, n7⟩ := cells2 (Blk.later (Blk.later hbn hB5) hb6)))
  go_wp2
  go_ret
  have hBw5 := Below.later hBn hB5
  exact ⟨_, o6, rfl, own_mono ho6 hBw5.size, hsa6, Below.later hBw5 hb6⟩

/-- 'Thirds': whatever the text. -/
theorem thirds_any : ∀ (m : Nat) (l : List Nat), l.length = m → ∀ (ad : Option Addr) (c kd : Nat) (w : World), Sl w ad l → (∀ p, p < l.length → num l p < kd) → kd ≤ 500000 → l.length ≤ 90000 →
    Calls Try.prog 51 #[.agg #[.slice ad l.length c, .int .i64 (kd : Int)]] w (Answers l w) := by
  intro m
  induction m using Nat.strongRecOn with
  | _ m ih =>
    intro l hm ad c kd w hl hkd hkm hn
    exact thirds_step l (fun l' hl' ad c kd w a b d e => ih l'.length (by omega) l' rfl ad c kd w a b d e) ad c kd w hl hkd hkm hn
end Go.Proofs.Ytepklbboejnecaa
