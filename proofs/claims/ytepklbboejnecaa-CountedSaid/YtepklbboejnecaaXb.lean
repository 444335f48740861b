/- Doubling, whole. -/
import Derived.Test.YtepklbboejnecaaXa
namespace Go.Proofs.Ytepklbboejnecaa
open Go.RowKit Go.Shelf Sedge
attribute [local go_sem ↓] Go.wp_at_zero Go.wp_at_succ

/-- What the closures over a row ask of the world. -/
structure Held1 (ad : Option Addr) (l : List Nat) (c br : Nat) (kinds : Int) (W : World) : Prop where
  sl : Sl W ad l
  row : Blk W br 87 [.slice ad l.length c, .int .i64 kinds]
theorem Held1.later {ad : Option Addr} {l : List Nat} {c br : Nat} {kinds : Int} {w w' : World} (H : Held1 ad l c br kinds w) (hb : Below w.heap.size w w') : Held1 ad l c br kinds w' := ⟨H.sl.later hb, H.row.later hb⟩

set_option maxHeartbeats 1000000 in
theorem tells_first (ad : Option Addr) (l : List Nat) (c br : Nat) (kinds : Int) :
    Tells 76 #[] #[.pointer (some ⟨br, 0, none⟩)] (Held1 ad l c br kinds) (num l) l.length where
  enter := enters_of Try.func76 (by kernel_rfl) rfl
  keep w w' H hb := H.later hb
  run p w H hp := by
    obtain ⟨hx0, hx1⟩ := cells2 H.row
    obtain ⟨b, o1, rfl, hc⟩ := H.sl p hp
    have i1 : (0 : Int) ≤ (p : Int) := by omega
    have i2 : (p : Int) < (l.length : Int) := by omega
    clear H
    go_enter Try.func76, Try.ntmps76
    go_wp2
    go_ret
    exact ⟨rfl, Below.refl _ _⟩

set_option maxHeartbeats 1000000 in
theorem tells_first2 (ad : Option Addr) (l : List Nat) (c br : Nat) (kinds : Int) :
    Tells2 78 #[] #[.pointer (some ⟨br, 0, none⟩)] (Held1 ad l c br kinds) (fun p q => p < l.length ∧ q < l.length) (fun a b => decide (num l a = num l b)) where
  enter := enters_of Try.func78 (by kernel_rfl) rfl
  keep w w' H hb := H.later hb
  run p q w H hp := by
    obtain ⟨hp, hq⟩ := hp
    obtain ⟨hx0, hx1⟩ := cells2 H.row
    obtain ⟨b, o1, rfl, hc⟩ := H.sl p hp
    obtain ⟨b', o1', e', hc'⟩ := H.sl q hq
    simp only [Option.some.injEq, Addr.mk.injEq, and_true] at e'
    obtain ⟨rfl, rfl⟩ := e'
    have i1 : (0 : Int) ≤ (p : Int) := by omega
    have i2 : (p : Int) < (l.length : Int) := by omega
    have i3 : (0 : Int) ≤ (q : Int) := by omega
    have i4 : (q : Int) < (l.length : Int) := by omega
    clear H
    go_enter Try.func78, Try.ntmps78
    go_wp2
    go_quiet (fail)
    go_wp2
    go_ret
    refine ⟨?_, (Below.refl _ _).drewN _⟩
    congr 2
    by_cases e : num l p = num l q <;> simp [e] <;> omega

/-- Where the doubling stands: order o in block g, ranks in block gr, both by h numbers; the ranks' variable is block rb. -/
structure Dbl (l : List Nat) (w : World) (rb : Nat) (h g : Nat) (wr : World) : Prop where
  pos : 0 < h
  le : h ≤ 2 * l.length + 1
  below : Below w.heap.size w wr
  own : w.heap.size ≤ g
  get : ∃ (sm : Nat → Nat → Bool) (o : List Nat) (gr : Nat), ByH l h sm o ∧ Row wr g o ∧ Blk wr rb 87 [.slice (some ⟨gr, 0, none⟩) l.length l.length, .int .i64 (kindsOf sm o)] ∧ Row wr gr (tab l.length (nameOf sm o))

set_option maxHeartbeats 4000000 in
theorem doubling_any (l : List Nat) (ad : Option Addr) (c kd : Nat) (w : World) (hl : Sl w ad l) (hkd : ∀ p, p < l.length → num l p < kd) (hkm : kd ≤ 500000) (hn : l.length ≤ 90000) :
    Calls Try.prog 49 #[.agg #[.slice ad l.length c, .int .i64 (kd : Int)]] w (Answers l w) := by
  have hH : Held1 ad l c w.heap.size (kd : Int) (w.alloc (Obj.cells #[Value.slice ad l.length c, Value.int .i64 (kd : Int)] 87)) := ⟨hl.later ((Below.refl _ _).alloc (Nat.le_refl _) _), Blk.new w _ _ rfl⟩
  have hb0 : Below w.heap.size w (w.alloc (Obj.cells #[Value.slice ad l.length c, Value.int .i64 (kd : Int)] 87)) := (Below.refl _ _).alloc (Nat.le_refl _) _
  have hmf : ∀ (fn : Fn) (first cap : Array Value) (w : World), (Instr.makeFunc fn first cap).run Try.prog w = .ok (.func fn first cap) w := fun _ _ _ _ => rfl
  have CD := fun (W : World) (g : Nat) (hr : Row W g (List.range l.length)) hI => deal_any _ #[] _ _ _ _ (tells_first ad l c w.heap.size (kd : Int)) (some ⟨g, 0, none⟩) (List.range l.length) l.length kd W (Row.sl hr) (fun k hk => by rw [num_eq hk]; simpa using hk) hkd hI (by rw [List.length_range]; omega) (by omega)
  rw [List.length_range] at CD
  have HD : Hid _ := CD
  clear CD
  go_enter Try.func49, Try.ntmps49
  go_wp2_with fail
  generalize w.alloc (Obj.cells #[Value.slice ad l.length c, Value.int .i64 (kd : Int)] 87) = w1 at hH hb0 ⊢
  obtain ⟨hx0, hx1⟩ := cells2 hH.row
  have hlt0 := hH.row.lt
  have A1 : Below w1.heap.size w1 w1.drew := (Below.refl _ _).drew
  have HA1 : Hid _ := A1
  clear A1
  go_cut [4] (fun s wx => ∃ g3 : Nat, s = .slice (some ⟨g3, 0, none⟩) l.length l.length ∧ w.heap.size ≤ g3 ∧ Row wx g3 (flat (Sedge.part (num l) (List.range l.length)) kd) ∧ Held1 ad l c w.heap.size (kd : Int) wx ∧ Below w.heap.size w wx)
  case first =>
    go_region_held3 (fun w' => w'.cell? ⟨w.heap.size, 0, none⟩ = some (.slice ad l.length c) ∧ w'.cell? ⟨w.heap.size, 1, none⟩ = some (.int .i64 (kd : Int))) (go_keep)
      (first
        | (go_at_call 75; refine (upTo_any l.length _ (by omega)).mono ?_; rintro e w2 ⟨g2, rfl, hg2, hr2, hb2⟩; have hH2 := Held1.later (Held1.later hH HA1.out) hb2; obtain ⟨hy0, hy1⟩ := cells2 hH2.row)
        | (go_at_call 74; refine (HD.out w2 g2 hr2 hH2).mono ?_; rintro e w3 ⟨g3, rfl, hg3, hr3, hb3⟩; have hH3 := Held1.later hH2 hb3; obtain ⟨hz0, hz1⟩ := cells2 hH3.row))
    all_goals (go_wp2_with fail)
    all_goals go_meet
    all_goals exact ⟨g3, rfl, (by have := (Below.later (Below.later hb0 HA1.out) hb2).size; omega), hr3, hH3, Below.later (Below.later (Below.later hb0 HA1.out) hb2) hb3⟩
  case rest =>
  obtain ⟨g3, rfl, hg3, hr3, hH3, hB3⟩ := hcut
  obtain ⟨hz0, hz1⟩ := cells2 hH3.row
  have B1 := byH_one hkd
  obtain ⟨o3, ho3⟩ : ∃ o3, o3 = flat (Sedge.part (num l) (List.range l.length)) kd := ⟨_, rfl⟩
  rw [← ho3] at B1 hr3
  have hlen3 := B1.length
  have HL3 : Hid (o3.length = l.length) := hlen3
  have CN := named_any _ #[] _ _ _ _ (tells_first2 ad l c w.heap.size (kd : Int)) (some ⟨g3, 0, none⟩) o3 l.length l.length wc (Row.sl hr3) B1.srt.nd (fun k hk => (B1.mem _).1 (num_mem hk)) (fun k hk => ⟨(B1.mem _).1 (num_mem (by omega)), (B1.mem _).1 (num_mem hk)⟩) hH3 (by omega) (by omega)
  rw [hlen3] at CN
  have HCN : Hid _ := CN
  clear CN hlen3 ho3 hx0 hx1 hH HD hb0 HA1
  go_wp2_with fail
  refine Calls.mono HCN.out ?_
  rintro e w4 ⟨g4, rfl, hg4, hr4, hb4⟩
  have hB4 := Below.later hB3 hb4
  have hr34 : Row w4 g3 o3 := Blk.later hr3 hb4
  have hs4 := hB4.size
  clear HCN hz0 hz1 hr3 hb4 hB3 hH3
  go_wp2_with fail
  go_loopw [4, 6] (fun s d wr => ∃ h g : Nat, s = .slice (some ⟨g, 0, none⟩) l.length l.length ∧ d = .int .i64 (h : Int) ∧ Dbl l w w4.heap.size h g wr) (fun _ d _ => 2 * l.length + 1 - (intOf d).toNat)
  case atStart =>
    refine ⟨1, g3, rfl, rfl, by omega, by omega, hB4.alloc hB4.size _, hg3, _, o3, g4, B1, Blk.alloc hr34 _, ?_, Blk.alloc hr4 _⟩
    exact Blk.new w4 _ _ rfl
  case round =>
    obtain ⟨h, g, rfl, rfl, hD⟩ := hrel
    obtain ⟨hpos, hle, hb, hg, sm, o, gr, B, hro, hbx, hrr⟩ := hD
    have hlen := B.length
    have hkl : kindsOf sm o ≤ l.length := by rw [← hlen]; exact kinds_le
    obtain ⟨hx0, hx1⟩ := cells2 hbx
    clear hr34 hr4 B1 HL3 hB4 hg3 hg4
    by_cases hk : kindsOf sm o < l.length
    · have hk' : ((kindsOf sm o : Nat) : Int) < (l.length : Int) := by omega
      have hhn : h < l.length := by
        by_cases c : h < l.length
        · exact c
        · have := B.full (by omega); omega
      have hrL : (tab l.length (nameOf sm o)).length = l.length := tab_length _ _
      have R : Ranks l h (tab l.length (nameOf sm o)) := B.ranks
      have hname : ∀ p, p < l.length → num (tab l.length (nameOf sm o)) p < kindsOf sm o := fun p hp => by
        rw [tab_num hp]; exact name_lt_kinds ((B.mem p).2 hp)
      have B2 := R.step hpos (K := kindsOf sm o + 1) (fun p => by
        unfold rk; split
        · have := hname p (by rw [hrL] at *; assumption); omega
        · omega) B
      have C1 := sortedByHalves_any (some ⟨gr, 0, none⟩) (some ⟨g, 0, none⟩) (tab l.length (nameOf sm o)) o l.length l.length h (kindsOf sm o) wr (Row.sl hrr) (Row.sl hro) (fun p hp => by rw [hrL]; exact (B.mem p).1 hp) (by rw [hrL]; omega) (by omega) (fun p hp => hname p (by rw [hrL] at hp; exact hp)) (by omega) (by omega)
      obtain ⟨r, hr⟩ : ∃ r, r = tab l.length (nameOf sm o) := ⟨_, rfl⟩
      rw [← hr] at R B2 C1 hrL hrr hname
      obtain ⟨o2, ho2⟩ : ∃ o2, o2 = flat (Sedge.part (fun p => rk r p) (flat (Sedge.part (fun p => rk r (p + h)) o) (kindsOf sm o + 1))) (kindsOf sm o + 1) := ⟨_, rfl⟩
      rw [← ho2] at B2 C1
      rw [hrL, hlen] at C1
      have HC1 : Hid _ := C1
      have HRL : Hid _ := hrL
      clear C1 hr ho2 hlen
      go_wp2_with fail
      refine Calls.mono HC1.out ?_
      rintro e w5 ⟨g5, rfl, hg5, hr5, hb5⟩
      have hbx5 := hbx.later hb5
      have hrr5 : Row w5 gr r := Blk.later hrr hb5
      have hlt5 := hbx.lt
      have hB5 := Below.later hb hb5
      have hs5 := hb.size
      have hlen2 := B2.length
      have C2 := doubled_any (some ⟨gr, 0, none⟩) (some ⟨g5, 0, none⟩) r o2 l.length l.length h (kindsOf sm o) w5 (Row.sl hrr5) (Row.sl hr5) B2.srt.nd (fun p hp => by rw [HRL.out]; exact (B2.mem p).1 hp) (by rw [HRL.out]; omega) (by omega) (fun p => by
        by_cases hp : p < l.length
        · have := hname p hp; omega
        · have : r.length ≤ p := by rw [HRL.out]; omega
          simp [num, List.getD, List.getElem?_eq_none this]) (by omega)
      rw [HRL.out, hlen2] at C2
      have HC2 : Hid _ := C2
      have HL2 : Hid _ := hlen2
      obtain ⟨hy0, hy1⟩ := cells2 hbx5
      clear C2 HC1 hlen2 hx0 hx1 hbx hrr hro hb hb5
      go_wp2_with fail
      refine Calls.mono HC2.out ?_
      rintro e w6 ⟨g6, rfl, hg6, hr6, hb6⟩
      have hbx6 := hbx5.later hb6
      have hr56 : Row w6 g5 o2 := Blk.later hr5 hb6
      have hB6 := Below.later hB5 hb6
      have hs6 := hb6.size
      have hlt6 := hbx5.lt
      have hs7 := hB5.size
      obtain ⟨hz0, hz1⟩ := cells2 hbx6
      have hf0 := Blk.free hbx6 0
      have hf1 := Blk.free hbx6 1
      have wh : IntKind.i64.wrap ((h : Int) * 2) = ((h + h : Nat) : Int) := by rw [IntKind.wrap_i64]; omega
      clear HC2 hy0 hy1 hbx5 hrr5 hr5 hb6 hB5
      go_wp2
      go_roundw
      case rel =>
        refine ⟨h + h, g5, rfl, rfl, by omega, by omega, ?_, by omega, two r h, o2, g6, B2, ?_, ?_, ?_⟩
        · exact (hB6.setCell (p := ⟨w4.heap.size, 0, none⟩) hs4 _).setCell (p := ⟨w4.heap.size, 1, none⟩) hs4 _
        · exact Blk.other (Blk.other hr56 (by simp; omega) _) (by simp; omega) _
        · have := (hbx6.set 0 (.slice (some ⟨g6, 0, none⟩) l.length l.length)).set 1 (.int .i64 (kindsOf (two r h) o2))
          simpa using this
        · exact Blk.other (Blk.other hr6 (by simp; omega) _) (by simp; omega) _
      case measure => simp [intOf]; omega
    · have hk' : (l.length : Int) ≤ ((kindsOf sm o : Nat) : Int) := by omega
      have hfin := B.done (by omega)
      have hown := Row.own hro hg (by rw [hlen]; unfold maxLen; omega)
      rw [hlen] at hown
      have HO : Hid _ := hown
      have HL : Hid _ := hlen
      have HF : Hid _ := hfin
      clear hlen hown hfin
      go_wp2
      go_ret
      refine ⟨_, o, rfl, ?_, HF.out, hb⟩
      rw [HL.out]; exact HO.out
end Go.Proofs.Ytepklbboejnecaa
