/- Inducing, whole. -/
import Derived.Test.YtepklbboejnecaaGreatWo
import Derived.Deep.DeepCutAuto
namespace Go.Proofs.YtepklbboejnecaaGreat
open Go.RowKit Go.Shelf Sedge
attribute [local go_sem ↓] Go.wp_at_zero Go.wp_at_succ

theorem cells2 {W : World} {b : Nat} {T : TypeId} {x y : Value} (h : Blk W b T [x, y]) : W.cell? ⟨b, 0, none⟩ = some x ∧ W.cell? ⟨b, 1, none⟩ = some y := by
  refine ⟨?_, ?_⟩
  · have := Blk.cell h (k := 0) (by simp); simpa using this
  · have := Blk.cell h (k := 1) (by simp); simpa using this
theorem cells3 {W : World} {b : Nat} {T : TypeId} {x y z : Value} (h : Blk W b T [x, y, z]) : W.cell? ⟨b, 0, none⟩ = some x ∧ W.cell? ⟨b, 1, none⟩ = some y ∧ W.cell? ⟨b, 2, none⟩ = some z := by
  refine ⟨?_, ?_, ?_⟩
  · have := Blk.cell h (k := 0) (by simp); simpa using this
  · have := Blk.cell h (k := 1) (by simp); simpa using this
  · have := Blk.cell h (k := 2) (by simp); simpa using this

/-- 's.samePiece' as a value. -/
theorem tells_same (ad ad' : Option Addr) (l : List Nat) (c c' : Nat) (kinds : Int) (hv : ∀ p, num l p ≤ 1000000) (hn : l.length ≤ 1000000) :
    Tells2 87 #[slv ad ad' l.length c c' kinds] #[] (fun W => Sl W ad l ∧ Sl W ad' (slopes l)) (fun p q => Sedge.start l p ∧ Sedge.start l q ∧ p ≠ q) (Sedge.same l) where
  enter := enters_of Tryz.func87 (by kernel_rfl) rfl
  keep w w' h hb := ⟨h.1.later hb, h.2.later hb⟩
  run p q w h hp := by
    have := samePiece_any ad ad' l c c' kinds p q w h.1 h.2 hv hn hp.1 hp.2.1 hp.2.2
    simpa using this

theorem onlyStarts_of (ad ad' : Option Addr) (l o : List Nat) (c c' r n c2 : Nat) (kinds : Int) (w : World) (hs : Sl w ad' (slopes l)) (ho : Row w r o) (ho' : o.length = n) (hM : ∀ p, p ∈ o → p < l.length) (hn : l.length ≤ 1000000) (hno : n ≤ 1000000) :
    Calls Tryz.prog 85 #[slv ad ad' l.length c c' kinds, .slice (some ⟨r, 0, none⟩) n c2] w fun e w' =>
      ∃ v, e = .returned v ∧ w'.ownsRow w.heap.size 3 1 v (o.filter (isSt l)).length (IV (o.filter (isSt l))) ∧ Below w.heap.size w w' := by
  subst ho'
  exact onlyStarts_any ad ad' (some ⟨r, 0, none⟩) l o c c' c2 kinds w hs (Row.sl ho) (fun k hk => hM _ (num_mem hk)) hn hno

/-- 'pick' out of a row that is told by its places. -/
theorem pick_tab (ad : Option Addr) (n g c c2 : Nat) (f : Nat → Nat) (S : List Nat) (w : World) (hr : Row w g (tab n f)) (hS : Sl w ad S) (hM : ∀ p, p ∈ S → p < n) (hn : n ≤ 1000000) (hSn : S.length ≤ 1000000) :
    Calls Tryz.prog 88 #[.slice (some ⟨g, 0, none⟩) n c, .slice ad S.length c2] w fun e w' =>
      ∃ g', e = .returned (.slice (some ⟨g', 0, none⟩) S.length S.length) ∧ w.heap.size ≤ g' ∧ Row w' g' (S.map f) ∧ Below w.heap.size w w' := by
  have h := pick_any (some ⟨g, 0, none⟩) ad (tab n f) S c c2 w (Row.sl hr) hS (fun k hk => by rw [tab_length]; exact hM _ (num_mem hk)) hSn (by rw [tab_length]; exact hn)
  rw [tab_length, List.map_congr_left (g := f) (fun p hp => tab_num (hM p hp))] at h
  exact h

/-- What Inducing answers. -/
def Answers (l : List Nat) (w : World) (e : Ending) (w' : World) : Prop :=
  ∃ v o, e = .returned v ∧ w'.ownsRow w.heap.size 3 1 v o.length (IV o) ∧ IsSA l o ∧ Below w.heap.size w w'

set_option maxHeartbeats 2000000 in
theorem inducing_nil (ad : Option Addr) (c : Nat) (kd : Int) (w : World) : Calls Tryz.prog 55 #[.agg #[.slice ad 0 c, .int .i64 kd]] w (Answers [] w) := by
  go_enter Tryz.func55, Tryz.ntmps55
  go_wp2
  go_ret
  exact ⟨_, [], rfl, World.ownsRow_nil _ _ _ _, ⟨List.Pairwise.nil, by simp⟩, (Below.refl _ _).alloc (Nat.le_refl _) _⟩

set_option maxHeartbeats 4000000 in
theorem inducing_step (l : List Nat) (hn0 : 0 < l.length)
    (IH : ∀ l' : List Nat, l'.length < l.length → ∀ (ad : Option Addr) (c kd : Nat) (w : World), Sl w ad l' → (∀ p, p < l'.length → num l' p < kd) → kd ≤ 500000 → l'.length ≤ 500000 → Calls Tryz.prog 55 #[.agg #[.slice ad l'.length c, .int .i64 (kd : Int)]] w (Answers l' w))
    (ad : Option Addr) (c kd : Nat) (w : World) (hl : Sl w ad l) (hkd : ∀ p, p < l.length → num l p < kd) (hkm : kd ≤ 500000) (hn : l.length ≤ 500000) :
    Calls Tryz.prog 55 #[.agg #[.slice ad l.length c, .int .i64 (kd : Int)]] w (Answers l w) := by
  have hv : ∀ p, num l p ≤ 1000000 := fun p => by
    by_cases h : p < l.length
    · have := hkd p h; omega
    · simp [num, List.getD, h]
  have hne : ((l.length : Int) == 0) = false := by rw [beq_eq_false_iff_ne]; omega
  have HI : Hid _ := IH
  clear IH
  go_enter Tryz.func55, Tryz.ntmps55
  have hbr : Blk (w.alloc (Obj.cells #[Value.slice ad l.length c, Value.int .i64 (kd : Int)] 122)) w.heap.size 122 [.slice ad l.length c, .int .i64 (kd : Int)] := Blk.new w _ _ rfl
  have hB0 : Below w.heap.size w (w.alloc (Obj.cells #[Value.slice ad l.length c, Value.int .i64 (kd : Int)] 122)) := (Below.refl _ _).alloc (Nat.le_refl _) _
  go_wp2_with fail
  refine (sloped_any ad l c (kd : Int) _ (hl.later hB0) hv (by omega) hn0).mono ?_
  rintro e w1 ⟨g, rfl, hg, hslo, hb1⟩
  have hB1 := Below.later hB0 hb1
  have hbr1 := hbr.later hb1
  clear hbr hB0 hb1 hg
  -- the row with its slopes, in a variable
  have hbs : Blk (w1.alloc (Obj.cells #[Value.slice ad l.length c, Value.int .i64 (kd : Int), .slice (some ⟨g, 0, none⟩) l.length l.length] 150)) w1.heap.size 150 [.slice ad l.length c, .int .i64 (kd : Int), .slice (some ⟨g, 0, none⟩) l.length l.length] := Blk.new w1 _ _ rfl
  have hB2 : Below w.heap.size w (w1.alloc (Obj.cells #[Value.slice ad l.length c, Value.int .i64 (kd : Int), .slice (some ⟨g, 0, none⟩) l.length l.length] 150)) := hB1.alloc hB1.size _
  have hslo2 := Blk.alloc hslo (Obj.cells #[Value.slice ad l.length c, Value.int .i64 (kd : Int), .slice (some ⟨g, 0, none⟩) l.length l.length] 150)
  have hbr2 := hbr1.alloc (Obj.cells #[Value.slice ad l.length c, Value.int .i64 (kd : Int), .slice (some ⟨g, 0, none⟩) l.length l.length] 150)
  go_wp2_with fail
  refine (starts_any ad (some ⟨g, 0, none⟩) l c l.length (kd : Int) _ (hl.later hB2 |> fun _ => Row.sl hslo2) (by omega)).mono ?_
  rintro e w3 ⟨v3, rfl, hown3, hb3⟩
  obtain ⟨bs, hbse⟩ : ∃ bs, bs = w1.heap.size := ⟨_, rfl⟩
  rw [← hbse] at hbs ⊢
  have hB3 := Below.later hB2 hb3
  have hbr3 := hbr2.later hb3
  have hbs3 := hbs.later hb3
  have hslo3 : Row w3 g (slopes l) := Blk.later hslo2 hb3
  obtain ⟨ad3, c3, rfl, hS3⟩ := own_sl hown3
  clear hbr1 hslo hbs hB2 hslo2 hbr2 hb3 hB1 hbse hown3
  have hsl3 := starts_length hn0
  obtain ⟨hx0, hx1, hx2⟩ := cells3 hbs3
  have hltb := hbs3.lt
  go_wp2_with fail
  go_region_held3 (fun w' => w'.cell? ⟨bs, 0, none⟩ = some (.slice ad l.length c) ∧ w'.cell? ⟨bs, 1, none⟩ = some (.int .i64 (kd : Int)) ∧ w'.cell? ⟨bs, 2, none⟩ = some (.slice (some ⟨g, 0, none⟩) l.length l.length)) (go_keep)
    (first
      | (go_at_call 86; refine (induced_any ad (some ⟨g, 0, none⟩) ad3 l (starts l) c l.length c3 kd _ (good_key l) hkd hkm (hl.later hB3.drew) (Row.sl (Blk.drew hslo3)) hS3 hv (by omega) hn0 (by omega)).mono ?_; rintro e w4 ⟨r4, o4, rfl, hr4, hrow4, hlen4, hpw4, hmem4, hb4⟩; have hbs4 := Blk.later (Blk.drew hbs3) hb4; obtain ⟨hy0, hy1, hy2⟩ := cells3 hbs4; have hslo4 := Blk.later (Blk.drew hslo3) hb4)
      | (go_at_call 85; refine (onlyStarts_of ad (some ⟨g, 0, none⟩) l o4 c l.length r4 l.length l.length (kd : Int) w4 (Row.sl hslo4) hrow4 hlen4 (fun p hp => (hmem4 p).1 hp) (by omega) (by omega)).mono ?_; rintro e w5 ⟨v5, rfl, hown5, hb5⟩; have hbs5 := Blk.later hbs4 hb5; obtain ⟨hz0, hz1, hz2⟩ := cells3 hbs5))
  have hB5 : Below w.heap.size w w5 := Below.later (Below.later hB3.drew hb4) hb5
  have hbr5 : Blk w5 w.heap.size 122 [.slice ad l.length c, .int .i64 (kd : Int)] := (Blk.later (Blk.drew hbr3) hb4).later hb5
  have hslo5 : Row w5 g (slopes l) := Blk.later hslo4 hb5
  have hS5 : Sl w5 ad3 (starts l) := Sl.later (Sl.later (w := w3.drew) hS3 hb4) hb5
  obtain ⟨hsp, hsm⟩ := sorted_pieces hpw4 hmem4
  obtain ⟨ad5, c5, rfl, hS5'⟩ := own_sl hown5
  obtain ⟨s5, hs5⟩ : ∃ s5, s5 = o4.filter (isSt l) := ⟨_, rfl⟩
  rw [← hs5] at hsp hsm hS5' ⊢
  clear hs5 hx0 hx1 hx2 hy0 hy1 hy2 hbs3 hbs4 hbr3 hslo3 hslo4 hS3 hb4 hb5 hB3 hown5 hrow4 hpw4 hmem4 hlen4 hr4 hltb
  have HL : Hid (s5.length = (starts l).length) := sorted_length hsp.nd hsm
  have HSM : Hid (∀ p, p ∈ s5 ↔ Sedge.start l p) := hsm
  have hs5n : s5.length ≤ 1000000 := by rw [HL.out]; omega
  clear hsm
  obtain ⟨hq0, hq1⟩ := cells2 hbr5
  have hmf : ∀ (fn : Fn) (first cap : Array Value) (w : World), (Instr.makeFunc fn first cap).run Tryz.prog w = .ok (.func fn first cap) w := fun _ _ _ _ => rfl
  have CN := named_any 87 #[slv ad (some ⟨g, 0, none⟩) l.length c l.length (kd : Int)] #[] _ _ _ (tells_same ad (some ⟨g, 0, none⟩) l c l.length (kd : Int) hv (by omega)) ad5 s5 c5 l.length w5 hS5' hsp.nd (fun k hk => ((HSM.out _).1 (num_mem hk)).1)
    (fun k hk => ⟨(HSM.out _).1 (num_mem (by omega)), (HSM.out _).1 (num_mem hk), fun e => by
      have h1 := idx_num hsp.nd (show k < s5.length by omega)
      have h2 := idx_num hsp.nd hk
      rw [e, h2] at h1; omega⟩) ⟨hl.later hB5, Row.sl hslo5⟩ (by omega) hs5n
  have HCN : Hid _ := CN
  clear CN
  go_wp2_with fail
  refine Calls.mono HCN.out ?_
  rintro e w6 ⟨g6, rfl, hg6, hrow6, hb6⟩
  have hB6 := Below.later hB5 hb6
  have hbs6 := hbs5.later hb6
  have hslo6 : Row w6 g (slopes l) := Blk.later hslo5 hb6
  have hS6 := hS5.later hb6
  have hS6' := hS5'.later hb6
  clear hz0 hz1 hz2 hq0 hq1 hbs5 hbr5 hslo5 hS5 hS5' hB5 hb6 hg6 HCN hmf
  have hnb : Blk (w6.alloc (Obj.cells #[Value.slice (some ⟨g6, 0, none⟩) l.length l.length, Value.int .i64 (kindsOf (Sedge.same l) s5)] 122)) w6.heap.size 122 [.slice (some ⟨g6, 0, none⟩) l.length l.length, .int .i64 (kindsOf (Sedge.same l) s5)] := Blk.new w6 _ _ rfl
  have hB7 : Below w6.heap.size w6 (w6.alloc (Obj.cells #[Value.slice (some ⟨g6, 0, none⟩) l.length l.length, Value.int .i64 (kindsOf (Sedge.same l) s5)] 122)) := (Below.refl _ _).alloc (Nat.le_refl _) _
  have hkl : kindsOf (Sedge.same l) s5 ≤ (starts l).length := by rw [← HL.out]; exact kinds_le
  by_cases hkk : kindsOf (Sedge.same l) s5 < (starts l).length
  · have hkk' : ((kindsOf (Sedge.same l) s5 : Nat) : Int) < ((starts l).length : Int) := by omega
    go_wp2
    have hnlt := hnb.lt
    generalize (w6.alloc (Obj.cells #[Value.slice (some ⟨g6, 0, none⟩) l.length l.length, Value.int .i64 (kindsOf (Sedge.same l) s5)] 122)) = w7 at hnb hB7 hnlt ⊢
    obtain ⟨hx0, hx1⟩ := cells2 hnb
    have hrow7 : Row w7 g6 _ := Blk.later hrow6 hB7
    have hS7 := hS6.later hB7
    have hM7 : ∀ p, p ∈ starts l → p < l.length := fun p hp => (mem_starts.1 hp).1
    have A1 : Below w7.heap.size w7 w7.drew := (Below.refl _ _).drew
    have A2 : ∀ o, Below w7.heap.size w7 (w7.drew.alloc o) := fun o => ((Below.refl _ _).drew).alloc (Nat.le_refl _) o
    have A3 : ∀ o, Below w7.heap.size w7 ((w7.alloc o).drew) := fun o => ((Below.refl _ _).alloc (Nat.le_refl _) o).drew
    have HA1 : Hid _ := A1
    have HA2 : Hid _ := A2
    have HA3 : Hid _ := A3
    have HZ : Hid (Blk (w7.alloc (Obj.cells #[Value.slice none 0 0, Value.int .i64 0] 122)).drew w7.heap.size 122 [.slice none 0 0, .int .i64 0]) := Blk.drew (Blk.new w7 _ _ rfl)
    have hne7 : ¬ w6.heap.size = w7.heap.size := by omega
    have hne7' : ¬ w7.heap.size = w6.heap.size := by omega
    clear A1 A2 A3
    go_cut [7] (fun s wx => ∃ sb g7 : Nat, s = .pointer (some ⟨sb, 0, none⟩) ∧ Blk wx sb 122 [.slice (some ⟨g7, 0, none⟩) (starts l).length (starts l).length, .int .i64 (kindsOf (Sedge.same l) s5)] ∧ Row wx g7 (shorter l s5) ∧ Below w7.heap.size w7 wx)
    case first =>
      go_region_held3 (fun w' => w'.cell? ⟨w6.heap.size, 0, none⟩ = some (.slice (some ⟨g6, 0, none⟩) l.length l.length) ∧ w'.cell? ⟨w6.heap.size, 1, none⟩ = some (.int .i64 (kindsOf (Sedge.same l) s5))) (go_keep)
        (first
          | (go_at_call 88; refine (pick_tab ad3 l.length g6 l.length c3 _ (starts l) _ (Blk.later hrow7 HA1.out) (hS7.later HA1.out) hM7 (by omega) (by omega)).mono ?_; rintro e w8 ⟨g8, rfl, hg8, hr8, hb8⟩; have hnb8 := Blk.later (Blk.drew hnb) hb8; obtain ⟨hy0, hy1⟩ := cells2 hnb8; have hz8 := hb8.size)
          | (go_at_call 88; refine (pick_tab ad3 l.length g6 l.length c3 _ (starts l) _ (Blk.later hrow7 (HA3.out _)) (hS7.later (HA3.out _)) hM7 (by omega) (by omega)).mono ?_; rintro e w8 ⟨g8, rfl, hg8, hr8, hb8⟩; have hnb8 := Blk.later (Blk.later hnb (HA3.out _)) hb8; obtain ⟨hy0, hy1⟩ := cells2 hnb8; have hz8 := hb8.size; have hzb := Blk.later HZ.out hb8; obtain ⟨hq0, hq1⟩ := cells2 hzb; have hf0 := Blk.free hzb 0; have hf1 := Blk.free hzb 1))
      all_goals (go_wp2_with fail)
      all_goals go_meet
      · exact ⟨_, g8, rfl, Blk.new w8 _ _ rfl, Blk.alloc hr8 _, (Below.later HA1.out hb8).alloc (by have := (Below.later HA1.out hb8).size; omega) _⟩
      · refine ⟨_, g8, rfl, ?_, Blk.other (Blk.other hr8 (by simp at hg8; simp; omega) _) (by simp at hg8; simp; omega) _, ((Below.later (HA3.out _) hb8).setCell (by simp) _).setCell (by simp) _⟩
        have := (hzb.set 0 (.slice (some ⟨g8, 0, none⟩) (starts l).length (starts l).length)).set 1 (.int .i64 (kindsOf (Sedge.same l) s5))
        simpa using this
    case rest =>
      obtain ⟨sb, g7, rfl, hsb, hrow8, hB8⟩ := hcut
      have CI := HI.out (shorter l s5) (by rw [shorter_length]; exact hsl3) (some ⟨g7, 0, none⟩) (starts l).length (kindsOf (Sedge.same l) s5) wc (Row.sl hrow8) (fun p hp => by
        rw [shorter_length] at hp
        rw [shorter_num hp]
        exact name_lt_kinds ((HSM.out _).2 (mem_starts.1 (num_mem hp)))) (by omega) (by rw [shorter_length]; omega)
      rw [shorter_length] at CI
      have HCI : Hid _ := CI
      have hS8 := hS7.later hB8
      have hBc := Below.later (Below.later hB6 hB7) hB8
      have hbsc := (hbs6.later hB7).later hB8
      have hsloc : Row wc g (slopes l) := Blk.later (Blk.later hslo6 hB7) hB8
      obtain ⟨hx2, hx3⟩ := cells2 hsb
      clear CI hx0 hx1 hrow7 hS7 HA1 HA2 HA3 HZ hne7 hne7' hnb hnlt hrow6 hslo6 hS6 hS6' hbs6 hrow8
      go_wp2_with fail
      refine Calls.mono HCI.out ?_
      rintro e w9 ⟨v9, o9, rfl, hown9, hSA9, hb9⟩
      obtain ⟨ad9, c9, rfl, hS9⟩ := own_sl hown9
      have hlen9 := hSA9.length
      rw [shorter_length] at hlen9
      have CP := pick_any ad3 ad9 (starts l) o9 c3 c9 w9 (hS8.later hb9) hS9 (fun k hk => by have := (hSA9.2 _).1 (num_mem hk); rwa [shorter_length] at this) (by omega) (by omega)
      have HCP : Hid _ := CP
      have HL9 : Hid (o9.length = (starts l).length) := hlen9
      have ho9n : o9.length ≤ 1000000 := by omega
      have hB9 := Below.later hBc hb9
      have hbs9 := hbsc.later hb9
      have hslo9 : Row w9 g (slopes l) := Blk.later hsloc hb9
      clear CP hlen9 HCI hown9 hS9 hS8 hb9 hBc hbsc hsloc hx2 hx3 hsb
      go_wp2_with fail
      refine Calls.mono HCP.out ?_
      rintro e w10 ⟨g10, rfl, hg10, hrow10, hb10⟩
      obtain ⟨hpwS, hmemS⟩ := starts_by_row hsp HSM.out hSA9
      have hB10 := Below.later hB9 hb10
      have hbs10 := hbs9.later hb10
      have hslo10 : Row w10 g (slopes l) := Blk.later hslo9 hb10
      have CI2 := induced_any ad (some ⟨g, 0, none⟩) (some ⟨g10, 0, none⟩) l (o9.map (num (starts l))) c l.length o9.length kd w10 (good_suf hmemS hpwS) hkd hkm (hl.later hB10) (Row.sl hslo10) (Row.sl hrow10) hv (by omega) hn0 (by rw [List.length_map]; exact ho9n)
      rw [List.length_map] at CI2
      have HCI2 : Hid _ := CI2
      obtain ⟨hx0, hx1, hx2⟩ := cells3 hbs10
      clear CI2 hpwS hmemS hrow10 hslo10 hslo9 hbs9 HCP hB9 hb10 hg10
      go_wp2_with fail
      refine Calls.mono HCI2.out ?_
      rintro e w11 ⟨r8, o8, rfl, hr8, hrow8, hlen8, hpw8, hmem8, hb8⟩
      have hfin : Answers l w (.returned (.slice (some ⟨r8, 0, none⟩) l.length l.length)) w11 := by
        have hB11 := Below.later hB10 hb8
        refine ⟨_, o8, rfl, ?_, ⟨hpw8, hmem8⟩, hB11⟩
        have := Row.own hrow8 (base := w.heap.size) (by have := hB10.size; omega) (by unfold maxLen; omega)
        rw [hlen8] at this ⊢; exact this
      have HF : Hid _ := hfin
      clear hfin hrow8 hlen8 hpw8 hmem8 hb8 hx0 hx1 hx2 hbs10 HCI2
      go_wp2
      go_ret
      exact HF.out
  · have hkk' : ((starts l).length : Int) ≤ ((kindsOf (Sedge.same l) s5 : Nat) : Int) := by omega
    have hsuf := starts_by_pieces hsp HSM.out (by rw [HL.out]; omega)
    have hG := good_suf HSM.out hsuf
    have HG : Hid _ := hG
    have hbs7 := hbs6.later hB7
    obtain ⟨hx0, hx1, hx2⟩ := cells3 hbs7
    go_wp2_with fail
    refine (induced_any ad (some ⟨g, 0, none⟩) ad5 l s5 c l.length c5 kd _ HG.out hkd hkm (hl.later (Below.later hB6 hB7)) (Row.sl (Blk.later hslo6 hB7)) (hS6'.later hB7) hv (by omega) hn0 hs5n).mono ?_
    rintro e w8 ⟨r8, o8, rfl, hr8, hrow8, hlen8, hpw8, hmem8, hb8⟩
    have hfin : Answers l w (.returned (.slice (some ⟨r8, 0, none⟩) l.length l.length)) w8 := by
      have hB8 := Below.later (Below.later hB6 hB7) hb8
      refine ⟨_, o8, rfl, ?_, ⟨hpw8, hmem8⟩, hB8⟩
      have := Row.own hrow8 (base := w.heap.size) (by have := (Below.later hB6 hB7).size; omega) (by unfold maxLen; omega)
      rw [hlen8] at this ⊢; exact this
    have HF : Hid _ := hfin
    clear hfin hrow8 hlen8 hpw8 hmem8 hb8 hx0 hx1 hx2 hbs7
    go_wp2
    go_ret
    exact HF.out

/-- 'Inducing': the places of all ends, in the ends' order. -/
theorem inducing_any : ∀ (m : Nat) (l : List Nat), l.length = m → ∀ (ad : Option Addr) (c kd : Nat) (w : World), Sl w ad l → (∀ p, p < l.length → num l p < kd) → kd ≤ 500000 → l.length ≤ 500000 →
    Calls Tryz.prog 55 #[.agg #[.slice ad l.length c, .int .i64 (kd : Int)]] w (Answers l w) := by
  intro m
  induction m using Nat.strongRecOn with
  | _ m ih =>
    intro l hm ad c kd w hl hkd hkm hn
    by_cases h0 : l.length = 0
    · have : l = [] := List.eq_nil_of_length_eq_zero h0
      subst this
      exact inducing_nil ad c kd w
    · exact inducing_step l (by omega) (fun l' hl' ad c kd w a b d e => ih l'.length (by omega) l' rfl ad c kd w a b d e) ad c kd w hl hkd hkm hn
end Go.Proofs.YtepklbboejnecaaGreat
