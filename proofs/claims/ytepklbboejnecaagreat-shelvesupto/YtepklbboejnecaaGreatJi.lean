/- Shelves: a shelf's calls. -/
import Derived.Test.YtepklbboejnecaaGreatJh
namespace Go.Proofs.YtepklbboejnecaaGreat
open Go.RowKit Go.Shelf Sedge
attribute [local go_sem ↓] Go.wp_at_zero Go.wp_at_succ

/-- A block of one cell has no other. -/
theorem Blk.one {w : World} {g : Nat} {T : TypeId} {v : Value} (h : Blk w g T [v]) (j : Nat) : w.cell? ⟨g, j + 1, none⟩ = none := by
  unfold Blk at h
  rw [cell_of_row w g _ _ _ _ h]
  simp
theorem ES.off {w : World} {g : Nat} {T : TypeId} {v : Value} {ad : Option Addr} {bs : List Vol} (hB : Blk w g T [v]) (h : ES w ad bs) {k : Nat} (hk : k < bs.length) {b o : Nat} (e : ad = some ⟨b, o, none⟩) : b ≠ g := by
  obtain ⟨b', o', e', c0, c1⟩ := h k hk
  rw [e] at e'
  simp only [Option.some.injEq, Addr.mk.injEq, and_true] at e'
  obtain ⟨rfl, rfl⟩ := e'
  intro q
  subst q
  have := hB.one (o + k * 2)
  rw [this] at c1
  cases c1
/-- A list of texts, where only a block of one cell has changed. -/
theorem ES.fr1 {w w' : World} {g : Nat} {T : TypeId} {v : Value} {ad : Option Addr} {bs : List Vol} (hB : Blk w g T [v]) (h : ES w ad bs) (hf : Fr w w' [some g]) : ES w' ad bs := fun k hk => by
  obtain ⟨b, o, e, c0, c1⟩ := h k hk
  have hne := ES.off hB h hk e
  have hb : w'.heap[b]? = w.heap[b]? := hf.2 b (cell_lt c0) (fun r hr => by simp at hr; subst hr; simpa using hne)
  exact ⟨b, o, e, by rw [World.cell?_of_block hb]; exact c0, by rw [World.cell?_of_block hb]; exact c1⟩
/-- Rows of different types lie apart. -/
theorem own_ty {w : World} {base g n : Nat} {e T : TypeId} {s : Nat} {v : Value} {xs vs : List Value} (h : w.ownsRow base e s v n xs) (hB : Blk w g T vs) (hne : e ≠ T) : v.ownBlock ≠ some g := by
  rcases h.2 with ⟨rfl, _⟩ | ⟨g', cap, cur, rfl, _, h3, _⟩
  · intro q; cases q
  · intro q
    simp only [Value.ownBlock, Option.some.injEq] at q
    subst q
    unfold Blk at hB
    rw [h3] at hB
    simp only [Option.some.injEq, Obj.cells.injEq] at hB
    exact hne hB.2.1
theorem own_ty2 {w : World} {base base' n n' : Nat} {e e' : TypeId} {s s' : Nat} {v v' : Value} {xs xs' : List Value} (h : w.ownsRow base e s v n xs) (h' : w.ownsRow base' e' s' v' n' xs') (hne : e ≠ e') : Apart v v' := fun g q q' => by
  rcases h.2 with ⟨rfl, _⟩ | ⟨g1, cap, cur, rfl, _, h3, _⟩
  · cases q
  · rcases h'.2 with ⟨rfl, _⟩ | ⟨g2, cap', cur', rfl, _, h3', _⟩
    · cases q'
    · simp only [Value.ownBlock, Option.some.injEq] at q q'
      subst q
      subst q'
      rw [h3] at h3'
      simp only [Option.some.injEq, Obj.cells.injEq] at h3'
      exact hne h3'.2.1
/-- A shelf. -/
structure SH (w : World) (sb : Nat) (T ET : TypeId) (bs : List Vol) : Prop where
  ok : OKs bs
  ex : ∃ ad c, Blk w sb T [.slice ad bs.length c] ∧ EL ET w ad c bs
theorem SH.later {w w' : World} {sb : Nat} {T ET : TypeId} {bs : List Vol} (h : SH w sb T ET bs) (hb : Below w.heap.size w w') : SH w' sb T ET bs := by
  obtain ⟨ad, c, h1, h2⟩ := h.ex
  exact ⟨h.ok, ad, c, h1.later hb, h2.later hb⟩
theorem SH.lt {w : World} {sb : Nat} {T ET : TypeId} {bs : List Vol} (h : SH w sb T ET bs) : sb < w.heap.size := by
  obtain ⟨ad, c, h1, h2⟩ := h.ex; exact h1.lt
/-- Another shelf has changed. -/
theorem SH.fr1 {w w' : World} {sb sb' : Nat} {T ET T' ET' : TypeId} {bs bs' : List Vol} (h : SH w sb T ET bs) (h' : SH w sb' T' ET' bs') (hne : sb ≠ sb') (hty : ET ≠ T') (hf : Fr w w' [some sb']) : SH w' sb T ET bs := by
  obtain ⟨ad, c, h1, h2⟩ := h.ex
  obtain ⟨ad', c', g1, _⟩ := h'.ex
  exact ⟨h.ok, ad, c, Blk.fr h1 hf (fun r hr => by simp at hr; subst hr; simpa using hne), ⟨own_fr h2.own' hf (free_of_off (own_ty h2.own' g1 hty))⟩⟩
/-- A row of another type has changed. -/
theorem SH.frO {w w' : World} {sb base n : Nat} {T ET e : TypeId} {s : Nat} {v : Value} {xs : List Value} {bs : List Vol} (h : SH w sb T ET bs) (hv : w.ownsRow base e s v n xs) (h1 : e ≠ T) (h2 : e ≠ ET) (hf : Fr w w' [v.ownBlock]) : SH w' sb T ET bs := by
  obtain ⟨ad, c, g1, g2⟩ := h.ex
  exact ⟨h.ok, ad, c, Blk.fr g1 hf (fun r hr => by simp at hr; subst hr; exact fun q => own_ty hv g1 h1 q.symm), ⟨own_fr g2.own' hf (free_of_apart (own_ty2 g2.own' hv (fun q => h2 q.symm)))⟩⟩
/-- What a call leaves. -/
structure Left (w w' : World) (sb : Nat) : Prop where
  fr : Fr w w' [some sb]
  bl : Below sb w w'
theorem Left.of_below {w w' : World} {sb : Nat} (h : Below w.heap.size w w') (hs : sb ≤ w.heap.size) : Left w w' sb := ⟨⟨h.size, fun k hk _ => h.block k hk⟩, Below.mono h hs⟩
theorem SH.stored {w w' : World} {sb : Nat} {T ET : TypeId} {bs bs' : List Vol} {ad : Option Addr} {c : Nat} (h : SH w sb T ET bs) (hty : ET ≠ T) (hb : Below w.heap.size w w') (h' : EL ET w' ad c bs') (ho : OKs bs') : SH (w'.setCell ⟨sb, 0, none⟩ (.slice ad bs'.length c)) sb T ET bs' ∧ Left w (w'.setCell ⟨sb, 0, none⟩ (.slice ad bs'.length c)) sb := by
  obtain ⟨ad0, c0, h1, h2⟩ := h.ex
  have hlt := h1.lt
  have h1' := h1.later hb
  refine ⟨⟨ho, ad, c, h1'.set 0 _, ⟨own_fr h'.own' (Fr.set w' sb 0 _) (free_of_off (own_ty h'.own' h1' hty))⟩⟩, ?_, ?_⟩
  · have := (Fr.of_below hb).trans (Fr.set w' sb 0 (.slice ad bs'.length c))
    simpa using this
  · exact (Below.mono hb (Nat.le_of_lt hlt)).setCell (p := ⟨sb, 0, none⟩) (Nat.le_refl _) _

/-- What Put and Drop answer, and what stands there behind it. -/
def putE (bs : List Vol) (id : Int) (t : ByteArray) : Int := if id < 0 ∨ 999 < id then 8 else if hasId bs id = true then 9 else if 200 < t.size then 2 else if 20 ≤ bs.length then 10 else 0
def putB (bs : List Vol) (id : Int) (t : ByteArray) : List Vol := if putE bs id t = 0 then ins bs id.toNat t else bs
def dropE (bs : List Vol) (id : Int) : Int := if hasId bs id = true then 0 else 3
def dropB (bs : List Vol) (id : Int) : List Vol := if hasId bs id = true then del bs id else bs

set_option maxHeartbeats 1000000 in
theorem NewShelf_any (w : World) : Calls Tryz.prog 11 #[] w fun e w' => e = .returned (.pointer (some ⟨w.heap.size, 0, none⟩)) ∧ SH w' w.heap.size 92 129 [] ∧ Below w.heap.size w w' := by
  go_enter Tryz.func11, Tryz.ntmps11
  go_wp2
  go_ret
  exact ⟨rfl, ⟨OKs.nil, none, 0, Blk.new w _ _ rfl, ⟨World.ownsRow_nil _ _ _ _⟩⟩, (Below.refl _ _).alloc (Nat.le_refl _) _⟩

set_option maxRecDepth 20000 in
set_option maxHeartbeats 2000000 in
theorem Put_any (w : World) (sb : Nat) (bs : List Vol) (id : Int) (t : ByteArray) (h : SH w sb 92 129 bs) :
    Calls Tryz.prog 13 #[.pointer (some ⟨sb, 0, none⟩), .int .i64 id, .string t] w fun e w' => e = .returned (.int .i64 (putE bs id t)) ∧ SH w' sb 92 129 (putB bs id t) ∧ Left w w' sb := by
  have hlt := h.lt
  have HH : Hid _ := h
  obtain ⟨ad, c, hbk, hel⟩ := h.ex
  have ho := h.ok
  have hlen := ho.len
  have HS : ∀ w', Below w.heap.size w w' → SH w' sb 92 129 bs ∧ Left w w' sb := fun w' hb => ⟨SH.later HH.out hb, Left.of_below hb (Nat.le_of_lt hlt)⟩
  have HSS : Hid _ := HS
  clear HS h
  unfold putB putE
  by_cases h1 : id < 0 ∨ 999 < id
  · rw [if_pos h1, if_neg (show ¬ (8 : Int) = 0 by omega)]
    by_cases h0 : id < 0
    · clear h1
      go_enter Tryz.func13, Tryz.ntmps13
      go_wp2
      go_ret
      exact ⟨rfl, HSS.out _ (Below.refl _ _)⟩
    · have i1 : 999 < id := by omega
      clear h1
      go_enter Tryz.func13, Tryz.ntmps13
      go_wp2
      go_ret
      exact ⟨rfl, HSS.out _ (Below.refl _ _)⟩
  · have i1 : ¬ id < 0 := by omega
    have i2 : ¬ 999 < id := by omega
    rw [if_neg h1]
    clear h1
    obtain ⟨k, rfl⟩ : ∃ k : Nat, id = (k : Int) := ⟨id.toNat, by omega⟩
    have x0 := cell1 hbk
    have CH := Has_any bs ho ad c (k : Int) w hel.es
    unfold txv at CH
    cases hh : hasId bs (k : Int) with
    | true =>
      rw [hh] at CH
      have HC : Hid _ := CH
      rw [if_pos rfl, if_neg (show ¬ (9 : Int) = 0 by omega)]
      clear CH hh hbk hel ho
      go_enter Tryz.func13, Tryz.ntmps13
      go_wp2_with fail
      refine Calls.mono HC.out ?_
      rintro e w1 ⟨rfl, hb1⟩
      go_wp2
      go_ret
      exact ⟨rfl, HSS.out _ hb1⟩
    | false =>
      rw [hh] at CH
      have HC : Hid _ := CH
      have HHF : Hid _ := hh
      rw [if_neg (show ¬ false = true by simp)]
      clear CH hh
      by_cases h3 : 200 < t.size
      · have i3 : (200 : Int) < (t.size : Int) := by omega
        rw [if_pos h3, if_neg (show ¬ (2 : Int) = 0 by omega)]
        clear h3 hbk hel ho
        go_enter Tryz.func13, Tryz.ntmps13
        go_wp2_with fail
        refine Calls.mono HC.out ?_
        rintro e w1 ⟨rfl, hb1⟩
        go_wp2
        go_ret
        exact ⟨rfl, HSS.out _ hb1⟩
      · have i3 : ¬ (200 : Int) < (t.size : Int) := by omega
        rw [if_neg h3]
        have CC := fun W => Count_any bs.length ad c W
        unfold txv at CC
        have HCC : Hid _ := CC
        clear CC
        have HBK : Hid _ := hbk
        have HEL : Hid _ := hel
        have HOK : Hid _ := ho
        by_cases h4 : 20 ≤ bs.length
        · have i4 : (20 : Int) ≤ (bs.length : Int) := by omega
          rw [if_pos h4, if_neg (show ¬ (10 : Int) = 0 by omega)]
          clear h4 h3 hel ho hbk
          go_enter Tryz.func13, Tryz.ntmps13
          go_wp2_with fail
          refine Calls.mono HC.out ?_
          rintro e w1 ⟨rfl, hb1⟩
          have x1 := cell1 (Blk.later HBK.out hb1)
          clear x0
          go_wp2_with fail
          refine Calls.mono (HCC.out _) ?_
          rintro e w2 ⟨rfl, hb2⟩
          have HB2 : Hid _ := Below.later hb1 hb2
          clear hb1 hb2 x1
          go_wp2
          go_ret
          exact ⟨rfl, HSS.out _ HB2.out⟩
        · have i4 : ¬ (20 : Int) ≤ (bs.length : Int) := by omega
          rw [if_neg h4, if_pos rfl, Int.toNat_natCast]
          have HOI : Hid (OKs (ins bs k t)) := OKs.ins ho HHF.out (by omega) (by omega) (by omega)
          have hts : t.size ≤ 200 := by omega
          clear h4 h3 hel ho hbk
          go_enter Tryz.func13, Tryz.ntmps13
          go_wp2_with fail
          refine Calls.mono HC.out ?_
          rintro e w1 ⟨rfl, hb1⟩
          have x1 := cell1 (Blk.later HBK.out hb1)
          clear x0
          go_wp2_with fail
          refine Calls.mono (HCC.out _) ?_
          rintro e w2 ⟨rfl, hb2⟩
          have hb2' := Below.later hb1 hb2
          have HB2 : Hid _ := hb2'
          have x2 := cell1 (Blk.later HBK.out hb2')
          have CW := With_any bs HOK.out ad c k t w2 (EL.later HEL.out hb2') hts
          unfold txv at CW
          have HCW : Hid _ := CW
          clear hb1 hb2 x1 hb2' CW
          go_wp2_with fail
          refine Calls.mono HCW.out ?_
          rintro e w3 ⟨ad3, c3, rfl, hel3, hb3⟩
          have hB3 := Below.later HB2.out hb3
          have hbk3 := Blk.later HBK.out hB3
          have x3 := cell1 hbk3
          have f3 := Blk.free hbk3 0
          have HF : Hid _ := SH.stored HH.out (by decide) hB3 hel3 HOI.out
          clear hel3 hb3 hB3 hbk3 x2
          go_wp2
          go_ret
          exact ⟨rfl, HF.out⟩

set_option maxRecDepth 20000 in
set_option maxHeartbeats 2000000 in
theorem Drop_any (w : World) (sb : Nat) (bs : List Vol) (id : Int) (h : SH w sb 92 129 bs) :
    Calls Tryz.prog 23 #[.pointer (some ⟨sb, 0, none⟩), .int .i64 id] w fun e w' => e = .returned (.int .i64 (dropE bs id)) ∧ SH w' sb 92 129 (dropB bs id) ∧ Left w w' sb := by
  have hlt := h.lt
  have HH : Hid _ := h
  obtain ⟨ad, c, hbk, hel⟩ := h.ex
  have ho := h.ok
  have HS : ∀ w', Below w.heap.size w w' → SH w' sb 92 129 bs ∧ Left w w' sb := fun w' hb => ⟨SH.later HH.out hb, Left.of_below hb (Nat.le_of_lt hlt)⟩
  have HSS : Hid _ := HS
  clear HS h
  unfold dropB dropE
  have x0 := cell1 hbk
  have CH := Has_any bs ho ad c id w hel.es
  unfold txv at CH
  cases hh : hasId bs id with
  | true =>
    rw [hh] at CH
    have HC : Hid _ := CH
    have HF : Hid (lb bs id < bs.length) := (ho.found.1 hh).1
    have HBK : Hid _ := hbk
    have HEL : Hid _ := hel
    have HOK : Hid _ := ho
    rw [if_pos rfl, if_pos rfl]
    clear CH hh hbk hel ho
    go_enter Tryz.func23, Tryz.ntmps23
    go_wp2_with fail
    refine Calls.mono HC.out ?_
    rintro e w1 ⟨rfl, hb1⟩
    have x1 := cell1 (Blk.later HBK.out hb1)
    have CW := Without_any bs HOK.out ad c id w1 (EL.later HEL.out hb1) HF.out
    unfold txv at CW
    have HCW : Hid _ := CW
    have HB1 : Hid _ := hb1
    clear CW x0 hb1
    go_wp2_with fail
    refine Calls.mono HCW.out ?_
    rintro e w3 ⟨ad3, c3, rfl, hel3, hb3⟩
    have hB3 := Below.later HB1.out hb3
    have hbk3 := Blk.later HBK.out hB3
    have x3 := cell1 hbk3
    have f3 := Blk.free hbk3 0
    have HF2 : Hid _ := SH.stored HH.out (by decide) hB3 hel3 (OKs.del HOK.out)
    clear hel3 hb3 hB3 hbk3 x1
    go_wp2
    go_ret
    exact ⟨rfl, HF2.out⟩
  | false =>
    rw [hh] at CH
    have HC : Hid _ := CH
    rw [if_neg (show ¬ false = true by simp), if_neg (show ¬ false = true by simp)]
    clear CH hh hbk hel ho
    go_enter Tryz.func23, Tryz.ntmps23
    go_wp2_with fail
    refine Calls.mono HC.out ?_
    rintro e w1 ⟨rfl, hb1⟩
    go_wp2
    go_ret
    exact ⟨rfl, HSS.out _ hb1⟩

/-- What Find, Top and Wide tell. -/
def sfindL (bs : List Vol) (pat : ByteArray) : List (Nat × Nat) := if patE pat = 0 then hitsL pat bs else []
theorem patE_ok {pat : ByteArray} (h : patE pat = 0) : pat.size ≤ 1000 ∧ 0 < pat.size := by
  unfold patE at h
  split at h
  · omega
  · split at h
    · omega
    · omega
theorem patE_no {pat : ByteArray} (h : ¬ patE pat = 0) : patE pat = 2 ∨ patE pat = 4 := by
  unfold patE at h ⊢
  split
  · exact .inl rfl
  · split
    · exact .inr rfl
    · rename_i h1 h2; rw [if_neg h1, if_neg h2] at h; exact absurd rfl h
set_option maxRecDepth 20000 in
set_option maxHeartbeats 2000000 in
theorem sFind_any (w : World) (sb : Nat) (bs : List Vol) (pat : ByteArray) (h : SH w sb 92 129 bs) :
    Calls Tryz.prog 14 #[.pointer (some ⟨sb, 0, none⟩), .string pat] w fun e w' => ∃ v, e = .returned (.tuple #[v, .int .i64 (patE pat)]) ∧ w'.ownsRow w.heap.size 59 2 v (sfindL bs pat).length (HN (sfindL bs pat)) ∧ Below w.heap.size w w' := by
  obtain ⟨ad, c, hbk, hel⟩ := h.ex
  have x0 := cell1 hbk
  unfold sfindL
  have C := checkPattern_any pat w
  by_cases hp : patE pat = 0
  · have hq := patE_ok hp
    have CF := tFind_any bs h.ok ad c pat w hel.es hq.1 hq.2
    unfold txv at CF
    rw [hp] at C ⊢
    rw [if_pos rfl]
    have HC : Hid _ := C
    have HCF : Hid _ := CF
    clear C CF hp hq hel hbk h
    go_enter Tryz.func14, Tryz.ntmps14
    go_wp2_with fail
    refine Calls.mono HC.out ?_
    rintro e w1 ⟨rfl, rfl⟩
    go_wp2_with fail
    refine Calls.mono HCF.out ?_
    rintro e w2 ⟨v, rfl, hown, hb⟩
    have HO : Hid _ := hown
    clear hown
    go_wp2
    go_ret2
    exact ⟨_, rfl, HO.out, hb⟩
  · rw [if_neg hp]
    have hp2 := patE_no hp
    obtain ⟨m, hm⟩ : ∃ m, m = patE pat := ⟨_, rfl⟩
    rw [← hm] at hp hp2 C ⊢
    have HC : Hid _ := C
    have i1 : (m == 0) = false := by simp; omega
    clear C hm hp2 hel hbk h
    go_enter Tryz.func14, Tryz.ntmps14
    go_wp2_with fail
    refine Calls.mono HC.out ?_
    rintro e w1 ⟨rfl, rfl⟩
    go_wp2
    go_ret2
    exact ⟨_, rfl, World.ownsRow_nil _ _ _ _, Below.refl _ _⟩
/-- What Top tells: of sorted counts L. -/
def stopL (L : List (Nat × Nat)) (pat : ByteArray) (n : Int) : List Nat := if patE pat = 0 then topL L n else []
set_option maxRecDepth 20000 in
set_option maxHeartbeats 2000000 in
theorem sTop_any (w : World) (sb : Nat) (bs : List Vol) (pat : ByteArray) (n : Int) (h : SH w sb 92 129 bs) (hN : -9223372036854775808 ≤ n ∧ n ≤ 9223372036854775807) :
    Calls Tryz.prog 28 #[.pointer (some ⟨sb, 0, none⟩), .string pat, .int .i64 n] w fun e w' => ∃ v L, e = .returned (.tuple #[v, .int .i64 (patE pat)]) ∧ (patE pat = 0 → Tops (cnts pat bs) L) ∧ w'.ownsRow w.heap.size 3 1 v (stopL L pat n).length (IV (stopL L pat n)) ∧ Below w.heap.size w w' := by
  obtain ⟨ad, c, hbk, hel⟩ := h.ex
  have x0 := cell1 hbk
  unfold stopL
  have C := checkPattern_any pat w
  by_cases hp : patE pat = 0
  · have hq := patE_ok hp
    have CF := tTop_any bs h.ok ad c pat n w hel.es hq.1 hq.2 hN
    unfold txv at CF
    rw [hp] at C ⊢
    have HC : Hid _ := C
    have HCF : Hid _ := CF
    clear C CF hp hq hel hbk h
    go_enter Tryz.func28, Tryz.ntmps28
    go_wp2_with fail
    refine Calls.mono HC.out ?_
    rintro e w1 ⟨rfl, rfl⟩
    go_wp2_with fail
    refine Calls.mono HCF.out ?_
    rintro e w2 ⟨v, L, rfl, hT, hown, hb⟩
    have HO : Hid _ := hown
    have HT : Hid _ := hT
    clear hown hT
    go_wp2
    go_ret2
    exact ⟨_, rfl, L, HT.out, HO.out, hb⟩
  · have hp2 := patE_no hp
    obtain ⟨m, hm⟩ : ∃ m, m = patE pat := ⟨_, rfl⟩
    rw [← hm] at hp hp2 C ⊢
    have HC : Hid _ := C
    have HP : Hid _ := hp
    have i1 : (m == 0) = false := by simp; omega
    clear C hm hp2 hel hbk h hp
    go_enter Tryz.func28, Tryz.ntmps28
    go_wp2_with fail
    refine Calls.mono HC.out ?_
    rintro e w1 ⟨rfl, rfl⟩
    go_wp2
    go_ret2
    exact ⟨_, rfl, World.ownsRow_nil _ _ _ _, Below.refl _ _⟩
/-- What Wide tells. -/
def wideE (bs : List Vol) (n : Int) : Int := if n < 1 ∨ (bs.length : Int) < n then 3 else 0
def WideR (bs : List Vol) (n : Int) (r : ByteArray) : Prop := if n < 1 ∨ (bs.length : Int) < n then r = ⟨#[]⟩ else WideIs (txs bs) n.toNat (bl r)
set_option maxRecDepth 20000 in
set_option maxHeartbeats 2000000 in
theorem sWide_any (w : World) (sb : Nat) (bs : List Vol) (n : Int) (h : SH w sb 92 129 bs) :
    Calls Tryz.prog 16 #[.pointer (some ⟨sb, 0, none⟩), .int .i64 n] w fun e w' => ∃ r, e = .returned (.tuple #[.string r, .int .i64 (wideE bs n)]) ∧ WideR bs n r ∧ Below w.heap.size w w' := by
  obtain ⟨ad, c, hbk, hel⟩ := h.ex
  have x0 := cell1 hbk
  have ho := h.ok
  have CC := Count_any bs.length ad c w
  unfold txv at CC
  unfold wideE WideR
  by_cases h1 : n < 1
  · rw [if_pos (.inl h1)]
    simp only [if_pos (show n < 1 ∨ (bs.length : Int) < n from .inl h1)]
    clear hel hbk h CC ho
    go_enter Tryz.func16, Tryz.ntmps16
    go_wp2
    go_ret2
    exact ⟨_, rfl, rfl, Below.refl _ _⟩
  · have HCC : Hid _ := CC
    by_cases h2 : (bs.length : Int) < n
    · rw [if_pos (.inr h2)]
      simp only [if_pos (show n < 1 ∨ (bs.length : Int) < n from .inr h2)]
      clear hel hbk h CC ho
      go_enter Tryz.func16, Tryz.ntmps16
      go_wp2_with fail
      refine Calls.mono HCC.out ?_
      rintro e w1 ⟨rfl, hb1⟩
      go_wp2
      go_ret2
      exact ⟨_, rfl, rfl, hb1⟩
    · rw [if_neg (by omega)]
      simp only [if_neg (show ¬ (n < 1 ∨ (bs.length : Int) < n) by omega)]
      obtain ⟨m, rfl⟩ : ∃ m : Nat, n = (m : Int) := ⟨n.toNat, by omega⟩
      rw [Int.toNat_natCast]
      have HBK : Hid _ := hbk
      have HEL : Hid _ := hel
      have HOK : Hid _ := ho
      have hm1 : 1 ≤ m := by omega
      have hm2 : m ≤ bs.length := by omega
      clear hel hbk h CC ho
      go_enter Tryz.func16, Tryz.ntmps16
      go_wp2_with fail
      refine Calls.mono HCC.out ?_
      rintro e w1 ⟨rfl, hb1⟩
      have x1 := cell1 (Blk.later HBK.out hb1)
      have CW := tWide_any bs HOK.out ad c m w1 (ES.later HEL.out.es hb1) hm1 hm2
      unfold txv at CW
      have HCW : Hid _ := CW
      clear x0 CW
      go_wp2_with fail
      refine Calls.mono HCW.out ?_
      rintro e w2 ⟨r, rfl, hr, hb2⟩
      have HR : Hid _ := hr
      clear hr
      go_wp2
      go_ret2
      exact ⟨_, rfl, HR.out, Below.later hb1 hb2⟩
end Go.Proofs.YtepklbboejnecaaGreat
