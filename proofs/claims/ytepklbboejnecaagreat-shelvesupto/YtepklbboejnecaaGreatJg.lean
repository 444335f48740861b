/- Shelves: the texts' tables; how much of an end so many texts have. -/
import Derived.Test.YtepklbboejnecaaGreatJf
import Derived.Test.YtepklbboejnecaaGreatF
import Derived.Test.YtepklbboejnecaaGreatM
namespace Go.Proofs.YtepklbboejnecaaGreat
open Go.RowKit Go.Shelf Sedge
attribute [local go_sem ↓] Go.wp_at_zero Go.wp_at_succ

set_option maxHeartbeats 2000000 in
/-- 'parts.Of': the table lies in new blocks. -/
theorem partsOf_new (s : ByteArray) (w : World) (hs : s.size ≤ 500000) :
    Calls Tryz.prog 44 #[.string s] w fun e w' => ∃ ad b o c c', e = .returned (tv s ad (some ⟨b, 0, none⟩) o.length c c') ∧ Tab w' s ad (some ⟨b, 0, none⟩) o ∧ (∀ b' o', ad = some ⟨b', o', none⟩ → w.heap.size ≤ b') ∧ w.heap.size ≤ b ∧ Below w.heap.size w w' := by
  have hres : Blk (w.alloc (Obj.cells #[.string ⟨#[]⟩, .slice none 0 0, .slice none 0 0] 99)) w.heap.size 99 [.string ⟨#[]⟩, .slice none 0 0, .slice none 0 0] := Blk.new w _ _ rfl
  have hB0 : Below w.heap.size w (w.alloc (Obj.cells #[.string ⟨#[]⟩, .slice none 0 0, .slice none 0 0] 99)) := (Below.refl _ _).alloc (Nat.le_refl _) _
  go_enter Tryz.func44, Tryz.ntmps44
  go_wp2_with fail
  refine (endsOf_any s _ (by omega)).mono ?_
  rintro e w1 ⟨g1, rfl, hg1, hr1, hb1⟩
  have hres1 := hres.later hb1
  have hB1 := Below.later hB0 hb1
  have CI := inducing_any (bl s).length (bl s) rfl (some ⟨g1, 0, none⟩) s.size 256 w1 (Row.sl hr1) (fun p _ => bl_lt s p) (by omega) (by rw [bl_length]; exact hs)
  rw [bl_length, show (((256 : Nat)) : Int) = 256 from rfl] at CI
  have HCI : Hid _ := CI
  clear CI hres hB0 hb1 hg1
  go_wp2_with fail
  refine Calls.mono HCI.out ?_
  rintro e w2 ⟨v2, o, rfl, hown, hSA, hb2⟩
  obtain ⟨ad, c, rfl, hS, hba⟩ := own_base hown
  have hcap := capOf_own hown
  have HCAP : Hid _ := hcap
  clear hcap
  have HNB : Hid (∀ b' o', ad = some ⟨b', o', none⟩ → w.heap.size ≤ b') := fun b o e => by have := hba b o e; have := hres1.lt; omega
  have hba' : ∀ b o, ad = some ⟨b, o, none⟩ → b ≠ w.heap.size := fun b o e => by have := hba b o e; have := hres1.lt; omega
  have HBA : Hid _ := hba'
  clear hba hba'
  have hres2 := hres1.later hb2
  have hB2 := Below.later hB1 hb2
  clear HCI hres1 hB1 hb2 hown
  go_wp2_with fail
  refine (common_any s ad o c w2 (by omega) hS hSA).mono ?_
  rintro e w3 ⟨g3, rfl, hg3, hr3, hb3⟩
  have hres3 := hres2.later hb3
  have hB3 := Below.later hB2 hb3
  have hS3 := hS.later hb3
  obtain ⟨hx0, hx1, hx2⟩ := cells3 hres3
  have hf0 := Blk.free hres3 0
  have hf1 := Blk.free hres3 1
  have hf2 := Blk.free hres3 2
  have hg3' : w.heap.size < g3 := by have := hres2.lt; omega
  have hr3' := Row.sl hr3
  have hSx := ((hS3.other (a := ⟨w.heap.size, 0, none⟩) HBA.out (.string s)).other (a := ⟨w.heap.size, 1, none⟩) HBA.out (.slice ad o.length c)).other (a := ⟨w.heap.size, 2, none⟩) HBA.out (.slice (some ⟨g3, 0, none⟩) o.length o.length)
  have hCx := ((hr3'.other (a := ⟨w.heap.size, 0, none⟩) (fun b o' e => by simp at e; simp; omega) (.string s)).other (a := ⟨w.heap.size, 1, none⟩) (fun b o' e => by simp at e; simp; omega) (.slice ad o.length c)).other (a := ⟨w.heap.size, 2, none⟩) (fun b o' e => by simp at e; simp; omega) (.slice (some ⟨g3, 0, none⟩) o.length o.length)
  have HX : Hid _ := hSx
  have HY : Hid _ := hCx
  clear hSx hCx hr3 hS hS3
  have HB4 : Hid (Below w.heap.size w (((w3.setCell ⟨w.heap.size, 0, none⟩ (.string s)).setCell ⟨w.heap.size, 1, none⟩ (.slice ad o.length c)).setCell ⟨w.heap.size, 2, none⟩ (.slice (some ⟨g3, 0, none⟩) o.length o.length))) := ((hB3.setCell (by simp) _).setCell (by simp) _).setCell (by simp) _
  go_wp2
  exact bodyPost_ret (v := tv s ad (some ⟨g3, 0, none⟩) o.length c o.length) (by simp [results, Tryz.results44, go_sem, hx0, hx1, hx2]) rfl ⟨ad, _, o, c, _, rfl, ⟨HX.out, HY.out, hSA⟩, HNB.out, by omega, HB4.out⟩

theorem Tryz.infoTab : (Tryz.prog.info? 99).map (fun i => (i.zero, i.size, i.bytes)) = some (some (.agg #[.string ⟨#[]⟩, .slice none 0 0, .slice none 0 0]), 3, 64) := by kernel_rfl
theorem own_blk {w : World} {base g n : Nat} {e : TypeId} {s : Nat} {xs : List Value} (h : w.ownsRow base e s (.slice (some ⟨g, 0, none⟩) n n) n xs) : Blk w g e xs := by
  rcases h.2 with ⟨h1, _⟩ | ⟨g', cap, cur, h1, _, h3, _, _, h6, h7⟩
  · cases h1
  · simp only [Value.slice.injEq, Option.some.injEq, Addr.mk.injEq, and_true, true_and] at h1
    obtain ⟨rfl, rfl⟩ := h1
    unfold Blk
    rw [h3, ← h7, List.take_of_length_le (by rw [Array.length_toList, h6]; exact Nat.le_refl _)]
theorem Tab.other {w : World} {s : ByteArray} {ad ad' : Option Addr} {o : List Nat} (h : Tab w s ad ad' o) {a : Addr} (h1 : ∀ b o', ad = some ⟨b, o', none⟩ → b ≠ a.block) (h2 : ∀ b o', ad' = some ⟨b, o', none⟩ → b ≠ a.block) (v : Value) : Tab (w.setCell a v) s ad ad' o := ⟨h.ord.other h1 v, h.com.other h2 v, h.sa⟩
/-- The tables of the first so many texts, in a block. -/
structure TT (w : World) (g : Nat) (bs : List Vol) (k : Nat) (vs : List Value) : Prop where
  len : vs.length = bs.length * 3
  blk : Blk w g 99 vs
  tab : ∀ i (hi : i < bs.length), i < k → ∃ ad ad' o c c', vs[i * 3]? = some (.string bs[i].2) ∧ vs[i * 3 + 1]? = some (.slice ad o.length c) ∧ vs[i * 3 + 2]? = some (.slice ad' o.length c') ∧ Tab w bs[i].2 ad ad' o ∧ (∀ b o', ad = some ⟨b, o', none⟩ → g < b) ∧ (∀ b o', ad' = some ⟨b, o', none⟩ → g < b)
theorem TT.later {w w' : World} {g : Nat} {bs : List Vol} {k : Nat} {vs : List Value} (h : TT w g bs k vs) (hb : Below w.heap.size w w') : TT w' g bs k vs :=
  ⟨h.len, h.blk.later hb, fun i hi hk => by
    obtain ⟨ad, ad', o, c, c', a1, a2, a3, a4, a5⟩ := h.tab i hi hk
    exact ⟨ad, ad', o, c, c', a1, a2, a3, a4.later hb, a5⟩⟩
theorem TT.set {w : World} {g : Nat} {bs : List Vol} {k : Nat} {vs : List Value} (h : TT w g bs k vs) (hk : k < bs.length) {ad ad' : Option Addr} {o : List Nat} {c c' : Nat} (hT : Tab w bs[k].2 ad ad' o) (h1 : ∀ b o', ad = some ⟨b, o', none⟩ → g < b) (h2 : ∀ b o', ad' = some ⟨b, o', none⟩ → g < b) :
    TT (((w.setCell ⟨g, k * 3, none⟩ (.string bs[k].2)).setCell ⟨g, k * 3 + 1, none⟩ (.slice ad o.length c)).setCell ⟨g, k * 3 + 2, none⟩ (.slice ad' o.length c')) g bs (k + 1) (((vs.set (k * 3) (.string bs[k].2)).set (k * 3 + 1) (.slice ad o.length c)).set (k * 3 + 2) (.slice ad' o.length c')) := by
  have hl := h.len
  have ne : ∀ {x : Option Addr}, (∀ b o', x = some ⟨b, o', none⟩ → g < b) → ∀ j b o', x = some ⟨b, o', none⟩ → b ≠ (⟨g, j, none⟩ : Addr).block := fun hx j b o' e => by have := hx b o' e; simp; omega
  have key : ∀ {s : ByteArray} {a a' : Option Addr} {q : List Nat}, Tab w s a a' q → (∀ b o', a = some ⟨b, o', none⟩ → g < b) → (∀ b o', a' = some ⟨b, o', none⟩ → g < b) → Tab (((w.setCell ⟨g, k * 3, none⟩ (.string bs[k].2)).setCell ⟨g, k * 3 + 1, none⟩ (.slice ad o.length c)).setCell ⟨g, k * 3 + 2, none⟩ (.slice ad' o.length c')) s a a' q := fun hT q1 q2 =>
    ((hT.other (ne q1 _) (ne q2 _) _).other (ne q1 _) (ne q2 _) _).other (ne q1 _) (ne q2 _) _
  refine ⟨by simp [hl], ((h.blk.set _ _).set _ _).set _ _, fun i hi hik => ?_⟩
  by_cases e : i = k
  · subst e
    refine ⟨ad, ad', o, c, c', ?_, ?_, ?_, key hT h1 h2, h1, h2⟩
    · rw [List.getElem?_set_ne (by omega), List.getElem?_set_ne (by omega), List.getElem?_set_self (by omega)]
    · rw [List.getElem?_set_ne (by omega), List.getElem?_set_self (by simp; omega)]
    · rw [List.getElem?_set_self (by simp; omega)]
  · obtain ⟨a, a', q, d, d', a1, a2, a3, a4, a5, a6⟩ := h.tab i hi (by omega)
    refine ⟨a, a', q, d, d', ?_, ?_, ?_, key a4 a5 a6, a5, a6⟩
    · rw [List.getElem?_set_ne (by omega), List.getElem?_set_ne (by omega), List.getElem?_set_ne (by omega)]; exact a1
    · rw [List.getElem?_set_ne (by omega), List.getElem?_set_ne (by omega), List.getElem?_set_ne (by omega)]; exact a2
    · rw [List.getElem?_set_ne (by omega), List.getElem?_set_ne (by omega), List.getElem?_set_ne (by omega)]; exact a3

set_option maxRecDepth 20000 in
set_option maxHeartbeats 2000000 in
/-- 'tables'. -/
theorem tables_any (bs : List Vol) (hO : OKs bs) (ad : Option Addr) (c : Nat) (w : World) (hE : ES w ad bs) :
    Calls Tryz.prog 68 #[txv ad bs.length c] w fun e w' => ∃ g vs, e = .returned (.slice (some ⟨g, 0, none⟩) bs.length bs.length) ∧ TT w' g bs bs.length vs ∧ Below w.heap.size w w' := by
  have hbx : Blk (w.alloc (Obj.cells #[.slice ad bs.length c] 90)) w.heap.size 90 [.slice ad bs.length c] := Blk.new w _ _ rfl
  have hb0 : Below w.heap.size w (w.alloc (Obj.cells #[.slice ad bs.length c] 90)) := (Below.refl _ _).alloc (Nat.le_refl _) _
  have hlen := hO.len
  have HO : Hid _ := hO
  have HE : Hid _ := hE
  obtain ⟨i0, hi, hz0, hz1, hz2⟩ := info_parts Tryz.infoTab
  have HI0 : Hid _ := hi
  have HZ0 : Hid _ := hz0
  have HZ1 : Hid _ := hz1
  have HZ2 : Hid _ := hz2
  have HB0 : Hid _ := hb0
  have HBX : Hid _ := hbx
  clear hO hE hi hz0 hz1 hz2 hb0 hbx
  unfold txv
  go_enter Tryz.func68, Tryz.ntmps68
  go_wp2_with (first
    | (at_make; refine wpList_make_full _ rfl (.tmp 8) (.tmp 8) 134 rfl (w.heap.size + 1) 99 i0 (.agg #[.string ⟨#[]⟩, .slice none 0 0, .slice none 0 0]) 3 Tryz.underlying134 HI0.out HZ0.out HZ1.out .i64 .i64 (bs.length : Int) (bs.length : Int) bs.length rfl rfl (by omega) (by omega) (by rw [HZ2.out]; omega) (by unfold maxLen; omega) (by simp) ?_; intro w1 hown0 hg1; obtain ⟨xs1, hown1⟩ : ∃ xs1, w1.ownsRow (w.heap.size + 1) 99 3 (.slice (some ⟨w.heap.size + 1, 0, none⟩) bs.length bs.length) bs.length xs1 := (by rw [World.size_alloc] at hown0; exact ⟨_, hown0⟩); have HO1 : Hid _ := hown1; clear hown0; have HB1 : Hid _ := Below.grown HB0.out hg1 (by simp) (fun k e => by cases e); have hbx1 := Blk.fr HBX.out (Fr.of_grown hg1) (fun r hr => by simp at hr; subst hr; exact fun e => by cases e); have x0 := cell1 hbx1; clear hown1 hg1)
    | fail)
  have hbl1 := own_blk HO1.out
  have hxl := HO1.out.1
  have HT0 : Hid (TT w1 (w.heap.size + 1) bs 0 xs1) := ⟨hxl, hbl1, fun i _ h => by omega⟩
  clear hbl1 hxl HO1 hbx1
  go_loopw [4, 5, 13] (fun _ _ iv wr => ∃ (k : Nat) (vs : List Value), k ≤ bs.length ∧ iv = .int .i64 k ∧ TT wr (w.heap.size + 1) bs k vs ∧ Below w.heap.size w wr) (fun _ _ iv _ => bs.length - (intOf iv).toNat)
  case atStart => exact ⟨0, xs1, Nat.zero_le _, rfl, HT0.out, HB1.out⟩
  case round =>
    clear HT0 HB1 HBX HB0 x0
    obtain ⟨k, vs, hk, rfl, hT, hb⟩ := hrel
    by_cases hlt : k < bs.length
    · obtain ⟨b, o, rfl, c0, c1⟩ := HE.out k hlt
      have d0 := (hb.cell (cell_lt c0)).trans c0
      have d1 := (hb.cell (cell_lt c1)).trans c1
      have hsz := HO.out.sz _ (List.getElem_mem hlt)
      have HT : Hid _ := hT
      obtain ⟨p, hp⟩ : ∃ p, p = bs[k]'hlt := ⟨_, rfl⟩
      rw [← hp] at d0 d1 hsz
      have HP : Hid _ := hp
      have i1 : (k : Int) < (bs.length : Int) := by omega
      have i2 : (0 : Int) ≤ (k : Int) := by omega
      have hgl := hT.blk.lt
      have HBW : Hid (Below wr.heap.size wr (wr.alloc (Obj.cells #[.int .i64 (p.1 : Nat), .string p.2] 129))) := (Below.refl _ _).alloc (Nat.le_refl _) _
      clear c0 c1 hp hT
      go_wp2_with fail
      refine (partsOf_new p.2 _ (by omega)).mono ?_
      rintro e w2 ⟨ad1, b1, o1, c1, c1', rfl, hTb, hn1, hn2, hb2⟩
      have hB2 := Below.later HBW.out hb2
      have hT2 := TT.later HT.out hB2
      have hlen3 := hT2.len
      obtain ⟨z0, y0⟩ : ∃ z, w2.cell? ⟨w.heap.size + 1, k * 3, none⟩ = some z := ⟨_, hT2.blk.cell (k := k * 3) (by omega)⟩
      obtain ⟨z1, y1⟩ : ∃ z, w2.cell? ⟨w.heap.size + 1, k * 3 + 1, none⟩ = some z := ⟨_, hT2.blk.cell (k := k * 3 + 1) (by omega)⟩
      obtain ⟨z2, y2⟩ : ∃ z, w2.cell? ⟨w.heap.size + 1, k * 3 + 2, none⟩ = some z := ⟨_, hT2.blk.cell (k := k * 3 + 2) (by omega)⟩
      have g0 := Blk.free hT2.blk (k * 3)
      have g1 := Blk.free hT2.blk (k * 3 + 1)
      have g2 := Blk.free hT2.blk (k * 3 + 2)
      have hTb' := hTb
      rw [HP.out] at hTb'
      have HS := TT.set (k := k) (ad := ad1) (ad' := some ⟨b1, 0, none⟩) (o := o1) (c := c1) (c' := c1') hT2 hlt hTb' (fun b' o' e => by have := hn1 b' o' e; simp at this; omega) (fun b' o' e => by simp at e; simp at hn2; omega)
      rw [← HP.out] at HS
      have HS3 : Hid _ := HS
      have HB3 : Hid _ := (((hb.trans (Below.mono hB2 hb.size)).setCell (p := ⟨w.heap.size + 1, k * 3, none⟩) (by simp) (.string p.2)).setCell (p := ⟨w.heap.size + 1, k * 3 + 1, none⟩) (by simp) (.slice ad1 o1.length c1)).setCell (p := ⟨w.heap.size + 1, k * 3 + 2, none⟩) (by simp) (.slice (some ⟨b1, 0, none⟩) o1.length c1')
      clear HS hTb hTb' hn1 hn2 hb2 hB2 hT2 HT HBW hb hlen3
      go_wp2
      go_roundw
      case rel => exact ⟨k + 1, _, by omega, by go_num, HS3.out, HB3.out⟩
      case measure => simp [intOf]; omega
    · have ek : k = bs.length := by omega
      subst ek
      have i1 : ¬ (bs.length : Int) < (bs.length : Int) := by omega
      have HT : Hid _ := hT
      clear hT
      go_wp2
      go_ret
      exact ⟨_, rfl, ⟨_, HT.out⟩, hb⟩

/-- How much of an end so many texts have: the texts. -/
def txs (bs : List Vol) : List (List Nat) := bs.map fun p => bl p.2
theorem txs_length (bs : List Vol) : (txs bs).length = bs.length := by simp [txs]
theorem txs_at (bs : List Vol) {i : Nat} (h : i < bs.length) : (txs bs)[i]'(by rw [txs_length]; exact h) = bl bs[i].2 := by simp [txs]

set_option maxRecDepth 20000 in
set_option maxHeartbeats 2000000 in
/-- 'reach' of several texts. -/
theorem sreach_any (bs : List Vol) (hO : OKs bs) (g : Nat) (vs : List Value) (t : ByteArray) (n : Nat) (w : World) (hT : TT w g bs bs.length vs) (ht : t.size ≤ 1000) (hn : 1 ≤ n) (hn' : n ≤ bs.length) :
    Calls Tryz.prog 69 #[.slice (some ⟨g, 0, none⟩) bs.length bs.length, .string t, .int .i64 n] w fun e w' => ∃ R : Nat, e = .returned (.int .i64 R) ∧ ReachN (txs bs) n (bl t) R ∧ Below w.heap.size w w' := by
  have hlen := hO.len
  have HO : Hid _ := hO
  have HT : Hid _ := hT
  clear hO hT
  go_enter Tryz.func69, Tryz.ntmps69
  go_wp2_with (first | (at_make; refine wpList_make_row _ rfl _ _ rfl _ _ bs.length rfl rfl rfl rfl (by omega) ?_; intro w1 hrow hsz hbel) | fail)
  have HR : Hid _ := hrow
  have HB : Hid _ := hbel
  clear hrow hbel
  go_loopw [8, 9, 15] (fun _ _ iv wr => ∃ (k : Nat) (rs : List Nat), k ≤ bs.length ∧ iv = .int .i64 k ∧ rs.length = bs.length ∧ Row wr w.heap.size rs ∧ (∀ i (hi : i < bs.length), i < k → num rs i ≤ t.size ∧ IsReach (bl bs[i].2) (bl t) (num rs i)) ∧ Below w.heap.size w wr) (fun _ _ iv _ => bs.length - (intOf iv).toNat)
  case atStart => exact ⟨0, _, Nat.zero_le _, rfl, tab_length _ _, HR.out, fun i _ h => by omega, HB.out⟩
  case round =>
    clear HR HB
    obtain ⟨k, rs, hk, rfl, hrl, hrow, hre, hb⟩ := hrel
    have HRE : Hid _ := hre
    have HRL : Hid _ := hrl
    have hgl : w.heap.size < wr.heap.size := Blk.lt hrow
    clear hre hrl
    by_cases hlt : k < bs.length
    · have hT2 := HT.out.later hb
      obtain ⟨ad, ad', o, c, c', a1, a2, a3, a4, _⟩ := hT2.tab k hlt hlt
      have hl3 := hT2.len
      have b0 := hT2.blk.cell (k := k * 3) (by omega)
      have b1 := hT2.blk.cell (k := k * 3 + 1) (by omega)
      have b2 := hT2.blk.cell (k := k * 3 + 2) (by omega)
      rw [← List.getElem?_eq_getElem (h := by omega), a1] at b0
      rw [← List.getElem?_eq_getElem (h := by omega), a2] at b1
      rw [← List.getElem?_eq_getElem (h := by omega), a3] at b2
      have hsz2 := HO.out.sz _ (List.getElem_mem hlt)
      obtain ⟨s, hs⟩ : ∃ s, s = (bs[k]'hlt).2 := ⟨_, rfl⟩
      rw [← hs] at b0 a4 hsz2
      have HS : Hid _ := hs
      have HBW : Hid (Below wr.heap.size wr (wr.alloc (Obj.cells #[.string s, .slice ad o.length c, .slice ad' o.length c'] 99))) := (Below.refl _ _).alloc (Nat.le_refl _) _
      have C := reach_any s t ad ad' o c c' _ (a4.later HBW.out) (by omega) ht
      unfold tv at C
      have HC : Hid _ := C
      have HRW : Hid _ := hrow
      have i1 : (k : Int) < (bs.length : Int) := by omega
      have i2 : (0 : Int) ≤ (k : Int) := by omega
      clear C hs a1 a2 a3 a4 hT2 hl3 hrow
      go_wp2_with fail
      refine Calls.mono HC.out ?_
      rintro e w2 ⟨r, rfl, hr1, hr2, hb2⟩
      have hB2 := Below.later HBW.out hb2
      have hrow2 := Blk.later HRW.out hB2
      have y0 : w2.cell? ⟨w.heap.size, k, none⟩ = some (.int .i64 (num rs k)) := Row.cell hrow2 (by have := HRL.out; omega)
      have g0 := Blk.free hrow2 k
      have HN : Hid _ := Row.set hrow2 k r
      have HR2 : Hid (num (rs.set k r) k ≤ t.size ∧ IsReach (bl (bs[k]'hlt).2) (bl t) (num (rs.set k r) k)) := by
        have : num (rs.set k r) k = r := by simp [num, List.getD, HRL.out, hlt]
        unfold Hid
        rw [this, ← HS.out]; exact ⟨hr1, hr2⟩
      have HB2 : Hid _ := (hb.trans (Below.mono hB2 hb.size)).setCell (p := ⟨w.heap.size, k, none⟩) (by simp) (.int .i64 (r : Nat))
      clear hr1 hr2 hb2 hB2 hrow2 HC HBW hb
      go_wp2
      go_roundw
      case rel =>
        refine ⟨k + 1, rs.set k r, by omega, by go_num, by rw [List.length_set]; exact HRL.out, HN.out, fun i hi hik => ?_, HB2.out⟩
        by_cases e : i = k
        · subst e; exact HR2.out
        · have : num (rs.set k r) i = num rs i := by simp [num, List.getD, List.getElem?_set_ne (show k ≠ i by omega)]
          rw [this]; exact HRE.out i hi (by omega)
      case measure => simp [intOf]; omega
    · have ek : k = bs.length := by omega
      subst ek
      have i1 : ¬ (bs.length : Int) < (bs.length : Int) := by omega
      have how := Row.own hrow (base := w.heap.size) (Nat.le_refl _) (by have := HRL.out; unfold maxLen; omega)
      have hrl := HRL.out
      have C := sortInts_any w.heap.size rs rs.length w.heap.size wr how (by omega) hb.size
      rw [hrl] at C
      have HC : Hid _ := C
      clear C how
      go_wp2_with fail
      refine Calls.mono HC.out ?_
      rintro e w2 ⟨rfl, ⟨ss, hperm, hsrt, hown⟩, hb2⟩
      have hsl : ss.length = bs.length := by rw [hperm.length_eq, hrl]
      have HRN : Hid (ReachN (txs bs) n (bl t) (num ss (bs.length - n))) := by
        have := reachN (xs := txs bs) (e := bl t) (rs := rs) (ss := ss) (n := n) (by rw [txs_length]; exact hrl) (fun i hi => by
          rw [txs_length] at hi
          rw [txs_at bs hi]; exact (HRE.out i hi hi).2) (fun r hr => by
            obtain ⟨i, hi, rfl⟩ := List.getElem_of_mem hr
            have hi' : i < bs.length := by rw [← HRL.out]; exact hi
            have := (HRE.out i hi' hi').1
            rw [num_eq hi] at this
            rw [bl_length]; exact this) hperm hsrt hn (by rw [txs_length]; exact hn')
        rw [hsl] at this; exact this
      obtain ⟨j, hj⟩ : ∃ j, j = bs.length - n := ⟨_, rfl⟩
      have hjs : j < ss.length := by rw [hsl]; omega
      have hc : w2.cell? ⟨w.heap.size, j, none⟩ = some (.int .i64 (num ss j : Nat)) := by
        rw [World.ownsRow.cellAt hown j (show j < bs.length * 1 by omega)]
        simp [IV, num, List.getD, hjs]
      rw [← hj] at HRN
      have i3 : (0 : Int) ≤ (j : Int) := by omega
      have i4 : (j : Int) < (bs.length : Int) := by omega
      have v1 : IntKind.i64.wrap ((bs.length : Int) - (n : Int)) = (j : Int) := by rw [IntKind.wrap_i64]; omega
      have HB2 : Hid _ := hb.trans hb2
      generalize num ss j = R at HRN hc
      clear hperm hsrt hown hj hb2 hb HC hrl hrow
      go_wp2
      go_ret
      exact ⟨R, rfl, HRN.out, HB2.out⟩
end Go.Proofs.YtepklbboejnecaaGreat
