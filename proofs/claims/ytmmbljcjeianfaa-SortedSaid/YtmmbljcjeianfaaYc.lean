/- What is held: a list that waits. -/
import Derived.Test.YtmmbljcjeianfaaYb
import Derived.Test.YtmmbljcjeianfaaXp
namespace Go.Proofs.Ytmmbljcjeianfaa
open Go.RowKit Go.Shelf Sedge
attribute [local go_sem ↓] Go.wp_at_zero Go.wp_at_succ

theorem wpList_pushOwn (w : World) {ops : Array Oper} {rest : List Oper} {o : Oper} {a : Act} {Q : Exit → Act → World → Prop} (hg : o.guard = none)
    (s x : Operand) (hop : o.op = Op.call { callee := Callee.builtin Builtin.append, args := #[s, x], argTypes := #[36, 36] })
    (base : Nat) (v : Value) (xs : List Nat) (hs : a.eval s = v) (hown : w.ownsRow base 3 1 v xs.length (IV xs))
    (base2 : Nat) (vy : Value) (ys : List Nat) (hx : a.eval x = vy) (hy : w.ownsRow base2 3 1 vy ys.length (IV ys)) (hlen : xs.length + ys.length ≤ 1000000) (hbase : base ≤ w.heap.size)
    (hK : ∀ v' w', w'.ownsRow base 3 1 v' (xs ++ ys).length (IV (xs ++ ys)) → Below base w w' → wpList Try.prog ops Q rest (a.put o.dst v') w') :
    wpList Try.prog ops Q (o :: rest) a w :=
  wpList_plain hg fun _ hK' => wp_pushOwn s x hop base v xs hs hown base2 vy ys hx hy hlen hbase fun v' w' h1 h2 => hK' _ _ (hK v' w' h1 h2)

theorem Try.infoSl : (Try.prog.info? 36).map (fun i => (i.zero, i.size, i.bytes)) = some (some (.slice none 0 0), 1, 24) := by kernel_rfl
/-- 'append(s, x)' of lists. -/
theorem wpList_push_sl (w : World) {ops : Array Oper} {rest : List Oper} {o : Oper} {a : Act} {Q : Exit → Act → World → Prop} (hg : o.guard = none)
    (s x : Operand) (hop : o.op = Op.call { callee := Callee.builtin Builtin.append, args := #[s, x], argTypes := #[26, 26] })
    (base : Nat) (v : Value) (n : Nat) (xs : List Value) (hs : a.eval s = v) (hown : w.ownsRow base 36 1 v n xs)
    (ad : Addr) (y : Value) (hx : a.eval x = .slice (some ad) 1 1) (hc : w.cell? ad = some y) (h1 : y.oneCell' = true) (hn : n ≤ 1000) (hbase : base ≤ w.heap.size)
    (hK : ∀ v' w', w'.ownsRow base 36 1 v' (n + 1) (xs ++ [y]) → w.grownBy w' v.ownBlock → Lies w w' v v' → wpList Try.prog ops Q rest (a.put o.dst v') w') :
    wpList Try.prog ops Q (o :: rest) a w := by
  obtain ⟨i0, hi, hz0, hz1, hz2⟩ := info_parts Try.infoSl
  refine wpList_push_at w hg s x 26 hop 36 i0 (.slice none 0 0) 1 24 Try.underlying26 hi hz0 hz1 hz2 rfl (by decide) base v n xs hs hown ad 1 [y] hx rfl ?_ ?_ ?_ ?_ hbase hK
  · intro j u hj
    match j, hj with
    | 0, hj => simp at hj; subst hj; simpa [Addr.add] using hc
  · intro u hu; simp at hu; subst hu; exact h1
  · unfold maxLen; omega
  · omega

theorem own_slice {w : World} {base n : Nat} {e : TypeId} {s : Nat} {v : Value} {xs : List Value} (h : w.ownsRow base e s v n xs) : v.oneCell' = true := by
  rcases h.2 with ⟨rfl, _⟩ | ⟨g, cap, cur, rfl, _⟩ <;> rfl
theorem Apart.lies {w w' : World} {x v v' : Value} (h : Apart x v) (hx : ∀ g, x.ownBlock = some g → g < w.heap.size) (k : Lies w w' v v') : Apart x v' := by
  intro g h1 h2
  rcases k with k | k
  · rw [k] at h2; exact h g h1 h2
  · have := k.1 g h2; have := hx g h1; omega
theorem off_lies {w w' : World} {v v' : Value} {hb : Nat} (h : v.ownBlock ≠ some hb) (hx : hb < w.heap.size) (k : Lies w w' v v') : v'.ownBlock ≠ some hb := by
  intro h2
  rcases k with k | k
  · rw [k] at h2; exact h h2
  · have := k.1 hb h2; omega

theorem own_val {w : World} {base n : Nat} {e : TypeId} {s : Nat} {v : Value} {xs : List Value} (h : w.ownsRow base e s v n xs) : ∃ ad c, v = .slice ad n c := by
  rcases h.2 with ⟨rfl, rfl⟩ | ⟨g, cap, cur, rfl, _⟩
  · exact ⟨none, 0, rfl⟩
  · exact ⟨_, _, rfl⟩
theorem free_of_apart {x y : Value} (h : Apart x y) : Free x [y.ownBlock] := fun g hg r hr e => by
  simp at hr; subst hr; exact h g hg e.symm
theorem free_of_off {x : Value} {hb : Nat} (h : x.ownBlock ≠ some hb) : Free x [some hb] := fun g hg r hr e => by
  simp at hr; subst hr; simp at e; subst e; exact h hg

theorem own_lt {w : World} {base n : Nat} {e : TypeId} {s : Nat} {v : Value} {xs : List Value} (h : w.ownsRow base e s v n xs) : ∀ g, v.ownBlock = some g → g < w.heap.size := fun g hg => (h.lt g hg).2
theorem free_cons {x : Value} {r : Option Nat} {bs : List (Option Nat)} (h1 : Free x [r]) (h2 : Free x bs) : Free x (r :: bs) := fun g hg q hq => by
  rcases List.mem_cons.1 hq with rfl | hq
  · exact h1 g hg _ (by simp)
  · exact h2 g hg q hq
/-- One list more waits: what is held behind it. -/
theorem HInv.more {B : Nat} {w1 w2 w4 : World} {hb N : Nat} {vI vT vR vT2 vR4 v u : Value} {E : List (Value × Int)} {T : List (Value × Value × List Nat)} {L : List Nat} {o1 o2 : Obj}
    (H : HInv B w1 hb N vI vT vR E T) (hL : L.length ≤ 100000) (hT : T.length < 100)
    (ov : w1.ownsRow B 3 1 v L.length (IV L)) (ou : w1.ownsRow B 3 1 u L.length (IV L)) (cv : Clear hb vI vT vR v) (cu : Clear hb vI vT vR u) (hct : ∀ t ∈ T, Apart t.1 v) (hce : ∀ e ∈ E, Apart e.1 v)
    (hT2 : w2.ownsRow B 36 1 vT2 (T.length + 1) (T.map (·.1) ++ [v])) (hg2 : (w1.alloc o1).grownBy w2 vT.ownBlock) (hl2 : Lies (w1.alloc o1) w2 vT vT2)
    (hR4 : w4.ownsRow B 36 1 vR4 (T.length + 1) (T.map (·.2.1) ++ [u])) (hg4 : ((w2.setCell ⟨hb, 4, none⟩ vT2).alloc o2).grownBy w4 vR.ownBlock) (hl4 : Lies ((w2.setCell ⟨hb, 4, none⟩ vT2).alloc o2) w4 vR vR4) :
    HInv B (w4.setCell ⟨hb, 5, none⟩ vR4) hb N vI vT2 vR4 E (T ++ [(v, u, L)]) := by
  have z1 : w1.heap.size ≤ (w1.alloc o1).heap.size := by rw [World.size_alloc]; omega
  have z2 := hg2.size
  have z3 : w2.heap.size ≤ ((w2.setCell ⟨hb, 4, none⟩ vT2).alloc o2).heap.size := by rw [World.size_alloc, World.size_setCell]; omega
  have z4 := hg4.size
  have F12 : Fr w1 w2 [vT.ownBlock] := (Fr.alloc w1 o1).trans (Fr.of_grown hg2)
  have F25 : Fr w2 (w4.setCell ⟨hb, 5, none⟩ vR4) [some hb, vR.ownBlock, some hb] := (((Fr.set w2 hb 4 vT2).trans (Fr.alloc _ o2)).trans (Fr.of_grown hg4)).trans (Fr.set w4 hb 5 vR4)
  have F15 : Fr w1 (w4.setCell ⟨hb, 5, none⟩ vR4) [vT.ownBlock, some hb, vR.ownBlock, some hb] := F12.trans F25
  have F45 := Fr.set w4 hb 5 vR4
  have fr : ∀ x, Clear hb vI vT vR x → Free x [vT.ownBlock, some hb, vR.ownBlock, some hb] := fun x hx => free_cons (free_of_apart hx.t) (free_cons (free_of_off hx.off) (free_cons (free_of_apart hx.r) (free_of_off hx.off)))
  have cl : ∀ x, Clear hb vI vT vR x → (∀ g, x.ownBlock = some g → g < w1.heap.size) → Clear hb vI vT2 vR4 x := fun x hx hlt => ⟨hx.off, hx.i, hx.t.lies (fun g hg => by have := hlt g hg; omega) hl2, hx.r.lies (fun g hg => by have := hlt g hg; omega) hl4⟩
  have hbl := H.box.lt
  have oT2 : vT2.ownBlock ≠ some hb := off_lies H.oT (by omega) hl2
  have oR4 : vR4.ownBlock ≠ some hb := off_lies H.oR (by omega) hl4
  have aT2R : Apart vT2 vR := (H.aTR.symm.lies (fun g hg => by have := own_lt H.rR g hg; omega) hl2).symm
  have hlen : (T ++ [(v, u, L)]).length = T.length + 1 := by simp
  have hIc : Clear hb vI vT vR vI → True := fun _ => trivial
  refine ⟨H.base, ?_, ?_, ?_, ?_, ?_, ?_, ?_, ?_, H.oI, oT2, oR4, ?_, ?_, ?_, ?_, ?_, ?_, ?_, H.nN, H.nE, by rw [hlen]; omega⟩
  · have b1 := Blk.fr H.box F12 (fun r hr => by simp at hr; subst hr; exact fun e => H.oT e.symm)
    have b2 := Blk.alloc (Blk.set b1 4 vT2) o2
    have b3 := Blk.fr b2 (Fr.of_grown hg4) (fun r hr => by simp at hr; subst hr; exact fun e => H.oR e.symm)
    exact Blk.set b3 5 vR4
  · exact own_fr H.rI F15 (free_cons (free_of_apart H.aIT) (free_cons (free_of_off H.oI) (free_cons (free_of_apart H.aIR) (free_of_off H.oI))))
  · rw [hlen, List.map_append]
    exact own_fr hT2 F25 (free_cons (free_of_off oT2) (free_cons (free_of_apart aT2R) (free_of_off oT2)))
  · rw [hlen, List.map_append]
    exact own_fr hR4 F45 (free_of_off oR4)
  · intro t ht
    rcases List.mem_append.1 ht with ht | ht
    · exact ⟨own_fr (H.own t ht).1 F15 (fr _ (H.cT t ht).1), own_fr (H.own t ht).2 F15 (fr _ (H.cT t ht).2)⟩
    · simp at ht; subst ht
      exact ⟨own_fr ov F15 (fr _ cv), own_fr ou F15 (fr _ cu)⟩
  · intro t ht
    rcases List.mem_append.1 ht with ht | ht
    · exact H.small t ht
    · simp at ht; subst ht; exact hL
  · exact fun e he => (H.rd e he).fr F15 (fr _ (H.cE e he))
  · exact fun e he g hg => Nat.lt_of_lt_of_le (H.lt e he g hg) F15.1
  · exact H.aIT.lies (fun g hg => by have := own_lt H.rI g hg; omega) hl2
  · exact H.aIR.lies (fun g hg => by have := own_lt H.rI g hg; omega) hl4
  · exact aT2R.lies (fun g hg => by have := own_lt hT2 g hg; omega) hl4
  · intro t ht
    rcases List.mem_append.1 ht with ht | ht
    · exact ⟨cl _ (H.cT t ht).1 (own_lt (H.own t ht).1), cl _ (H.cT t ht).2 (own_lt (H.own t ht).2)⟩
    · simp at ht; subst ht
      exact ⟨cl _ cv (own_lt ov), cl _ cu (own_lt ou)⟩
  · exact fun e he => cl _ (H.cE e he) (H.lt e he)
  · rw [List.pairwise_append]
    refine ⟨H.pw, by simp, fun t ht t' ht' => ?_⟩
    simp at ht'; subst ht'; exact hct t ht
  · intro t ht e he
    rcases List.mem_append.1 ht with ht | ht
    · exact H.te t ht e he
    · simp at ht; subst ht; exact hce e he

set_option maxRecDepth 20000 in
set_option maxHeartbeats 4000000 in
/-- 'ints': one list more waits. -/
theorem ints_any (B : Nat) (W : World) (hb N : Nat) (vI vT vR : Value) (E : List (Value × Int)) (T : List (Value × Value × List Nat)) (H : HInv B W hb N vI vT vR E T) (v : Value) (L : List Nat) (hv : W.ownsRow B 3 1 v L.length (IV L)) (hL : L.length ≤ 100000)
    (hc : Clear hb vI vT vR v) (hct : ∀ t ∈ T, Apart t.1 v) (hce : ∀ e ∈ E, Apart e.1 v) (hT : T.length < 100) :
    Calls Try.prog 39 #[.pointer (some ⟨hb, 0, none⟩), v] W fun e w' => e = .returned (.tuple #[]) ∧ ∃ u vT' vR', HInv B w' hb N vI vT' vR' E (T ++ [(v, u, L)]) ∧ Below B W w' := by
  obtain ⟨ad, cv, rfl⟩ := own_val hv
  obtain ⟨adT, cT, rfl⟩ := own_val H.rT
  obtain ⟨adR, cR, rfl⟩ := own_val H.rR
  have HH : Hid _ := H
  have hsz : B ≤ W.heap.size := by have := H.base; have := H.box.lt; omega
  have hlt := H.box.lt
  have HV : Hid _ := hv
  have HC : Hid _ := hc
  have HCT : Hid _ := hct
  have HCE : Hid _ := hce
  clear H hv hc hct hce
  go_enter Try.func39, Try.ntmps39
  go_wp2_with (first
    | (at_builtin; refine wpList_pushOwn _ rfl (.tmp 5) (.tmp 6) rfl W.heap.size _ [] rfl (World.ownsRow_nil _ _ _ _) B (.slice ad L.length cv) L rfl HV.out (by simp; omega) (Nat.le_refl _) ?_; intro u w1 hu hb1; rw [List.nil_append] at hu; have HH1 : Hid _ := HH.out.later hb1; obtain ⟨_, _, _, _, c4, c5, _⟩ := HH1.out.cellAt; have hs1 := hb1.size; obtain ⟨adu, cu, rfl⟩ := own_val hu; have HU : Hid _ := hu; clear hu)
    | (at_builtin; refine wpList_push_sl _ rfl (.tmp 12) (.tmp 14) rfl B (.slice adT T.length cT) T.length (T.map (·.1)) rfl (HH1.out.rT.alloc _) ⟨w1.heap.size, 0, none⟩ (.slice ad L.length cv) rfl (by simp) rfl (by omega) (by simp; omega) ?_; intro vT' w2 hT2 hg2 hl2; obtain ⟨adT2, cT2, rfl⟩ := own_val hT2; have hbx2 := Blk.fr (HH1.out.box.alloc (Obj.cells #[.slice ad L.length cv] 36)) (Fr.of_grown hg2) (fun r hr => by simp at hr; subst hr; exact fun e => HH1.out.oT e.symm); have d4 := hbx2.cell (k := 4) (by simp); have d5 := hbx2.cell (k := 5) (by simp); have f4 := Blk.free hbx2 4; have f5 := Blk.free hbx2 5; have HT2 : Hid _ := hT2; have HG2 : Hid _ := hg2; have HL2 : Hid _ := hl2; have HB2 : Hid (Blk w2 hb 30 [.int .i64 (N : Int), vI, nl, nl, .slice adT T.length cT, .slice adR T.length cR, nl, nl, nl, nl]) := hbx2; have HR3 : Hid (World.ownsRow (w2.setCell ⟨hb, 4, none⟩ (.slice adT2 (T.length + 1) cT2)) B 36 1 (.slice adR T.length cR) T.length (T.map (·.2.1))) := own_fr (own_fr (HH1.out.rR.alloc _) (Fr.of_grown hg2) (free_of_apart HH1.out.aTR.symm)) (Fr.set w2 hb 4 _) (free_of_off HH1.out.oR); have HCN : Hid (World.cell? ((w2.setCell ⟨hb, 4, none⟩ (.slice adT2 (T.length + 1) cT2)).alloc (Obj.cells #[.slice adu L.length cu] 36)) ⟨w2.heap.size, 0, none⟩ = some (.slice adu L.length cu)) := (by have q := cell_new (w2.setCell ⟨hb, 4, none⟩ (.slice adT2 (T.length + 1) cT2)) (.slice adu L.length cu) 36; rwa [World.size_setCell] at q); have hs2 := hg2.size; simp only [World.size_alloc] at hs2; clear hT2 hg2 hl2 hbx2 c4 c5)
    | (at_builtin; refine wpList_push_sl _ rfl (.tmp 22) (.tmp 24) rfl B (.slice adR T.length cR) T.length (T.map (·.2.1)) rfl (HR3.out.alloc _) ⟨w2.heap.size, 0, none⟩ (.slice adu L.length cu) rfl HCN.out rfl (by omega) (by simp; omega) ?_; intro vR' w4 hR4 hg4 hl4; obtain ⟨adR4, cR4, rfl⟩ := own_val hR4; have hbx4 := Blk.fr (Blk.alloc (Blk.set HB2.out 4 (.slice adT2 (T.length + 1) cT2)) (Obj.cells #[.slice adu L.length cu] 36)) (Fr.of_grown hg4) (fun r hr => by simp at hr; subst hr; exact fun e => HH1.out.oR e.symm); have e5 := hbx4.cell (k := 5) (by simp); have g5 := Blk.free hbx4 5; clear d4 d5 f4 f5)
    | fail)
  have F := HH.out.fresh (x := .slice adu L.length cu) (fun g hg => (World.ownsRow.lt HU.out g hg).1)
  have hu1 : w1.ownsRow B 3 1 (.slice adu L.length cu) L.length (IV L) := own_mono HU.out hsz
  have hm := HInv.more HH1.out hL hT (own_fr HV.out (Fr.of_below hb1) (free_nil _)) hu1 HC.out F.1 HCT.out HCE.out HT2.out HG2.out HL2.out hR4 hg4 hl4
  have hB2 : Below B W w2 := ((Below.refl B W).trans (hb1.mono hsz)).alloc (by omega) _ |>.grown HG2.out (by simp; omega) (fun k hk => (HH1.out.rT.lt k hk).1)
  have hB5 : Below B W (w4.setCell ⟨hb, 5, none⟩ (.slice adR4 (T.length + 1) cR4)) := (((hB2.setCell (p := ⟨hb, 4, none⟩) HH1.out.base _).alloc (by simp; omega) _).grown hg4 (by simp; omega) (fun k hk => (HH1.out.rR.lt k hk).1)).setCell (p := ⟨hb, 5, none⟩) HH1.out.base _
  go_end0
  exact ⟨rfl, _, _, _, hm, hB5⟩
end Go.Proofs.Ytmmbljcjeianfaa
