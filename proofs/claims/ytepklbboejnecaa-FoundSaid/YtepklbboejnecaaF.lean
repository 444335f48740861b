/- Several texts as one. -/
import Derived.Test.YtepklbboejnecaaM
import Derived.Test.YtepklbboejnecaaXl
import Derived.Test.YtepklbboejnecaaXd
import Derived.Shelf.Sort.Plain
import Derived.Sort.OwnSortedInts
import Derived.Deep.DeepCutAuto
import Derived.Test.YtepklbboejnecaaXi
/- Plain mathematics: what two texts share. -/
namespace Sedge

/-- What stands between two has as much in common with the smaller one. -/
theorem lcp_between' : ∀ (a b c : List Nat), a < b → b < c → lcp a c ≤ lcp a b
  | [], b, c, _, _ => by rw [lcp_nil]; exact Nat.zero_le _
  | x :: a, [], c, h, _ => absurd h (not_lt_nil _)
  | x :: a, y :: b, [], _, h => absurd h (not_lt_nil _)
  | x :: a, y :: b, z :: c, h, k => by
    rw [cons_lt] at h k
    rw [lcp_cons, lcp_cons]
    by_cases e : x = z
    · subst e
      have hy : y = x := by
        rcases h with h | ⟨h, _⟩ <;> rcases k with k | ⟨k, _⟩ <;> omega
      subst hy
      rw [if_pos rfl, if_pos rfl]
      rcases h with h | ⟨_, h⟩
      · omega
      · rcases k with k | ⟨_, k⟩
        · omega
        · have := lcp_between' a b c h k; omega
    · rw [if_neg e]; exact Nat.zero_le _
theorem lcp_self : ∀ (a : List Nat), lcp a a = a.length
  | [] => rfl
  | x :: a => by rw [lcp_cons, if_pos rfl, lcp_self a]; rfl
theorem num_drop (l : List Nat) (p j : Nat) : num (l.drop p) j = num l (p + j) := by simp [num, List.getD]

/-- How much of a pattern a text has. -/
def IsReach (y pat : List Nat) (r : Nat) : Prop := (∀ q, q < y.length → lcp (y.drop q) pat ≤ r) ∧ (0 < r → ∃ q, q < y.length ∧ lcp (y.drop q) pat = r)

/-- What two texts share. -/
structure SharedIs (x y : List Nat) (n A B : Nat) : Prop where
  most : ∀ p q, p < x.length → q < y.length → lcp (x.drop p) (y.drop q) ≤ n
  none : n = 0 → A = 0 ∧ B = 0
  inA : 0 < n → A < x.length
  inB : 0 < n → B < y.length
  is : 0 < n → n ≤ lcp (x.drop A) (y.drop B)
  first : 0 < n → ∀ p q, p < A → q < y.length → lcp (x.drop p) (y.drop q) < n
  next : 0 < n → ∀ q, q < B → lcp (x.drop A) (y.drop q) < n
theorem SharedIs.unique {x y : List Nat} {n A B n' A' B' : Nat} (h : SharedIs x y n A B) (k : SharedIs x y n' A' B') : n = n' ∧ A = A' ∧ B = B' := by
  have e : n = n' := by
    rcases Nat.lt_trichotomy n n' with c | c | c
    · have := h.most A' B' (k.inA (by omega)) (k.inB (by omega)); have := k.is (by omega); omega
    · exact c
    · have := k.most A B (h.inA (by omega)) (h.inB (by omega)); have := h.is (by omega); omega
  subst e
  by_cases h0 : n = 0
  · have := h.none h0; have := k.none h0; omega
  · have p0 : 0 < n := by omega
    have eA : A = A' := by
      rcases Nat.lt_trichotomy A A' with c | c | c
      · have := k.first p0 A B c (h.inB p0); have := h.is p0; omega
      · exact c
      · have := h.first p0 A' B' c (k.inB p0); have := k.is p0; omega
    subst eA
    refine ⟨rfl, rfl, ?_⟩
    rcases Nat.lt_trichotomy B B' with c | c | c
    · have := k.next p0 B c; have := h.is p0; omega
    · exact c
    · have := h.next p0 B' c; have := k.is p0; omega

/-- The longest one so far, by starts in the first text. -/
structure Best (x y : List Nat) (p n A : Nat) : Prop where
  most : ∀ p' q, p' < p → q < y.length → lcp (x.drop p') (y.drop q) ≤ n
  none : n = 0 → A = 0
  inA : 0 < n → A < p
  is : 0 < n → ∃ q, q < y.length ∧ n ≤ lcp (x.drop A) (y.drop q)
  first : 0 < n → ∀ p' q, p' < A → q < y.length → lcp (x.drop p') (y.drop q) < n
theorem Best.start (x y : List Nat) : Best x y 0 0 0 := ⟨fun _ _ h => by omega, fun _ => rfl, fun h => by omega, fun h => by omega, fun h => by omega⟩
theorem Best.more {x y : List Nat} {p n A r : Nat} (h : Best x y p n A) (hr : IsReach y (x.drop p) r) (hn : n < r) : Best x y (p + 1) r p where
  most p' q hp hq := by
    by_cases e : p' = p
    · subst e; rw [lcp_comm]; exact hr.1 q hq
    · have := h.most p' q (by omega) hq; omega
  none e := by omega
  inA _ := by omega
  is h0 := by obtain ⟨q, hq, e⟩ := hr.2 h0; exact ⟨q, hq, by rw [lcp_comm]; omega⟩
  first _ p' q hp hq := by have := h.most p' q hp hq; omega
theorem Best.same {x y : List Nat} {p n A r : Nat} (h : Best x y p n A) (hr : IsReach y (x.drop p) r) (hn : ¬ n < r) : Best x y (p + 1) n A where
  most p' q hp hq := by
    by_cases e : p' = p
    · subst e; rw [lcp_comm]; have := hr.1 q hq; omega
    · exact h.most p' q (by omega) hq
  none := h.none
  inA h0 := by have := h.inA h0; omega
  is := h.is
  first := h.first
theorem Best.nothing {x y : List Nat} {A : Nat} (h : Best x y x.length 0 A) : SharedIs x y 0 A 0 :=
  ⟨h.most, fun _ => ⟨h.none rfl, rfl⟩, fun h => by omega, fun h => by omega, fun h => by omega, fun h => by omega, fun h => by omega⟩
theorem Best.done {x y : List Nat} {n A B : Nat} (h : Best x y x.length n A) (h0 : 0 < n) (hB : B < y.length) (his : n ≤ lcp (x.drop A) (y.drop B)) (hl : ∀ q, q < B → lcp (x.drop A) (y.drop q) < n) : SharedIs x y n A B :=
  ⟨h.most, fun e => by omega, h.inA, fun _ => hB, fun _ => his, h.first, fun _ => hl⟩

/-- How long the parts are that end at two places. -/
def sx (x y : List Nat) : Nat → Nat → Nat
  | i + 1, k + 1 => if num x i = num y k then sx x y i k + 1 else 0
  | _, _ => 0
section
variable {x y : List Nat}
theorem sx_zero (k : Nat) : sx x y 0 k = 0 := by cases k <;> rfl
theorem sx_zero' (i : Nat) : sx x y i 0 = 0 := by cases i <;> rfl
theorem sx_succ (i k : Nat) : sx x y (i + 1) (k + 1) = if num x i = num y k then sx x y i k + 1 else 0 := rfl
theorem sx_le : ∀ (i k : Nat), sx x y i k ≤ i ∧ sx x y i k ≤ k
  | 0, k => by rw [sx_zero]; omega
  | i + 1, 0 => by rw [sx_zero']; omega
  | i + 1, k + 1 => by
    rw [sx_succ]; have := sx_le i k
    split <;> omega
theorem sx_ge (p q : Nat) : ∀ m, (∀ j, j < m → num x (p + j) = num y (q + j)) → m ≤ sx x y (p + m) (q + m)
  | 0, _ => Nat.zero_le _
  | m + 1, h => by
    have := sx_ge p q m fun j hj => h j (by omega)
    rw [← Nat.add_assoc, ← Nat.add_assoc, sx_succ, if_pos (h m (by omega))]; omega
theorem sx_agree : ∀ (m i k : Nat), m ≤ sx x y i k → ∀ j, j < m → num x (i - m + j) = num y (k - m + j)
  | 0, _, _, _, j, hj => by omega
  | m + 1, 0, k, h, _, _ => by rw [sx_zero] at h; omega
  | m + 1, i + 1, 0, h, _, _ => by rw [sx_zero'] at h; omega
  | m + 1, i + 1, k + 1, h, j, hj => by
    rw [sx_succ] at h
    have hl := sx_le (x := x) (y := y) i k
    split at h
    · rename_i e
      rw [Nat.add_sub_add_right, Nat.add_sub_add_right]
      by_cases c : j = m
      · subst c
        rw [show i - j + j = i by omega, show k - j + j = k by omega]; exact e
      · exact sx_agree m i k (by omega) j (by omega)
    · omega
theorem sx_lcp {m i k : Nat} (h : m ≤ sx x y i k) (hi : i ≤ x.length) (hk : k ≤ y.length) : m ≤ lcp (x.drop (i - m)) (y.drop (k - m)) := by
  have hl := sx_le (x := x) (y := y) i k
  refine (lcp_eq_iff _ _ _).2 ⟨by rw [List.length_drop]; omega, by rw [List.length_drop]; omega, fun j hj => ?_⟩
  rw [num_drop, num_drop]; exact sx_agree m i k h j hj
theorem lcp_sx {m p q : Nat} (h : m ≤ lcp (x.drop p) (y.drop q)) : m ≤ sx x y (p + m) (q + m) := by
  refine sx_ge p q m fun j hj => ?_
  have := ((lcp_eq_iff _ _ _).1 h).2.2 j hj
  rwa [num_drop, num_drop] at this
end
/-- The longest one so far, by places where they end. -/
structure Ended (x y : List Nat) (i k n A B : Nat) : Prop where
  most : ∀ i' k', (i' < i ∧ k' < y.length) ∨ (i' = i ∧ k' < k) → sx x y (i' + 1) (k' + 1) ≤ n
  none : n = 0 → A = 0 ∧ B = 0
  is : 0 < n → ∃ i0 k0, ((i0 < i ∧ k0 < y.length) ∨ (i0 = i ∧ k0 < k)) ∧ sx x y (i0 + 1) (k0 + 1) = n ∧ A = i0 + 1 - n ∧ B = k0 + 1 - n ∧ ∀ i' k', ((i' < i0 ∧ k' < y.length) ∨ (i' = i0 ∧ k' < k0)) → sx x y (i' + 1) (k' + 1) < n
section
variable {x y : List Nat} {i k n A B : Nat}
theorem Ended.start (x y : List Nat) : Ended x y 0 0 0 0 0 := ⟨fun _ _ h => by omega, fun _ => ⟨rfl, rfl⟩, fun h => by omega⟩
theorem Ended.row (h : Ended x y i y.length n A B) : Ended x y (i + 1) 0 n A B :=
  ⟨fun i' k' hh => h.most i' k' (by omega), h.none, fun h0 => by
    obtain ⟨i0, k0, h1, h2⟩ := h.is h0
    exact ⟨i0, k0, by omega, h2⟩⟩
theorem Ended.more (h : Ended x y i k n A B) (hk : k < y.length) (hn : n < sx x y (i + 1) (k + 1)) : Ended x y i (k + 1) (sx x y (i + 1) (k + 1)) (i + 1 - sx x y (i + 1) (k + 1)) (k + 1 - sx x y (i + 1) (k + 1)) where
  most i' k' hh := by
    by_cases e : i' = i ∧ k' = k
    · obtain ⟨rfl, rfl⟩ := e; exact Nat.le_refl _
    · have := h.most i' k' (by omega); omega
  none e := by omega
  is _ := ⟨i, k, by omega, rfl, rfl, rfl, fun i' k' hh => by have := h.most i' k' hh; omega⟩
theorem Ended.same (h : Ended x y i k n A B) (hn : ¬ n < sx x y (i + 1) (k + 1)) : Ended x y i (k + 1) n A B where
  most i' k' hh := by
    by_cases e : i' = i ∧ k' = k
    · obtain ⟨rfl, rfl⟩ := e; omega
    · exact h.most i' k' (by omega)
  none := h.none
  is h0 := by
    obtain ⟨i0, k0, h1, h2⟩ := h.is h0
    exact ⟨i0, k0, by omega, h2⟩
/-- One as long that begins ahead of it is not met later. -/
theorem Ended.tie (h : Ended x y i k n A B) (h0 : 0 < n) : ¬ i + 1 - n < A := by
  obtain ⟨i0, k0, h1, h2, h3, _⟩ := h.is h0
  have := sx_le (x := x) (y := y) (i0 + 1) (k0 + 1)
  omega
theorem Ended.A_le (h : Ended x y i k n A B) : A ≤ i + 1 := by
  by_cases h0 : n = 0
  · have := h.none h0; omega
  · obtain ⟨i0, k0, h1, h2, h3, _⟩ := h.is (by omega)
    omega
theorem Ended.n_le (h : Ended x y i k n A B) : n ≤ i + 1 := by
  by_cases h0 : n = 0
  · omega
  · obtain ⟨i0, k0, h1, h2, h3, _⟩ := h.is (by omega)
    have := sx_le (x := x) (y := y) (i0 + 1) (k0 + 1)
    omega
theorem Ended.done (h : Ended x y x.length 0 n A B) : SharedIs x y n A B := by
  have lm : ∀ p q, p < x.length → q < y.length → lcp (x.drop p) (y.drop q) ≤ n := fun p q hp hq => by
    by_cases h0 : lcp (x.drop p) (y.drop q) = 0
    · omega
    · have a1 := lcp_le_left (x.drop p) (y.drop q)
      have a2 := lcp_le_right (x.drop p) (y.drop q)
      rw [List.length_drop] at a1 a2
      have := lcp_sx (Nat.le_refl (lcp (x.drop p) (y.drop q)))
      have h2 := h.most (p + lcp (x.drop p) (y.drop q) - 1) (q + lcp (x.drop p) (y.drop q) - 1) (by omega)
      rw [show p + lcp (x.drop p) (y.drop q) - 1 + 1 = p + lcp (x.drop p) (y.drop q) by omega, show q + lcp (x.drop p) (y.drop q) - 1 + 1 = q + lcp (x.drop p) (y.drop q) by omega] at h2
      omega
  have key : 0 < n → ∃ i0 k0, (i0 < x.length ∧ k0 < y.length) ∧ sx x y (i0 + 1) (k0 + 1) = n ∧ A = i0 + 1 - n ∧ B = k0 + 1 - n ∧ n ≤ i0 + 1 ∧ n ≤ k0 + 1 ∧ ∀ i' k', ((i' < i0 ∧ k' < y.length) ∨ (i' = i0 ∧ k' < k0)) → sx x y (i' + 1) (k' + 1) < n := fun h0 => by
    obtain ⟨i0, k0, h1, h2, h3, h4, h5⟩ := h.is h0
    have := sx_le (x := x) (y := y) (i0 + 1) (k0 + 1)
    exact ⟨i0, k0, by omega, h2, h3, h4, by omega, by omega, h5⟩
  have less : ∀ p q, 0 < n → q < y.length → ∀ i0 k0, (∀ i' k', ((i' < i0 ∧ k' < y.length) ∨ (i' = i0 ∧ k' < k0)) → sx x y (i' + 1) (k' + 1) < n) → (p + n - 1 < i0 ∨ (p + n - 1 = i0 ∧ q + n - 1 < k0)) → lcp (x.drop p) (y.drop q) < n := fun p q h0 hq i0 k0 hh c => by
    by_cases e : n ≤ lcp (x.drop p) (y.drop q)
    · exfalso
      have a2 := lcp_le_right (x.drop p) (y.drop q)
      rw [List.length_drop] at a2
      have a := lcp_sx e
      have b := hh (p + n - 1) (q + n - 1) (by omega)
      rw [show p + n - 1 + 1 = p + n by omega, show q + n - 1 + 1 = q + n by omega] at b
      omega
    · omega
  refine ⟨lm, h.none, fun h0 => ?_, fun h0 => ?_, fun h0 => ?_, fun h0 p q hp hq => ?_, fun h0 q hq => ?_⟩
  · obtain ⟨i0, k0, h1, h2, h3, h4, h5, h6, h7⟩ := key h0; omega
  · obtain ⟨i0, k0, h1, h2, h3, h4, h5, h6, h7⟩ := key h0; omega
  · obtain ⟨i0, k0, h1, h2, h3, h4, h5, h6, h7⟩ := key h0
    rw [h3, h4]
    exact sx_lcp (by omega) (by omega) (by omega)
  · obtain ⟨i0, k0, h1, h2, h3, h4, h5, h6, h7⟩ := key h0
    exact less p q h0 hq i0 k0 h7 (by omega)
  · obtain ⟨i0, k0, h1, h2, h3, h4, h5, h6, h7⟩ := key h0
    exact less A q h0 (by omega) i0 k0 h7 (by omega)
end
end Sedge

/- Finding: searching by halving; how many ends are ahead of a pattern. -/
namespace Go.Proofs.Ytepklbboejnecaa
open Go.RowKit Go.Shelf Sedge
attribute [local go_sem ↓] Go.wp_at_zero Go.wp_at_succ

/-- A function value that answers yes or no of a number. -/
structure TellsB (fn : FuncId) (ca : Array Value) (I : World → Prop) (p : Nat → Bool) (n : Nat) : Prop where
  enter : ∀ args w, Sem.run Try.prog (callFunc fn args) w = .ok (.enter fn args) w
  keep : ∀ w w', I w → Below w.heap.size w w' → I w'
  run : ∀ i w, I w → i < n → Calls Try.prog fn (#[.int .i64 i] ++ ca) w fun e w' => e = .returned (.bool (p i)) ∧ Below w.heap.size w w'

set_option maxHeartbeats 2000000 in
/-- sort.Search. -/
theorem search_any (fn : FuncId) (ca : Array Value) (I : World → Prop) (p : Nat → Bool) (n : Nat) (ht : TellsB fn ca I p n) (w : World) (hI : I w) (hn : n ≤ 1000000) (hmono : ∀ a b, a ≤ b → b < n → p a = true → p b = true) :
    Calls Try.prog 97 #[.int .i64 n, .func (.func fn) #[] ca] w fun e w' => ∃ k : Nat, e = .returned (.int .i64 k) ∧ k ≤ n ∧ (∀ i, i < k → p i = false) ∧ (∀ i, k ≤ i → i < n → p i = true) ∧ Below w.heap.size w w' := by
  have hen := ht.enter
  have HM : Hid _ := hmono
  have HT : Hid _ := ht
  clear hmono ht
  go_enter Try.func97, Try.ntmps97
  go_wp2_with fail
  go_loopw [5, 6] (fun iv jv wr => ∃ i j : Nat, i ≤ j ∧ j ≤ n ∧ iv = .int .i64 i ∧ jv = .int .i64 j ∧ (∀ q, q < i → p q = false) ∧ (∀ q, j ≤ q → q < n → p q = true) ∧ Below w.heap.size w wr) (fun iv jv _ => (intOf jv).toNat - (intOf iv).toNat)
  case atStart => exact ⟨0, n, Nat.zero_le _, Nat.le_refl _, rfl, rfl, fun q hq => by omega, fun q h1 h2 => by omega, Below.refl _ _⟩
  case round =>
    obtain ⟨i, j, hij, hj, rfl, rfl, hlo, hhi, hb⟩ := hrel
    have HLO : Hid _ := hlo
    have HHI : Hid _ := hhi
    clear hlo hhi
    by_cases hlt : i < j
    · have i1 : (i : Int) < (j : Int) := by omega
      obtain ⟨h, hh⟩ : ∃ h, h = (i + j) / 2 := ⟨_, rfl⟩
      have v1 : IntKind.i64.wrap ((i : Int) + (j : Int)) = (i : Int) + (j : Int) := by rw [IntKind.wrap_i64]; omega
      have hh1 : i ≤ h ∧ h < j := by omega
      have C := (HT.out.run h wr (HT.out.keep w wr hI hb) (by omega))
      have HC : Hid _ := C
      have HH : Hid _ := hh
      clear C hh
      go_wp2_with fail
      have eh : ((i : Int) + (j : Int)) / 2 = (h : Int) := by have := HH.out; omega
      rw [eh]
      refine Calls.mono HC.out ?_
      rintro e w2 ⟨rfl, hb2⟩
      clear eh
      cases hp : p h with
      | false =>
        have HP : Hid _ := hp
        have v2 : IntKind.i64.wrap ((h : Int) + 1) = (h : Int) + 1 := by rw [IntKind.wrap_i64]; omega
        clear hp
        go_wp2
        go_roundw
        case rel =>
          refine ⟨h + 1, j, by omega, hj, by go_num, rfl, fun q hq => ?_, HHI.out, Below.later hb hb2⟩
          by_cases c : q < i
          · exact HLO.out q c
          · cases hq' : p q with
            | false => rfl
            | true => have := HM.out q h (by omega) (by omega) hq'; rw [HP.out] at this; cases this
        case measure => simp [intOf]; omega
      | true =>
        have HP : Hid _ := hp
        clear hp
        go_wp2
        go_roundw
        case rel => exact ⟨i, h, by omega, by omega, rfl, rfl, HLO.out, fun q h1 h2 => HM.out h q h1 h2 HP.out, Below.later hb hb2⟩
        case measure => simp [intOf]; omega
    · have i1 : ¬ (i : Int) < (j : Int) := by omega
      have e : i = j := by omega
      subst e
      go_wp2
      go_ret
      exact ⟨i, rfl, hj, HLO.out, HHI.out, hb⟩

set_option maxHeartbeats 1000000 in
/-- 'end'. -/
theorem end_any (s : ByteArray) (ad ad' : Option Addr) (o : List Nat) (c c' i : Nat) (w : World) (hT : Tab w s ad ad' o) (hi : i < o.length) :
    Calls Try.prog 131 #[tv s ad ad' o.length c c', .int .i64 i] w fun e w' => e = .returned (.string (s.extract (num o i) s.size)) ∧ Below w.heap.size w w' := by
  obtain ⟨b, o1, rfl, hc⟩ := hT.ord i hi
  have hp := hT.sa.num_lt hi
  rw [bl_length] at hp
  have hb0 : Below w.heap.size w (w.alloc (Obj.cells #[.string s, .slice (some ⟨b, o1, none⟩) o.length c, .slice ad' o.length c'] 91)) := (Below.refl _ _).alloc (Nat.le_refl _) _
  have hc' := (hb0.cell (cell_lt hc)).trans hc
  have i1 : (i : Int) < (o.length : Int) := by omega
  have i2 : (0 : Int) ≤ (i : Int) := by omega
  have i3 : (num o i : Int) ≤ (s.size : Int) := by omega
  have i4 : (0 : Int) ≤ (num o i : Int) := by omega
  clear hT
  unfold tv
  go_enter Try.func131, Try.ntmps131
  go_wp2
  go_quiet (fail)
  go_wp2
  go_ret
  exact ⟨rfl, hb0.drewN _⟩

/-- What the closure of 'ahead' asks of the world. -/
structure Ahd (s pat : ByteArray) (ad ad' : Option Addr) (o : List Nat) (c c' b1 b2 : Nat) (W : World) : Prop where
  tab : Tab W s ad ad' o
  box : Blk W b1 91 [.string s, .slice ad o.length c, .slice ad' o.length c']
  pat : Blk W b2 9 [.string pat]
theorem Ahd.later {s pat : ByteArray} {ad ad' : Option Addr} {o : List Nat} {c c' b1 b2 : Nat} {w w' : World} (H : Ahd s pat ad ad' o c c' b1 b2 w) (hb : Below w.heap.size w w') : Ahd s pat ad ad' o c c' b1 b2 w' := ⟨H.tab.later hb, H.box.later hb, H.pat.later hb⟩
/-- Is an end not ahead of a pattern? -/
def notAhead (s pat : ByteArray) (o : List Nat) (i : Nat) : Bool := !decide ((bl s).drop (num o i) < bl pat)

set_option maxHeartbeats 1000000 in
theorem tells_notAhead (s pat : ByteArray) (ad ad' : Option Addr) (o : List Nat) (c c' b1 b2 : Nat) :
    TellsB 130 #[.pointer (some ⟨b1, 0, none⟩), .pointer (some ⟨b2, 0, none⟩)] (Ahd s pat ad ad' o c c' b1 b2) (notAhead s pat o) o.length where
  enter := enters_of Try.func130 (by kernel_rfl) rfl
  keep w w' H hb := H.later hb
  run i w H hi := by
    obtain ⟨x0, x1, x2⟩ := cells3 H.box
    have x3 := cell1 H.pat
    have C := fun W h => end_any s ad ad' o c c' i W h hi
    unfold tv at C
    have HC : Hid _ := C
    have l1 := H.box.lt
    have l2 := H.pat.lt
    have hless : Op.bytesLess (s.extract (num o i) s.size).toList pat.toList = decide ((bl s).drop (num o i) < bl pat) := by rw [less_bl, bl_extract]
    clear C
    go_enter Try.func130, Try.ntmps130
    go_wp2_with fail
    go_region_held3 (fun w' => w'.cell? ⟨b1, 0, none⟩ = some (.string s) ∧ w'.cell? ⟨b1, 1, none⟩ = some (.slice ad o.length c) ∧ w'.cell? ⟨b1, 2, none⟩ = some (.slice ad' o.length c') ∧ w'.cell? ⟨b2, 0, none⟩ = some (.string pat)) (go_keep)
      (first
        | (go_at_call 131; refine (HC.out _ (H.tab.later (Below.refl _ w).drew)).mono ?_; rintro e w2 ⟨rfl, hb2⟩; have hB2 := Below.later (Below.refl _ w).drew hb2; have y0 := (hB2.cell (p := ⟨b1, 0, none⟩) l1).trans x0; have y1 := (hB2.cell (p := ⟨b1, 1, none⟩) l1).trans x1; have y2 := (hB2.cell (p := ⟨b1, 2, none⟩) l1).trans x2; have y3 := (hB2.cell (p := ⟨b2, 0, none⟩) l2).trans x3))
    go_wp2
    go_ret
    exact ⟨rfl, hB2⟩

theorem notAhead_mono {s pat : ByteArray} {o : List Nat} (h : IsSA (bl s) o) : ∀ a b, a ≤ b → b < o.length → notAhead s pat o a = true → notAhead s pat o b = true := by
  intro a b hab hb ha
  unfold notAhead at ha ⊢
  simp only [Bool.not_eq_true', decide_eq_false_iff_not] at ha ⊢
  intro hlt
  by_cases e : a = b
  · subst e; exact ha hlt
  · exact ha (lt_tr (h.lt (show a < b by omega) hb) hlt)

/-- How many ends are ahead of a pattern. -/
def AheadOf (s pat : ByteArray) (o : List Nat) (k : Nat) : Prop := k ≤ o.length ∧ (∀ i, i < k → (bl s).drop (num o i) < bl pat) ∧ ∀ i, k ≤ i → i < o.length → ¬ (bl s).drop (num o i) < bl pat

set_option maxHeartbeats 1000000 in
/-- 'ahead'. -/
theorem tahead_any (s pat : ByteArray) (ad ad' : Option Addr) (o : List Nat) (c c' : Nat) (w : World) (hT : Tab w s ad ad' o) (ho : o.length ≤ 100000) :
    Calls Try.prog 96 #[tv s ad ad' o.length c c', .string pat] w fun e w' => ∃ k : Nat, e = .returned (.int .i64 k) ∧ AheadOf s pat o k ∧ Below w.heap.size w w' := by
  have hmf : ∀ (fn : Fn) (first cap : Array Value) (w : World), (Instr.makeFunc fn first cap).run Try.prog w = .ok (.func fn first cap) w := fun _ _ _ _ => rfl
  have hb0 : Below w.heap.size w ((w.alloc (Obj.cells #[.string s, .slice ad o.length c, .slice ad' o.length c'] 91)).alloc (Obj.cells #[.string pat] 9)) := ((Below.refl _ _).alloc (Nat.le_refl _) _).alloc (by simp) _
  have hA : Ahd s pat ad ad' o c c' w.heap.size (w.heap.size + 1) ((w.alloc (Obj.cells #[.string s, .slice ad o.length c, .slice ad' o.length c'] 91)).alloc (Obj.cells #[.string pat] 9)) := ⟨hT.later hb0, Blk.alloc (Blk.new w _ _ rfl) _, Blk.new _ _ _ (by simp)⟩
  have C := search_any _ _ _ _ _ (tells_notAhead s pat ad ad' o c c' w.heap.size (w.heap.size + 1)) _ hA (by omega) (notAhead_mono hT.sa)
  have HC : Hid _ := C
  clear C hT hA
  unfold tv
  go_enter Try.func96, Try.ntmps96
  go_wp2_with fail
  refine Calls.mono HC.out ?_
  rintro e w2 ⟨k, rfl, hk, h1, h2, hb2⟩
  have HK : Hid (AheadOf s pat o k) := ⟨hk, fun i hi => by have := h1 i hi; unfold notAhead at this; simpa using this, fun i hi hi' => by have := h2 i hi hi'; unfold notAhead at this; simpa using this⟩
  clear h1 h2
  go_wp2
  go_ret
  exact ⟨k, rfl, HK.out, Below.later hb0 hb2⟩

set_option maxHeartbeats 1000000 in
theorem sHasPrefix_any (a b : ByteArray) (w : World) : Calls Try.prog 132 #[.string a, .string b] w fun e w' => e = .returned (.bool (decide (bl b = (bl a).take b.size))) ∧ w' = w := by
  by_cases h : b.size ≤ a.size
  · have i1 : (b.size : Int) ≤ (a.size : Int) := by omega
    have e : ((a.extract 0 b.size).toList == b.toList) = decide (bl b = (bl a).take b.size) := by
      rw [str_eq]
      have : bl (a.extract 0 b.size) = (bl a).take b.size := by
        have := bl_extract2 a 0 b.size
        rwa [Nat.zero_add, List.drop_zero] at this
      refine decide_eq_decide.2 ⟨fun q => by rw [← this, q], fun q => bl_inj (this.trans q.symm)⟩
    go_enter Try.func132, Try.ntmps132
    go_wp2
    go_ret
    exact ⟨rfl, rfl⟩
  · have i1 : ¬ (b.size : Int) ≤ (a.size : Int) := by omega
    have e : decide (bl b = (bl a).take b.size) = false := by
      refine decide_eq_false fun q => ?_
      have := congrArg List.length q
      rw [List.length_take, bl_length, bl_length] at this
      omega
    have HE : Hid _ := e
    clear e
    go_enter Try.func132, Try.ntmps132
    go_wp2
    go_ret
    exact ⟨by rw [HE.out]; rfl, rfl⟩
theorem hasPrefix_any (a b : ByteArray) (w : World) : Calls Try.prog 99 #[.string a, .string b] w fun e w' => e = .returned (.bool (decide (bl b = (bl a).take b.size))) ∧ w' = w := by
  have HC : Hid _ := sHasPrefix_any a b
  go_enter Try.func99, Try.ntmps99
  go_wp2_with fail
  refine Calls.mono (HC.out _) ?_
  rintro e w2 ⟨rfl, rfl⟩
  go_wp2
  go_ret
  exact ⟨rfl, rfl⟩
end Go.Proofs.Ytepklbboejnecaa

/- Finding: the places of a pattern. -/
namespace Go.Proofs.Ytepklbboejnecaa
open Go.RowKit Go.Shelf Sedge
attribute [local go_sem ↓] Go.wp_at_zero Go.wp_at_succ

/-- How a list of one's own lies. -/
def CapOf (ad : Option Addr) (n c : Nat) : Prop := (ad = none ∧ n = 0 ∧ c = 0) ∨ ∃ b, ad = some ⟨b, 0, none⟩ ∧ n ≤ c ∧ c ≤ maxLen
theorem capOf_own {w : World} {base n c : Nat} {ad : Option Addr} {xs : List Value} (h : w.ownsRow base 3 1 (.slice ad n c) n xs) : CapOf ad n c := by
  rcases h.2 with ⟨h1, h2⟩ | ⟨g, cap, cur, h1, _, _, h4, h5, _⟩
  · simp only [Value.slice.injEq] at h1
    exact .inl ⟨h1.1, h2, h1.2.2⟩
  · simp only [Value.slice.injEq, true_and] at h1
    exact .inr ⟨g, h1.1, by rw [h1.2]; exact h4, by rw [h1.2]; exact h5⟩

set_option maxHeartbeats 2000000 in
/-- 'parts.Of'. -/
theorem partsOf_cap (s : ByteArray) (w : World) (hs : s.size ≤ 500000) :
    Calls Try.prog 53 #[.string s] w fun e w' => ∃ ad b o c c', e = .returned (tv s ad (some ⟨b, 0, none⟩) o.length c c') ∧ Tab w' s ad (some ⟨b, 0, none⟩) o ∧ CapOf ad o.length c ∧ Below w.heap.size w w' := by
  have hres : Blk (w.alloc (Obj.cells #[.string ⟨#[]⟩, .slice none 0 0, .slice none 0 0] 91)) w.heap.size 91 [.string ⟨#[]⟩, .slice none 0 0, .slice none 0 0] := Blk.new w _ _ rfl
  have hB0 : Below w.heap.size w (w.alloc (Obj.cells #[.string ⟨#[]⟩, .slice none 0 0, .slice none 0 0] 91)) := (Below.refl _ _).alloc (Nat.le_refl _) _
  go_enter Try.func53, Try.ntmps53
  go_wp2_with fail
  refine (endsOf_any s _ (by omega)).mono ?_
  rintro e w1 ⟨g1, rfl, hg1, hr1, hb1⟩
  have hres1 := hres.later hb1
  have hB1 := Below.later hB0 hb1
  have CI := inducing_any (bl s).length (bl s) rfl (some ⟨g1, 0, none⟩) s.size 256 w1 (Row.sl hr1) (fun p _ => bl_lt s p) (by omega) (by rw [bl_length]; exact hs)
  rw [bl_length, show (((256 : Nat)) : Int) = 256 from rfl] at CI
  have HCI : Hid _ := CI
  clear CI hres hB0 hb1 hg1
  go_wp2_with fail
  refine Calls.mono HCI.out ?_
  rintro e w2 ⟨v2, o, rfl, hown, hSA, hb2⟩
  obtain ⟨ad, c, rfl, hS, hba⟩ := own_base hown
  have hcap := capOf_own hown
  have HCAP : Hid _ := hcap
  clear hcap
  have hba' : ∀ b o, ad = some ⟨b, o, none⟩ → b ≠ w.heap.size := fun b o e => by have := hba b o e; have := hres1.lt; omega
  have HBA : Hid _ := hba'
  clear hba hba'
  have hres2 := hres1.later hb2
  have hB2 := Below.later hB1 hb2
  clear HCI hres1 hB1 hb2 hown
  go_wp2_with fail
  refine (common_any s ad o c w2 (by omega) hS hSA).mono ?_
  rintro e w3 ⟨g3, rfl, hg3, hr3, hb3⟩
  have hres3 := hres2.later hb3
  have hB3 := Below.later hB2 hb3
  have hS3 := hS.later hb3
  obtain ⟨hx0, hx1, hx2⟩ := cells3 hres3
  have hf0 := Blk.free hres3 0
  have hf1 := Blk.free hres3 1
  have hf2 := Blk.free hres3 2
  have hg3' : w.heap.size < g3 := by have := hres2.lt; omega
  have hr3' := Row.sl hr3
  have hSx := ((hS3.other (a := ⟨w.heap.size, 0, none⟩) HBA.out (.string s)).other (a := ⟨w.heap.size, 1, none⟩) HBA.out (.slice ad o.length c)).other (a := ⟨w.heap.size, 2, none⟩) HBA.out (.slice (some ⟨g3, 0, none⟩) o.length o.length)
  have hCx := ((hr3'.other (a := ⟨w.heap.size, 0, none⟩) (fun b o' e => by simp at e; simp; omega) (.string s)).other (a := ⟨w.heap.size, 1, none⟩) (fun b o' e => by simp at e; simp; omega) (.slice ad o.length c)).other (a := ⟨w.heap.size, 2, none⟩) (fun b o' e => by simp at e; simp; omega) (.slice (some ⟨g3, 0, none⟩) o.length o.length)
  have HX : Hid _ := hSx
  have HY : Hid _ := hCx
  clear hSx hCx hr3 hS hS3
  have HB4 : Hid (Below w.heap.size w (((w3.setCell ⟨w.heap.size, 0, none⟩ (.string s)).setCell ⟨w.heap.size, 1, none⟩ (.slice ad o.length c)).setCell ⟨w.heap.size, 2, none⟩ (.slice (some ⟨g3, 0, none⟩) o.length o.length))) := ((hB3.setCell (by simp) _).setCell (by simp) _).setCell (by simp) _
  go_wp2
  exact bodyPost_ret (v := tv s ad (some ⟨g3, 0, none⟩) o.length c o.length) (by simp [results, Try.results53, go_sem, hx0, hx1, hx2]) rfl ⟨ad, _, o, c, _, rfl, ⟨HX.out, HY.out, hSA⟩, HCAP.out, HB4.out⟩


/-- The library's sort of numbers lies in this program: the table of numbers, and each fact. -/
def Try.lays189_ren : Go.Shelf.Ren := ⟨fun | 189 => 100 | 125 => 134 | 257 => 133 | 128 => 153 | 129 => 154 | 294 => 144 | 295 => 145 | 296 => 146 | 297 => 147 | 298 => 148 | 299 => 149 | 216 => 150 | 300 => 151 | 301 => 152 | 328 => 159 | 329 => 160 | 330 => 161 | 331 => 162 | 332 => 163 | 215 => 164 | 343 => 165 | n => n, fun | 28 => 36 | 3 => 3 | 46 => 159 | 0 => 0 | 51 => 180 | 53 => 182 | 4 => 4 | 183 => 173 | 182 => 172 | 131 => 177 | 5 => 5 | 9 => 9 | 218 => 183 | 222 => 187 | 228 => 189 | 229 => 80 | n => n, fun | n => n⟩
theorem Try.lays189 : Go.Proofs.Lays.n189 Try.prog Try.lays189_ren := {
  mixed := by kernel_rfl
  f125 := Try.func134.trans (congrArg some (by kernel_rfl))
  f128 := Try.func153.trans (congrArg some (by kernel_rfl))
  f129 := Try.func154.trans (congrArg some (by kernel_rfl))
  f189 := Try.func100.trans (congrArg some (by kernel_rfl))
  f215 := Try.func164.trans (congrArg some (by kernel_rfl))
  f216 := Try.func150.trans (congrArg some (by kernel_rfl))
  f257 := Try.func133.trans (congrArg some (by kernel_rfl))
  f294 := Try.func144.trans (congrArg some (by kernel_rfl))
  f295 := Try.func145.trans (congrArg some (by kernel_rfl))
  f296 := Try.func146.trans (congrArg some (by kernel_rfl))
  f297 := Try.func147.trans (congrArg some (by kernel_rfl))
  f298 := Try.func148.trans (congrArg some (by kernel_rfl))
  f299 := Try.func149.trans (congrArg some (by kernel_rfl))
  f300 := Try.func151.trans (congrArg some (by kernel_rfl))
  f301 := Try.func152.trans (congrArg some (by kernel_rfl))
  f328 := Try.func159.trans (congrArg some (by kernel_rfl))
  f329 := Try.func160.trans (congrArg some (by kernel_rfl))
  f330 := Try.func161.trans (congrArg some (by kernel_rfl))
  f331 := Try.func162.trans (congrArg some (by kernel_rfl))
  f332 := Try.func163.trans (congrArg some (by kernel_rfl))
  f343 := Try.func165.trans (congrArg some (by kernel_rfl))
  t0 := Try.underlying0
  a0 := Try.isAgg0
  z0 := Try.sizeOf0
  v0 := Try.zeroValue0
  t3 := Try.underlying3
  a3 := Try.isAgg3
  z3 := Try.sizeOf3
  v3 := Try.zeroValue3
  t4 := Try.underlying4
  a4 := Try.isAgg4
  z4 := Try.sizeOf4
  v4 := Try.zeroValue4
  t5 := Try.underlying5
  a5 := Try.isAgg5
  z5 := Try.sizeOf5
  v5 := Try.zeroValue5
  t9 := Try.underlying9
  a9 := Try.isAgg9
  z9 := Try.sizeOf9
  v9 := Try.zeroValue9
  t28 := Try.underlying36
  a28 := Try.isAgg36
  z28 := Try.sizeOf36
  v28 := Try.zeroValue36
  t46 := Try.underlying159
  a46 := Try.isAgg159
  z46 := Try.sizeOf159
  v46 := Try.zeroValue159
  t51 := Try.underlying180
  a51 := Try.isAgg180
  z51 := Try.sizeOf180
  v51 := Try.zeroValue180
  t53 := Try.underlying182
  a53 := Try.isAgg182
  z53 := Try.sizeOf182
  v53 := Try.zeroValue182
  t131 := Try.underlying177
  a131 := Try.isAgg177
  z131 := Try.sizeOf177
  v131 := Try.zeroValue177
  t182 := Try.underlying172
  a182 := Try.isAgg172
  z182 := Try.sizeOf172
  v182 := Try.zeroValue172
  t183 := Try.underlying173
  a183 := Try.isAgg173
  z183 := Try.sizeOf173
  v183 := Try.zeroValue173
  t218 := Try.underlying183
  a218 := Try.isAgg183
  z218 := Try.sizeOf183
  v218 := Try.zeroValue183
  t222 := Try.underlying187
  a222 := Try.isAgg187
  z222 := Try.sizeOf187
  v222 := Try.zeroValue187
  t228 := Try.underlying189
  a228 := Try.isAgg189
  z228 := Try.sizeOf189
  v228 := Try.zeroValue189
  t229 := Try.underlying80
  a229 := Try.isAgg80
  z229 := Try.sizeOf80
  v229 := Try.zeroValue80 }

/-- slices.Sort of numbers of one's own. -/
theorem sortInts_any (g : Nat) (L : List Nat) (cap base : Nat) (w : World) (hown : w.ownsRow base 3 1 (.slice (some ⟨g, 0, none⟩) L.length cap) L.length (IV L)) (hL : L.length ≤ 1000000) (hbase : base ≤ w.heap.size) :
    Calls Try.prog 100 #[.slice (some ⟨g, 0, none⟩) L.length cap] w fun e w' => e = .returned (.tuple #[]) ∧ (∃ L', L'.Perm L ∧ L'.Pairwise (· ≤ ·) ∧ w'.ownsRow base 3 1 (.slice (some ⟨g, 0, none⟩) L.length cap) L.length (IV L')) ∧ Below base w w' := by
  have hz : (L.map fun x : Nat => (x : Int)).length = L.length := by simp
  have hH : Go.Sort.Holds (Value.int .i64) w g 0 (L.map fun x : Nat => (x : Int)).toArray := fun j hj => by
    have hj' : j < L.length := by simpa using hj
    refine ⟨?_, by rw [Nat.zero_add]; exact hown.frozenAt j⟩
    rw [Nat.zero_add, hown.cellAt j (by omega)]
    simp [IV, hj']
  have hlt : g < w.heap.size := (hown.lt g rfl).2
  have C := Any.slices_Sort_int Try.lays189 g 0 cap (L.map fun x : Nat => (x : Int)) w hH hlt (by rw [hz]; omega)
  rw [hz] at C
  change Calls Try.prog 100 _ _ _ at C
  refine C.mono ?_
  rintro e w' ⟨rfl, n, os, rfl⟩
  obtain ⟨ts, hts⟩ : ∃ ts, ts = (L.map fun x : Nat => (x : Int)).mergeSort fun x y => decide (x ≤ y) := ⟨_, rfl⟩
  rw [← hts]
  have hperm : ts.Perm (L.map fun x : Nat => (x : Int)) := by rw [hts]; exact List.mergeSort_perm _ _
  have hsrt : ts.Pairwise fun x y => x ≤ y := by
    have := List.pairwise_mergeSort (le := fun x y : Int => decide (x ≤ y)) (fun a b c h1 h2 => by simp at h1 h2 ⊢; omega) (fun a b => by simp; omega) (L.map fun x : Nat => (x : Int))
    rw [hts]
    exact this.imp fun h => by simpa using h
  have hpos : ∀ x ∈ ts, 0 ≤ x := fun x hx => by
    have := (hperm.mem_iff).1 hx
    obtain ⟨a, _, rfl⟩ := List.mem_map.1 this
    omega
  have hback : (ts.map Int.toNat).map (fun x : Nat => (x : Int)) = ts := by
    rw [List.map_map]
    conv => rhs; rw [← List.map_id ts]
    refine List.map_congr_left fun x hx => ?_
    have := hpos x hx
    simp; omega
  have hlen : ts.length = L.length := by have := hperm.length_eq; simpa using this
  rcases hown.2 with ⟨h0, _⟩ | ⟨g', cap', cur, h1, h2, h3, h4, h5, h6, _⟩
  · cases h0
  · simp only [Value.slice.injEq, Option.some.injEq, Addr.mk.injEq, and_true, true_and] at h1
    obtain ⟨rfl, rfl⟩ := h1
    have ho := ownsRow_sortedI (n := n) (os := os) (ss := L.map fun x : Nat => (x : Int)) (ts := ts) (by rw [hlen, hz]) h2 h3 (by rw [hz]; exact h4) h5 h6
    rw [hz] at ho
    refine ⟨rfl, ⟨ts.map Int.toNat, ?_, ?_, ?_⟩, (Below.refl base w).grown (grownBy_sortedI ts.toArray) hbase (fun k e => by simp at e; omega)⟩
    · have := hperm.map Int.toNat
      rw [List.map_map] at this
      have e : L.map (Int.toNat ∘ fun x : Nat => (x : Int)) = L := by
        conv => rhs; rw [← List.map_id L]
        exact List.map_congr_left fun x _ => by simp
      rwa [e] at this
    · exact List.pairwise_map.2 (hsrt.imp fun h => by omega)
    · have e : IV (ts.map Int.toNat) = ts.map (Value.int .i64) := by
        unfold IV
        conv => rhs; rw [← hback, List.map_map]
        rfl
      rw [e]; exact ho
end Go.Proofs.Ytepklbboejnecaa

/- Finding: the places of a pattern, by the ends in their order. -/
namespace Go.Proofs.Ytepklbboejnecaa
open Go.RowKit Go.Shelf Sedge
attribute [local go_sem ↓] Go.wp_at_zero Go.wp_at_succ

theorem not_app_lt2 : ∀ (a b : List Nat), ¬ a ++ b < a
  | [], b => List.not_lt_nil b
  | x :: a, b => fun h => by
    rw [List.cons_append, List.cons_lt_cons_iff] at h
    rcases h with h | ⟨_, h⟩
    · omega
    · exact not_app_lt2 a b h
/-- Does a pattern stand at a place? -/
def at' (l q : List Nat) (p : Nat) : Bool := decide (q = (l.drop p).take q.length)
def plcs (l q : List Nat) : List Nat := (List.range l.length).filter (at' l q)
theorem at_not_lt {l q : List Nat} {p : Nat} (h : at' l q p = true) : ¬ l.drop p < q := by
  unfold at' at h
  have h := of_decide_eq_true h
  have e : l.drop p = q ++ (l.drop p).drop q.length := by conv => lhs; rw [← List.take_append_drop q.length (l.drop p), ← h]
  rw [e]; exact not_app_lt2 _ _
theorem at_down {l q : List Nat} {a b : Nat} (hab : suf l a b) (ha : ¬ l.drop a < q) (hb : at' l q b = true) : at' l q a = true := by
  unfold at' at hb ⊢
  have hb := of_decide_eq_true hb
  refine decide_eq_true ?_
  rcases lt_tri ((l.drop a).take q.length) q with c | c | c
  · refine absurd (lt_take q.length (l.drop a) q ?_) ha
    rw [List.take_length]; exact c
  · exact c.symm
  · have hm : (l.drop b).take q.length < (l.drop a).take q.length := by rw [← hb]; exact c
    exact absurd hab (lt_as (lt_take q.length _ _ hm))

/-- The ends with a pattern stand together. -/
theorem plcs_perm {s pat : ByteArray} {o : List Nat} {k K : Nat} (h : IsSA (bl s) o) (hk : AheadOf s pat o k) (hK : k + K ≤ o.length) (h1 : ∀ i, i < K → at' (bl s) (bl pat) (num o (k + i)) = true) (h2 : ∀ i, K ≤ i → k + i < o.length → at' (bl s) (bl pat) (num o (k + i)) = false) {L' : List Nat} (hp : L'.Perm ((o.drop k).take K)) (hs : L'.Pairwise (· ≤ ·)) : L' = plcs (bl s) (bl pat) := by
  have hnd : ((o.drop k).take K).Nodup := (h.nodup.sublist (List.drop_sublist k o)).sublist (List.take_sublist K _)
  have hnd' : L'.Nodup := (hp.nodup_iff).2 hnd
  have hlt : L'.Pairwise (· < ·) := by
    have := List.pairwise_and_iff.2 ⟨hs, hnd'⟩
    exact this.imp fun h => by omega
  refine sorted_unique (R := fun a b => a < b) (fun x => by omega) (fun x y h => by omega) _ _ hlt (List.pairwise_lt_range.filter _) fun x => ?_
  unfold plcs
  rw [hp.mem_iff, List.mem_filter, List.mem_range]
  have hget : ∀ i, i < K → num ((o.drop k).take K) i = num o (k + i) := fun i hi => by
    rw [num_eq (by rw [List.length_take, List.length_drop]; omega), num_eq (by omega), List.getElem_take, List.getElem_drop]
  constructor
  · intro hx
    obtain ⟨a1, a2⟩ := idx_of_mem hx
    rw [List.length_take, List.length_drop] at a1
    rw [hget _ (by omega)] at a2
    rw [← a2]
    exact ⟨h.num_lt (by omega), h1 _ (by omega)⟩
  · rintro ⟨hx, hat⟩
    obtain ⟨a1, a2⟩ := idx_of_mem ((h.2 x).2 hx)
    generalize o.idxOf x = i at a1 a2
    subst a2
    have hik : k ≤ i := by
      by_cases c : k ≤ i
      · exact c
      · exact absurd (hk.2.1 i (by omega)) (at_not_lt hat)
    have hiK : i - k < K := by
      by_cases c : i - k < K
      · exact c
      · have := h2 (i - k) (by omega) (by omega)
        rw [show k + (i - k) = i by omega, hat] at this; cases this
    have := num_mem (show i - k < ((o.drop k).take K).length by rw [List.length_take, List.length_drop]; omega)
    rwa [hget _ hiK, show k + (i - k) = i by omega] at this

/-- What the closure of 'Places' asks of the world. -/
structure Plc (s pat : ByteArray) (ad ad' adB : Option Addr) (o : List Nat) (c c' cB k b1 b2 b5 : Nat) (W : World) : Prop where
  box : Blk W b1 91 [.string s, .slice ad o.length c, .slice ad' o.length c']
  pat : Blk W b2 9 [.string pat]
  beh : Blk W b5 36 [.slice adB (o.drop k).length cB]
  sl : Sl W adB (o.drop k)
theorem Plc.later {s pat : ByteArray} {ad ad' adB : Option Addr} {o : List Nat} {c c' cB k b1 b2 b5 : Nat} {w w' : World} (H : Plc s pat ad ad' adB o c c' cB k b1 b2 b5 w) (hb : Below w.heap.size w w') : Plc s pat ad ad' adB o c c' cB k b1 b2 b5 w' := ⟨H.box.later hb, H.pat.later hb, H.beh.later hb, H.sl.later hb⟩

set_option maxHeartbeats 2000000 in
theorem tells_places (s pat : ByteArray) (ad ad' adB : Option Addr) (o : List Nat) (c c' cB k b1 b2 b5 : Nat) (ho : IsSA (bl s) o) :
    TellsB 98 #[.pointer (some ⟨b1, 0, none⟩), .pointer (some ⟨b5, 0, none⟩), .pointer (some ⟨b2, 0, none⟩)] (Plc s pat ad ad' adB o c c' cB k b1 b2 b5) (fun i => !at' (bl s) (bl pat) (num o (k + i))) (o.drop k).length where
  enter := enters_of Try.func98 (by kernel_rfl) rfl
  keep w w' H hb := H.later hb
  run i w H hi := by
    obtain ⟨x0, x1, x2⟩ := cells3 H.box
    have x3 := cell1 H.pat
    have x5 := cell1 H.beh
    obtain ⟨b, o1, rfl, hc⟩ := H.sl i hi
    have hi' : k + i < o.length := by rw [List.length_drop] at hi; omega
    have en : num (o.drop k) i = num o (k + i) := by rw [num_eq hi, num_eq hi', List.getElem_drop]
    rw [en] at hc
    have hp := ho.num_lt hi'
    rw [bl_length] at hp
    have C := hasPrefix_any (s.extract (num o (k + i)) s.size) pat
    have ee : decide (bl pat = (bl (s.extract (num o (k + i)) s.size)).take pat.size) = at' (bl s) (bl pat) (num o (k + i)) := by
      unfold at'; rw [bl_extract, bl_length]
    rw [ee] at C
    have HC : Hid _ := C
    have i1 : (i : Int) < ((o.drop k).length : Int) := by omega
    have i2 : (0 : Int) ≤ (i : Int) := by omega
    have i3 : (num o (k + i) : Int) ≤ (s.size : Int) := by omega
    have i4 : (0 : Int) ≤ (num o (k + i) : Int) := by omega
    obtain ⟨m, hm⟩ : ∃ m, m = (o.drop k).length := ⟨_, rfl⟩
    rw [← hm] at x5 i1
    clear C ee H en hi hm
    go_enter Try.func98, Try.ntmps98
    go_wp2_with fail
    go_region_held3 (fun w' => w'.cell? ⟨b1, 0, none⟩ = some (.string s) ∧ w'.cell? ⟨b5, 0, none⟩ = some (.slice (some ⟨b, o1, none⟩) m cB) ∧ w'.cell? ⟨b2, 0, none⟩ = some (.string pat) ∧ w'.cell? ⟨b, o1 + i, none⟩ = some (.int .i64 (num o (k + i) : Nat))) (go_keep)
      (first
        | (go_at_call 99; refine (HC.out _).mono ?_; rintro e w2 ⟨rfl, rfl⟩))
    go_wp2
    go_ret
    exact ⟨rfl, (Below.refl _ _).drew⟩
end Go.Proofs.Ytepklbboejnecaa

/- Finding: slices.Clone once more; slices.Sort of nothing. -/
namespace Go.Proofs.Ytepklbboejnecaa
open Go.RowKit Go.Shelf Sedge
attribute [local go_sem ↓] Go.wp_at_zero Go.wp_at_succ

/-- 'append(s, t...)': a slice of numbers behind one of the call's own. -/
theorem wpList_pushAllN (w : World) {ops : Array Oper} {rest : List Oper} {o : Oper} {a : Act} {Q : Exit → Act → World → Prop}
    (hg : o.guard = none) (s x : Operand) (hop : o.op = Op.call { callee := Callee.builtin Builtin.append, args := #[s, x], argTypes := #[36, 36] })
    (base : Nat) (v : Value) (xs : List Nat) (hs : a.eval s = v) (hown : w.ownsRow base 3 1 v xs.length (IV xs))
    (b off c : Nat) (ys : List Nat) (hx : a.eval x = .slice (some ⟨b, off, none⟩) ys.length c) (hys : Sl w (some ⟨b, off, none⟩) ys) (hlen : xs.length + ys.length ≤ 1000000) (hbase : base ≤ w.heap.size)
    (hK : ∀ v' w', w'.ownsRow base 3 1 v' (xs ++ ys).length (IV (xs ++ ys)) → Below base w w' → (v' = .slice none 0 0 → v = .slice none 0 0) → wpList Try.prog ops Q rest (a.put o.dst v') w') :
    wpList Try.prog ops Q (o :: rest) a w := by
  obtain ⟨i0, hi, hz0, hz1, hz2⟩ := info_parts Try.infoInt
  refine wpList_append_own _ hg s x 36 hop base 3 i0 (.int .i64 0) 1 8 Try.underlying36 hi hz0 hz1 hz2 rfl (by decide) v xs.length (IV xs) hs hown ⟨b, off, none⟩ ys.length c (IV ys) hx (by simp [IV]) ?_ ?_ ?_ ?_ hbase ?_
  · intro j u hj
    have hj' : j < ys.length := by have := (List.getElem?_eq_some_iff.1 hj).1; simpa [IV] using this
    obtain ⟨b', o', e, hc⟩ := hys j hj'
    simp only [Option.some.injEq, Addr.mk.injEq, and_true] at e
    obtain ⟨rfl, rfl⟩ := e
    rw [Addr.add_lit, hc]
    rw [← hj]; simp [IV, num, List.getD, hj']
  · intro u hu
    simp only [IV, List.mem_map] at hu
    obtain ⟨y, _, rfl⟩ := hu; rfl
  · unfold maxLen; omega
  · omega
  · intro v' w' h1 h2 h3
    refine hK v' w' ?_ ((Below.refl base w).grown h2 hbase (fun k e => (hown.lt k e).1)) (fun e => (h3.1 e).1)
    have e : IV (xs ++ ys) = IV xs ++ IV ys := by simp [IV]
    rw [e, List.length_append]; exact h1

set_option maxRecDepth 20000 in
set_option maxHeartbeats 2000000 in
/-- slices.Clone of numbers. -/
theorem iclone_form (b off : Nat) (L : List Nat) (c : Nat) (w : World) (hS : Sl w (some ⟨b, off, none⟩) L) (hn : L.length ≤ 100000) :
    Calls Try.prog 92 #[.slice (some ⟨b, off, none⟩) L.length c] w fun e w' => ∃ g cap, e = .returned (.slice (some ⟨g, 0, none⟩) L.length cap) ∧ w'.ownsRow w.heap.size 3 1 (.slice (some ⟨g, 0, none⟩) L.length cap) L.length (IV L) ∧ Below w.heap.size w w' := by
  have heq := eq_nil
  have hrow : Row (w.alloc (.cells #[] 3)) w.heap.size [] := Blk.new w [] 3 rfl
  have hown := Row.own hrow (Nat.le_refl _) (by simp)
  have hb0 : Below w.heap.size w (w.alloc (.cells #[] 3)) := (Below.refl _ _).alloc (Nat.le_refl _) _
  have hS1 := hS.later hb0
  have HB0 : Hid _ := hb0
  clear hb0 hrow
  go_enter Try.func92, Try.ntmps92
  go_wp2_with (first | (at_builtin; refine wpList_pushAllN _ rfl _ _ rfl w.heap.size _ [] rfl hown b off c L rfl hS1 (by simp; omega) (by simp) ?_; intro v' w3 hown3 hb4 hnil) | fail)
  go_ret
  have ho : w3.ownsRow w.heap.size 3 1 v' L.length (IV L) := by simpa using hown3
  rcases ho.2 with ⟨h1, _⟩ | ⟨g, cap, cur, h1, _⟩
  · have := hnil h1; cases this
  · rw [h1] at ho
    exact ⟨g, cap, by rw [← h1]; rfl, ho, HB0.out.trans hb4⟩


set_option maxHeartbeats 1000000 in
theorem iclone_nil (w : World) : Calls Try.prog 92 #[.slice none 0 0] w fun e w' => e = .returned (.slice none 0 0) ∧ Below w.heap.size w w' := by
  have heq := eq_nil
  go_enter Try.func92, Try.ntmps92
  go_wp2
  go_ret
  exact ⟨rfl, Below.refl _ _⟩
theorem insNil (w : World) : Calls Try.prog 144 #[.slice none 0 0, .int .i64 0, .int .i64 0] w fun e w' => e = .returned (.tuple #[]) ∧ w' = w := by
  go_enter Try.func144, Try.ntmps144
  go_wp2
  refine wp_loop_rounds 1 ?_
  rw [rounds_succ]
  go_wp2
  go_end0
  exact ⟨rfl, rfl⟩
set_option maxRecDepth 100000 in
theorem pdqNil (w : World) : Calls Try.prog 133 #[.slice none 0 0, .int .i64 0, .int .i64 0, .int .i64 0] w fun e w' => e = .returned (.tuple #[]) ∧ w' = w := by
  go_enter Try.func133, Try.ntmps133
  go_wp2
  refine wp_loop_rounds 1 ?_
  rw [rounds_succ]
  go_wp2_with (first | (go_at_call 144; refine (insNil _).mono ?_; rintro e w' ⟨rfl, rfl⟩))
  refine bodyPost_ret (results_none rfl _ _ _) rfl ?_
  exact ⟨rfl, rfl⟩
set_option maxRecDepth 100000 in
set_option maxHeartbeats 2000000 in
theorem len64Nil (w : World) : Calls Try.prog 154 #[.int .u64 0] w fun e w' => e = .returned (.int .i64 0) ∧ w' = w := by
  have h8 : Lib.len8 0 = 0 := by decide
  go_enter Try.func154, Try.ntmps154
  go_wp2
  go_ret
  exact ⟨by first | rfl | (simp [h8]; done) | (simp [h8]; rfl), rfl⟩
theorem lenNil (w : World) : Calls Try.prog 134 #[.int .u64 0] w fun e w' => e = .returned (.int .i64 0) ∧ w' = w := by
  go_enter Try.func134, Try.ntmps134
  go_wp2_with (first | (go_at_call 154; refine (len64Nil _).mono ?_; rintro e w' ⟨rfl, rfl⟩) | fail)
  go_ret
  exact ⟨rfl, rfl⟩
set_option maxRecDepth 100000 in
theorem sortNil (w : World) : Calls Try.prog 100 #[.slice none 0 0] w fun e w' => e = .returned (.tuple #[]) ∧ w' = w := by
  go_enter Try.func100, Try.ntmps100
  go_wp2_with (first
    | (go_at_call 134; refine (lenNil _).mono ?_; rintro e w' ⟨rfl, rfl⟩)
    | (go_at_call 133; refine (pdqNil _).mono ?_; rintro e w' ⟨rfl, rfl⟩))
  go_end0
  exact ⟨rfl, rfl⟩
end Go.Proofs.Ytepklbboejnecaa

/- Finding: 'Places'. -/
namespace Go.Proofs.Ytepklbboejnecaa
open Go.RowKit Go.Shelf Sedge
attribute [local go_sem ↓] Go.wp_at_zero Go.wp_at_succ

theorem own_down {w : World} {base base' n : Nat} {v : Value} {xs : List Value} (h : w.ownsRow base 3 1 v n xs) (hb : base' ≤ base) : w.ownsRow base' 3 1 v n xs := by
  refine ⟨h.1, ?_⟩
  rcases h.2 with h' | ⟨g, cap, cur, h1, h2, h3⟩
  · exact .inl h'
  · exact .inr ⟨g, cap, cur, h1, by omega, h3⟩

set_option maxRecDepth 20000 in
set_option maxHeartbeats 4000000 in
theorem places_some (s pat : ByteArray) (b : Nat) (ad' : Option Addr) (o : List Nat) (c c' : Nat) (w : World) (hT : Tab w s (some ⟨b, 0, none⟩) ad' o) (hs : s.size ≤ 1000) (hc : o.length ≤ c) (hcm : c ≤ maxLen) :
    Calls Try.prog 62 #[tv s (some ⟨b, 0, none⟩) ad' o.length c c', .string pat] w fun e w' => ∃ v, e = .returned v ∧ w'.ownsRow w.heap.size 3 1 v (plcs (bl s) (bl pat)).length (IV (plcs (bl s) (bl pat))) ∧ Below w.heap.size w w' := by
  have hmf : ∀ (fn : Fn) (first cap : Array Value) (w : World), (Instr.makeFunc fn first cap).run Try.prog w = .ok (.func fn first cap) w := fun _ _ _ _ => rfl
  have hol : o.length = s.size := by have := hT.sa.length; rwa [bl_length] at this
  have hb0 : Below w.heap.size w ((w.alloc (Obj.cells #[.string s, .slice (some ⟨b, 0, none⟩) o.length c, .slice ad' o.length c'] 91)).alloc (Obj.cells #[.string pat] 9)) := ((Below.refl _ _).alloc (Nat.le_refl _) _).alloc (by simp) _
  have hbx : Blk ((w.alloc (Obj.cells #[.string s, .slice (some ⟨b, 0, none⟩) o.length c, .slice ad' o.length c'] 91)).alloc (Obj.cells #[.string pat] 9)) w.heap.size 91 [.string s, .slice (some ⟨b, 0, none⟩) o.length c, .slice ad' o.length c'] := Blk.alloc (Blk.new w _ _ rfl) _
  have hbp : Blk ((w.alloc (Obj.cells #[.string s, .slice (some ⟨b, 0, none⟩) o.length c, .slice ad' o.length c'] 91)).alloc (Obj.cells #[.string pat] 9)) (w.heap.size + 1) 9 [.string pat] := Blk.new _ _ _ (by simp)
  have C := fun W h => tahead_any s pat (some ⟨b, 0, none⟩) ad' o c c' W h (by omega)
  unfold tv at C ⊢
  have HC : Hid _ := C
  have HOL : Hid _ := hol
  clear C hol
  go_enter Try.func62, Try.ntmps62
  go_wp2_with fail
  generalize (w.alloc (Obj.cells #[.string s, .slice (some ⟨b, 0, none⟩) o.length c, .slice ad' o.length c'] 91)).alloc (Obj.cells #[.string pat] 9) = w1 at hb0 hbx hbp ⊢
  have hT1 := hT.later hb0
  obtain ⟨x0, x1, x2⟩ := cells3 hbx
  have x3 := cell1 hbp
  have A1 : Below w1.heap.size w1 w1.drew := (Below.refl _ _).drew
  have HA1 : Hid _ := A1
  have q1 := hbp.lt
  clear A1
  go_cut [5] (fun x wx => ∃ (b5 k : Nat) (adB : Option Addr) (cB : Nat), x = .pointer (some ⟨b5, 0, none⟩) ∧ AheadOf s pat o k ∧ (∃ bB oB, adB = some ⟨bB, oB, none⟩) ∧ (o.drop k).length ≤ cB ∧ cB ≤ maxLen ∧ Plc s pat (some ⟨b, 0, none⟩) ad' adB o c c' cB k w.heap.size (w.heap.size + 1) b5 wx ∧ Below w.heap.size w wx)
  case first =>
    go_region_held3 (fun w' => w'.cell? ⟨w.heap.size, 0, none⟩ = some (.string s) ∧ w'.cell? ⟨w.heap.size, 1, none⟩ = some (.slice (some ⟨b, 0, none⟩) o.length c) ∧ w'.cell? ⟨w.heap.size, 2, none⟩ = some (.slice ad' o.length c') ∧ w'.cell? ⟨w.heap.size + 1, 0, none⟩ = some (.string pat)) (go_keep)
      (first
        | (go_at_call 96; refine (HC.out w1.drew (hT1.later HA1.out)).mono ?_; rintro e w3 ⟨k, rfl, hk, hb3⟩; have hB3 := Below.later HA1.out hb3; obtain ⟨y0, y1, y2⟩ := cells3 (Blk.later hbx hB3); have y3 := cell1 (Blk.later hbp hB3); have HK : Hid _ := hk; have k1 : (k : Int) ≤ (o.length : Int) := (by have := hk.1; omega); have k2 : (0 : Int) ≤ (k : Int) := (by omega); have k3 : (o.length : Int) ≤ (c : Int) := (by omega); clear hk)
        | (go_at_call 96; refine (HC.out (w1.drew.alloc (Obj.cells #[.slice none 0 0] 36)) (hT1.later (HA1.out.alloc (by simp) _))).mono ?_; rintro e w3 ⟨k, rfl, hk, hb3⟩; have hB3 := Below.later (HA1.out.alloc (by simp) _) hb3; obtain ⟨y0, y1, y2⟩ := cells3 (Blk.later hbx hB3); have y3 := cell1 (Blk.later hbp hB3); have HK : Hid _ := hk; have k1 : (k : Int) ≤ (o.length : Int) := (by have := hk.1; omega); have k2 : (0 : Int) ≤ (k : Int) := (by omega); have k3 : (o.length : Int) ≤ (c : Int) := (by omega); have zA := Blk.later (Blk.new (n := w1.heap.size) w1.drew [.slice none 0 0] 36 rfl) hb3; have zA0 := cell1 zA; have zf0 := Blk.free zA 0; have zl := Blk.lt zA; have q2 : ¬ w1.heap.size = w.heap.size := (by omega); have q3 : ¬ w.heap.size = w1.heap.size := (by omega); have q4 : ¬ w1.heap.size = w.heap.size + 1 := (by omega); have q5 : ¬ w.heap.size + 1 = w1.heap.size := (by omega); clear hk))
    all_goals (go_wp2_with fail)
    all_goals (try subst_vars)
    all_goals go_meet
    · have hz := HK.out.1
      exact ⟨_, _, some ⟨b, 0, none⟩, 0, rfl, HK.out, ⟨b, 0, rfl⟩, by rw [List.length_drop]; omega, by unfold maxLen; omega, ⟨Blk.alloc (Blk.later hbx hB3) _, Blk.alloc (Blk.later hbp hB3) _, by rw [List.length_drop]; exact Blk.new w3 _ _ rfl, fun q hq => by rw [List.length_drop] at hq; omega⟩, (Below.later hb0 hB3).alloc (Below.later hb0 hB3).size _⟩
    · have hd : (o.drop k).length = o.length - k := List.length_drop
      have hsl : Sl w3 (some ⟨b, k, none⟩) (o.drop k) := by
        have := Sl.drop (m := k) ((hT1.ord.later hB3))
        rwa [Nat.zero_add] at this
      exact ⟨_, k, some ⟨b, k, none⟩, c - k, rfl, HK.out, ⟨b, k, rfl⟩, by omega, by omega, ⟨Blk.alloc (Blk.later hbx hB3) _, Blk.alloc (Blk.later hbp hB3) _, by rw [hd]; exact Blk.new w3 _ _ rfl, hsl.alloc _⟩, (Below.later hb0 hB3).alloc (Below.later hb0 hB3).size _⟩
    · have hz := HK.out.1
      exact ⟨_, _, some ⟨b, 0, none⟩, 0, rfl, HK.out, ⟨b, 0, rfl⟩, by rw [List.length_drop]; omega, by unfold maxLen; omega, ⟨(Blk.later hbx hB3).other (a := ⟨w1.heap.size, 0, none⟩) (by simp; omega) _, (Blk.later hbp hB3).other (a := ⟨w1.heap.size, 0, none⟩) (by simp; omega) _, by rw [List.length_drop]; exact zA.set 0 _, fun q hq => by rw [List.length_drop] at hq; omega⟩, (Below.later hb0 hB3).setCell (p := ⟨w1.heap.size, 0, none⟩) (by simp; omega) _⟩
    · have hd : (o.drop k).length = o.length - k := List.length_drop
      have hsl : Sl w3 (some ⟨b, k, none⟩) (o.drop k) := by
        have := Sl.drop (m := k) ((hT1.ord.later hB3))
        rwa [Nat.zero_add] at this
      have hbw : 0 < (o.drop k).length → b < w1.heap.size := fun h0 => by
        obtain ⟨b', o', e', hc'⟩ := hT1.ord 0 (by omega)
        simp only [Option.some.injEq, Addr.mk.injEq, and_true] at e'
        have := cell_lt hc'
        obtain ⟨rfl, rfl⟩ := e'
        exact this
      have hsl2 : Sl (w3.setCell ⟨w1.heap.size, 0, none⟩ (.slice (some ⟨b, k, none⟩) (o.length - k) (c - k))) (some ⟨b, k, none⟩) (o.drop k) := by
        by_cases h0 : 0 < (o.drop k).length
        · exact hsl.other (fun b' o' e => by simp at e; have := hbw h0; simp; omega) _
        · exact fun q hq => by omega
      exact ⟨_, k, some ⟨b, k, none⟩, c - k, rfl, HK.out, ⟨b, k, rfl⟩, by omega, by omega, ⟨(Blk.later hbx hB3).other (a := ⟨w1.heap.size, 0, none⟩) (by simp; omega) _, (Blk.later hbp hB3).other (a := ⟨w1.heap.size, 0, none⟩) (by simp; omega) _, by rw [hd]; exact zA.set 0 _, hsl2⟩, (Below.later hb0 hB3).setCell (p := ⟨w1.heap.size, 0, none⟩) (by simp; omega) _⟩
  case rest =>
  obtain ⟨b5, k, adB, cB, rfl, hk, ⟨bB, oB, rfl⟩, hcB, hcBm, hP, hB⟩ := hcut
  have hmono : ∀ i j, i ≤ j → j < (o.drop k).length → (!at' (bl s) (bl pat) (num o (k + i))) = true → (!at' (bl s) (bl pat) (num o (k + j))) = true := fun i j hij hj hi => by
    rw [List.length_drop] at hj
    cases hq : at' (bl s) (bl pat) (num o (k + j)) with
    | false => rfl
    | true =>
      exfalso
      have : at' (bl s) (bl pat) (num o (k + i)) = true := by
        by_cases e : i = j
        · rw [e]; exact hq
        · exact at_down (hT.sa.lt (show k + i < k + j by omega) (by omega)) (hk.2.2 (k + i) (by omega) (by omega)) hq
      rw [this] at hi; cases hi
  have hdl : (o.drop k).length = o.length - k := List.length_drop
  have CS := search_any _ _ _ _ _ (tells_places s pat (some ⟨b, 0, none⟩) ad' (some ⟨bB, oB, none⟩) o c c' cB k w.heap.size (w.heap.size + 1) b5 hT.sa) wc hP (by have := HOL.out; omega) hmono
  have HCS : Hid _ := CS
  have HK : Hid _ := hk
  have HP : Hid _ := hP
  have HSA : Hid _ := hT.sa
  have z5 := cell1 hP.beh
  have HDL : Hid _ := hdl
  obtain ⟨m, hm⟩ : ∃ m, m = (o.drop k).length := ⟨_, rfl⟩
  rw [← hm] at z5 hcB
  have HM : Hid _ := hm
  clear CS hmono hP hT hT1 hbx hbp x0 x1 x2 x3 hb0 hk HC HA1 hdl hm
  go_wp2_with fail
  rw [HM.out]
  refine Calls.mono HCS.out ?_
  rintro e w2 ⟨K, rfl, hK, h1, h2, hb2⟩
  have hP2 := HP.out.later hb2
  have z6 := cell1 hP2.beh
  have hsl2 := hP2.sl
  have hB2 := Below.later hB hb2
  rw [← HM.out] at z6 hK
  have hKm := hK
  have HKm : Hid _ := hKm
  have HH1 : Hid _ := h1
  have HH2 : Hid _ := h2
  have hLl : ((o.drop k).take K).length = K := by rw [List.length_take, ← HM.out]; omega
  have hmo : m ≤ 1000 := by rw [HM.out, HDL.out, HOL.out]; omega
  have CCl := iclone_form bB oB ((o.drop k).take K) cB w2 hsl2.take (by rw [hLl]; omega)
  rw [hLl] at CCl
  have HCl : Hid _ := CCl
  have HLl : Hid _ := hLl
  have k1 : (K : Int) ≤ (cB : Int) := by omega
  have k2 : (0 : Int) ≤ (K : Int) := by omega
  have hs2 := hB2.size
  rw [← HM.out]
  clear CCl hLl hP2 hsl2 h1 h2 hK hKm z5 HCS HP
  go_wp2_with fail
  refine Calls.mono HCl.out ?_
  rintro e w3 ⟨g3, c3, rfl, hown3, hb3⟩
  have hB3 := Below.later hB2 hb3
  have hs3 := hb3.size
  have CSo := sortInts_any g3 ((o.drop k).take K) c3 w2.heap.size w3 (by rw [HLl.out]; exact hown3) (by rw [HLl.out]; have := HKm.out; omega) hs3
  rw [HLl.out] at CSo
  have HSo : Hid _ := CSo
  clear CSo hown3 hb3 z6
  go_wp2_with fail
  refine Calls.mono HSo.out ?_
  rintro e w4 ⟨rfl, ⟨L', hp, hsrt, hown4⟩, hb4⟩
  have hL' := plcs_perm HSA.out HK.out (by have := HK.out.1; have := HM.out; have := HDL.out; have := HKm.out; omega) (fun i hi => by have := HH1.out i hi; simpa using this) (fun i h5 h6 => by have := HH2.out i h5 (by rw [HDL.out]; omega); simpa using this) hp hsrt
  have hpl := hp.length_eq
  rw [HLl.out, hL'] at hpl
  rw [hL'] at hown4
  have HPL : Hid _ := hpl
  have HW4 : Hid _ := hown4
  clear hp hsrt hL' hown4 hpl
  go_wp2
  go_ret
  exact ⟨_, rfl, by rw [HPL.out]; exact own_down HW4.out hs2, hB3.trans (hb4.mono (by omega))⟩

set_option maxRecDepth 20000 in
set_option maxHeartbeats 4000000 in
/-- 'Places' of the empty text. -/
theorem places_none (s pat : ByteArray) (ad' : Option Addr) (o : List Nat) (c' : Nat) (w : World) (hT : Tab w s none ad' o) (h0 : o.length = 0) (_hq : 0 < pat.size) :
    Calls Try.prog 62 #[tv s none ad' o.length 0 c', .string pat] w fun e w' => ∃ v, e = .returned v ∧ w'.ownsRow w.heap.size 3 1 v (plcs (bl s) (bl pat)).length (IV (plcs (bl s) (bl pat))) ∧ Below w.heap.size w w' := by
  have he : o = [] := List.eq_nil_of_length_eq_zero h0
  subst he
  have hmf : ∀ (fn : Fn) (first cap : Array Value) (w : World), (Instr.makeFunc fn first cap).run Try.prog w = .ok (.func fn first cap) w := fun _ _ _ _ => rfl
  have hs0 : (bl s).length = 0 := by have := hT.sa.length; simpa using this.symm
  have hpl : plcs (bl s) (bl pat) = [] := by unfold plcs; rw [hs0]; rfl
  rw [hpl]
  have hb0 : Below w.heap.size w ((w.alloc (Obj.cells #[.string s, .slice none 0 0, .slice ad' 0 c'] 91)).alloc (Obj.cells #[.string pat] 9)) := ((Below.refl _ _).alloc (Nat.le_refl _) _).alloc (by simp) _
  have hbx : Blk ((w.alloc (Obj.cells #[.string s, .slice none 0 0, .slice ad' 0 c'] 91)).alloc (Obj.cells #[.string pat] 9)) w.heap.size 91 [.string s, .slice none 0 0, .slice ad' 0 c'] := Blk.alloc (Blk.new w _ _ rfl) _
  have hbp : Blk ((w.alloc (Obj.cells #[.string s, .slice none 0 0, .slice ad' 0 c'] 91)).alloc (Obj.cells #[.string pat] 9)) (w.heap.size + 1) 9 [.string pat] := Blk.new _ _ _ (by simp)
  have C := fun W h => tahead_any s pat none ad' [] 0 c' W h (by simp)
  unfold tv at C ⊢
  have HC : Hid _ := C
  have HSA : Hid _ := hT.sa
  clear C hs0 hpl
  simp only [List.length_nil] at *
  go_enter Try.func62, Try.ntmps62
  go_wp2_with fail
  generalize (w.alloc (Obj.cells #[.string s, .slice none 0 0, .slice ad' 0 c'] 91)).alloc (Obj.cells #[.string pat] 9) = w1 at hb0 hbx hbp ⊢
  have hT1 := hT.later hb0
  obtain ⟨x0, x1, x2⟩ := cells3 hbx
  have x3 := cell1 hbp
  have A1 : Below w1.heap.size w1 w1.drew := (Below.refl _ _).drew
  have HA1 : Hid _ := A1
  have q1 := hbp.lt
  clear A1
  go_cut [5] (fun x wx => ∃ (b5 : Nat), x = .pointer (some ⟨b5, 0, none⟩) ∧ Plc s pat none ad' none [] 0 c' 0 0 w.heap.size (w.heap.size + 1) b5 wx ∧ Below w.heap.size w wx)
  case first =>
    go_region_held3 (fun w' => w'.cell? ⟨w.heap.size, 0, none⟩ = some (.string s) ∧ w'.cell? ⟨w.heap.size, 1, none⟩ = some (.slice none 0 0) ∧ w'.cell? ⟨w.heap.size, 2, none⟩ = some (.slice ad' 0 c') ∧ w'.cell? ⟨w.heap.size + 1, 0, none⟩ = some (.string pat)) (go_keep)
      (first
        | (go_at_call 96; refine (HC.out w1.drew (hT1.later HA1.out)).mono ?_; rintro e w3 ⟨k, rfl, hk, hb3⟩; have hB3 := Below.later HA1.out hb3; obtain ⟨y0, y1, y2⟩ := cells3 (Blk.later hbx hB3); have y3 := cell1 (Blk.later hbp hB3); have k0 : k = 0 := (by have := hk.1; simpa using this); subst k0; clear hk)
        | (go_at_call 96; refine (HC.out (w1.drew.alloc (Obj.cells #[.slice none 0 0] 36)) (hT1.later (HA1.out.alloc (by simp) _))).mono ?_; rintro e w3 ⟨k, rfl, hk, hb3⟩; have hB3 := Below.later (HA1.out.alloc (by simp) _) hb3; obtain ⟨y0, y1, y2⟩ := cells3 (Blk.later hbx hB3); have y3 := cell1 (Blk.later hbp hB3); have k0 : k = 0 := (by have := hk.1; simpa using this); subst k0; have zA := Blk.later (Blk.new (n := w1.heap.size) w1.drew [.slice none 0 0] 36 rfl) hb3; have zA0 := cell1 zA; have zf0 := Blk.free zA 0; have zl := Blk.lt zA; have q2 : ¬ w1.heap.size = w.heap.size := (by omega); have q3 : ¬ w.heap.size = w1.heap.size := (by omega); have q4 : ¬ w1.heap.size = w.heap.size + 1 := (by omega); have q5 : ¬ w.heap.size + 1 = w1.heap.size := (by omega); clear hk))
    all_goals (go_wp2_with fail)
    all_goals go_meet
    · exact ⟨_, rfl, ⟨Blk.alloc (Blk.later hbx hB3) _, Blk.alloc (Blk.later hbp hB3) _, Blk.new w3 _ _ rfl, fun q hq => by simp at hq⟩, (Below.later hb0 hB3).alloc (Below.later hb0 hB3).size _⟩
    · exact ⟨_, rfl, ⟨(Blk.later hbx hB3).other (a := ⟨w1.heap.size, 0, none⟩) (by simp; omega) _, (Blk.later hbp hB3).other (a := ⟨w1.heap.size, 0, none⟩) (by simp; omega) _, zA.set 0 _, fun q hq => by simp at hq⟩, (Below.later hb0 hB3).setCell (p := ⟨w1.heap.size, 0, none⟩) (by simp; omega) _⟩
  case rest =>
  obtain ⟨b5, rfl, hP, hB⟩ := hcut
  have CS := search_any _ _ _ _ _ (tells_places s pat none ad' none [] 0 c' 0 0 w.heap.size (w.heap.size + 1) b5 HSA.out) wc hP (by simp) (fun i j _ hj _ => by simp at hj)
  simp only [List.drop_nil, List.length_nil] at CS
  have HCS : Hid _ := CS
  have HP : Hid _ := hP
  have z5 : wc.cell? ⟨b5, 0, none⟩ = some (.slice none 0 0) := cell1 hP.beh
  clear CS hP hT hT1 hbx hbp x0 x1 x2 x3 hb0 HC HA1
  go_wp2_with fail
  refine Calls.mono HCS.out ?_
  rintro e w2 ⟨K, rfl, hK, h1, h2, hb2⟩
  have hK0 : K = 0 := by omega
  subst hK0
  have z6 : w2.cell? ⟨b5, 0, none⟩ = some (.slice none 0 0) := cell1 (HP.out.later hb2).beh
  have hB2 := Below.later hB hb2
  clear h1 h2 z5 HCS HP
  go_wp2_with fail
  refine (iclone_nil _).mono ?_
  rintro e w3 ⟨rfl, hb3⟩
  go_wp2_with fail
  refine (sortNil _).mono ?_
  rintro e w4 ⟨rfl, rfl⟩
  go_wp2
  go_ret
  exact ⟨_, rfl, World.ownsRow_nil _ _ _ _, Below.later hB2 hb3⟩

/-- 'Places'. -/
theorem places_any (s pat : ByteArray) (ad ad' : Option Addr) (o : List Nat) (c c' : Nat) (w : World) (hT : Tab w s ad ad' o) (hs : s.size ≤ 1000) (hc : CapOf ad o.length c) (hq : 0 < pat.size) :
    Calls Try.prog 62 #[tv s ad ad' o.length c c', .string pat] w fun e w' => ∃ v, e = .returned v ∧ w'.ownsRow w.heap.size 3 1 v (plcs (bl s) (bl pat)).length (IV (plcs (bl s) (bl pat))) ∧ Below w.heap.size w w' := by
  rcases hc with ⟨rfl, h1, rfl⟩ | ⟨b, rfl, h1, h2⟩
  · exact places_none s pat ad' o c' w hT h1 hq
  · exact places_some s pat b ad' o c c' w hT hs h1 h2
end Go.Proofs.Ytepklbboejnecaa

/- Finding: sedge.Find, and the document's own. -/
namespace Go.Proofs.Ytepklbboejnecaa
open Go.RowKit Go.Shelf Sedge
attribute [local go_sem ↓] Go.wp_at_zero Go.wp_at_succ

/-- The places of a pattern below a bound. -/
def plcsTo (l q : List Nat) (k : Nat) : List Nat := (List.range k).filter (at' l q)
theorem plcsTo_succ (l q : List Nat) (k : Nat) : plcsTo l q (k + 1) = if at' l q k = true then plcsTo l q k ++ [k] else plcsTo l q k := by
  unfold plcsTo
  rw [List.range_succ, List.filter_append]
  by_cases e : at' l q k = true
  · rw [if_pos e, List.filter_cons_of_pos e]; rfl
  · rw [if_neg e, List.filter_cons_of_neg e]; simp
theorem at_far {l q : List Nat} {p : Nat} (h : l.length < p + q.length) (hq : 0 < q.length) : at' l q p = false := by
  unfold at'
  refine decide_eq_false fun e => ?_
  have := congrArg List.length e
  rw [List.length_take, List.length_drop] at this
  omega
theorem plcsTo_all {l q : List Nat} {k : Nat} (hk : k ≤ l.length) (h : l.length < k + q.length) (hq : 0 < q.length) : plcsTo l q k = plcs l q := by
  have key : ∀ m, plcsTo l q (k + m) = plcsTo l q k := by
    intro m
    induction m with
    | zero => rfl
    | succ m ih => rw [← Nat.add_assoc, plcsTo_succ, at_far (by omega) hq, ih]; simp
  have := key (l.length - k)
  rw [show k + (l.length - k) = l.length by omega] at this
  rw [← this]; rfl
theorem plcsTo_le (l q : List Nat) (k : Nat) : (plcsTo l q k).length ≤ k := by
  unfold plcsTo
  have := List.length_filter_le (at' l q) (List.range k)
  rwa [List.length_range] at this
theorem plcs_le (l q : List Nat) : (plcs l q).length ≤ l.length := by
  unfold plcs
  have := List.length_filter_le (at' l q) (List.range l.length)
  rwa [List.length_range] at this

set_option maxHeartbeats 2000000 in
/-- sedgeref.Places. -/
theorem refPlaces_any (s pat : ByteArray) (w : World) (hs : s.size ≤ 1000) (hp : pat.size ≤ 1000) (hq : 0 < pat.size) :
    Calls Try.prog 95 #[.string s, .string pat] w fun e w' => ∃ v, e = .returned v ∧ w'.ownsRow w.heap.size 3 1 v (plcs (bl s) (bl pat)).length (IV (plcs (bl s) (bl pat))) ∧ Below w.heap.size w w' := by
  go_enter Try.func95, Try.ntmps95
  go_wp2_with fail
  go_loopw [5, 6] (fun v i wr => ∃ k : Nat, k ≤ s.size ∧ i = .int .i64 k ∧ wr.ownsRow w.heap.size 3 1 v (plcsTo (bl s) (bl pat) k).length (IV (plcsTo (bl s) (bl pat) k)) ∧ Below w.heap.size w wr) (fun _ i _ => s.size + 1 - (intOf i).toNat)
  case atStart => exact ⟨0, Nat.zero_le _, rfl, World.ownsRow_nil _ _ _ _, Below.refl _ _⟩
  case round =>
    obtain ⟨k, hk, rfl, hown, hb⟩ := hrel
    have v1 : IntKind.i64.wrap ((k : Int) + (pat.size : Int)) = (k : Int) + (pat.size : Int) := by rw [IntKind.wrap_i64]; omega
    have hbs := hb.size
    by_cases hlt : k + pat.size ≤ s.size
    · have j1 : (k : Int) + (pat.size : Int) ≤ (s.size : Int) := by omega
      have j2 : (0 : Int) ≤ (k : Int) := by omega
      have j3 : (k : Int) ≤ (k : Int) + (pat.size : Int) := by omega
      have hsu := plcsTo_succ (bl s) (bl pat) k
      have hle := plcsTo_le (bl s) (bl pat) k
      have eat : ((s.extract k (k + pat.size)).toList == pat.toList) = at' (bl s) (bl pat) k := by
        rw [str_eq]
        unfold at'
        refine decide_eq_decide.2 ?_
        rw [bl_length, ← bl_extract2]
        exact ⟨fun e => by rw [e], fun e => bl_inj e.symm⟩
      by_cases ha : at' (bl s) (bl pat) k = true
      · rw [if_pos ha] at hsu
        rw [ha] at eat
        have HSU : Hid _ := hsu
        have HW : Hid _ := hown
        clear hsu ha hown
        go_wp2_with (first | (at_builtin; refine wpList_push _ rfl _ _ rfl w.heap.size _ (plcsTo (bl s) (bl pat) k) rfl (World.ownsRow.alloc HW.out _) ⟨wr.heap.size, 0, none⟩ k rfl (by simp) (by omega) (by simp; omega) ?_; intro v' w3 hown3 hb4) | fail)
        go_roundw
        case rel => exact ⟨k + 1, by omega, by go_num, by rw [HSU.out]; exact hown3, (hb.alloc (by omega) _).trans hb4⟩
        case measure => simp [intOf]; omega
      · have ha' : at' (bl s) (bl pat) k = false := by simpa using ha
        rw [if_neg ha] at hsu
        rw [ha'] at eat
        have HSU : Hid _ := hsu
        clear hsu ha ha'
        go_wp2
        go_roundw
        case rel => exact ⟨k + 1, by omega, by go_num, by rw [HSU.out]; exact hown, hb⟩
        case measure => simp [intOf]; omega
    · have j1 : ¬ (k : Int) + (pat.size : Int) ≤ (s.size : Int) := by omega
      have e := plcsTo_all (l := bl s) (q := bl pat) (k := k) (by rw [bl_length]; exact hk) (by rw [bl_length, bl_length]; omega) (by rw [bl_length]; exact hq)
      rw [e] at hown
      clear e
      go_wp2
      go_ret
      exact ⟨_, rfl, hown, hb⟩

/-- What Find tells, by the document. -/
def findL (s pat : ByteArray) : List Nat := if 1000 < s.size ∨ 1000 < pat.size then [] else if pat.size = 0 then [] else plcs (bl s) (bl pat)
def findE (s pat : ByteArray) : Int := if 1000 < s.size ∨ 1000 < pat.size then 2 else if pat.size = 0 then 4 else 0
theorem empty_of_size {b : ByteArray} (h : b.size = 0) : b = ⟨#[]⟩ := ByteArray.ext (Array.eq_empty_of_size_eq_zero h)
theorem isEmpty_size {b : ByteArray} (h : 0 < b.size) : b.toList.isEmpty = false := by
  rw [ByteArray.toList_eq, List.isEmpty_eq_false_iff]
  intro e
  have := congrArg List.length e
  rw [Array.length_toList, List.length_nil] at this
  have hb : b.size = b.data.size := rfl
  omega

/-- What is wrong with a pattern. -/
def patE (pat : ByteArray) : Int := if 1000 < pat.size then 2 else if pat.size = 0 then 4 else 0
set_option maxHeartbeats 2000000 in
theorem checkPattern_any (pat : ByteArray) (w : World) : Calls Try.prog 61 #[.string pat] w fun e w' => e = .returned (.int .i64 (patE pat)) ∧ w' = w := by
  unfold patE
  by_cases h2 : 1000 < pat.size
  · have i2 : (1000 : Int) < (pat.size : Int) := by omega
    rw [if_pos h2]
    go_enter Try.func61, Try.ntmps61
    go_wp2
    go_ret
    exact ⟨rfl, rfl⟩
  · have i2 : ¬ (1000 : Int) < (pat.size : Int) := by omega
    rw [if_neg h2]
    by_cases h3 : pat.size = 0
    · rw [if_pos h3]
      have he := empty_of_size h3
      subst he
      clear h3 h2 i2
      go_enter Try.func61, Try.ntmps61
      go_wp2
      go_ret
      exact ⟨rfl, rfl⟩
    · rw [if_neg h3]
      have hne := isEmpty_size (show 0 < pat.size by omega)
      clear h3
      go_enter Try.func61, Try.ntmps61
      go_wp2
      go_ret
      exact ⟨rfl, rfl⟩
set_option maxHeartbeats 2000000 in
theorem Find_tell (s pat : ByteArray) (w : World) : Calls Try.prog 29 #[.string s, .string pat] w fun e w' => ∃ v, e = .returned (.tuple #[v, .int .i64 (findE s pat)]) ∧ w'.ownsRow w.heap.size 3 1 v (findL s pat).length (IV (findL s pat)) ∧ Below w.heap.size w w' := by
  unfold findL findE
  by_cases h1 : 1000 < s.size
  · have i1 : (1000 : Int) < (s.size : Int) := by omega
    rw [if_pos (Or.inl h1), if_pos (Or.inl h1)]
    go_enter Try.func29, Try.ntmps29
    go_wp2
    go_ret2
    exact ⟨_, rfl, World.ownsRow_nil _ _ _ _, Below.refl _ _⟩
  · have i1 : ¬ (1000 : Int) < (s.size : Int) := by omega
    have C := checkPattern_any pat w
    by_cases h2 : 1000 < pat.size
    · rw [if_pos (Or.inr h2), if_pos (Or.inr h2)]
      have e : patE pat = 2 := by unfold patE; rw [if_pos h2]
      rw [e] at C
      have HC : Hid _ := C
      clear C e
      go_enter Try.func29, Try.ntmps29
      go_wp2_with fail
      refine Calls.mono HC.out ?_
      rintro e w1 ⟨rfl, rfl⟩
      go_wp2
      go_ret2
      exact ⟨_, rfl, World.ownsRow_nil _ _ _ _, Below.refl _ _⟩
    · have hn : ¬ (1000 < s.size ∨ 1000 < pat.size) := by omega
      rw [if_neg hn, if_neg hn]
      clear hn
      by_cases h3 : pat.size = 0
      · rw [if_pos h3, if_pos h3]
        have e : patE pat = 4 := by unfold patE; rw [if_neg h2, if_pos h3]
        rw [e] at C
        have HC : Hid _ := C
        clear C e h3
        go_enter Try.func29, Try.ntmps29
        go_wp2_with fail
        refine Calls.mono HC.out ?_
        rintro e w1 ⟨rfl, rfl⟩
        go_wp2
        go_ret2
        exact ⟨_, rfl, World.ownsRow_nil _ _ _ _, Below.refl _ _⟩
      · rw [if_neg h3, if_neg h3]
        have e : patE pat = 0 := by unfold patE; rw [if_neg h2, if_neg h3]
        rw [e] at C
        have HC0 : Hid _ := C
        clear C e
        go_enter Try.func29, Try.ntmps29
        go_wp2_with fail
        refine Calls.mono HC0.out ?_
        rintro e w0 ⟨rfl, rfl⟩
        go_wp2_with fail
        refine (partsOf_cap s _ (by omega)).mono ?_
        rintro e w1 ⟨ad, b, o, c, c', rfl, hT, hcap, hb1⟩
        have C := places_any s pat ad (some ⟨b, 0, none⟩) o c c' w1 hT (by omega) hcap (by omega)
        have HC : Hid _ := C
        clear C hT hcap
        go_wp2_with fail
        refine Calls.mono HC.out ?_
        rintro e w2 ⟨v, rfl, hown, hb2⟩
        have hs1 := hb1.size
        go_wp2
        go_ret2
        exact ⟨v, rfl, own_mono hown hs1, Below.later hb1 hb2⟩
set_option maxHeartbeats 2000000 in
theorem refFind_tell (s pat : ByteArray) (w : World) : Calls Try.prog 57 #[.string s, .string pat] w fun e w' => ∃ v, e = .returned (.tuple #[v, .int .i64 (findE s pat)]) ∧ w'.ownsRow w.heap.size 3 1 v (findL s pat).length (IV (findL s pat)) ∧ Below w.heap.size w w' := by
  unfold findL findE
  by_cases h1 : 1000 < s.size
  · have i1 : (1000 : Int) < (s.size : Int) := by omega
    rw [if_pos (Or.inl h1), if_pos (Or.inl h1)]
    go_enter Try.func57, Try.ntmps57
    go_wp2
    go_ret2
    exact ⟨_, rfl, World.ownsRow_nil _ _ _ _, Below.refl _ _⟩
  · have i1 : ¬ (1000 : Int) < (s.size : Int) := by omega
    by_cases h2 : 1000 < pat.size
    · have i2 : (1000 : Int) < (pat.size : Int) := by omega
      rw [if_pos (Or.inr h2), if_pos (Or.inr h2)]
      go_enter Try.func57, Try.ntmps57
      go_wp2
      go_ret2
      exact ⟨_, rfl, World.ownsRow_nil _ _ _ _, Below.refl _ _⟩
    · have i2 : ¬ (1000 : Int) < (pat.size : Int) := by omega
      have hn : ¬ (1000 < s.size ∨ 1000 < pat.size) := by omega
      rw [if_neg hn, if_neg hn]
      clear hn
      by_cases h3 : pat.size = 0
      · rw [if_pos h3, if_pos h3]
        have he := empty_of_size h3
        subst he
        clear h3 h2 i2
        go_enter Try.func57, Try.ntmps57
        go_wp2
        go_ret2
        exact ⟨_, rfl, World.ownsRow_nil _ _ _ _, Below.refl _ _⟩
      · rw [if_neg h3, if_neg h3]
        have hne := isEmpty_size (show 0 < pat.size by omega)
        have HC : Hid _ := refPlaces_any s pat w (by omega) (by omega) (by omega)
        go_enter Try.func57, Try.ntmps57
        go_wp2_with fail
        refine Calls.mono HC.out ?_
        rintro e w2 ⟨v, rfl, hown, hb2⟩
        go_wp2
        go_ret2
        exact ⟨v, rfl, hown, hb2⟩
end Go.Proofs.Ytepklbboejnecaa

/- Sharing: how much of a pattern a text has. -/
namespace Go.Proofs.Ytepklbboejnecaa
open Go.RowKit Go.Shelf Sedge
attribute [local go_sem ↓] Go.wp_at_zero Go.wp_at_succ

theorem reach_of {s pat : ByteArray} {o : List Nat} {k r : Nat} (h : IsSA (bl s) o) (hk : AheadOf s pat o k) (h1 : ∀ i, k - 1 ≤ i → i < k + 1 → i < o.length → lcp ((bl s).drop (num o i)) (bl pat) ≤ r) (h2 : 0 < r → ∃ i, i < o.length ∧ lcp ((bl s).drop (num o i)) (bl pat) = r) : IsReach (bl s) (bl pat) r := by
  refine ⟨fun q hq => ?_, fun h0 => ?_⟩
  · obtain ⟨a1, a2⟩ := h.rank hq
    generalize Sedge.rank o q = i at a1 a2
    subst a2
    by_cases c : k - 1 ≤ i
    · by_cases d : i < k + 1
      · exact h1 i c d a1
      · have hki := h.lt (show k < i by omega) a1
        have hn := hk.2.2 k (Nat.le_refl _) (by omega)
        have hr := h1 k (by omega) (by omega) (by omega)
        rcases lt_tri (bl pat) ((bl s).drop (num o k)) with t | t | t
        · have := lcp_between' _ _ _ t hki
          rw [lcp_comm _ (bl pat)] at hr ⊢
          omega
        · rw [← t, lcp_self] at hr
          have := lcp_le_right ((bl s).drop (num o i)) (bl pat)
          omega
        · exact absurd t hn
    · have := lcp_between _ _ _ (h.lt (show i < k - 1 by omega) (by have := hk.1; omega)) (hk.2.1 (k - 1) (by omega))
      have := h1 (k - 1) (by omega) (by omega) (by have := hk.1; omega)
      omega
  · obtain ⟨i, hi, e⟩ := h2 h0
    exact ⟨_, h.num_lt hi, e⟩

set_option maxRecDepth 20000 in
set_option maxHeartbeats 4000000 in
/-- 'reach'. -/
theorem reach_any (s pat : ByteArray) (ad ad' : Option Addr) (o : List Nat) (c c' : Nat) (w : World) (hT : Tab w s ad ad' o) (hs : s.size ≤ 1000) (hp : pat.size ≤ 1000) :
    Calls Try.prog 101 #[tv s ad ad' o.length c c', .string pat] w fun e w' => ∃ r : Nat, e = .returned (.int .i64 r) ∧ r ≤ pat.size ∧ IsReach (bl s) (bl pat) r ∧ Below w.heap.size w w' := by
  have hol : o.length = s.size := by have := hT.sa.length; rwa [bl_length] at this
  have hb0 : Below w.heap.size w (w.alloc (Obj.cells #[.string s, .slice ad o.length c, .slice ad' o.length c'] 91)) := (Below.refl _ _).alloc (Nat.le_refl _) _
  have hbx : Blk (w.alloc (Obj.cells #[.string s, .slice ad o.length c, .slice ad' o.length c'] 91)) w.heap.size 91 [.string s, .slice ad o.length c, .slice ad' o.length c'] := Blk.new w _ _ rfl
  have C := fun W h => tahead_any s pat ad ad' o c c' W h (by omega)
  have CE := fun i W h hi => end_any s ad ad' o c c' i W h hi
  unfold tv at C CE ⊢
  have HC : Hid _ := C
  have HCE : Hid _ := CE
  have HOL : Hid _ := hol
  clear C CE hol
  go_enter Try.func101, Try.ntmps101
  go_wp2_with fail
  generalize (w.alloc (Obj.cells #[.string s, .slice ad o.length c, .slice ad' o.length c'] 91)) = w1 at hb0 hbx ⊢
  have hT1 := hT.later hb0
  have HC1 : Hid _ := HC.out w1 hT1
  obtain ⟨x0, x1, x2⟩ := cells3 hbx
  clear hT
  go_wp2_with fail
  refine Calls.mono HC1.out ?_
  rintro e w2 ⟨k, rfl, hk, hb2⟩
  have HK : Hid _ := hk
  have hk1 := hk.1
  have hbx2 := Blk.later hbx hb2
  have hT2 := hT1.later hb2
  have hB2 := Below.later hb0 hb2
  clear hk hbx hT1 hb0 hb2 x0 x1 x2
  obtain ⟨x0, x1, x2⟩ := cells3 hbx2
  go_wp2_with fail
  go_loopw [6, 7] (fun rv iv wr => ∃ r j : Nat, rv = .int .i64 r ∧ iv = .int .i64 j ∧ r ≤ pat.size ∧ k - 1 ≤ j ∧ (∀ i, k - 1 ≤ i → i < j → i < o.length → lcp ((bl s).drop (num o i)) (bl pat) ≤ r) ∧ (0 < r → ∃ i, i < o.length ∧ lcp ((bl s).drop (num o i)) (bl pat) = r) ∧ Tab wr s ad ad' o ∧ Blk wr w.heap.size 91 [.string s, .slice ad o.length c, .slice ad' o.length c'] ∧ Below w.heap.size w wr) (fun _ iv _ => o.length + 1 - (intOf iv).toNat)
  case atStart =>
    refine ⟨0, k - 1, rfl, ?_, Nat.zero_le _, Nat.le_refl _, fun i h1 h2 => by omega, fun h => by omega, hT2, hbx2, hB2⟩
    have hko : k ≤ 1000 := by have := HOL.out; omega
    have e : max (wrap64 ((k : Int) - 1)) 0 = ((k - 1 : Nat) : Int) := by rw [IntWalk.wrap64_in _ ⟨by omega, by omega⟩]; omega
    exact congrArg (Value.int .i64) e
  case round =>
    obtain ⟨r, j, rfl, rfl, hr, hj, h1, h2, hTr, hbr, hB⟩ := hrel
    obtain ⟨y0, y1, y2⟩ := cells3 hbr
    have v1 : IntKind.i64.wrap ((k : Int) + 1) = (k : Int) + 1 := by rw [IntKind.wrap_i64]; have := HOL.out; omega
    have H1 : Hid _ := h1
    have H2 : Hid _ := h2
    clear h1 h2 x0 x1 x2 hbx2 hT2
    by_cases hlt : j < k + 1 ∧ j < o.length
    · have i1 : (j : Int) < min ((k : Int) + 1) (o.length : Int) := by omega
      have HE : Hid _ := HCE.out j wr hTr hlt.2
      have v2 : IntKind.i64.wrap ((j : Int) + 1) = (j : Int) + 1 := by rw [IntKind.wrap_i64]; have := HOL.out; omega
      go_wp2_with fail
      refine Calls.mono HE.out ?_
      rintro e w3 ⟨rfl, hb3⟩
      have hT3 := hTr.later hb3
      have hbx3 := Blk.later hbr hb3
      have hB3 := Below.later hB hb3
      obtain ⟨z0, z1, z2⟩ := cells3 hbx3
      have HA : Hid _ := alike_any (s.extract (num o j) s.size) pat w3 (by simp; omega) (by omega)
      have hlr := lcp_le_right ((bl s).drop (num o j)) (bl pat)
      rw [bl_length] at hlr
      clear hTr hbr hB hb3 y0 y1 y2
      go_wp2_with fail
      refine Calls.mono HA.out ?_
      rintro e w4 ⟨rfl, hb4⟩
      have hT4 := hT3.later hb4
      have hbx4 := Blk.later hbx3 hb4
      have hB4 := Below.later hB3 hb4
      clear hT3 hbx3 hB3 hb4 z0 z1 z2
      rw [bl_extract]
      obtain ⟨q, hq⟩ : ∃ q, q = lcp ((bl s).drop (num o j)) (bl pat) := ⟨_, rfl⟩
      rw [← hq] at hlr ⊢
      have HQ : Hid _ := hq
      clear hq
      go_wp2
      go_roundw
      case rel =>
        refine ⟨max r q, j + 1, ?_, by go_num, by omega, by omega, fun i a1 a2 a3 => ?_, fun h0 => ?_, hT4, hbx4, hB4⟩
        · refine congrArg (Value.int .i64) ?_; omega
        · by_cases e : i = j
          · subst e; rw [← HQ.out]; omega
          · have := H1.out i a1 (by omega) a3; omega
        · by_cases e : r ≤ q
          · exact ⟨j, hlt.2, by rw [← HQ.out]; omega⟩
          · obtain ⟨i, a1, a2⟩ := H2.out (by omega); exact ⟨i, a1, by omega⟩
      case measure => simp [intOf]; omega
    · have i1 : ¬ (j : Int) < min ((k : Int) + 1) (o.length : Int) := by omega
      go_wp2
      go_ret
      exact ⟨r, rfl, hr, reach_of hTr.sa HK.out (fun i a1 a2 a3 => H1.out i a1 (by omega) a3) H2.out, hB⟩
end Go.Proofs.Ytepklbboejnecaa

/- Sharing: the longest part of two texts. -/
namespace Go.Proofs.Ytepklbboejnecaa
open Go.RowKit Go.Shelf Sedge
attribute [local go_sem ↓] Go.wp_at_zero Go.wp_at_succ

theorem plcs_first {x y : List Nat} {n A : Nat} (hn : 0 < n) (hA : A + n ≤ x.length) (h : ∃ q, q < y.length ∧ n ≤ lcp (x.drop A) (y.drop q)) : 0 < (plcs y ((x.drop A).take n)).length ∧ num (plcs y ((x.drop A).take n)) 0 < y.length ∧ n ≤ lcp (x.drop A) (y.drop (num (plcs y ((x.drop A).take n)) 0)) ∧ ∀ q, q < num (plcs y ((x.drop A).take n)) 0 → lcp (x.drop A) (y.drop q) < n := by
  have hlen : ((x.drop A).take n).length = n := by rw [List.length_take, List.length_drop]; omega
  have hat : ∀ q, q < y.length → (at' y ((x.drop A).take n) q = true ↔ n ≤ lcp (x.drop A) (y.drop q)) := fun q hq => by
    unfold at'
    rw [hlen, decide_eq_true_iff]
    constructor
    · intro e
      have hl : n ≤ (y.drop q).length := by
        have := congrArg List.length e
        rw [hlen, List.length_take] at this; omega
      refine (lcp_eq_iff _ _ _).2 ⟨by rw [List.length_drop]; omega, hl, fun j hj => ?_⟩
      have e1 := congrArg (fun l => num l j) e
      simp only [num, List.getD, List.getElem?_take, hj, if_true] at e1 ⊢
      exact e1
    · exact take_of_lcp _ _ _
  obtain ⟨q, hq, hl⟩ := h
  have hmem : q ∈ plcs y ((x.drop A).take n) := by unfold plcs; rw [List.mem_filter, List.mem_range]; exact ⟨hq, (hat q hq).2 hl⟩
  have hpos : 0 < (plcs y ((x.drop A).take n)).length := List.length_pos_of_mem hmem
  have hm0 := num_mem hpos
  have hso : (plcs y ((x.drop A).take n)).Pairwise (· < ·) := List.pairwise_lt_range.filter _
  have hm1 := hm0
  unfold plcs at hm1
  rw [List.mem_filter, List.mem_range] at hm1
  have hm2 : num (plcs y ((x.drop A).take n)) 0 < y.length := hm1.1
  refine ⟨hpos, hm2, (hat _ hm1.1).1 hm1.2, fun q' hq' => ?_⟩
  by_cases c : n ≤ lcp (x.drop A) (y.drop q')
  · exfalso
    have hmem' : q' ∈ plcs y ((x.drop A).take n) := by
      unfold plcs; rw [List.mem_filter, List.mem_range]
      exact ⟨by omega, (hat q' (by omega)).2 c⟩
    obtain ⟨a1, a2⟩ := idx_of_mem hmem'
    generalize (plcs y ((x.drop A).take n)).idxOf q' = i at a1 a2
    by_cases e : i = 0
    · subst e; omega
    · have := List.pairwise_iff_getElem.1 hso 0 i hpos a1 (by omega)
      rw [← num_eq hpos, ← num_eq a1] at this
      omega
  · omega

set_option maxRecDepth 20000 in
set_option maxHeartbeats 4000000 in
/-- parts.Shared. -/
theorem pShared_any (a b : ByteArray) (w : World) (ha : a.size ≤ 1000) (hb : b.size ≤ 1000) :
    Calls Try.prog 63 #[.string a, .string b] w fun e w' => ∃ n A B : Nat, e = .returned (.agg #[.int .i64 n, .int .i64 A, .int .i64 B]) ∧ SharedIs (bl a) (bl b) n A B ∧ Below w.heap.size w w' := by
  have hb0 : Below w.heap.size w (w.alloc (Obj.cells #[.int .i64 0, .int .i64 0, .int .i64 0] 53)) := (Below.refl _ _).alloc (Nat.le_refl _) _
  have hbx : Blk (w.alloc (Obj.cells #[.int .i64 0, .int .i64 0, .int .i64 0] 53)) w.heap.size 53 [.int .i64 0, .int .i64 0, .int .i64 0] := Blk.new w _ _ rfl
  have CO := fun w => partsOf_cap b w (by omega)
  have HC : Hid _ := CO
  clear CO
  go_enter Try.func63, Try.ntmps63
  go_wp2_with fail
  refine Calls.mono (HC.out _) ?_
  rintro e w1 ⟨ad, b1, o, c, c', rfl, hT, hcap, hb1⟩
  have hB1 := Below.later hb0 hb1
  have hR1 := Blk.later hbx hb1
  have hr1 := hR1.lt
  have hs1 := hB1.size
  have CR := fun pat W h hp => reach_any b pat ad (some ⟨b1, 0, none⟩) o c c' W h hb hp
  have CP := fun pat W h hq => places_any b pat ad (some ⟨b1, 0, none⟩) o c c' W h hb hcap hq
  unfold tv at CR CP ⊢
  have HCR : Hid _ := CR
  have HCP : Hid _ := CP
  clear CR CP hb0 hbx hb1 hcap HC
  have hq1 : ¬ w1.heap.size = w.heap.size := by omega
  have hq2 : ¬ w.heap.size = w1.heap.size := by omega
  go_wp2_with fail
  have hb2 : Below w1.heap.size w1 ((w1.alloc (Obj.cells #[.string b, .slice ad o.length c, .slice (some ⟨b1, 0, none⟩) o.length c'] 91)).alloc (Obj.cells #[.int .i64 0, .int .i64 0, .int .i64 0] 53)) := ((Below.refl _ _).alloc (Nat.le_refl _) _).alloc (by simp) _
  have hX2 : Blk ((w1.alloc (Obj.cells #[.string b, .slice ad o.length c, .slice (some ⟨b1, 0, none⟩) o.length c'] 91)).alloc (Obj.cells #[.int .i64 0, .int .i64 0, .int .i64 0] 53)) w1.heap.size 91 [.string b, .slice ad o.length c, .slice (some ⟨b1, 0, none⟩) o.length c'] := Blk.alloc (Blk.new w1 _ _ rfl) _
  have hS2 : Blk ((w1.alloc (Obj.cells #[.string b, .slice ad o.length c, .slice (some ⟨b1, 0, none⟩) o.length c'] 91)).alloc (Obj.cells #[.int .i64 0, .int .i64 0, .int .i64 0] 53)) (w1.heap.size + 1) 53 [.int .i64 (0 : Nat), .int .i64 (0 : Nat), .int .i64 0] := Blk.new _ _ _ (by simp)
  generalize (w1.alloc (Obj.cells #[.string b, .slice ad o.length c, .slice (some ⟨b1, 0, none⟩) o.length c'] 91)).alloc (Obj.cells #[.int .i64 0, .int .i64 0, .int .i64 0] 53) = w2 at hb2 hX2 hS2 ⊢
  go_loopw [14] (fun pv wr => ∃ p n A : Nat, p ≤ a.size ∧ pv = .int .i64 p ∧ n ≤ 1000 ∧ A + n ≤ a.size ∧ Best (bl a) (bl b) p n A ∧ Blk wr w1.heap.size 91 [.string b, .slice ad o.length c, .slice (some ⟨b1, 0, none⟩) o.length c'] ∧ Blk wr (w1.heap.size + 1) 53 [.int .i64 n, .int .i64 A, .int .i64 0] ∧ Below w1.heap.size w1 wr) (fun pv _ => a.size - (intOf pv).toNat)
  case atStart => exact ⟨0, 0, 0, Nat.zero_le _, rfl, Nat.zero_le _, Nat.zero_le _, Best.start _ _, hX2, hS2, hb2⟩
  case round =>
    obtain ⟨p, n, A, hp, rfl, hn, hAn, hbest, hX, hS, hB⟩ := hrel
    obtain ⟨x0, x1, x2⟩ := cells3 hX
    obtain ⟨y0, y1, y2⟩ := cells3 hS
    have f0 := hS.free 0
    have f1 := hS.free 1
    have f2 := hS.free 2
    have HB : Hid _ := hbest
    clear hbest hX2 hS2 hb2
    by_cases hlt : p < a.size
    · have i1 : (p : Int) < (a.size : Int) := by omega
      have i2 : (p : Int) ≤ (a.size : Int) := by omega
      have i3 : (0 : Int) ≤ (p : Int) := by omega
      have l1 := hX.lt
      have l2 := hS.lt
      have hps : (a.extract p a.size).size ≤ 1000 := by simp; omega
      have C : Hid _ := HCR.out (a.extract p a.size) wr.drew (hT.later (Below.later hB (Below.refl _ wr).drew)) hps
      have v1 : IntKind.i64.wrap ((p : Int) + 1) = (p : Int) + 1 := by rw [IntKind.wrap_i64]; omega
      go_wp2_with fail
      go_region_held3 (fun w' => w'.cell? ⟨w1.heap.size, 0, none⟩ = some (.string b) ∧ w'.cell? ⟨w1.heap.size, 1, none⟩ = some (.slice ad o.length c) ∧ w'.cell? ⟨w1.heap.size, 2, none⟩ = some (.slice (some ⟨b1, 0, none⟩) o.length c')) (go_keep)
        (first
          | (go_at_call 101; refine Calls.mono C.out ?_; rintro e w3 ⟨r, rfl, hr, hre, hb3⟩; have hB3 := Below.later (Below.refl _ wr).drew hb3; have z0 := (hB3.cell (p := ⟨w1.heap.size, 0, none⟩) l1).trans x0; have z1 := (hB3.cell (p := ⟨w1.heap.size, 1, none⟩) l1).trans x1; have z2 := (hB3.cell (p := ⟨w1.heap.size, 2, none⟩) l1).trans x2; have HRE : Hid _ := hre; clear hre))
      have hS3 := hS.later hB3
      obtain ⟨u0, u1, u2⟩ := cells3 hS3
      have g0 := hS3.free 0
      have g1 := hS3.free 1
      have hre : IsReach (bl b) ((bl a).drop p) r := by have := HRE.out; rwa [bl_extract] at this
      have hr' : r ≤ a.size - p := by have := hr; simp at this; omega
      have hsz3 := hB3.size
      by_cases hg : n < r
      · have j1 : (n : Int) < (r : Int) := by omega
        have HN : Hid _ := HB.out.more hre hg
        clear hre HRE
        go_wp2
        go_roundw
        case rel =>
          exact ⟨p + 1, r, p, by omega, by go_num, by omega, by omega, HN.out, ((hX.later hB3).other (a := ⟨w1.heap.size + 1, 0, none⟩) (by simp) _).other (a := ⟨w1.heap.size + 1, 1, none⟩) (by simp) _, (hS3.set 0 _).set 1 _, ((Below.later hB hB3).setCell (p := ⟨w1.heap.size + 1, 0, none⟩) (by simp) _).setCell (p := ⟨w1.heap.size + 1, 1, none⟩) (by simp) _⟩
        case measure => simp [intOf]; omega
      · have j1 : ¬ (n : Int) < (r : Int) := by omega
        have HN : Hid _ := HB.out.same hre hg
        clear hre HRE
        go_wp2
        go_roundw
        case rel => exact ⟨p + 1, n, A, by omega, by go_num, hn, hAn, HN.out, hX.later hB3, hS3, Below.later hB hB3⟩
        case measure => simp [intOf]; omega
    · have i1 : ¬ (p : Int) < (a.size : Int) := by omega
      have ep : p = a.size := by omega
      have hBe : Best (bl a) (bl b) (bl a).length n A := by rw [bl_length, ← ep]; exact HB.out
      have HBe : Hid _ := hBe
      have hR := Blk.later hR1 hB
      have k0 := hR.free 0
      have k1 := hR.free 1
      have k2 := hR.free 2
      obtain ⟨r0, r1, r2⟩ := cells3 hR
      have hsw := hB.size
      clear hBe HB
      by_cases hg : 0 < n
      · have j1 : (0 : Int) < (n : Int) := by omega
        have j2 : (0 : Int) ≤ (A : Int) := by omega
        have v1 : IntKind.i64.wrap ((A : Int) + (n : Int)) = (A : Int) + (n : Int) := by rw [IntKind.wrap_i64]; omega
        have j3 : (A : Int) ≤ (A : Int) + (n : Int) := by omega
        have j4 : (A : Int) + (n : Int) ≤ (a.size : Int) := by omega
        have hsz : (a.extract A (A + n)).size = n := by rw [ByteArray.size_extract]; omega
        have hbe : bl (a.extract A (A + n)) = ((bl a).drop A).take n := bl_extract2 ..
        have HP : Hid _ := HCP.out (a.extract A (A + n)) wr (hT.later hB) (by omega)
        have hf := plcs_first (x := bl a) (y := bl b) hg (by rw [bl_length]; exact hAn) (HBe.out.is hg)
        rw [← hbe] at hf
        have HF : Hid _ := hf
        clear hf hsz
        go_wp2_with fail
        refine Calls.mono HP.out ?_
        rintro e w3 ⟨v, rfl, hown, hb3⟩
        obtain ⟨ad2, c2, rfl, hsl⟩ := own_sl hown
        obtain ⟨b2, o2, rfl, hc2⟩ := hsl 0 HF.out.1
        rw [Nat.add_zero] at hc2
        have hsr := Blk.later hS hb3
        have hrr := Blk.later hR hb3
        have hB3 := Below.later hB hb3
        obtain ⟨u0, u1, u2⟩ := cells3 hsr
        have g2 := hsr.free 2
        obtain ⟨n0, n1, n2⟩ := cells3 hrr
        have m0 := hrr.free 0
        have m1 := hrr.free 1
        have m2 := hrr.free 2
        have hlen : (0 : Int) < ((plcs (bl b) (bl (a.extract A (A + n)))).length : Int) := by have := HF.out.1; omega
        have HSh : Hid _ := HBe.out.done hg HF.out.2.1 (by have := HF.out.2.2.1; exact this) HF.out.2.2.2
        generalize num (plcs (bl b) (bl (a.extract A (A + n)))) 0 = q0 at hc2 HSh
        obtain ⟨L, hL⟩ : ∃ L, L = (plcs (bl b) (bl (a.extract A (A + n)))).length := ⟨_, rfl⟩
        rw [← hL] at hlen ⊢
        have q1 : ¬ w1.heap.size + 1 = w.heap.size := by omega
        have q2 : ¬ w.heap.size = w1.heap.size + 1 := by omega
        clear hown hsl hL HF hX hS hR x0 x1 x2 y0 y1 y2 f0 f1 f2 k0 k1 k2 r0 r1 r2 hbe HCP HCR HP
        go_wp2
        have hRf := (hrr.other (a := ⟨w1.heap.size + 1, 2, none⟩) (by simp; omega) (.int .i64 (q0 : Nat))).set3 (.int .i64 (n : Nat)) (.int .i64 (A : Nat)) (.int .i64 (q0 : Nat))
        have hBf : Below w.heap.size w _ := ((((Below.later hB1 hB3).setCell (p := ⟨w1.heap.size + 1, 2, none⟩) (by simp; omega) (.int .i64 (q0 : Nat))).setCell (p := ⟨w.heap.size, 0, none⟩) (by simp) (.int .i64 (n : Nat))).setCell (p := ⟨w.heap.size, 1, none⟩) (by simp) (.int .i64 (A : Nat))).setCell (p := ⟨w.heap.size, 2, none⟩) (by simp) (.int .i64 (q0 : Nat))
        generalize (((w3.setCell ⟨w1.heap.size + 1, 2, none⟩ (.int .i64 (q0 : Nat))).setCell ⟨w.heap.size, 0, none⟩ (.int .i64 (n : Nat))).setCell ⟨w.heap.size, 1, none⟩ (.int .i64 (A : Nat))).setCell ⟨w.heap.size, 2, none⟩ (.int .i64 (q0 : Nat)) = wf at hRf hBf ⊢
        obtain ⟨t0, t1, t2⟩ := cells3 hRf
        exact bodyPost_ret (v := .agg #[.int .i64 (n : Nat), .int .i64 (A : Nat), .int .i64 (q0 : Nat)]) (by simp [results, Try.results63, go_sem, t0, t1, t2]) rfl ⟨n, A, q0, rfl, HSh.out, hBf⟩
      · have e0 : n = 0 := by omega
        subst e0
        have HN : Hid _ := HBe.out.nothing
        go_wp2
        have hRf := hR.set3 (.int .i64 0) (.int .i64 (A : Nat)) (.int .i64 0)
        have hBf : Below w.heap.size w _ := (((Below.later hB1 hB).setCell (p := ⟨w.heap.size, 0, none⟩) (by simp) (.int .i64 0)).setCell (p := ⟨w.heap.size, 1, none⟩) (by simp) (.int .i64 (A : Nat))).setCell (p := ⟨w.heap.size, 2, none⟩) (by simp) (.int .i64 0)
        generalize ((wr.setCell ⟨w.heap.size, 0, none⟩ (.int .i64 0)).setCell ⟨w.heap.size, 1, none⟩ (.int .i64 (A : Nat))).setCell ⟨w.heap.size, 2, none⟩ (.int .i64 0) = wf at hRf hBf ⊢
        obtain ⟨t0, t1, t2⟩ := cells3 hRf
        exact bodyPost_ret (v := .agg #[.int .i64 0, .int .i64 (A : Nat), .int .i64 0]) (by simp [results, Try.results63, go_sem, t0, t1, t2]) rfl ⟨0, A, 0, rfl, HN.out, hBf⟩
end Go.Proofs.Ytepklbboejnecaa

/- Sharing: sedge.Shared. -/
namespace Go.Proofs.Ytepklbboejnecaa
open Go.RowKit Go.Shelf Sedge
attribute [local go_sem ↓] Go.wp_at_zero Go.wp_at_succ

/-- What Shared tells, by the document. -/
def sharedE (a b : ByteArray) : Int := if 1000 < a.size ∨ 1000 < b.size then 2 else 0
def SharedAns (a b : ByteArray) (n A B : Nat) : Prop := if 1000 < a.size ∨ 1000 < b.size then n = 0 ∧ A = 0 ∧ B = 0 else SharedIs (bl a) (bl b) n A B
theorem SharedAns.unique {a b : ByteArray} {n A B n' A' B' : Nat} (h : SharedAns a b n A B) (k : SharedAns a b n' A' B') : n = n' ∧ A = A' ∧ B = B' := by
  unfold SharedAns at h k
  by_cases c : 1000 < a.size ∨ 1000 < b.size
  · rw [if_pos c] at h k; omega
  · rw [if_neg c] at h k; exact h.unique k
/-- What a call told. -/
def TellS (a b : ByteArray) (w : World) (e : Ending) (w' : World) : Prop := ∃ n A B : Nat, e = .returned (.tuple #[.agg #[.int .i64 n, .int .i64 A, .int .i64 B], .int .i64 (sharedE a b)]) ∧ SharedAns a b n A B ∧ Below w.heap.size w w'

set_option maxRecDepth 20000 in
set_option maxHeartbeats 4000000 in
theorem Shared_tell (a b : ByteArray) (w : World) : Calls Try.prog 30 #[.string a, .string b] w (TellS a b w) := by
  unfold TellS sharedE SharedAns
  have hb0 : Below w.heap.size w (w.alloc (Obj.cells #[.int .i64 0, .int .i64 0, .int .i64 0] 53)) := (Below.refl _ _).alloc (Nat.le_refl _) _
  have hbx : Blk (w.alloc (Obj.cells #[.int .i64 0, .int .i64 0, .int .i64 0] 53)) w.heap.size 53 [.int .i64 0, .int .i64 0, .int .i64 0] := Blk.new w _ _ rfl
  by_cases h1 : 1000 < a.size
  · have i1 : (1000 : Int) < (a.size : Int) := by omega
    rw [if_pos (Or.inl h1)]
    simp only [if_pos (Or.inl h1)]
    go_enter Try.func30, Try.ntmps30
    go_wp2
    generalize w.alloc (Obj.cells #[.int .i64 0, .int .i64 0, .int .i64 0] 53) = wf at hb0 hbx ⊢
    obtain ⟨t0, t1, t2⟩ := cells3 hbx
    exact bodyPost_ret (v := .tuple #[.agg #[.int .i64 0, .int .i64 0, .int .i64 0], .int .i64 2]) (by simp [results, Try.results30, go_sem, t0, t1, t2]) rfl ⟨0, 0, 0, rfl, ⟨rfl, rfl, rfl⟩, hb0⟩
  · have i1 : ¬ (1000 : Int) < (a.size : Int) := by omega
    by_cases h2 : 1000 < b.size
    · have i2 : (1000 : Int) < (b.size : Int) := by omega
      rw [if_pos (Or.inr h2)]
      simp only [if_pos (Or.inr h2)]
      go_enter Try.func30, Try.ntmps30
      go_wp2
      generalize w.alloc (Obj.cells #[.int .i64 0, .int .i64 0, .int .i64 0] 53) = wf at hb0 hbx ⊢
      obtain ⟨t0, t1, t2⟩ := cells3 hbx
      exact bodyPost_ret (v := .tuple #[.agg #[.int .i64 0, .int .i64 0, .int .i64 0], .int .i64 2]) (by simp [results, Try.results30, go_sem, t0, t1, t2]) rfl ⟨0, 0, 0, rfl, ⟨rfl, rfl, rfl⟩, hb0⟩
    · have i2 : ¬ (1000 : Int) < (b.size : Int) := by omega
      have hn : ¬ (1000 < a.size ∨ 1000 < b.size) := by omega
      rw [if_neg hn]
      simp only [if_neg hn]
      clear hn
      go_enter Try.func30, Try.ntmps30
      go_wp2_with fail
      generalize w.alloc (Obj.cells #[.int .i64 0, .int .i64 0, .int .i64 0] 53) = w1 at hb0 hbx ⊢
      refine (pShared_any a b w1 (by omega) (by omega)).mono ?_
      rintro e w2 ⟨n, A, B, rfl, hS, hb2⟩
      have HS : Hid _ := hS
      have hR := Blk.later hbx hb2
      have hB := Below.later hb0 hb2
      obtain ⟨x0, x1, x2⟩ := cells3 hR
      have f0 := hR.free 0
      have f1 := hR.free 1
      have f2 := hR.free 2
      clear hS hb0 hb2 hbx
      go_wp2
      have hRf := hR.set3 (.int .i64 (n : Nat)) (.int .i64 (A : Nat)) (.int .i64 (B : Nat))
      have hBf : Below w.heap.size w _ := ((hB.setCell (p := ⟨w.heap.size, 0, none⟩) (by simp) (.int .i64 (n : Nat))).setCell (p := ⟨w.heap.size, 1, none⟩) (by simp) (.int .i64 (A : Nat))).setCell (p := ⟨w.heap.size, 2, none⟩) (by simp) (.int .i64 (B : Nat))
      generalize ((w2.setCell ⟨w.heap.size, 0, none⟩ (.int .i64 (n : Nat))).setCell ⟨w.heap.size, 1, none⟩ (.int .i64 (A : Nat))).setCell ⟨w.heap.size, 2, none⟩ (.int .i64 (B : Nat)) = wf at hRf hBf ⊢
      obtain ⟨t0, t1, t2⟩ := cells3 hRf
      exact bodyPost_ret (v := .tuple #[.agg #[.int .i64 (n : Nat), .int .i64 (A : Nat), .int .i64 (B : Nat)], .int .i64 0]) (by simp [results, Try.results30, go_sem, t0, t1, t2]) rfl ⟨n, A, B, rfl, HS.out, hBf⟩
end Go.Proofs.Ytepklbboejnecaa

/- Sharing: the document's own. -/
namespace Go.Proofs.Ytepklbboejnecaa
open Go.RowKit Go.Shelf Sedge
attribute [local go_sem ↓] Go.wp_at_zero Go.wp_at_succ

theorem fillTo_skip {n : Nat} {f : Nat → Nat} {k : Nat} (h : f k = 0) : fillTo n f k = fillTo n f (k + 1) := by
  unfold fillTo
  refine tab_congr fun j _ => ?_
  by_cases c : j = k
  · subst c; simp [h]
  · by_cases d : j < k
    · simp [d, show j < k + 1 by omega]
    · simp [d, show ¬ j < k + 1 by omega]

set_option maxRecDepth 20000 in
set_option maxHeartbeats 4000000 in
theorem refShared_any (a b : ByteArray) (w : World) (ha : a.size ≤ 1000) (hb : b.size ≤ 1000) : Calls Try.prog 58 #[.string a, .string b] w fun e w' => ∃ n A B : Nat, e = .returned (.tuple #[.agg #[.int .i64 n, .int .i64 A, .int .i64 B], .int .i64 0]) ∧ SharedIs (bl a) (bl b) n A B ∧ Below w.heap.size w w' := by
  have hb0 : Below w.heap.size w ((w.alloc (Obj.cells #[.int .i64 0, .int .i64 0, .int .i64 0] 97)).alloc (Obj.cells #[.int .i64 0, .int .i64 0, .int .i64 0] 97)) := ((Below.refl _ _).alloc (Nat.le_refl _) _).alloc (by simp) _
  have hR0 : Blk ((w.alloc (Obj.cells #[.int .i64 0, .int .i64 0, .int .i64 0] 97)).alloc (Obj.cells #[.int .i64 0, .int .i64 0, .int .i64 0] 97)) w.heap.size 97 [.int .i64 0, .int .i64 0, .int .i64 0] := Blk.alloc (Blk.new w _ _ rfl) _
  have hS0 : Blk ((w.alloc (Obj.cells #[.int .i64 0, .int .i64 0, .int .i64 0] 97)).alloc (Obj.cells #[.int .i64 0, .int .i64 0, .int .i64 0] 97)) (w.heap.size + 1) 97 [.int .i64 (0 : Nat), .int .i64 (0 : Nat), .int .i64 (0 : Nat)] := Blk.new _ _ _ (by simp)
  have hz0 : ((w.alloc (Obj.cells #[.int .i64 0, .int .i64 0, .int .i64 0] 97)).alloc (Obj.cells #[.int .i64 0, .int .i64 0, .int .i64 0] 97)).heap.size = w.heap.size + 2 := by simp
  have i1 : ¬ (1000 : Int) < (a.size : Int) := by omega
  have i2 : ¬ (1000 : Int) < (b.size : Int) := by omega
  obtain ⟨x, hx⟩ : ∃ x, x = bl a := ⟨_, rfl⟩
  obtain ⟨y, hy⟩ : ∃ y, y = bl b := ⟨_, rfl⟩
  have hxl : x.length = a.size := by rw [hx, bl_length]
  have hyl : y.length = b.size := by rw [hy, bl_length]
  rw [← hx, ← hy]
  have HX : Hid _ := hx
  have HY : Hid _ := hy
  have HXL : Hid _ := hxl
  have HYL : Hid _ := hyl
  have HZ0 : Hid _ := hz0
  clear hx hy hxl hyl hz0
  go_enter Try.func58, Try.ntmps58
  go_wp2_with (first | (at_make; refine wpList_make_row _ rfl _ _ rfl _ _ (b.size + 1) rfl rfl (by rfl) (by rfl) (by omega) ?_; intro w1 hrow hsz hbel) | fail)
  have hB1 := Below.later hb0 hbel
  have hR1 := Blk.later hR0 hbel
  have hS1 := Blk.later hS0 hbel
  have hrow' : Row w1 (w.heap.size + 2) (tab (b.size + 1) (sx x y 0)) := by
    have e : tab (b.size + 1) (sx x y 0) = tab (b.size + 1) fun _ => 0 := tab_congr fun k _ => sx_zero k
    rw [e, ← HZ0.out]; exact hrow
  clear hb0 hR0 hS0 hbel hrow hsz HZ0
  go_loopw [7, 8] (fun rv iv wr => ∃ i g n A B : Nat, i ≤ a.size ∧ iv = .int .i64 i ∧ rv = .slice (some ⟨g, 0, none⟩) (b.size + 1) (b.size + 1) ∧ w.heap.size + 1 < g ∧ Row wr g (tab (b.size + 1) (sx x y i)) ∧ n ≤ 2000 ∧ A ≤ 2000 ∧ Ended x y i 0 n A B ∧ Blk wr (w.heap.size + 1) 97 [.int .i64 n, .int .i64 A, .int .i64 B] ∧ Blk wr w.heap.size 97 [.int .i64 0, .int .i64 0, .int .i64 0] ∧ Below w.heap.size w wr) (fun _ iv _ => a.size - (intOf iv).toNat)
  case atStart => exact ⟨0, w.heap.size + 2, 0, 0, 0, Nat.zero_le _, rfl, rfl, by omega, hrow', Nat.zero_le _, Nat.zero_le _, Ended.start _ _, hS1, hR1, hB1⟩
  case round =>
    obtain ⟨i, g, n, A, B, hi, rfl, rfl, hg, hrow, hn, hA, hE, hS, hR, hB⟩ := hrel
    have HE : Hid _ := hE
    clear hB1 hR1 hS1 hrow' hE
    by_cases hlt : i < a.size
    · have j1 : (i : Int) < (a.size : Int) := by omega
      have j2 : (i : Int) + 1 ≤ 1000 := by omega
      go_wp2_with (first | (at_make; refine wpList_make_row _ rfl _ _ rfl _ _ (b.size + 1) rfl rfl (by rfl) (by rfl) (by omega) ?_; intro w2 hnext hsz hbel) | fail)
      have hnext' : Row w2 wr.heap.size (fillTo (b.size + 1) (sx x y (i + 1)) 1) := by rw [← fillTo_skip (sx_zero' (i + 1)), fillTo_zero]; exact hnext
      have hB2 := Below.later hB hbel
      have hR2 := Blk.later hR hbel
      have hS2 := Blk.later hS hbel
      have hrow2 := Blk.later hrow hbel
      have hgl := Blk.lt hrow
      obtain ⟨gn, hgn⟩ : ∃ gn, gn = wr.heap.size := ⟨_, rfl⟩
      rw [← hgn] at hgl hnext' ⊢
      have hws := hB.size
      clear hB hR hS hrow hnext hsz hbel hgn hws
      go_loopw [10] (fun kv wi => ∃ k n A B : Nat, k ≤ b.size ∧ kv = .int .i64 k ∧ n ≤ 2000 ∧ A ≤ 2000 ∧ Ended x y i k n A B ∧ Row wi gn (fillTo (b.size + 1) (sx x y (i + 1)) (k + 1)) ∧ Row wi g (tab (b.size + 1) (sx x y i)) ∧ Blk wi (w.heap.size + 1) 97 [.int .i64 n, .int .i64 A, .int .i64 B] ∧ Blk wi w.heap.size 97 [.int .i64 0, .int .i64 0, .int .i64 0] ∧ Below w.heap.size w wi) (fun kv _ => b.size - (intOf kv).toNat)
      case atStart => exact ⟨0, n, A, B, Nat.zero_le _, rfl, hn, hA, HE.out, hnext', hrow2, hS2, hR2, hB2⟩
      case round =>
        clear hB2 hR2 hS2 hrow2 hnext' HE hn hA n A B
        obtain ⟨k, n, A, B, hk, rfl, hn, hA, hE, hnx, hrow, hS, hR, hB⟩ := hrel
        have HE : Hid _ := hE
        clear hE
        by_cases hlk : k < b.size
        · have k1 : (k : Int) < (b.size : Int) := by omega
          have k2 : (k : Int) + 1 ≤ 1000 := by omega
          have q1 : ¬ gn = w.heap.size := by omega
          have q2 : ¬ w.heap.size = gn := by omega
          have q3 : ¬ gn = w.heap.size + 1 := by omega
          have q4 : ¬ w.heap.size + 1 = gn := by omega
          have cg := hrow.cell (k := k) (by rw [tab_length]; omega)
          rw [tab_num (by omega)] at cg
          have cn := hnx.cell (k := k + 1) (by rw [fillTo_length]; omega)
          have en : num (fillTo (b.size + 1) (sx x y (i + 1)) (k + 1)) (k + 1) = 0 := by unfold fillTo; rw [tab_num (by omega)]; simp
          rw [en] at cn
          have fn := Blk.free hnx (k + 1)
          obtain ⟨y0, y1, y2⟩ := cells3 hS
          have f0 := hS.free 0
          have f1 := hS.free 1
          have f2 := hS.free 2
          have hsl := sx_le (x := x) (y := y) i k
          have hsu := sx_succ (x := x) (y := y) i k
          have na : num x i = a[i].toNat := by rw [HX.out]; exact bl_num hlt
          have nb : num y k = b[k].toNat := by rw [HY.out]; exact bl_num hlk
          rw [na, nb] at hsu
          clear en na nb
          by_cases hq : a[i].toNat = b[k].toNat
          · have hbq : (((a[i].toNat : Nat) : Int) == ((b[k].toNat : Nat) : Int)) = true := by rw [hq]; simp
            rw [if_pos hq] at hsu
            obtain ⟨S, hSx⟩ : ∃ S, S = sx x y i k := ⟨_, rfl⟩
            rw [← hSx] at cg hsu hsl
            have hnx' := Row.set hnx (k + 1) (S + 1)
            rw [fillTo_succ hsu] at hnx'
            have HSU : Hid _ := hsu
            have v1 : IntKind.i64.wrap ((S : Int) + 1) = (S : Int) + 1 := by rw [IntKind.wrap_i64]; omega
            have v2 : IntKind.i64.wrap ((i : Int) + 1 - ((S : Int) + 1)) = (i : Int) + 1 - ((S : Int) + 1) := by rw [IntKind.wrap_i64]; omega
            have v3 : IntKind.i64.wrap ((k : Int) + 1 - ((S : Int) + 1)) = (k : Int) + 1 - ((S : Int) + 1) := by rw [IntKind.wrap_i64]; omega
            clear hq hSx hsu
            by_cases hm : n < S + 1
            · have m1 : (n : Int) < (S : Int) + 1 := by omega
              have HN : Hid _ := HE.out.more (by have := HYL.out; omega) (by rw [HSU.out]; exact hm)
              clear HE
              go_wp2
              go_quiet (fail)
              go_wp2
              go_roundw
              case rel =>
                have wd : Below wr.heap.size wr (wr.drewN nq) := (Below.refl _ _).drewN nq
                have e1 : ((S + 1 : Nat) : Int) = (S : Int) + 1 := by omega
                have e2 : ((i + 1 - (S + 1) : Nat) : Int) = (i : Int) + 1 - ((S : Int) + 1) := by omega
                have e3 : ((k + 1 - (S + 1) : Nat) : Int) = (k : Int) + 1 - ((S : Int) + 1) := by omega
                have hn1 := Row.set (Blk.later hnx wd) (k + 1) (S + 1)
                rw [fillTo_succ HSU.out] at hn1
                have hr1 := (Blk.later hrow wd).other (a := ⟨gn, k + 1, none⟩) (by simp; omega) (.int .i64 ((S + 1 : Nat) : Int))
                have hs1 := (Blk.later hS wd).other (a := ⟨gn, k + 1, none⟩) (by simp; omega) (.int .i64 ((S + 1 : Nat) : Int))
                have hR1 := (Blk.later hR wd).other (a := ⟨gn, k + 1, none⟩) (by simp; omega) (.int .i64 ((S + 1 : Nat) : Int))
                have hb1 := (Below.later hB wd).setCell (p := ⟨gn, k + 1, none⟩) (by simp; omega) (.int .i64 ((S + 1 : Nat) : Int))
                have hN := HN.out
                rw [HSU.out] at hN
                rw [← e2, ← e3, ← e1]
                exact ⟨k + 1, S + 1, i + 1 - (S + 1), k + 1 - (S + 1), by omega, by go_num, by omega, by omega, hN, Blk.keep3 hn1 (by omega) _ _ _, Blk.keep3 hr1 (by omega) _ _ _, hs1.set3 _ _ _, hR1.keep3 (by omega) _ _ _, ((hb1.setCell (p := ⟨w.heap.size + 1, 0, none⟩) (by simp) _).setCell (p := ⟨w.heap.size + 1, 1, none⟩) (by simp) _).setCell (p := ⟨w.heap.size + 1, 2, none⟩) (by simp) _⟩
              case measure => simp [intOf]; omega
            · have m1 : ¬ (n : Int) < (S : Int) + 1 := by omega
              have HN : Hid _ := HE.out.same (k := k) (by rw [HSU.out]; exact hm)
              have tie : n = S + 1 → ¬ (i : Int) + 1 - ((S : Int) + 1) < (A : Int) := fun e => by have := HE.out.tie (by omega); omega
              have HT : Hid _ := tie
              clear HE tie
              by_cases ht : n = S + 1
              · have m2 : (((S : Int) + 1) == (n : Int)) = true := by rw [ht]; simp
                have m3 : (0 : Int) < (S : Int) + 1 := by omega
                have m4 := HT.out ht
                clear ht
                go_wp2
                go_quiet (fail)
                go_wp2
                go_roundw
                case rel =>
                  have wd : Below wr.heap.size wr (wr.drewN nq) := (Below.refl _ _).drewN nq
                  have e1 : ((S + 1 : Nat) : Int) = (S : Int) + 1 := by omega
                  have hn1 := Row.set (Blk.later hnx wd) (k + 1) (S + 1)
                  rw [fillTo_succ HSU.out] at hn1
                  have hr1 := (Blk.later hrow wd).other (a := ⟨gn, k + 1, none⟩) (by simp; omega) (.int .i64 ((S + 1 : Nat) : Int))
                  have hs1 := (Blk.later hS wd).other (a := ⟨gn, k + 1, none⟩) (by simp; omega) (.int .i64 ((S + 1 : Nat) : Int))
                  have hR1 := (Blk.later hR wd).other (a := ⟨gn, k + 1, none⟩) (by simp; omega) (.int .i64 ((S + 1 : Nat) : Int))
                  have hb1 := (Below.later hB wd).setCell (p := ⟨gn, k + 1, none⟩) (by simp; omega) (.int .i64 ((S + 1 : Nat) : Int))
                  rw [← e1]
                  exact ⟨k + 1, n, A, B, by omega, by go_num, hn, hA, HN.out, hn1, hr1, hs1, hR1, hb1⟩
                case measure => simp [intOf]; omega
              · have m2 : (((S : Int) + 1) == (n : Int)) = false := by rw [beq_eq_false_iff_ne]; omega
                clear ht
                go_wp2
                go_quiet (fail)
                go_wp2
                go_roundw
                case rel =>
                  have wd : Below wr.heap.size wr (wr.drewN nq) := (Below.refl _ _).drewN nq
                  have e1 : ((S + 1 : Nat) : Int) = (S : Int) + 1 := by omega
                  have hn1 := Row.set (Blk.later hnx wd) (k + 1) (S + 1)
                  rw [fillTo_succ HSU.out] at hn1
                  have hr1 := (Blk.later hrow wd).other (a := ⟨gn, k + 1, none⟩) (by simp; omega) (.int .i64 ((S + 1 : Nat) : Int))
                  have hs1 := (Blk.later hS wd).other (a := ⟨gn, k + 1, none⟩) (by simp; omega) (.int .i64 ((S + 1 : Nat) : Int))
                  have hR1 := (Blk.later hR wd).other (a := ⟨gn, k + 1, none⟩) (by simp; omega) (.int .i64 ((S + 1 : Nat) : Int))
                  have hb1 := (Below.later hB wd).setCell (p := ⟨gn, k + 1, none⟩) (by simp; omega) (.int .i64 ((S + 1 : Nat) : Int))
                  rw [← e1]
                  exact ⟨k + 1, n, A, B, by omega, by go_num, hn, hA, HN.out, hn1, hr1, hs1, hR1, hb1⟩
                case measure => simp [intOf]; omega
          · have hbq : (((a[i].toNat : Nat) : Int) == ((b[k].toNat : Nat) : Int)) = false := by rw [beq_eq_false_iff_ne]; omega
            rw [if_neg hq] at hsu
            have hnx' := hnx
            rw [fillTo_skip hsu] at hnx'
            have HN : Hid _ := HE.out.same (k := k) (by rw [hsu]; omega)
            have m1 : ¬ (n : Int) < 0 := by omega
            have cn' : wr.cell? ⟨gn, k + 1, none⟩ = some (.int .i64 0) := cn
            clear hq hsu cn HE
            by_cases ht : n = 0
            · have m2 : ((0 : Int) == (n : Int)) = true := by rw [ht]; simp
              subst ht
              go_wp2
              go_quiet (fail)
              go_wp2
              go_roundw
              case rel =>
                have wd : Below wr.heap.size wr (wr.drewN nq) := (Below.refl _ _).drewN nq
                exact ⟨k + 1, _, A, B, by omega, by go_num, hn, hA, HN.out, Blk.later hnx' wd, Blk.later hrow wd, Blk.later hS wd, Blk.later hR wd, Below.later hB wd⟩
              case measure => simp [intOf]; omega
            · have m2 : ((0 : Int) == (n : Int)) = false := by rw [beq_eq_false_iff_ne]; omega
              clear ht
              go_wp2
              go_quiet (fail)
              go_wp2
              go_roundw
              case rel =>
                have wd : Below wr.heap.size wr (wr.drewN nq) := (Below.refl _ _).drewN nq
                exact ⟨k + 1, _, A, B, by omega, by go_num, hn, hA, HN.out, Blk.later hnx' wd, Blk.later hrow wd, Blk.later hS wd, Blk.later hR wd, Below.later hB wd⟩
              case measure => simp [intOf]; omega
        · have k1 : ¬ (k : Int) < (b.size : Int) := by omega
          have ek : k = b.size := by omega
          have HN : Hid (Ended x y (i + 1) 0 n A B) := by have := HE.out; rw [ek, ← HYL.out] at this; exact this.row
          have hnx' : Row wr gn (tab (b.size + 1) (sx x y (i + 1))) := by rw [ek, fillTo_all] at hnx; exact hnx
          clear HE hnx
          go_wp2
          go_roundw
          case rel => exact ⟨i + 1, gn, n, A, B, by omega, by go_num, rfl, by omega, hnx', hn, hA, HN.out, hS, hR, hB⟩
          case measure => simp [intOf]; omega
    · have j1 : ¬ (i : Int) < (a.size : Int) := by omega
      have ei : i = a.size := by omega
      have HN : Hid (SharedIs x y n A B) := by have := HE.out; rw [ei, ← HXL.out] at this; exact this.done
      obtain ⟨y0, y1, y2⟩ := cells3 hS
      obtain ⟨r0, r1, r2⟩ := cells3 hR
      have f0 := hR.free 0
      have f1 := hR.free 1
      have f2 := hR.free 2
      clear HE
      go_wp2
      have hRf := hR.set3 (.int .i64 (n : Nat)) (.int .i64 (A : Nat)) (.int .i64 (B : Nat))
      have hBf : Below w.heap.size w _ := ((hB.setCell (p := ⟨w.heap.size, 0, none⟩) (by simp) (.int .i64 (n : Nat))).setCell (p := ⟨w.heap.size, 1, none⟩) (by simp) (.int .i64 (A : Nat))).setCell (p := ⟨w.heap.size, 2, none⟩) (by simp) (.int .i64 (B : Nat))
      generalize ((wr.setCell ⟨w.heap.size, 0, none⟩ (.int .i64 (n : Nat))).setCell ⟨w.heap.size, 1, none⟩ (.int .i64 (A : Nat))).setCell ⟨w.heap.size, 2, none⟩ (.int .i64 (B : Nat)) = wf at hRf hBf ⊢
      obtain ⟨t0, t1, t2⟩ := cells3 hRf
      exact bodyPost_ret (v := .tuple #[.agg #[.int .i64 (n : Nat), .int .i64 (A : Nat), .int .i64 (B : Nat)], .int .i64 0]) (by simp [results, Try.results58, go_sem, t0, t1, t2]) rfl ⟨n, A, B, rfl, HN.out, hBf⟩
end Go.Proofs.Ytepklbboejnecaa
