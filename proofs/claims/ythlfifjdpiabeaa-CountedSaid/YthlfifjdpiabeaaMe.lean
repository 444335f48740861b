/- Plain mathematics: while the starts are put in, each finds room. -/
import Derived.Test.YthlfifjdpiabeaaMd
namespace Sedge

theorem Good.nodup {l S : List Nat} {lt1 lt : Nat → Nat → Prop} (G : Good l S lt1 lt) : S.Nodup :=
  List.Pairwise.imp (S := fun a b => a ≠ b) (fun {a b} (h : buck l a = buck l b → lt1 a b) (e : a = b) => G.irr1 a (by rw [← e] at h; exact h rfl)) G.srt
/-- While the starts are put in, each finds room. -/
theorem Good.f0_room {l S : List Nat} {lt1 lt : Nat → Nat → Prop} (G : Good l S lt1 lt) {k : Nat} (hk : k < S.length) : (f0 l S k (buck l (num S.reverse k))).length < room l.length (buck l) (buck l (num S.reverse k)) := by
  have hk' : k < S.reverse.length := by simpa using hk
  have nd : S.reverse.Nodup := List.pairwise_reverse.2 (List.Pairwise.imp (fun {a b} (h : a ≠ b) (e : b = a) => h e.symm) G.nodup)
  have hst := (G.mem _).1 (by have := num_mem hk'; rwa [List.mem_reverse] at this)
  refine room_lt (p := num S.reverse k) (List.Pairwise.filter _ (List.Pairwise.sublist (List.take_sublist k S.reverse) nd)) ?_ ?_ hst.1 rfl
  · intro p hp
    simp only [f0, List.mem_filter] at hp
    have := (G.mem p).1 (by rw [← List.mem_reverse]; exact List.mem_of_mem_take hp.1)
    exact ⟨this.1, by simpa using hp.2⟩
  · intro hp
    simp only [f0, List.mem_filter] at hp
    obtain ⟨j, hj, e⟩ := List.getElem_of_mem hp.1
    rw [List.getElem_take, num_eq hk'] at e
    have hj' : j < k := by simp at hj; omega
    have := List.pairwise_iff_getElem.1 nd j k (by omega) hk' hj'
    exact this e
end Sedge
