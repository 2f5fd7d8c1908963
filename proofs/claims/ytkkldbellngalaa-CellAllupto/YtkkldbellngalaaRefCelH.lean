import Derived.Test.YtkkldbellngalaaRefCelG
import Derived.Test.YtkkldbellngalaaRefCelN
import Derived.Test.YtkkldbellngalaaCelTook
namespace Go.Proofs.Ytkkldbellngalaa
open Go.RowKit

theorem ix_at {L : List Rw} {c j : Nat} (hj : j < L.length) (hc : (ra L j).cell = (c : Int)) : ∃ k, k < (ix L c).length ∧ ixa (ix L c) k = j := by
  have hm : j ∈ ix L c := by simp [ix, hj, hc]
  obtain ⟨k, hk, e⟩ := List.mem_iff_getElem.1 hm
  exact ⟨k, hk, by simp [ixa, List.getD_eq_getElem?_getD, hk, e]⟩

/-- What the document's Then and the program's look at is the same. -/
theorem behv_lastOf {s : Mm} {c N lo : Nat} {st : Int} (hU : Upto s.log st N) (h1 : lo ≤ (ix s.log c).length) (h2 : ∀ i, i < lo → (ra s.log (ixa (ix s.log c) i)).step ≤ st) (h3 : ∀ i, lo ≤ i → i < (ix s.log c).length → st < (ra s.log (ixa (ix s.log c) i)).step) :
    behv s c lo = lastOf (c : Int) (ca s.cells c).1 (s.log.take N) := by
  obtain ⟨u1, u2, u3⟩ := hU
  unfold behv
  by_cases e : lo = 0
  · subst e
    rw [if_pos rfl, lastOf_none u1]
    intro i hi hc
    obtain ⟨k, hk, ek⟩ := ix_at (show i < s.log.length by omega) hc
    have a := h3 k (Nat.zero_le _) hk
    rw [ek] at a
    have b := u2 i hi
    omega
  · have hm := ix_mem (ixa_mem (show lo - 1 < (ix s.log c).length by omega))
    have ha := h2 (lo - 1) (by omega)
    rw [if_neg e]
    refine (lastOf_hit hm.2 u1 ?_ ?_).symm
    · apply Nat.lt_of_not_le
      intro hN
      have b := u3 _ hN hm.1
      omega
    · intro j hj hjN hc
      obtain ⟨k, hk, ek⟩ := ix_at (show j < s.log.length by omega) hc
      have hk2 : lo ≤ k := by
        apply Nat.le_of_not_lt
        intro hlt
        by_cases e' : k = lo - 1
        · rw [← e', ek] at hj; exact Nat.lt_irrefl _ hj
        · have := ix_lt (L := s.log) (c := c) (i := k) (j := lo - 1) (by omega) (by omega)
          omega
      have a := h3 k hk2 hk
      rw [ek] at a
      have b := u2 j hjN
      omega
end Go.Proofs.Ytkkldbellngalaa
