import Derived.Test.YtblcjohhelokkabGreatDoorMdM
import Derived.Test.YtblcjohhelokkabGreatDoorLgU
namespace Go.Proofs.YtblcjohhelokkabGreatDoor
open Go.RowKit
section
variable {l : List Ins} {os : List Int} {gs : List (Bool × Int)}
/-- Behind an instruction the run has ended, or it stands where a walk may go on. -/
theorem mstp_nx {p : Nat} {s : Rs} (hp : s.pl = (p : Int)) (hcan : (l.getD p ins0).can l.length = true) : ¬ (mstp os gs (l.getD p ins0) s).oc = 0 ∨ (mstp os gs (l.getD p ins0) s).pl.toNat ∈ nx l p := by
  have hc := can_code hcan
  unfold nx
  generalize l.getD p ins0 = q at *
  have n1 : q.nxt (p : Int) = if q.code = 8 then [q.to] else if q.code = 7 then [q.to, (p : Int) + 1] else if q.code = 9 ∨ q.code = 10 then [] else [(p : Int) + 1] := rfl
  have pi : s.inc.pl = (p : Int) + 1 := by show s.pl + 1 = _; rw [hp]
  have na : q.code ≤ 6 → q.nxt (p : Int) = [(p : Int) + 1] := fun h => by rw [n1, if_neg (by omega), if_neg (by omega), if_neg (by omega)]
  have n7 : q.code = 7 → q.nxt (p : Int) = [q.to, (p : Int) + 1] := fun h => by rw [n1, if_neg (by omega), if_pos h]
  have n8 : q.code = 8 → q.nxt (p : Int) = [q.to] := fun h => by rw [n1, if_pos h]
  clear n1
  unfold mstp
  split
  · rw [na (by omega)]
    split
    · right
      rw [(mstpO_ok os gs q s _).2, hp]
      simp
    · left
      show ¬ (3 : Int) = 0
      decide
  · split
    · rw [na (by omega)]
      right
      show (s.inc.pl).toNat ∈ _
      rw [pi]; simp
    · split
      · rw [na (by omega)]
        right
        show (s.inc.pl).toNat ∈ _
        rw [pi]; simp
      · split
        · rename_i e
          rw [n7 e]
          right
          split
          · simp
          · rw [pi]; simp
        · split
          · rename_i e
            rw [n8 e]
            right
            simp
          · left
            split
            · show ¬ (2 : Int) = 0
              decide
            · show ¬ (1 : Int) = 0
              decide
theorem gor_ht (hcan : ∀ p, p < l.length → (l.getD p ins0).can l.length = true) {p h : Nat} (H : Ht l.length (nx l) p h) : ∀ (c : Nat) (s : Rs), s.oc = 0 → s.pl = (p : Int) → ¬ (gor l os gs (h + 1) c s).1.oc = 0 := by
  induction H with
  | fin =>
    intro c s h0 hp
    rw [gor_step 0 c h0]
    have e : atI l s.pl.toNat = doneI := if_pos (by omega)
    rw [e]
    show ¬ (1 : Int) = 0
    decide
  | step p m g hp hs hl hm ih =>
    intro c s h0 hpl
    rw [gor_step (m + 1) c h0]
    have e : atI l s.pl.toNat = l.getD p ins0 := by
      rw [show s.pl.toNat = p by omega]
      exact if_neg (by omega)
    rw [e]
    have hq := mstp_pl os gs _ s (hcan p hp) ⟨by omega, by omega⟩
    generalize hs' : mstp os gs (l.getD p ins0) s = s' at *
    have hn := mstp_nx (os := os) (gs := gs) hpl (hcan p hp)
    rw [hs'] at hn
    by_cases h1 : s'.oc = 0
    · have hin := hn.resolve_left (fun e => e h1)
      have := ih _ hin (c + 1) s' h1 (by omega)
      have hc := gor_count (l := l) (os := os) (gs := gs) (g s'.pl.toNat + 1) (c + 1) s'
      have hle := hl _ hin
      rw [gor_mono _ _ _ this (m + 1) (by omega)]
      exact this
    · rw [gor_end (m + 1) (c + 1) h1]
      exact h1
end
end Go.Proofs.YtblcjohhelokkabGreatDoor
