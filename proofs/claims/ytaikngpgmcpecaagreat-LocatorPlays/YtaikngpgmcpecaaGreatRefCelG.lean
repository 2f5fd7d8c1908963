import Derived.Test.YtaikngpgmcpecaaGreatRefCelD
import Derived.Test.YtaikngpgmcpecaaGreatRefCelE
namespace Go.Proofs.YtaikngpgmcpecaaGreat
open Go.RowKit

theorem ca_set' {l : List (Int × Int)} {c k : Nat} {u : Int × Int} (hc : c < l.length) : ca (l.set c u) k = if k = c then u else ca l k := by
  simp only [ca, List.getD_eq_getElem?_getD]
  by_cases e : k = c
  · subst e; rw [if_pos rfl]; simp [hc]
  · rw [if_neg e, List.getElem?_set_ne (Ne.symm e)]
theorem fcells_set {l : List (Int × Int)} {c : Nat} {x : Int} : fcells (l.set c ((ca l c).1, x)) = fcells l := by
  unfold fcells
  rw [List.map_set]
  apply List.ext_getElem?
  intro i
  by_cases e : c = i
  · subst e
    by_cases hc : c < l.length
    · simp [hc, ca, List.getD_eq_getElem?_getD]
    · simp [List.getElem?_eq_none (Nat.le_of_not_lt hc)]; omega
  · rw [List.getElem?_set_ne e]
/-- What the document's memory says of a memory that has taken an access. -/
theorem RI.took' {w : World} {rb : Nat} {s : Mm} {B : Nat → Prop} {kind wrote v : Int} {c : Nat} {done : Bool} (hv : (ca s.cells c).2 = v)
    (h : RI w rb { s with log := s.log ++ [⟨s.step, s.thread, kind, (c : Int), v, wrote, done⟩], free := false } B) : RI w rb (s.take kind c wrote done) B := by
  subst hv
  obtain ⟨vf, vr, vg, rvs, ρ, h, hn, hi, hB⟩ := h
  refine ⟨vf, vr, vg, rvs, ρ, ⟨h.f0, h.f1, h.f2, h.f3, h.f4, h.f5, h.z, ?_, h.rr, h.rg, h.each, h.pb, h.pf, h.pr, h.pg, h.pe⟩, ?_, ?_, hB⟩
  · show World.ownsRow _ _ _ _ _ (s.cells.set c _).length (fcells (s.cells.set c _))
    rw [fcells_set, List.length_set]; exact h.rf
  · show rvs.length = (s.cells.set c _).length
    rw [List.length_set]; exact hn
  · intro k hk
    exact hi k (by simpa [Mm.take] using hk)

theorem ixa_last {l : List Nat} {x : Nat} : ixa (l ++ [x]) ((l ++ [x]).length - 1) = x := by simp [ixa]
theorem fine_new : Mm.fine Mm.new := fun c hc => by simp [Mm.new] at hc
theorem fine_make {s : Mm} (h : s.fine) (hi : ∀ c, s.cells.length ≤ c → ix s.log c = []) (x : Int) : (s.make x).fine := by
  intro c hc
  have hc' : c < s.cells.length + 1 := by simpa [Mm.make] using hc
  by_cases e : c = s.cells.length
  · subst e
    show _ = behv (s.make x) _ (ix s.log s.cells.length).length
    rw [hi _ (Nat.le_refl _)]
    simp [behv, Mm.make, ca]
  · have e1 : ca (s.make x).cells c = ca s.cells c := by
      simp only [Mm.make, ca, List.getD_eq_getElem?_getD]; rw [List.getElem?_append_left (by omega)]
    have e2 : behv (s.make x) c (ix s.log c).length = behv s c (ix s.log c).length := by
      unfold behv; rw [e1]; rfl
    rw [e1]
    exact (h c (by omega)).trans e2.symm
theorem fine_begin {s : Mm} (h : s.fine) (st th : Int) : (s.begin st th).fine := fun c hc => h c hc
theorem fine_take {s : Mm} (h : s.fine) {c : Nat} (hc : c < s.cells.length) (kind wrote : Int) (done : Bool) : (s.take kind c wrote done).fine := by
  intro k hk
  have hk' : k < s.cells.length := by simpa [Mm.take] using hk
  have e0 : ca (s.take kind c wrote done).cells k = if k = c then ((ca s.cells c).1, wrote) else ca s.cells k := ca_set' hc
  have e1 : ix (s.take kind c wrote done).log k = ix s.log k ++ (if (c : Int) = (k : Int) then [s.log.length] else []) := ix_snoc _ _ _
  unfold behv
  rw [e0, e1]
  by_cases e : k = c
  · subst e
    rw [if_pos rfl, if_pos rfl, if_neg (by simp), ixa_last]
    show wrote = (ra (s.log ++ [_]) s.log.length).wrote
    rw [ra_last']; rfl
  · have e2 : ¬ (c : Int) = (k : Int) := fun e' => e (by omega)
    rw [if_neg e, if_neg e2, List.append_nil]
    have := h k hk'
    unfold behv at this
    rw [this]
    by_cases e3 : (ix s.log k).length = 0
    · rw [if_pos e3, if_pos e3]
    · rw [if_neg e3, if_neg e3]
      show _ = (ra (s.log ++ [_]) _).wrote
      rw [ra_left' (ix_mem (ixa_mem (by omega))).1]

theorem Mm.begin_sane {s : Mm} {st th : Int} (h : s.may st th = true) : (s.begin st th).sane := fun _ => by
  simp only [Mm.may, Bool.and_eq_true, decide_eq_true_eq] at h
  exact h.1.1
end Go.Proofs.YtaikngpgmcpecaaGreat
