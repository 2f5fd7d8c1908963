import Derived.Test.YtaikngpgmcpecaaGreatRefCelG
namespace Go.Proofs.YtaikngpgmcpecaaGreat
open Go.RowKit
/-- What holds of a memory at every time. -/
structure Mm.fit (s : Mm) : Prop where
  fine : s.fine
  live : s.free = true → s.begun = true
  sane : s.sane
  last : ∀ c, s.cells.length ≤ c → ix s.log c = []
section
variable {w : World} {rb : Nat} {s : Mm} {B : Nat → Prop}
theorem fit_new : Mm.fit Mm.new := ⟨fine_new, (fun e => by cases e), (fun e => by cases e), fun c _ => rfl⟩
theorem Mm.fit.make (h : s.fit) (x : Int) : (s.make x).fit := ⟨fine_make h.fine h.last x, h.live, h.sane, fun c hc => h.last c (by simp [Mm.make] at hc; omega)⟩
theorem Mm.fit.begin (h : s.fit) {st th : Int} (hm : s.may st th = true) : (s.begin st th).fit := ⟨fine_begin h.fine st th, fun _ => rfl, Mm.begin_sane hm, h.last⟩
theorem Mm.fit.take (h : s.fit) {c : Nat} (hc : c < s.cells.length) (k wrote : Int) (d : Bool) : (s.take k c wrote d).fit := by
  refine ⟨fine_take h.fine hc k wrote d, fun e => by simp [Mm.take] at e, h.sane, fun c' hc' => ?_⟩
  have hl : (s.take k c wrote d).cells.length = s.cells.length := by simp [Mm.take]
  rw [hl] at hc'
  have e : (s.take k c wrote d).log = s.log ++ [s.row k c wrote d] := rfl
  rw [e, ix_snoc, h.last c' hc', List.nil_append, if_neg]
  intro q
  have : ((c : Nat) : Int) = (c' : Int) := q
  omega
theorem rload_fit (h : RI w rb s B) (hg : s.fit) {c : Nat} (hc : c < s.cells.length) (hf : s.free = true) (hl : (s.log.length + 1) * 56 ≤ 140737488355328) :
    Calls Tryz.prog 83 #[.pointer (some ⟨rb, 0, none⟩), .int .i64 (c : Int)] w fun e w' => e = .returned (.tuple #[.int .i64 (ca s.cells c).2, .int .i64 0]) ∧ ∃ B', RI w' rb (s.load c) B' ∧ LeftP w w' B B' := by
  refine (rload_ok h hc hf (hg.live hf) hl).mono ?_
  rw [← hg.fine c hc]
  rintro e w' ⟨rfl, B', h1, l⟩
  exact ⟨rfl, B', h1.took' rfl, l⟩
theorem rswap_fit (h : RI w rb s B) (hg : s.fit) {c : Nat} (hc : c < s.cells.length) (hf : s.free = true) (hl : (s.log.length + 1) * 56 ≤ 140737488355328) (old next : Int) :
    Calls Tryz.prog 98 #[.pointer (some ⟨rb, 0, none⟩), .int .i64 (c : Int), .int .i64 old, .int .i64 next] w fun e w' => e = .returned (.tuple #[.bool (decide ((ca s.cells c).2 = old)), .int .i64 0]) ∧ ∃ B', RI w' rb (s.swap c old next) B' ∧ LeftP w w' B B' := by
  have hv := hg.fine c hc
  unfold Mm.swap
  by_cases eo : (ca s.cells c).2 = old
  · rw [if_pos eo, decide_eq_true eo]
    rw [hv] at eo
    subst eo
    refine (rswap_ok h hc hf (hg.live hf) hl next).mono ?_
    rintro e w' ⟨rfl, B', h1, l⟩
    exact ⟨rfl, B', h1.took' hv, l⟩
  · rw [if_neg eo, decide_eq_false eo]
    rw [hv] at eo ⊢
    refine (rswap_no h hc hf (hg.live hf) hl old next eo).mono ?_
    rintro e w' ⟨rfl, B', h1, l⟩
    exact ⟨rfl, B', h1.took' hv, l⟩
end
end Go.Proofs.YtaikngpgmcpecaaGreat
