import Derived.Test.YtekalkjghfghhabCelF
namespace Go.Proofs.Ytekalkjghfghhab
open Go.RowKit

/-- The racers' array, in block R. -/
structure RC (w : World) (R : Nat) (won : Nat) : Prop where
  all : ∀ k, k < 4 → ∃ (ld : Bool) (sw wn : Int), w.cell? ⟨R, k * 3, none⟩ = some (.bool ld) ∧ w.cell? ⟨R, k * 3 + 1, none⟩ = some (.int .i64 sw) ∧ w.cell? ⟨R, k * 3 + 2, none⟩ = some (.int .i64 wn) ∧ (ld = true → sw = 12 + wn ∧ 0 ≤ wn ∧ wn ≤ (won : Int))
  fr : ∀ o, w.frozen? ⟨R, o, none⟩ = false
theorem RC.mono {w : World} {R won won' : Nat} (h : RC w R won) (hw : won ≤ won') : RC w R won' :=
  ⟨fun k hk => by obtain ⟨ld, sw, wn, c0, c1, c2, h⟩ := h.all k hk; exact ⟨ld, sw, wn, c0, c1, c2, fun e => by have := h e; omega⟩, h.fr⟩
theorem RC.kp {w0 w w' : World} {R won : Nat} (h : RC w R won) (hl : R < w.heap.size) (k : KP w0 (fun b => b = R) w w') : RC w' R won :=
  ⟨fun j hj => by obtain ⟨ld, sw, wn, c0, c1, c2, h⟩ := h.all j hj; exact ⟨ld, sw, wn, k.cell c0 rfl, k.cell c1 rfl, k.cell c2 rfl, h⟩, fun o => (k.frozen (p := ⟨R, o, none⟩) hl rfl).trans (h.fr o)⟩
theorem RC.set {w : World} {R won k : Nat} (h : RC w R won) (hk : k < 4) (ld : Bool) (sw wn : Int) (hq : ld = true → sw = 12 + wn ∧ 0 ≤ wn ∧ wn ≤ (won : Int)) :
    RC (((w.setCell ⟨R, k * 3, none⟩ (.bool ld)).setCell ⟨R, k * 3 + 1, none⟩ (.int .i64 sw)).setCell ⟨R, k * 3 + 2, none⟩ (.int .i64 wn)) R won := by
  refine ⟨fun j hj => ?_, fun o => by simp only [World.frozen?_setCell]; exact h.fr o⟩
  by_cases e : j = k
  · subst e
    obtain ⟨_, _, _, c0, c1, c2, _⟩ := h.all j hj
    refine ⟨ld, sw, wn, ?_, ?_, ?_, hq⟩
    · rw [World.cell?_setCell_other _ _ _ _ (by simp), World.cell?_setCell_other _ _ _ _ (by simp)]; exact World.cell?_setCell_same _ _ _ c0
    · rw [World.cell?_setCell_other _ _ _ _ (by simp)]; exact World.cell?_setCell_same _ _ _ (by rw [World.cell?_setCell_other _ _ _ _ (by simp)]; exact c1)
    · exact World.cell?_setCell_same _ _ _ (by rw [World.cell?_setCell_other _ _ _ _ (by simp), World.cell?_setCell_other _ _ _ _ (by simp)]; exact c2)
  · obtain ⟨ld', sw', wn', c0, c1, c2, h'⟩ := h.all j hj
    have o : ∀ a b v, a < 3 → b < 3 → ∀ W : World, (W.setCell ⟨R, k * 3 + b, none⟩ v).cell? ⟨R, j * 3 + a, none⟩ = W.cell? ⟨R, j * 3 + a, none⟩ := fun a b v ha hb W => World.cell?_setCell_other _ _ _ _ (by intro e; injection e with _ e2; omega)
    have o0 := o 0 0; have o1 := o 0 1; have o2 := o 0 2
    have p0 := o 1 0; have p1 := o 1 1; have p2 := o 1 2
    have q0 := o 2 0; have q1 := o 2 1; have q2 := o 2 2
    simp only [Nat.add_zero] at o0 o1 o2 p0 q0
    refine ⟨ld', sw', wn', ?_, ?_, ?_, h'⟩
    · rw [o2 _ (by omega) (by omega), o1 _ (by omega) (by omega), o0 _ (by omega) (by omega)]; exact c0
    · rw [p2 _ (by omega) (by omega), p1 _ (by omega) (by omega), p0 _ (by omega) (by omega)]; exact c1
    · rw [q2 _ (by omega) (by omega), q1 _ (by omega) (by omega), q0 _ (by omega) (by omega)]; exact c2
theorem RC.off {w : World} {R won k : Nat} (h : RC w R won) (hk : k < 4) : RC (w.setCell ⟨R, k * 3, none⟩ (.bool false)) R won := by
  refine ⟨fun j hj => ?_, fun o => by simp only [World.frozen?_setCell]; exact h.fr o⟩
  obtain ⟨ld', sw', wn', c0, c1, c2, h'⟩ := h.all j hj
  have c1' : (w.setCell ⟨R, k * 3, none⟩ (.bool false)).cell? ⟨R, j * 3 + 1, none⟩ = some (.int .i64 sw') := by rw [World.cell?_setCell_other _ _ _ _ (by intro e; injection e with _ e2; omega)]; exact c1
  have c2' : (w.setCell ⟨R, k * 3, none⟩ (.bool false)).cell? ⟨R, j * 3 + 2, none⟩ = some (.int .i64 wn') := by rw [World.cell?_setCell_other _ _ _ _ (by intro e; injection e with _ e2; omega)]; exact c2
  by_cases e : j = k
  · subst e
    exact ⟨false, sw', wn', World.cell?_setCell_same _ _ _ c0, c1', c2', fun e => by cases e⟩
  · exact ⟨ld', sw', wn', by rw [World.cell?_setCell_other _ _ _ _ (by intro e; injection e with _ e2; omega)]; exact c0, c1', c2', h'⟩

/-- The memory of the race. -/
structure RS (s : Mm) (won i : Nat) : Prop where
  len : s.cells.length = 3
  v : (ca s.cells 2).2 = 12 + (won : Int)
  log : s.log.length ≤ i
  stp : s.begun = true → s.step < (i : Int)
theorem RS.may {s : Mm} {won i : Nat} (h : RS s won i) {th : Int} (hth : 0 ≤ th) : s.may (i : Int) th = true := by
  have := h.stp
  simp only [Mm.may]
  cases hb : s.begun with
  | false => simp [hth]
  | true => have := this hb; simp [hth]; omega
theorem RS.take {s : Mm} {won i : Nat} (h : RS s won i) (won' : Nat) (th : Int) (kind : Int) (d : Bool) : RS ((s.begin i th).take kind 2 (12 + (won' : Int)) d) won' (i + 1) := by
  have hl := h.len
  refine ⟨by simp [Mm.take, Mm.begin, h.len], ?_, ?_, ?_⟩
  · simp [Mm.take, Mm.begin, ca, List.getD_eq_getElem?_getD, hl]
  · have := h.log; simp [Mm.take, Mm.begin]; omega
  · intro _; simp [Mm.take, Mm.begin]; omega

end Go.Proofs.Ytekalkjghfghhab
