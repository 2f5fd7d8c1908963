import Derived.Test.YtpdhjokbhofglaaApB
import Derived.Test.YtpdhjokbhofglaaCelBK
import Derived.Test.YtpdhjokbhofglaaCelTailK
import Derived.Test.YtpdhjokbhofglaaRoundAny
import Derived.RangeFuncBox
namespace Go.Proofs.Ytpdhjokbhofglaa
open Go.RowKit Go.Shelf
section
variable {w0 w : World} {R : Nat → Prop} {mb : Nat} {s : Mm}
/-- Add, and what stood in the log's rows stands there still. -/
theorem paddk (h : MP w0 R w mb s) {c : Nat} (hc : c < s.cells.length) (hfr : s.free = true) (hlog : (s.log.length + 1) * 56 ≤ 140737488355328) (u : Int) :
    Calls Try.prog 10 #[.pointer (some ⟨mb, 0, none⟩), .int .i64 (c : Int), .int .i64 u] w fun e w' =>
      e = .returned (.tuple #[.int .i64 (ca s.cells c).2, .int .i64 0]) ∧ (MP w0 R w' mb (s.take 3 c (wrap64 ((ca s.cells c).2 + u)) true) ∧ KP w0 R w w') ∧ ∀ a cap, w.cell? ⟨mb, 1, none⟩ = some (.slice a s.log.length cap) → KR a s.log.length w w' := by
  obtain ⟨F, h, hF, hk, hR⟩ := h
  refine (addk_ok h hc hfr hlog u).mono ?_
  rintro e w' ⟨rfl, ⟨F', h', l⟩, ok⟩
  exact ⟨rfl, MP.next h hF hk hR h' l, fun a cap e g ea o u ho hc => ok _ e g (by rw [ea]; rfl) o u ho hc⟩
end
theorem KR.refl (a : Option Addr) (n : Nat) (W : World) : KR a n W W := fun _ _ _ _ _ h => h
theorem KR.trans {a : Option Addr} {n : Nat} {A B C : World} (h : KR a n A B) (k : KR a n B C) : KR a n A C := fun g e o u ho hc => k g e o u ho (h g e o u ho hc)
theorem KR.of {a : Option Addr} {n : Nat} {A B : World} {S : Nat → Prop} (k : Keeps S A B) (hS : ∀ g, a = some ⟨g, 0, none⟩ → ¬ S g) : KR a n A B := fun g e _ _ _ hc => k.cell hc (hS g e)
theorem bx_keeps {S : Nat → Prop} {W W' : World} {B : Nat} {t : TypeId} {v : Value} (h : Boxed W B t v) (k : Keeps S W W') (hn : ¬ S B) : Boxed W' B t v := (k.block B h.lt hn).trans h
theorem store_func (W : World) (t : TypeId) (fn : Fn) (first cp : Array Value) : (store ⟨W.heap.size, 0, none⟩ (.func fn first cp)).run Try.prog (W.alloc (.cells #[Value.nilFunc] t)) = .ok () (W.alloc (.cells #[.func fn first cp] t)) := by
  rw [run_store _ _ _ _ _ rfl]
  simp [go_sem]
/-- What the acts leave. -/
structure GA (s : Mm) (k : Nat) : Prop where
  c3 : s.cells.length = 3
  st : s.begun = true → s.step < k
  ln : s.log.length ≤ k
theorem GA.may {s : Mm} {k : Nat} (h : GA s k) : s.may (k : Int) 0 = true := by
  have := h.st
  unfold Mm.may
  cases hb : s.begun
  · simp
  · have := this hb; simp; omega
theorem GA.skip {s : Mm} {k : Nat} (h : GA s k) (th : Int) : GA (s.begin (k : Int) th) (k + 1) :=
  ⟨h.c3, fun _ => by show (k : Int) < _; omega, Nat.le_succ_of_le h.ln⟩
theorem GA.take {s : Mm} {k : Nat} (h : GA s k) (th kd : Int) (c : Nat) (v : Int) (d : Bool) : GA ((s.begin (k : Int) th).take kd c v d) (k + 1) :=
  ⟨by simpa [Mm.take, Mm.begin] using h.c3, fun _ => by show (k : Int) < _; omega, by have := h.ln; simp [Mm.take, Mm.begin]; omega⟩
/-- Whatever is asked. -/
theorem pasked {w0 w : World} {R : Nat → Prop} {mb : Nat} {s : Mm} {k : Nat} (h : MP w0 R w mb (s.begin (k : Int) 0)) (hg : GA s k) (hk : k ≤ 1048576) (q : Ac) :
    Calls Try.prog 7 #[.pointer (some ⟨mb, 0, none⟩), .agg #[.int .i64 q.kind, .int .i64 q.c, .int .i64 q.x, .int .i64 q.y]] w fun e w' => ∃ x y s', e = .returned (.tuple #[.int .i64 x, .int .i64 y]) ∧ GA s' (k + 1) ∧ MP w0 R w' mb s' ∧ KP w0 R w w' := by
  have hp4 := pl_lt q.c
  by_cases h3 : pl q.c = 3
  · refine (pask_no h q (by rw [h3]; simp [Mm.there, Mm.begin, hg.c3])).mono ?_
    rintro e w' ⟨rfl, hM, k⟩
    exact ⟨_, _, _, rfl, hg.skip 0, hM, k⟩
  · refine (pask_ok h q (by show pl q.c < s.cells.length; rw [hg.c3]; omega) rfl (by have := hg.ln; show (s.log.length + 1) * 56 ≤ _; omega)).mono ?_
    rintro e w' ⟨rfl, hM, k⟩
    exact ⟨_, _, _, rfl, hg.take 0 _ _ _ _, hM, k⟩
end Go.Proofs.Ytpdhjokbhofglaa
