import Derived.Test.YthmlppepgcjfgaaGrF
namespace Go.Proofs.Ythmlppepgcjfgaa
open Go.RowKit Go.Deep
attribute [local go_sem] Oper.semAt_some run_store_nf run_store_f
def nms (d : Nat → Nat) : Nat → Value := fun i => .int .i64 (d i : Int)
/-- What away answers. -/
def AwP (g : List Eg) (n a : Nat) (w : World) (e : Ending) (w' : World) : Prop := ∃ d : Nat → Nat, e = .returned (.slice (some ⟨w.heap.size, 0, none⟩) n n) ∧ FB w' w.heap.size n (nms d) ∧ Aw g n a d ∧ AwF g a d ∧ Keeps (fun _ => False) w w'
/-- A place of a pass. -/
structure AwI (g : List Eg) (n a : Nat) (d d' : Nat → Nat) (ag : Bool) (i : Nat) : Prop where
  aw : Aw g n a d'
  f : ag = false → d' = d ∧ ∀ e ∈ g.take i, d e.f ≤ awK a d e
  t : ag = true → sm d' n < sm d n
theorem AwI.le {g : List Eg} {n a : Nat} {d d' : Nat → Nat} {ag : Bool} {i : Nat} (h : AwI g n a d d' ag i) : sm d' n ≤ sm d n := by
  cases ag with
  | true => exact Nat.le_of_lt (h.t rfl)
  | false => rw [(h.f rfl).1]; exact Nat.le_refl _
theorem AwI.stay {g : List Eg} {n a : Nat} {d d' : Nat → Nat} {ag : Bool} {i : Nat} (h : AwI g n a d d' ag i) (hi : i < g.length) (hl : ¬ awK a d' (g.getD i eg0) < d' (g.getD i eg0).f) : AwI g n a d d' ag (i + 1) :=
  ⟨h.aw, fun q => by
    obtain ⟨e, h2⟩ := h.f q
    refine ⟨e, fun c hc => ?_⟩
    rw [take_eg hi] at hc
    rcases List.mem_append.1 hc with hc | hc
    · exact h2 c hc
    · simp only [List.mem_singleton] at hc
      subst hc
      rw [← e]
      omega, h.t⟩
theorem AwI.go {g : List Eg} {n a : Nat} {d d' : Nat → Nat} {ag : Bool} {i : Nat} (h : AwI g n a d d' ag i) (hn : Bln g n) (hi : i < g.length) (hl : awK a d' (g.getD i eg0) < d' (g.getD i eg0).f) : AwI g n a d (upD d' (g.getD i eg0).f (awK a d' (g.getD i eg0))) true (i + 1) :=
  ⟨h.aw.next hn (eg_at hi).2 hl, (fun q => by cases q), fun _ => by
    have h1 := (sm_up hl n).1 (hn _ (eg_at hi).2).1
    have h2 := h.le
    omega⟩
theorem fb_upD {w : World} {b n : Nat} {d : Nat → Nat} {x k : Nat} (h : FB w b n (upV (nms d) x (.int .i64 (k : Int)))) : FB w b n (nms (upD d x k)) := h.congr (fun i _ => by unfold upV nms upD; split <;> rfl)
end Go.Proofs.Ythmlppepgcjfgaa
