import Derived.Test.YtfbbllokpikbiabOqHIQ
import Derived.Laws.EntriesVeiled
namespace Go.Proofs.Ytfbbllokpikbiab
open Go.RowKit Go.Maps

/-- A queue that has been worked with. -/
structure QReady (w : World) (qb : Nat) (v : Value) (pm mb : Nat) (M : Mp) (xs : List It) : Prop where
  hv : Q.HV w qb v xs pm mb xs.length M
  f3 : w.cell? ⟨qb, 3, none⟩ = some (.map (some mb))
  placed : Placed M xs
  only : ∀ k, M k ≠ none → k ∈ ids xs
  nodup : (ids xs).Nodup
  heap : Heap bef xs
  le : xs.length ≤ 4096

/-- The zero Queue. -/
structure QFresh (w : World) (qb : Nat) : Prop where
  c0 : w.cell? ⟨qb, 0, none⟩ = some (.slice none 0 0)
  c1 : w.cell? ⟨qb, 1, none⟩ = some .nilFunc
  c2 : w.cell? ⟨qb, 2, none⟩ = some .nilFunc
  c3 : w.cell? ⟨qb, 3, none⟩ = some (.map none)
  z0 : w.frozen? ⟨qb, 0, none⟩ = false
  z1 : w.frozen? ⟨qb, 1, none⟩ = false
  z2 : w.frozen? ⟨qb, 2, none⟩ = false
  z3 : w.frozen? ⟨qb, 3, none⟩ = false

theorem QReady.lq {w : World} {qb : Nat} {v : Value} {pm mb : Nat} {M : Mp} {xs : List It} (h : QReady w qb v pm mb M xs) : qb < w.heap.size := h.hv.lh
theorem QReady.full {w : World} {qb : Nat} {v : Value} {pm mb : Nat} {M : Mp} {xs : List It} (h : QReady w qb v pm mb M xs) : Full M xs := h.placed.full
theorem QReady.keep {w w' : World} {qb : Nat} {v : Value} {pm mb : Nat} {M : Mp} {xs : List It} (h : QReady w qb v pm mb M xs) {S : Nat → Prop} (hk : Keeps S w w') (hq : ¬ S qb) (hg : ∀ g, v.ownBlock = some g → ¬ S g) (hm : ¬ S mb) (hp : ¬ S pm) : QReady w' qb v pm mb M xs :=
  ⟨h.hv.keep hk hq hg hm hp, hk.cell h.f3 hq, h.placed, h.only, h.nodup, h.heap, h.le⟩
theorem QFresh.keep {w w' : World} {qb : Nat} (h : QFresh w qb) {S : Nat → Prop} (hk : Keeps S w w') (hq : ¬ S qb) : QFresh w' qb :=
  have hl : qb < w.heap.size := World.block_lt_of_cell? _ _ h.c0
  ⟨hk.cell h.c0 hq, hk.cell h.c1 hq, hk.cell h.c2 hq, hk.cell h.c3 hq, (hk.frozen hl hq).trans h.z0, (hk.frozen hl hq).trans h.z1, (hk.frozen hl hq).trans h.z2, (hk.frozen hl hq).trans h.z3⟩

/-- A queue: what it holds, in its heap's order; F: its blocks. -/
def QI (w : World) (qb : Nat) (xs : List It) (F : List Nat) : Prop :=
  (xs = [] ∧ QFresh w qb ∧ F = [qb]) ∨ ∃ v pm mb M, QReady w qb v pm mb M xs ∧ F = qb :: pm :: mb :: v.ownBlock.toList

theorem QI.lt {w : World} {qb : Nat} {xs : List It} {F : List Nat} (h : QI w qb xs F) : ∀ k ∈ F, k < w.heap.size := by
  intro k hk
  rcases h with ⟨_, h, rfl⟩ | ⟨v, pm, mb, M, h, rfl⟩
  · simp at hk; rw [hk]; exact World.block_lt_of_cell? _ _ h.c0
  · simp at hk
    rcases hk with rfl | rfl | rfl | hk
    · exact h.lq
    · exact World.block_lt_of_cell? _ _ h.hv.side.cell
    · exact h.hv.side.map.lt
    · exact owns_lt' h.hv.row k hk
theorem QI.keep {w w' : World} {qb : Nat} {xs : List It} {F : List Nat} (h : QI w qb xs F) {S : Nat → Prop} (hk : Keeps S w w') (hF : ∀ k ∈ F, ¬ S k) : QI w' qb xs F := by
  rcases h with ⟨e, h, rfl⟩ | ⟨v, pm, mb, M, h, rfl⟩
  · exact .inl ⟨e, h.keep hk (hF _ (by simp)), rfl⟩
  · exact .inr ⟨v, pm, mb, M, h.keep hk (hF _ (by simp)) (fun g hg => hF _ (by simp [hg])) (hF _ (by simp)) (hF _ (by simp)), rfl⟩
theorem QI.mem {w : World} {qb : Nat} {xs : List It} {F : List Nat} (h : QI w qb xs F) : qb ∈ F := by
  rcases h with ⟨_, _, rfl⟩ | ⟨v, pm, mb, M, _, rfl⟩ <;> simp
theorem QI.num {w : World} {qb : Nat} {xs : List It} {F : List Nat} (h : QI w qb xs F) : ∀ x ∈ xs, I64 x.1 ∧ I64 x.2 := by
  rcases h with ⟨rfl, _, _⟩ | ⟨v, pm, mb, M, h, _⟩
  · intro x hx; cases hx
  · exact h.hv.num
theorem QI.nodup {w : World} {qb : Nat} {xs : List It} {F : List Nat} (h : QI w qb xs F) : (ids xs).Nodup := by
  rcases h with ⟨rfl, _, _⟩ | ⟨v, pm, mb, M, h, _⟩
  · exact List.nodup_nil
  · exact h.nodup
theorem QI.le {w : World} {qb : Nat} {xs : List It} {F : List Nat} (h : QI w qb xs F) : xs.length ≤ 4096 := by
  rcases h with ⟨rfl, _, _⟩ | ⟨v, pm, mb, M, h, _⟩
  · simp
  · exact h.le

theorem fresh_alloc (w : World) (t : TypeId) : QFresh (w.alloc (.cells #[.slice none 0 0, .nilFunc, .nilFunc, .map none] t)) w.heap.size := by
  constructor <;> simp

set_option maxHeartbeats 800000 in
set_option maxRecDepth 1000000 in
/-- A queue that holds nothing. -/
theorem new_any (w : World) : Calls Try.prog 41 #[] w fun e w' => e = .returned (.pointer (some ⟨w.heap.size, 0, none⟩)) ∧ QI w' w.heap.size [] [w.heap.size] ∧ Keeps (fun _ => False) w w' := by
  go_enter Try.func41, Try.ntmps41
  go_wp2
  go_ret
  exact ⟨rfl, .inl ⟨rfl, fresh_alloc w _, rfl⟩, (Keeps.refl _ w).alloc _⟩

theorem QI.slice {w : World} {qb : Nat} {xs : List It} {F : List Nat} (h : QI w qb xs F) : ∃ a cap, w.cell? ⟨qb, 0, none⟩ = some (.slice a xs.length cap) := by
  rcases h with ⟨rfl, h, _⟩ | ⟨v, pm, mb, M, h, _⟩
  · exact ⟨_, _, h.c0⟩
  · have f0 := h.hv.f0
    rcases h.hv.row.2 with ⟨rfl, h0⟩ | ⟨g, cap, cur, rfl, _⟩
    · exact ⟨none, 0, by rw [h0]; exact f0⟩
    · exact ⟨_, _, f0⟩

set_option maxHeartbeats 800000 in
set_option maxRecDepth 1000000 in
theorem len_any {w : World} {qb : Nat} {xs : List It} {F : List Nat} (h : QI w qb xs F) : Calls Try.prog 44 #[.pointer (some ⟨qb, 0, none⟩)] w fun e w' => e = .returned (.int .i64 xs.length) ∧ w' = w := by
  obtain ⟨a, cap, c⟩ := h.slice
  go_enter Try.func44, Try.ntmps44
  go_wp2
  go_ret
  exact ⟨rfl, rfl⟩

theorem neqMapNil (w : World) : (binOp .neq 91 (.map none) (.map none)).run Try.prog w = .ok (.bool false) w := by kernel_rfl
theorem neqMapSome (mb : Nat) (w : World) : (binOp .neq 91 (.map (some mb)) (.map none)).run Try.prog w = .ok (.bool true) w := by kernel_rfl

set_option maxHeartbeats 800000 in
set_option maxRecDepth 1000000 in
/-- The heap gets what it works with. -/
theorem ready_fresh {w : World} {qb : Nat} (h : QFresh w qb) : Calls Try.prog 51 #[.pointer (some ⟨qb, 0, none⟩)] w fun e w' =>
    e = .returned (.tuple #[]) ∧ QReady w' qb (.slice none 0 0) (w.heap.size + 1) w.heap.size (fun _ => none) [] ∧ Keeps (fun k => k = qb) w w' := by
  have c0 := h.c0
  have c1 := h.c1
  have c2 := h.c2
  have c3 := h.c3
  have z0 := h.z0
  have z1 := h.z1
  have z2 := h.z2
  have z3 := h.z3
  have hq : qb < w.heap.size := World.block_lt_of_cell? _ _ c0
  have hmm := @run_makeMap Try.prog
  have hnq := neqMapNil
  go_enter Try.func51, Try.ntmps51
  go_wp2
  go_end0
  have hu : ∀ (v1 v2 v3 : Value), (((w.setCell ⟨qb, 3, none⟩ v1).setCell ⟨qb, 1, none⟩ v2).setCell ⟨qb, 2, none⟩ v3).heap.size = w.heap.size := fun _ _ _ => by simp
  have ku : ∀ (v1 v2 v3 : Value), Keeps (fun k => k = qb) w (((w.setCell ⟨qb, 3, none⟩ v1).setCell ⟨qb, 1, none⟩ v2).setCell ⟨qb, 2, none⟩ v3) := fun _ _ _ =>
    Keeps.setCell (S := fun k => k = qb) (p := ⟨qb, 2, none⟩) (Keeps.setCell (S := fun k => k = qb) (p := ⟨qb, 1, none⟩) (Keeps.setCell (S := fun k => k = qb) (p := ⟨qb, 3, none⟩) (Keeps.refl _ w) (fun _ => rfl) _) (fun _ => rfl) _) (fun _ => rfl) _
  have hmap : ∀ u : World, u.heap.size = w.heap.size → ∀ o : Obj, MapIs ((u.alloc (.map #[] 0)).alloc o) w.heap.size 0 (fun _ => none) := fun u hs o => by
    refine MapIs.keep (S := fun _ => False) (w := u.alloc (.map #[] 0)) ?_ ((Keeps.refl _ _).alloc _) (fun e => e)
    have := World.ownsMap_made (H := Unit) u Try.prog 3 (plainElem Try.prog 3)
    rw [hs] at this
    exact ⟨_, this, rfl, fun k _ => rfl⟩
  refine ⟨rfl, ⟨⟨?_, ?_, ?_, ?_, World.ownsRow_nil _ _ _ _, ⟨?_, hmap _ (by simp) _, by decide, by omega⟩, ?_, ?_, ?_, by simp⟩, ?_, ?_, ?_, ?_, ?_, by simp⟩, ((ku _ _ _).alloc _).alloc _⟩
  all_goals first
    | (show Heap bef []; intro i h0 h1; exact absurd h1 (by simp))
    | (go_simp; done)
    | (simp [*]; done)
    | (intro g hg; cases hg)
    | (exact ⟨by omega, by omega⟩)
    | (intro x hx; cases hx)
    | (intro p hp; exact absurd hp (by simp))
    | (intro k hk; exact absurd rfl hk)
    | exact List.nodup_nil
    | (rw [World.cell?_alloc_at _ _ _ _ (by simp)]; rfl)

set_option maxHeartbeats 800000 in
set_option maxRecDepth 1000000 in
theorem ready_ready {w : World} {qb mb : Nat} (h : w.cell? ⟨qb, 3, none⟩ = some (.map (some mb))) : Calls Try.prog 51 #[.pointer (some ⟨qb, 0, none⟩)] w fun e w' =>
    e = .returned (.tuple #[]) ∧ w' = w := by
  have hnq := neqMapSome
  go_enter Try.func51, Try.ntmps51
  go_wp2
  (try simp only [Exit.inBlock, Exit.then])
  refine bodyPost_ret (results_none rfl _ _ _) rfl ?_
  exact ⟨rfl, rfl⟩

end Go.Proofs.Ytfbbllokpikbiab
