import Derived.Test.YtblcjohhelokkabGreatDoorMdF
import Derived.Laws.CopyRow
import Derived.Laws.IdiomCopy
import Derived.Deep.OwnRows
namespace Go.Proofs.YtblcjohhelokkabGreatDoor
open Go.RowKit
attribute [local go_sem] Oper.semAt_some run_store_nf run_store_f
theorem i64sizeM : (Tryz.prog.info? 2).map (·.size) = some 1 := by kernel_rfl
theorem i64infoM : (Tryz.prog.info? 2).map (fun i => (i.zero, i.size, i.bytes)) = some (some (.int .i64 0), 1, 8) := by kernel_rfl
/-- Numbers as cells. -/
def nvs (l : List Int) : List Value := l.map fun x => .int .i64 x
theorem CL.ofRow {W : World} {b : Nat} {l : List Value} {t : TypeId} (h : W.heap[b]? = some (.cells l.toArray t (0, 0))) : CL W b l :=
  ⟨fun o v e => by simp [World.cell?, h, e], fun o _ => by simp [World.frozen?, h]⟩
theorem copied {w : World} {B : Nat} {a : Option Addr} {os : List Int} (cap : Nat) (hO : OBJ w B a os) : ∃ W2, (Builtin.copy_ #[23, 23] 3 #[.slice (some ⟨w.heap.size, 0, none⟩) os.length os.length, .slice a os.length cap]).run Tryz.prog (w.alloc (.cells (madeCells #[.int .i64 0] os.length) 2)) = .ok (.int .i64 (os.length : Int)) W2 ∧ CL W2 w.heap.size (nvs os) ∧ Keeps (fun _ => False) w W2 ∧ W2.heap.size = w.heap.size + 1 := by
  cases os with
  | nil =>
    refine ⟨_, run_copy_none (P := Tryz.prog) _ _ _ _ 2 _ _ _ _ _ _ Tryz.underlying23 i64sizeM rfl, ⟨fun o v e => by simp [nvs] at e, fun o h => absurd h (Nat.not_lt_zero _)⟩, (Keeps.refl _ w).alloc _, by simp⟩
  | cons y ys =>
    generalize hos : y :: ys = os at *
    have hlen : 0 < os.length := by rw [← hos]; simp
    obtain ⟨b, off, rfl, hb, hc⟩ := hO 0 _ (List.getElem?_eq_getElem hlen)
    have hsrc : ∀ j v, (nvs os)[j]? = some v → w.cell? ⟨b, off + j, none⟩ = some v := fun j v e => by
      unfold nvs at e
      rw [List.getElem?_map] at e
      cases hx : os[j]? with
      | none => rw [hx] at e; cases e
      | some x =>
        rw [hx] at e
        cases e
        obtain ⟨b', off', e', _, hc'⟩ := hO j x hx
        cases e'
        exact hc'
    have hnl : (nvs os).length = os.length := by unfold nvs; simp
    have K0 : Keeps (fun _ => False) w (w.alloc (.cells (madeCells #[.int .i64 0] os.length) 2)) := (Keeps.refl _ w).alloc _
    have hrow : (w.alloc (.cells (madeCells #[.int .i64 0] os.length) 2)).heap[w.heap.size]? = some (.cells (madeCells #[.int .i64 0] os.length) 2 (0, 0)) := heap_alloc_new w _
    have hms : (madeCells #[Value.int .i64 0] os.length).size = os.length := by simp [size_madeCells]
    have := run_copy_row (P := Tryz.prog) (w.alloc (.cells (madeCells #[.int .i64 0] os.length) 2)) 23 23 3 2 w.heap.size 0 os.length os.length ⟨b, off, none⟩ os.length cap (madeCells #[.int .i64 0] os.length) 2 (nvs os) Tryz.underlying23 i64sizeM hrow (by rw [hnl]; exact (Nat.min_self _).symm) (fun j v e => by have := K0.cell (hsrc j v e) (fun e => e); by_cases e0 : j = 0 <;> simpa [Addr.add, e0] using this) (by rw [hnl, hms]; omega) (fun u hu => by
      unfold nvs at hu
      obtain ⟨x, _, rfl⟩ := List.mem_map.1 hu
      rfl)
    rw [hnl] at this
    refine ⟨_, this, ?_, ?_, by simp⟩
    · apply CL.ofRow (t := 2)
      rw [setRow_heap _ _ _ _ _ _ hrow]
      have e0 : (madeCells #[Value.int .i64 0] os.length).toList.take 0 ++ nvs os ++ (madeCells #[Value.int .i64 0] os.length).toList.drop (0 + os.length) = nvs os := by
        rw [List.drop_eq_nil_of_le (by simp [hms])]
        simp
      rw [e0]
    · exact ⟨K0.os, K0.tape, K0.output, by simp, fun k hk hS => by
        rw [setRow_other _ _ _ _ (by omega)]
        exact K0.block k hk hS⟩
/-- What a run leaves. -/
def lft (os : List Int) (s : Rs) (k : Nat) : List Int := (List.range os.length).map fun i => if i < k ∧ s.oc = 1 ∧ s.st i = 2 then s.nm i else os.getD i 0
theorem lft_len (os : List Int) (s : Rs) (k : Nat) : (lft os s k).length = os.length := by unfold lft; simp
theorem lft_0 (os : List Int) (s : Rs) : lft os s 0 = os := by
  unfold lft
  apply List.ext_getElem (by simp)
  intro i h1 h2
  simp [h2]
theorem lft_no (os : List Int) (s : Rs) (k : Nat) (h : ¬ s.oc = 1) : lft os s k = os := by
  unfold lft
  apply List.ext_getElem (by simp)
  intro i h1 h2
  simp [h2, h]
theorem lft_same (os : List Int) (s : Rs) {k : Nat} (h : ¬ s.st k = 2) : lft os s (k + 1) = lft os s k := by
  unfold lft
  refine List.map_congr_left fun i _ => ?_
  by_cases e : i = k
  · subst e
    rw [if_neg (fun e => h e.2.2), if_neg (fun e => h e.2.2)]
  · have : (i < k + 1 ∧ s.oc = 1 ∧ s.st i = 2) ↔ (i < k ∧ s.oc = 1 ∧ s.st i = 2) := ⟨fun h => ⟨by omega, h.2⟩, fun h => ⟨by omega, h.2⟩⟩
    simp only [this]
theorem lft_set (os : List Int) (s : Rs) {k : Nat} (h1 : s.oc = 1) (h : s.st k = 2) : nvs (lft os s (k + 1)) = (nvs (lft os s k)).set k (.int .i64 (s.nm k)) := by
  unfold nvs
  rw [← List.map_set (f := fun x : Int => Value.int .i64 x)]
  congr 1
  apply List.ext_getElem (by simp [lft])
  intro i h2 h3
  by_cases e : k = i
  · subst e
    rw [List.getElem_set_self]
    simp [lft, h1, h]
  · rw [List.getElem_set_ne e]
    simp only [lft, List.getElem_map, List.getElem_range]
    have : (i < k + 1 ∧ s.oc = 1 ∧ s.st i = 2) ↔ (i < k ∧ s.oc = 1 ∧ s.st i = 2) := ⟨fun h => ⟨by omega, h.2⟩, fun h => ⟨by omega, h.2⟩⟩
    simp only [this]
end Go.Proofs.YtblcjohhelokkabGreatDoor
