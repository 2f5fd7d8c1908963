import Derived.Test.YtepolcnplchfbaaDrawsNext
import Derived.Laws.CopyOwn
import Derived.Laws.IdiomCopy
import Derived.Laws.CopyRow
import Derived.Deep.OwnRows
namespace Go.Proofs.Ytepolcnplchfbaa
open Go.ChangeShapes Go.WideShapes Go.ChangeAt Go.RowKit

/-- Numbers that came in: none, or a row of cells. -/
def IsRaw (w : World) (a : Option Addr) (len : Nat) (x : Nat → Int) : Prop :=
  len = 0 ∨ ∃ b off, a = some ⟨b, off, none⟩ ∧ b < w.heap.size ∧ ∀ i, i < len → w.cell? ⟨b, off + i, none⟩ = some (.int .i64 (x i))
theorem IsRaw.step {w w' : World} {a : Option Addr} {len : Nat} {x : Nat → Int} (h : IsRaw w a len x) (hb : Below w.heap.size w w') : IsRaw w' a len x := by
  rcases h with h | ⟨b, off, e, hlt, hc⟩
  · exact .inl h
  · exact .inr ⟨b, off, e, Nat.lt_of_lt_of_le hlt hb.size, fun i hi => by rw [hb.cell (p := ⟨b, off + i, none⟩) hlt]; exact hc i hi⟩

theorem i64size : (Try.prog.info? 2).map (·.size) = some 1 := by kernel_rfl
theorem i64info : (Try.prog.info? 2).map (fun i => (i.zero, i.size, i.bytes)) = some (some (.int .i64 0), 1, 8) := by kernel_rfl
theorem add_at (b off n : Nat) : (⟨b, off, none⟩ : Addr).add n = ⟨b, off + n, none⟩ := by
  unfold Addr.add; split <;> simp_all
theorem cell_of_block {w : World} {b i : Nat} {c : Array Value} {t : TypeId} {fr : Nat × Nat} (h : w.heap[b]? = some (.cells c t fr)) : w.cell? ⟨b, i, none⟩ = c[i]? := by simp [World.cell?, h]
theorem alloc_cell (w : World) (c : Array Value) (t : TypeId) (i : Nat) : (w.alloc (.cells c t)).cell? ⟨w.heap.size, i, none⟩ = c[i]? := cell_of_block (MapKept.heap_alloc w _).1
theorem alloc_free (w : World) (c : Array Value) (t : TypeId) (i : Nat) : (w.alloc (.cells c t)).frozen? ⟨w.heap.size, i, none⟩ = false := by
  rw [frozen?_alloc_cells]; simp [World.frozen?]
/-- The copy of the raw numbers into the row that was just made. -/
theorem copy_raw {w : World} {a : Option Addr} {len cap : Nat} {x : Nat → Int} (h : IsRaw w a len x) :
    ∃ W2, (∀ ty, (Builtin.copy_ #[25, 25] ty #[.slice (some ⟨w.heap.size, 0, none⟩) len len, .slice a len cap]).run Try.prog (w.alloc (.cells (madeCells #[.int .i64 0] len) 2)) = .ok (goInt len) W2) ∧
      W2.heap.size = w.heap.size + 1 ∧ Below w.heap.size w W2 ∧ ∀ i, i < len → W2.cell? ⟨w.heap.size, i, none⟩ = some (.int .i64 (x i)) := by
  rcases h with h | ⟨b, off, rfl, hlt, hc⟩
  · subst h
    refine ⟨w.alloc (.cells (madeCells #[.int .i64 0] 0) 2), fun ty => ?_, by simp, (Below.refl _ _).alloc (Nat.le_refl _) _, fun i hi => absurd hi (by omega)⟩
    exact run_copy_none (P := Try.prog) _ _ _ ty 2 _ _ _ _ _ _ Try.underlying25 i64size rfl
  · have hg : (w.alloc (.cells (madeCells #[.int .i64 0] len) 2)).heap[w.heap.size]? = some (.cells (madeCells #[.int .i64 0] len) 2 (0, 0)) := (MapKept.heap_alloc w _).1
    obtain ⟨L, hlen, hget, hone⟩ : ∃ L : List Value, L.length = len ∧ (∀ i, i < len → L[i]? = some (.int .i64 (x i))) ∧ ∀ v ∈ L, v.oneCell' = true := by
      refine ⟨(List.range len).map fun i => Value.int .i64 (x i), by simp, fun i hi => by rw [List.getElem?_map, List.getElem?_range hi]; rfl, fun v hv => ?_⟩
      simp at hv
      obtain ⟨i, _, rfl⟩ := hv
      rfl
    have hrun := fun ty => run_copy_row (P := Try.prog) (w.alloc (.cells (madeCells #[.int .i64 0] len) 2)) 25 25 ty 2 w.heap.size 0 len len ⟨b, off, none⟩ len cap (madeCells #[.int .i64 0] len) 2 L
      Try.underlying25 i64size hg (by rw [hlen]; simp) (fun j v hj => by
        by_cases hjl : j < len
        · rw [hget j hjl] at hj
          rw [add_at, ((Below.refl _ w).alloc (Nat.le_refl _) _).cell (p := ⟨b, off + j, none⟩) hlt, hc j hjl, ← hj]
        · rw [List.getElem?_eq_none (by omega)] at hj
          simp at hj) (by rw [hlen, size_madeCells]; omega) hone
    refine ⟨_, fun ty => (hrun ty).trans (congrArg (fun n => Result.ok (goInt ((n : Nat) : Int)) _) hlen), ?_, ?_, fun i hi => ?_⟩
    · simp [World.setRow]
    · exact below_setRow ((Below.refl _ _).alloc (Nat.le_refl _) _) (Nat.le_refl _) _
    · rw [cell_of_block (setRow_heap _ w.heap.size (madeCells #[.int .i64 0] len) _ 2 (0, 0) hg)]
      have e : ((madeCells #[.int .i64 0] len).toList.take 0 ++ L ++ (madeCells #[.int .i64 0] len).toList.drop (0 + L.length)).toArray[i]? = L[i]? := by
        rw [List.getElem?_toArray, List.take_zero, List.nil_append, List.getElem?_append_left (by omega)]
      rw [e, hget i hi]

set_option maxHeartbeats 1000000 in
theorem newDraws_any {w : World} {a : Option Addr} {len cap : Nat} {x : Nat → Int} (h : IsRaw w a len x) (hl : len ≤ 17592186044416) :
    Calls Try.prog 6 #[.slice a len cap] w fun e w' => e = .returned (.pointer (some ⟨w.heap.size + 1, 0, none⟩)) ∧ w'.heap.size = w.heap.size + 2 ∧ IsDr w' (w.heap.size + 1) w.heap.size len x 0 ∧ Below w.heap.size w w' := by
  have hmk := fun W => run_make_row' (P := Try.prog) 25 2 (.int .i64 0) 8 Try.underlying25 i64info rfl .i64 .i64 len (by omega) (by omega) W
  obtain ⟨W2, hrun, hsz, hb, hc⟩ := copy_raw (cap := cap) h
  have HC : Hid (∀ i, i < len → W2.cell? ⟨w.heap.size, i, none⟩ = some (.int .i64 (x i))) := hc
  have HB : Hid (Below w.heap.size w W2) := hb
  have hrun' := hrun 3
  have HS : Hid (W2.heap.size = w.heap.size + 1) := hsz
  clear hc hb h hrun hsz
  go_enter Try.func6, Try.ntmps6
  go_wp2
  go_ret
  have hs := HS.out
  have hb2 : Below w.heap.size w (W2.alloc (.cells #[.slice (some ⟨w.heap.size, 0, none⟩) len len, .int .i64 0] 37)) := HB.out.alloc (by omega) _
  refine ⟨?_, ?_, ⟨?_, ?_, ?_, ?_, Nat.zero_le _, by omega⟩, hb2⟩
  · show Ending.returned (.pointer (some ⟨W2.heap.size, 0, none⟩)) = _
    rw [hs]
  · show (W2.heap.push _).size = _
    simp [hs]
  · rw [← hs]; exact alloc_cell W2 _ _ 0
  · rw [← hs]; exact alloc_cell W2 _ _ 1
  · rw [← hs]; exact alloc_free W2 _ _ 1
  · intro i hi
    rw [((Below.refl _ W2).alloc (Nat.le_refl _) _).cell (p := ⟨w.heap.size, i, none⟩) (show w.heap.size < W2.heap.size by omega)]
    exact HC.out i hi
end Go.Proofs.Ytepolcnplchfbaa
