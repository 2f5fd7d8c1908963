import Derived.Test.YtepolcnplchfbaaRefDraws
import Derived.Deep.RegionHeldLaw
import Derived.Deep.RegionLaw
import Derived.Deep.AppendLies
import Derived.OwnWalk
namespace Go.Proofs.Ytepolcnplchfbaa
open Go.ChangeShapes Go.WideShapes Go.ChangeAt Go.RowKit

theorem owns_other {w w' : World} {base : Nat} {e : TypeId} {size : Nat} {v : Value} {n : Nat} {xs : List Value} (h : w.ownsRow base e size v n xs) (hk : ∀ g, v.ownBlock = some g → w'.heap[g]? = w.heap[g]?) : w'.ownsRow base e size v n xs := by
  refine ⟨h.1, ?_⟩
  rcases h.2 with h0 | ⟨g, cap, cur, rfl, hb, hg, rest⟩
  · exact .inl h0
  · exact .inr ⟨g, cap, cur, rfl, hb, by rw [hk g rfl]; exact hg, rest⟩
theorem owns_base {w : World} {base : Nat} {e : TypeId} {size : Nat} {v : Value} {n : Nat} {xs : List Value} (h : w.ownsRow base e size v n xs) (k : Nat) (hk : v.ownBlock = some k) : base ≤ k := by
  rcases h.2 with ⟨rfl, _⟩ | ⟨g, cap, cur, rfl, hb, hg, rest⟩
  · cases hk
  · cases hk; exact hb
def numsOf (x : Nat → Int) (n : Nat) : List Value := (List.range n).map fun j => .int .i64 (x j)
theorem numsOf_succ (x : Nat → Int) (n : Nat) : numsOf x (n + 1) = numsOf x n ++ [.int .i64 (x n)] := by simp [numsOf, List.range_succ]
theorem owns_raw {w : World} {base : Nat} {e : TypeId} {v : Value} {n : Nat} {x : Nat → Int} (h : w.ownsRow base e 1 v n (numsOf x n)) :
    ∃ a cap, v = .slice a n cap ∧ IsRaw w a n x ∧ ∀ p, a = some p → base ≤ p.block ∧ p.block < w.heap.size := by
  rcases h.2 with ⟨rfl, rfl⟩ | ⟨g, cap, cur, rfl, hb, hg, hn, hm, hs, ht⟩
  · exact ⟨none, 0, rfl, .inl rfl, fun p hp => by cases hp⟩
  · have hgl : g < w.heap.size := by
      rcases Nat.lt_or_ge g w.heap.size with hlt | hge
      · exact hlt
      · rw [Array.getElem?_eq_none hge] at hg; cases hg
    refine ⟨_, cap, rfl, .inr ⟨g, 0, rfl, hgl, fun i hi => ?_⟩, fun p hp => by cases hp; exact ⟨hb, hgl⟩⟩
    · rw [Nat.zero_add, cell_of_block hg]
      have g1 : (cur.toList.take (n * 1))[i]? = (numsOf x n)[i]? := by rw [ht]
      rw [Nat.mul_one, List.getElem?_take_of_lt hi] at g1
      rw [← Array.getElem?_toList, g1]
      simp [numsOf, hi]
/-- The document's NewDraws on its way: D the stream's block, v its list so far. -/
structure Rs (w wr : World) (D : Nat) (v : Value) (i : Nat) (x : Nat → Int) : Prop where
  lt : D < wr.heap.size
  below : Below D w wr
  own : wr.ownsRow (D + 1) 2 1 v i (numsOf x i)
  row : wr.cell? ⟨D, 0, none⟩ = some v
  f0 : wr.frozen? ⟨D, 0, none⟩ = false
  tk : wr.cell? ⟨D, 1, none⟩ = some (.int .i64 0)
  f1 : wr.frozen? ⟨D, 1, none⟩ = false
theorem Rs.start (w : World) (x : Nat → Int) (t : TypeId) : Rs w (w.alloc (.cells #[.slice none 0 0, .int .i64 0] t)) w.heap.size (.slice none 0 0) 0 x :=
  ⟨by simp, (Below.refl _ _).alloc (Nat.le_refl _) _, ⟨rfl, .inl ⟨rfl, rfl⟩⟩, alloc_cell w _ t 0, alloc_free w _ t 0, alloc_cell w _ t 1, alloc_free w _ t 1⟩
theorem Rs.grow {w wr w1 wb : World} {D i g cap : Nat} {v : Value} {x : Nat → Int} (h : Rs w wr D v i x) (hb : Below wr.heap.size wr wb) (hs : wr.heap.size ≤ wb.heap.size) (hg : wb.grownBy w1 v.ownBlock) (ho : w1.ownsRow (D + 1) 2 1 (.slice (some ⟨g, 0, none⟩) (i + 1) cap) (i + 1) (numsOf x i ++ [.int .i64 (x i)])) :
    Rs w (w1.setCell ⟨D, 0, none⟩ (.slice (some ⟨g, 0, none⟩) (i + 1) cap)) D (.slice (some ⟨g, 0, none⟩) (i + 1) cap) (i + 1) x := by
  have hD := h.lt
  have hr : ∀ k, v.ownBlock = some k → D + 1 ≤ k := owns_base h.own
  have hne : some D ≠ v.ownBlock := fun e => by have := hr D e.symm; omega
  have c : ∀ o, w1.cell? ⟨D, o, none⟩ = wr.cell? ⟨D, o, none⟩ := fun o => by rw [hg.cell_far ⟨D, o, none⟩ (by simp; omega) hne, hb.cell (p := ⟨D, o, none⟩) hD]
  have f : ∀ o, w1.frozen? ⟨D, o, none⟩ = wr.frozen? ⟨D, o, none⟩ := fun o => by rw [hg.frozen_far ⟨D, o, none⟩ (by simp; omega) hne, hb.frozen (p := ⟨D, o, none⟩) hD]
  have hgD : D + 1 ≤ g := owns_base ho g rfl
  refine ⟨?_, ?_, ?_, ?_, ?_, ?_, ?_⟩
  · have := hg.size; simp [World.setCell]; omega
  · exact ((h.below.trans (hb.mono (by omega))).grown hg (by omega) (fun k hk => by have := hr k hk; omega)).setCell (Nat.le_refl _) _
  · rw [numsOf_succ]
    exact owns_other ho (fun k hk => by cases hk; exact Below.heap_setCell _ _ _ _ (by simp; omega))
  · exact World.cell?_setCell_same _ _ _ ((c 0).trans h.row)
  · rw [World.frozen?_setCell, f]; exact h.f0
  · rw [World.cell?_setCell_other _ _ _ _ (by intro e; cases e), c]; exact h.tk
  · rw [World.frozen?_setCell, f]; exact h.f1

theorem keep3 {wr : World} {D b o : Nat} {v u : Value} (h : D < wr.heap.size) (hb : b < D) (h1 : wr.cell? ⟨D, 0, none⟩ = some v) (h2 : wr.cell? ⟨b, o, none⟩ = some u) (h3 : wr.frozen? ⟨D, 0, none⟩ = false) (ob : Obj) :
    (wr.alloc ob).drew.cell? ⟨D, 0, none⟩ = some v ∧ (wr.alloc ob).drew.cell? ⟨b, o, none⟩ = some u ∧ (wr.alloc ob).drew.frozen? ⟨D, 0, none⟩ = false :=
  have k : Below wr.heap.size wr (wr.alloc ob).drew := ((Below.refl wr.heap.size wr).alloc (Nat.le_refl _) _).drew
  ⟨(k.cell (p := ⟨D, 0, none⟩) h).trans h1, (k.cell (p := ⟨b, o, none⟩) (Nat.lt_trans hb h)).trans h2, (k.frozen (p := ⟨D, 0, none⟩) h).trans h3⟩
set_option maxRecDepth 100000 in
set_option maxHeartbeats 3200000 in
theorem refNew_any {w : World} {a : Option Addr} {len cap : Nat} {x : Nat → Int} (h : IsRaw w a len x) (hl : len ≤ 17592186044416) :
    Calls Try.prog 7 #[.slice a len cap] w fun e w' => e = .returned (.pointer (some ⟨w.heap.size, 0, none⟩)) ∧ w.heap.size < w'.heap.size ∧ Below w.heap.size w w' ∧ ∃ a' cap', IsRd w' w.heap.size a' cap' len x 0 ∧ ∀ p, a' = some p → w.heap.size + 1 ≤ p.block ∧ p.block < w'.heap.size := by
  have HR : Hid (IsRaw w a len x) := h
  clear h
  obtain ⟨i0, hi0, hz0, hz1, hz2⟩ := info_parts i64info
  go_enter Try.func7, Try.ntmps7
  go_wp2
  go_loopw [4] (fun i wr => ∃ (j : Nat) (v : Value), j ≤ len ∧ i = .int .i64 j ∧ Rs w wr w.heap.size v j x) (fun i _ => len - (intOf i).toNat)
  case atStart => exact ⟨0, _, Nat.zero_le _, rfl, Rs.start w x _⟩
  case round =>
    obtain ⟨j, v, hj, rfl, hst⟩ := hrel
    have H : Hid (Rs w wr w.heap.size v j x) := hst
    have row := hst.row
    have f0 := hst.f0
    have lD := hst.lt
    have hbw := hst.below
    have hr : ∀ k, v.ownBlock = some k → w.heap.size + 1 ≤ k := owns_base hst.own
    clear hst
    by_cases hlt : j < len
    · obtain ⟨bc, oc, rfl, hbc, hcc⟩ := HR.out.resolve_left (by omega)
      have cy := (hbw.cell (p := ⟨bc, oc + j, none⟩) hbc).trans (hcc j hlt)
      have aD : v.ownBlock ≠ some w.heap.size := fun e => by have := hr _ e; omega
      have ab : v.ownBlock ≠ some bc := fun e => by have := hr _ e; omega
      have h63 : j + 1 ≤ maxLen := by unfold maxLen; omega
      have hb8 : (j + 1) * 8 ≤ 140737488355328 := by omega
      clear hcc
      have HO : Hid (wr.ownsRow (w.heap.size + 1) 2 1 v j (numsOf x j)) := H.out.own
      clear hr hbw
      go_wp2_with fail
      have n1 := World.new_ne wr _ row
      have n2 := World.new_ne wr _ cy
      go_region_law ((refine step_append_lies _ (by rfl) _ _ _ (by rfl) (w.heap.size + 1) 2 i0 _ 1 8 Try.underlying25 hi0 hz0 hz1 hz2 rfl (by omega) v j (numsOf x j) (by rfl) ((HO.out.alloc _).drew) ⟨wr.heap.size, 0, none⟩ 1 1 [.int .i64 (x j)] (by rfl) (by rfl) (World.news_of_block (cs := #[.int .i64 (x j)]) (t := 2) (fr := (0, 0)) (heap_alloc_new wr _)) (by simp [Value.oneCell']) (by omega) h63 hb8 (by simp; omega) (wr.heap.size + 1) (by simp) ?_; intro gg cap1 w1 hown1 hgrow hat hlt1; have r1 := (hgrow.cell_far ⟨w.heap.size, 0, none⟩ (by simp; omega) (Ne.symm aD)).trans (keep3 lD hbc row cy f0 _).1; have r2 := (hgrow.frozen_far ⟨w.heap.size, 0, none⟩ (by simp; omega) (Ne.symm aD)).trans (keep3 lD hbc row cy f0 _).2.2))
      all_goals
        go_simp
        go_wp2
        go_roundw
        case rel => exact ⟨j + 1, _, by omega, by go_num, H.out.grow (((Below.refl _ _).alloc (Nat.le_refl _) _).drew) (by simp) hgrow hown1⟩
        case measure => simp [intOf]; omega
    · have hjt : decide ((j : Int) < (len : Int)) = false := by simp; omega
      obtain ⟨av, cv, rfl, hraw, hpb⟩ := owns_raw H.out.own
      have hjl : j = len := by omega
      have HJ : Hid (j = len) := hjl
      clear hjl
      go_wp2
      go_ret
      obtain rfl := HJ.out
      exact ⟨rfl, lD, hbw, av, cv, ⟨row, H.out.tk, H.out.f1, hraw, Nat.zero_le _, by omega⟩, hpb⟩
end Go.Proofs.Ytepolcnplchfbaa
