import Derived.Test.YtgfjhogogajbjabSchF
namespace Go.Proofs.Ytgfjhogogajbjab
open Go.RowKit

/-- Numbers that were written out. -/
theorem lit_nl (w : World) (L : List Int) : NL (w.alloc (.cells (L.map (Value.int .i64)).toArray 2)) (some ⟨w.heap.size, 0, none⟩) L.length (fun i => L.getD i 0) := by
  refine .inr ⟨w.heap.size, 0, rfl, by simp, fun i hi => ?_⟩
  rw [Nat.zero_add, cell_of_row _ w.heap.size i _ 2 (0, 0) (World.alloc_heap_new w _)]
  simp [hi, List.getD_eq_getElem?_getD]
theorem least_lit {n : Int} {m : Nat} {z : Nat → Int} {v er : Int} (h : LeastIs n m z v er) (R : Nat) (hg : gapB (nmf n.toNat z) m n.toNat R = true) (hz : rfz n m = 0) : v = (R : Int) + 1 ∧ er = 0 := by
  rcases h with ⟨_, rfl, R', hR, rfl⟩ | ⟨h0, _⟩
  · rw [(gap_of hg).uniq hR]; exact ⟨rfl, rfl⟩
  · exact absurd hz h0

/-- One list behind the other. -/
def cat (z : Nat → Int) (k : Nat) (z' : Nat → Int) (i : Nat) : Int := if i < k then z i else z' (i - k)
theorem nums_cat (z : Nat → Int) (k : Nat) (z' : Nat → Int) (m : Nat) : nums z k ++ nums z' m = nums (cat z k z') (k + m) := by
  apply List.ext_getElem
  · simp [nums]
  · intro i h1 h2
    simp [nums] at h1 h2
    by_cases e : i < k
    · rw [List.getElem_append_left (by simpa [nums] using e)]; simp [nums, cat, e]
    · rw [List.getElem_append_right (by simp [nums]; omega)]; simp [nums, cat, e]
theorem append_nl {w : World} {base k : Nat} {v : Value} {z : Nat → Int} (hown : w.ownsRow base 2 1 v k (nums z k)) (hv : v ≠ .slice none 0 0) {a : Option Addr} {m cap : Nat} {z' : Nat → Int} (h : NL w a m z') (hroom : (k + m) * 8 ≤ 140737488355328) (hbase : base ≤ w.heap.size) :
    ∃ v' w', (Builtin.append_ #[22, 22] 22 #[v, .slice a m cap]).run Try.prog w = .ok v' w' ∧ w'.ownsRow base 2 1 v' (k + m) (nums (cat z k z') (k + m)) ∧ Keeps (fun i => v.ownBlock = some i) w w' ∧ v' ≠ .slice none 0 0 := by
  obtain ⟨i0, hi0, hz0, hz1, hz2⟩ := info_parts i64Info
  cases a with
  | none =>
    obtain rfl : m = 0 := by
      rcases h with h | ⟨b, off, e, _⟩
      · exact h
      · cases e
    rcases hown.2 with ⟨rfl, _⟩ | ⟨g, cap', cur, rfl, _, _, hkc, _⟩
    · exact absurd rfl hv
    · have := run_append_room_src (P := Try.prog) w 22 22 22 2 i0 under64s hi0 g 0 k cap' (.slice none 0 cap) 0 [] (by rw [hz1]; exact Src.ofNil w under64s cap) (by omega) (fun j hj => by simp at hj) (fun j hj => by simp at hj)
      refine ⟨_, w, by simpa [World.setCells] using this, ?_, Keeps.refl _ _, hv⟩
      rw [← nums_cat]
      simpa [nums] using hown
  | some a =>
    obtain ⟨v', w', hr, ho, hg, hiff, _⟩ := run_append_own_at (P := Try.prog) (w := w) base 22 22 2 i0 _ 1 8 under64s hi0 hz0 hz1 hz2 rfl (by decide) v k (nums z k) hown a m cap (nums z' m) (by rw [nums_len]; omega) (fun j u hu => by
      obtain ⟨hj, rfl⟩ := nums_get hu
      obtain ⟨b, off, e, hb, hc⟩ := h.resolve_left (by omega)
      cases e
      rw [add_none]
      exact hc j hj) (fun u hu => by
      obtain ⟨i, _, rfl⟩ := List.mem_map.1 hu
      rfl) (by unfold maxLen; omega) (by omega) hbase
    rw [nums_cat] at ho
    exact ⟨v', w', hr, ho, (Keeps.refl _ w).grown hg (fun i _ e => e), fun e => hv (hiff.1 e).1⟩

theorem rfz_cat {n : Int} {m k : Nat} (h : rfz n (m + k) = 0) : rfz n m = 0 ∧ rfz n k = 0 := by
  have := rfz_zero h
  constructor <;> (unfold rfz; rw [if_neg (by omega), if_neg (by omega)])
theorem owns_base {w : World} {base : Nat} {e : TypeId} {size : Nat} {v : Value} {n : Nat} {xs : List Value} (h : w.ownsRow base e size v n xs) (k : Nat) (hk : v.ownBlock = some k) : base ≤ k := by
  rcases h.2 with ⟨rfl, _⟩ | ⟨g, cap, cur, rfl, hb, hg, rest⟩
  · cases hk
  · cases hk; exact hb

end Go.Proofs.Ytgfjhogogajbjab
