import Derived.Test.YtkebpelpjkgdkabLists2
namespace Go.Proofs.Ytkebpelpjkgdkab
open Go.RowKit Go.Maps

theorem owns_cap' {w : World} {base : Nat} {e : TypeId} {size : Nat} {a : Option Addr} {n c : Nat} {xs : List Value} (h : w.ownsRow base e size (.slice a n c) n xs) : n ≤ c := by
  rcases h.2 with ⟨h', h0⟩ | ⟨g', cap', cur, h', _, _, hnc, _⟩
  · omega
  · simp only [Value.slice.injEq] at h'; omega
/-- A list that is one's own, not nil. -/
theorem append_own {w : World} {base g cap : Nat} {xs : List It} (hown : w.ownsRow base 32 2 (.slice (some ⟨g, 0, none⟩) xs.length cap) xs.length (flat xs)) {a : Option Addr} {ys : List It} (hi : IL w a ys) (c : Nat)
    (hroom : (xs.length + ys.length) * 16 ≤ 140737488355328) (hbase : base ≤ w.heap.size) :
    ∃ g' cap' w', (Builtin.append_ #[22, 22] 22 #[.slice (some ⟨g, 0, none⟩) xs.length cap, .slice a ys.length c]).run Try.prog w = .ok (.slice (some ⟨g', 0, none⟩) (xs ++ ys).length cap') w' ∧ w'.ownsRow base 32 2 (.slice (some ⟨g', 0, none⟩) (xs ++ ys).length cap') (xs ++ ys).length (flat (xs ++ ys)) ∧ Keeps (fun k => k = g) w w' ∧ (g' = g ∨ g' = w.heap.size) := by
  obtain ⟨v', w', hr, ho, hk, hloc⟩ := append_items hown hi hi.nil c hroom hbase 22
  rcases ho.2 with ⟨rfl, h0⟩ | ⟨g', cap', cur, rfl, hb, hg, rest⟩
  · exfalso
    rcases hloc with h | h <;> cases h
  · refine ⟨g', cap', w', hr, ho, hk, ?_⟩
    rcases hloc with h | h
    · left; cases h; rfl
    · right; cases h; rfl

theorem own_lit (w : World) (cs : Array Value) (xs : List It) (hc : cs.toList = flat xs) (hl : xs.length ≤ 100) : (w.alloc (.cells cs 32)).ownsRow w.heap.size 32 2 (.slice (some ⟨w.heap.size, 0, none⟩) xs.length xs.length) xs.length (flat xs) := by
  have := World.ownsRow_lit (base := w.heap.size) (e := 32) (size := 2) w cs xs.length (Nat.le_refl _) (by unfold maxLen; omega) (by rw [← Array.length_toList, hc, length_flat])
  rw [hc] at this; exact this
theorem il_lit (w : World) (cs : Array Value) (xs : List It) (hc : cs.toList = flat xs) (hl : xs.length ≤ 100) : IL (w.alloc (.cells cs 32)) (some ⟨w.heap.size, 0, none⟩) xs := by
  obtain ⟨a, cap, e, h, _⟩ := owns_il (own_lit w cs xs hc hl) rfl
  cases e; exact h

end Go.Proofs.Ytkebpelpjkgdkab
