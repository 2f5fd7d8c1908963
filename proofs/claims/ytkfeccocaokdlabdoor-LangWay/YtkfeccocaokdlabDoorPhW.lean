import Derived.Test.YtkfeccocaokdlabDoorPhJ
import Derived.Test.YtkfeccocaokdlabDoorLgV
namespace Go.Proofs.YtkfeccocaokdlabDoor
open Go.RowKit
attribute [local go_sem] Oper.semAt_some run_store_nf run_store_f
theorem owns_blk' {W : World} {base n : Nat} {e : TypeId} {size : Nat} {a : Option Addr} {cap : Nat} {xs : List Value} (h : W.ownsRow base e size (.slice a n cap) n xs) : ∀ b off, a = some ⟨b, off, none⟩ → b < W.heap.size := fun b off ea => by
  rcases h.2 with ⟨h1, _⟩ | ⟨g, cap, cur, h1, _⟩
  · injection h1 with h1 _ _
    rw [h1] at ea; cases ea
  · have hb := owns_lt' h
    injection h1 with h1 _ _
    subst h1
    injection ea with ea
    injection ea with ea _ _
    subst ea
    exact hb _ rfl
/-- Truths in memory, as a slice. -/
def BSL (w : World) (a : Option Addr) (n : Nat) : Prop := ∀ i, i < n → ∃ b off v, a = some ⟨b, off, none⟩ ∧ w.cell? ⟨b, off + i, none⟩ = some (.bool v)
theorem BSL.keep {w w' : World} {a : Option Addr} {n : Nat} (h : BSL w a n) (k : Keeps (fun _ => False) w w') : BSL w' a n := fun i hi => by
  obtain ⟨b, off, v, e, hc⟩ := h i hi
  exact ⟨b, off, v, e, k.cell hc (fun e => e)⟩
theorem fwd_all {l : List Ins} : ∀ m, fwd l m = true → m ≤ l.length → ∀ p, l.length - m ≤ p → p < l.length → (l.getD p ins0).jmp = true → (p : Int) < (l.getD p ins0).to
  | 0, _, _, p, h1, h2, _ => by omega
  | m + 1, h, hm, p, h1, h2, hj => by
    unfold fwd at h
    split at h
    · cases h
    · rename_i hc
      by_cases e : p = l.length - (m + 1)
      · subst e
        rw [hj, Bool.true_and] at hc
        have hc2 := of_decide_eq_false (by simpa only [Bool.not_eq_true] using hc)
        omega
      · exact fwd_all m h (by omega) p (by omega) h2 hj
theorem nx_gt {l : List Ins} (hf : fwd l l.length = true) {p q : Nat} (hp : p < l.length) (hq : q ∈ nx l p) : p < q := by
  have hj := fwd_all l.length hf (Nat.le_refl _) p (by omega) hp
  unfold nx at hq
  obtain ⟨x, hx, rfl⟩ := List.mem_map.1 hq
  unfold Ins.nxt at hx
  split at hx
  · rename_i e
    have hx : x = (l.getD p ins0).to := by simpa using hx
    have := hj (by unfold Ins.jmp; rw [e]; rfl)
    omega
  · split at hx
    · rename_i e
      have h7 := hj (by unfold Ins.jmp; rw [e]; rfl)
      rcases (by simpa using hx : x = (l.getD p ins0).to ∨ x = (p : Int) + 1) with e | e <;> omega
    · split at hx
      · simp at hx
      · have hx : x = (p : Int) + 1 := by simpa using hx
        omega
theorem wk_gt {l : List Ins} (hf : fwd l l.length = true) : ∀ {k p q : Nat}, Wk l.length (nx l) k p q → p + k ≤ q
  | 0, p, q, h => by have h : p = q := h; omega
  | k + 1, p, q, h => by
    obtain ⟨hp, r, hr, hw⟩ := h
    have := nx_gt hf hp hr
    have := wk_gt hf hw
    omega
/-- So many steps have been gone. -/
def Sd (l : List Ins) (m : Nat) : Prop := m = 0 ∨ ∃ r, r < l.length ∧ Wk l.length (nx l) (m - 1) 0 r
theorem Sd.of {l : List Ins} {k p : Nat} (h : Wk l.length (nx l) k 0 p) : Sd l k := by
  cases k with
  | zero => exact .inl rfl
  | succ k =>
    obtain ⟨r, hr, hw, _⟩ := Wk.snoc.1 h
    exact .inr ⟨r, hr, by simpa using hw⟩
/-- What Longest and Forward answer of a list that can be. -/
theorem way_cases {l : List Ins} {x y : Int} (h : LgP l x y) (h0 : (chk l).1 = 0) : (y = 109 ∧ x = 0 ∧ fwB l = false) ∨ (y = 0 ∧ 0 ≤ x ∧ x ≤ l.length ∧ ∀ m, Sd l m → (m : Int) ≤ x) := by
  rcases h with ⟨n, _, _⟩ | ⟨_, ⟨a, H, rfl, rfl⟩ | ⟨c, rfl, rfl⟩⟩
  · exact absurd h0 n
  · refine .inr ⟨rfl, by omega, by have := H.le; omega, fun m hm => ?_⟩
    rcases hm with rfl | ⟨r, hr, hw⟩
    · omega
    · have : ¬ a ≤ m - 1 := fun hle => H.no (m - 1) r hle hr hw
      omega
  · refine .inl ⟨rfl, rfl, ?_⟩
    cases e : fwB l with
    | false => rfl
    | true =>
      exfalso
      unfold fwB at e
      rw [if_pos h0] at e
      obtain ⟨i, p, k, hp, _, hw⟩ := c
      have := wk_gt e hw
      omega
theorem chk_bad {l : List Ins} {x y : Int} (h : LgP l x y) (h0 : (chk l).1 ≠ 0) : x = 0 ∧ y = (chk l).1 ∧ fwB l = false := by
  rcases h with ⟨_, rfl, rfl⟩ | ⟨z, _⟩
  · refine ⟨rfl, rfl, ?_⟩
    unfold fwB
    rw [if_neg h0]
  · exact absurd z h0
end Go.Proofs.YtkfeccocaokdlabDoor
