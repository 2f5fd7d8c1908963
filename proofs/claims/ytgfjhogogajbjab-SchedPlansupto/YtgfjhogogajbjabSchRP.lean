import Derived.Test.YtgfjhogogajbjabSchPlan
import Derived.Deep.RegionLaw
namespace Go.Proofs.Ytgfjhogogajbjab
open Go.RowKit Go.Shelf

set_option maxHeartbeats 1600000 in
set_option maxRecDepth 1000000 in
theorem refusedOf (w : World) (n : Int) (a : Option Addr) (m cap : Nat) : Calls Try.prog 25 #[.int .i64 n, .slice a m cap] w fun e w' => e = .returned (.int .i64 (rfz n m)) ∧ w' = w := by
  go_enter Try.func25, Try.ntmps25
  by_cases h1 : n < 1
  · have e : rfz n m = 40 := if_pos (.inl h1)
    go_wp2
    go_ret
    first | exact ⟨rfl, rfl⟩ | exact ⟨by rw [e]; rfl, rfl⟩
  · by_cases h2 : 6 < n
    · have e : rfz n m = 40 := if_pos (.inr h2)
      go_wp2
      go_ret
      first | exact ⟨rfl, rfl⟩ | exact ⟨by rw [e]; rfl, rfl⟩
    · by_cases h3 : 4096 < m
      · have e : rfz n m = 41 := by unfold rfz; rw [if_neg (by omega), if_pos h3]
        have h3' : (4096 : Int) < (m : Int) := by omega
        go_wp2
        go_ret
        first | exact ⟨rfl, rfl⟩ | exact ⟨by rw [e]; rfl, rfl⟩
      · have e : rfz n m = 0 := by unfold rfz; rw [if_neg (by omega), if_neg h3]
        have h3' : ¬ (4096 : Int) < (m : Int) := by omega
        go_wp2
        go_ret
        first | exact ⟨rfl, rfl⟩ | exact ⟨by rw [e]; rfl, rfl⟩

set_option maxHeartbeats 1600000 in
set_option maxRecDepth 1000000 in
theorem rnamedOf (w : World) (n : Nat) (hn : n ≤ 6) (p : Int) : Calls Try.prog 37 #[.int .i64 (n : Int), .int .i64 p] w fun e w' => e = .returned (.int .i64 (nmz n p)) ∧ w' = w := by
  go_enter Try.func37, Try.ntmps37
  obtain ⟨q, hq⟩ : ∃ q, Hid (q = nmz n p) := ⟨_, rfl⟩
  rw [← hq.out]
  go_wp2_with fail
  go_loopw [5] (fun i wr => ∃ t : Nat, t ≤ n ∧ i = .int .i64 (t : Int) ∧ (∀ t' : Nat, t' < t → p ≠ (t' : Int)) ∧ wr = w) (fun i _ => n - (intOf i).toNat)
  case atStart => exact ⟨0, Nat.zero_le _, rfl, (fun t' h => by omega), rfl⟩
  case round =>
    obtain ⟨t, ht, rfl, hts, rfl⟩ := hrel
    by_cases hlt : t < n
    · have h1 : decide ((t : Int) < (n : Int)) = true := decide_eq_true (by omega)
      have h1n : decide (t < n) = true := decide_eq_true hlt
      by_cases he : p = (t : Int)
      · have hb : (p == (t : Int)) = true := by simp [he]
        have HE := (show Hid _ from he)
        clear he
        go_wp2_with fail
        go_ret
        have e1 := hq.out
        have e2 := HE.out
        refine ⟨?_, rfl⟩
        have : q = (t : Int) := by rw [e1, e2]; unfold nmz; rw [if_neg (by omega)]
        rw [this]; rfl
      · have hb : (p == (t : Int)) = false := by simp [he]
        have HE := (show Hid _ from he)
        clear he
        go_wp2_with fail
        go_roundw
        case rel => exact ⟨t + 1, by omega, by go_num, fun t' h => (by
          by_cases e : t' = t
          · rw [e]; exact HE.out
          · exact hts t' (by omega)), by simp⟩
        case measure => simp [intOf]; omega
    · have h1 : decide ((t : Int) < (n : Int)) = false := decide_eq_false (by omega)
      have h1n : decide (t < n) = false := decide_eq_false hlt
      go_wp2_with fail
      go_ret
      refine ⟨?_, rfl⟩
      have e1 := hq.out
      have : q = -1 := by
        rw [e1]
        unfold nmz
        rw [if_pos]
        by_cases h : p < 0
        · exact .inl h
        · refine .inr ?_
          by_cases h2 : p < (n : Int)
          · exact absurd (by omega : p = ((p.toNat : Nat) : Int)) (hts p.toNat (by omega))
          · omega
      rw [this]; rfl

/-- Behind i picks no window of k picks is without t; the last c of them are. -/
structure Run (f : Nat → Int) (t i k c : Nat) : Prop where
  le : c ≤ i
  lt : c < k
  not : ∀ j, i - c ≤ j → j < i → f j ≠ (t : Int)
  last : c = i ∨ f (i - c - 1) = (t : Int)
  none_ : ∀ a l, a + l ≤ i → (∀ j, a ≤ j → j < a + l → f j ≠ (t : Int)) → l < k
theorem Run.zero {f : Nat → Int} {t k : Nat} (hk : 0 < k) : Run f t 0 k 0 := ⟨Nat.le_refl _, hk, fun j h1 h2 => by omega, .inl rfl, fun a l h1 h2 => by omega⟩
theorem Run.hit {f : Nat → Int} {t i k c : Nat} (h : Run f t i k c) (he : f i = (t : Int)) : Run f t (i + 1) k 0 := by
  have hk := h.lt
  refine ⟨by omega, by omega, fun j h1 h2 => by omega, .inr (by simpa using he), fun a l h1 h2 => ?_⟩
  by_cases e : a + l ≤ i
  · exact h.none_ a l e h2
  · rcases Nat.eq_zero_or_pos l with h0 | h0
    · omega
    · exact absurd he (h2 i (by omega) (by omega))
theorem Run.miss {f : Nat → Int} {t i k c : Nat} (h : Run f t i k c) (he : f i ≠ (t : Int)) (hk : c + 1 < k) : Run f t (i + 1) k (c + 1) := by
  have h1 := h.le
  refine ⟨by omega, hk, fun j j1 j2 => ?_, ?_, fun a l a1 a2 => ?_⟩
  · by_cases e : j = i
    · rw [e]; exact he
    · exact h.not j (by omega) (by omega)
  · rcases h.last with h2 | h2
    · exact .inl (by omega)
    · exact .inr (by rw [show i + 1 - (c + 1) - 1 = i - c - 1 by omega]; exact h2)
  · by_cases e : a + l ≤ i
    · exact h.none_ a l e a2
    · rcases h.last with h2 | h2
      · omega
      · by_cases e2 : a ≤ i - c - 1
        · by_cases e3 : c = i
          · omega
          · exact absurd h2 (a2 (i - c - 1) e2 (by omega))
        · omega
theorem Run.bad {f : Nat → Int} {t i k c : Nat} (h : Run f t i k c) (he : f i ≠ (t : Int)) (hk : ¬ c + 1 < k) : ∃ a, a + k ≤ i + 1 ∧ ∀ j, a ≤ j → j < a + k → f j ≠ (t : Int) := by
  have h1 := h.le
  have h2 := h.lt
  refine ⟨i - c, by omega, fun j j1 j2 => ?_⟩
  by_cases e : j = i
  · rw [e]; exact he
  · exact h.not j j1 (by omega)

--%if braid/braidref04.fair

/-- Marks as cells. -/
def bools (fin : Nat → Bool) (n : Nat) : List Value := (List.range n).map fun i => .bool (fin i)
theorem bools_len (fin : Nat → Bool) (n : Nat) : (bools fin n).length = n := by simp [bools]
theorem bools_get (fin : Nat → Bool) {n t : Nat} (h : t < n) : (bools fin n)[t]? = some (.bool (fin t)) := by simp [bools, h]
theorem bools_set (fin : Nat → Bool) (n t : Nat) : (bools fin n).set t (.bool true) = bools (upd fin t) n := by
  apply List.ext_getElem?
  intro i
  rw [List.getElem?_set]
  by_cases hi : i < n
  · by_cases e : t = i
    · subst e; simp [bools, upd, hi]
    · rw [if_neg e]; simp [bools, upd, hi, Ne.symm e]
  · by_cases e : t = i
    · subst e; simp [bools, hi]
    · rw [if_neg e]; simp [bools, hi]
theorem nums_succ (z : Nat → Int) (n : Nat) : nums z (n + 1) = nums z n ++ [.int .i64 (z n)] := by simp [nums, List.range_succ]

/-- The document's plan. -/
structure RL (w : World) (rb : Nat) (vp ve : Value) (nt m : Nat) (z : Nat → Int) (at_ : Nat) (fin : Nat → Bool) : Prop where
  c0 : w.cell? ⟨rb, 0, none⟩ = some vp
  c1 : w.cell? ⟨rb, 1, none⟩ = some (.int .i64 (at_ : Int))
  c2 : w.cell? ⟨rb, 2, none⟩ = some ve
  z0 : w.frozen? ⟨rb, 0, none⟩ = false
  z1 : w.frozen? ⟨rb, 1, none⟩ = false
  np : w.ownsRow 0 2 1 vp m (nums z m)
  nv : w.ownsRow 0 4 1 ve nt (bools fin nt)
  n1 : vp.ownBlock ≠ some rb
  n2 : ve.ownBlock ≠ some rb
  n3 : ∀ g, vp.ownBlock = some g → ve.ownBlock ≠ some g
/-- Its blocks. -/
def RB (rb : Nat) (vp ve : Value) (k : Nat) : Prop := k = rb ∨ vp.ownBlock = some k ∨ ve.ownBlock = some k
section
variable {w w' : World} {rb : Nat} {vp ve : Value} {nt m : Nat} {z : Nat → Int} {at_ : Nat} {fin : Nat → Bool}
theorem RL.lt (h : RL w rb vp ve nt m z at_ fin) : rb < w.heap.size := World.block_lt_of_cell? _ _ h.c0
theorem RL.ltb (h : RL w rb vp ve nt m z at_ fin) {k : Nat} (hk : RB rb vp ve k) : k < w.heap.size := by
  rcases hk with rfl | hk | hk
  · exact h.lt
  · exact owns_lt' h.np k hk
  · exact owns_lt' h.nv k hk
theorem RL.keeps {S : Nat → Prop} (h : RL w rb vp ve nt m z at_ fin) (k : Keeps S w w') (hS : ∀ i, RB rb vp ve i → ¬ S i) : RL w' rb vp ve nt m z at_ fin :=
  have h1 := hS rb (.inl rfl)
  ⟨k.cell h.c0 h1, k.cell h.c1 h1, k.cell h.c2 h1, (k.frozen (p := ⟨rb, 0, none⟩) h.lt h1).trans h.z0, (k.frozen (p := ⟨rb, 1, none⟩) h.lt h1).trans h.z1, k.owns h.np (fun g e => hS g (.inr (.inl e))), k.owns h.nv (fun g e => hS g (.inr (.inr e))), h.n1, h.n2, h.n3⟩
theorem RL.new (h : RL w rb vp ve nt m z at_ fin) (k : Keeps (fun _ => False) w w') : RL w' rb vp ve nt m z at_ fin := h.keeps k (fun _ _ e => e)
theorem RL.step (h : RL w rb vp ve nt m z at_ fin) : RL (w.setCell ⟨rb, 1, none⟩ (.int .i64 ((at_ : Int) + 1))) rb vp ve nt m z (at_ + 1) fin where
  c0 := by rw [World.cell?_setCell_other (h := by simp)]; exact h.c0
  c1 := World.cell?_setCell_same (h := h.c1) ..
  c2 := by rw [World.cell?_setCell_other (h := by simp)]; exact h.c2
  z0 := by rw [World.frozen?_setCell]; exact h.z0
  z1 := by rw [World.frozen?_setCell]; exact h.z1
  np := owns_same h.np (fun g e => Below.heap_setCell w ⟨rb, 1, none⟩ _ g (fun e' => h.n1 (by rw [e, e'])))
  nv := owns_same h.nv (fun g e => Below.heap_setCell w ⟨rb, 1, none⟩ _ g (fun e' => h.n2 (by rw [e, e'])))
  n1 := h.n1
  n2 := h.n2
  n3 := h.n3
theorem RL.ended (h : RL w rb vp ve nt m z at_ fin) {t : Nat} (ht : t < nt) : ∃ g c, ve = .slice (some ⟨g, 0, none⟩) nt c ∧ w.cell? ⟨g, t, none⟩ = some (.bool (fin t)) ∧ w.frozen? ⟨g, t, none⟩ = false ∧ g ≠ rb ∧ RL (w.setCell ⟨g, t, none⟩ (.bool true)) rb vp ve nt m z at_ (upd fin t) := by
  rcases h.nv.2 with ⟨rfl, h0⟩ | ⟨g, c, cur, rfl, hb, hg, rest⟩
  · omega
  · have hne : g ≠ rb := fun e => h.n2 (by rw [← e]; rfl)
    have hs := (h.nv.stored t (.bool true)).1
    rw [bools_set] at hs
    have hn : ∀ o, (⟨g, t, none⟩ : Addr) ≠ ⟨rb, o, none⟩ := fun o e => hne (by cases e; rfl)
    have hc := h.nv.cells rfl t _ (bools_get fin ht)
    rw [add_none, Nat.zero_add] at hc
    refine ⟨g, c, rfl, hc, frozen_cells hg, hne, ⟨?_, ?_, ?_, ?_, ?_, ?_, hs, h.n1, h.n2, h.n3⟩⟩
    · rw [World.cell?_setCell_other (h := hn 0)]; exact h.c0
    · rw [World.cell?_setCell_other (h := hn 1)]; exact h.c1
    · rw [World.cell?_setCell_other (h := hn 2)]; exact h.c2
    · rw [World.frozen?_setCell]; exact h.z0
    · rw [World.frozen?_setCell]; exact h.z1
    · exact owns_same h.np (fun g' e => Below.heap_setCell w ⟨g, t, none⟩ _ g' (fun e' => h.n3 g' e (by rw [e']; rfl)))

set_option maxHeartbeats 1600000 in
set_option maxRecDepth 1000000 in
theorem rleft_any (h : RL w rb vp ve nt m z at_ fin) (ha : at_ ≤ m) (hm : m ≤ 4096) : Calls Try.prog 31 #[.pointer (some ⟨rb, 0, none⟩)] w fun e w' => e = .returned (.int .i64 ((m : Int) - (at_ : Int))) ∧ Keeps (fun _ => False) w w' := by
  obtain ⟨a, cap, rfl⟩ := owns_form h.np
  have c1 := h.c1
  have c0 := h.c0
  clear h
  go_enter Try.func31, Try.ntmps31
  go_wp2
  go_region
  go_wp2
  go_ret
  exact ⟨rfl, (Keeps.refl _ w).drew⟩

set_option maxHeartbeats 1600000 in
set_option maxRecDepth 1000000 in
theorem rfinish_any (h : RL w rb vp ve nt m z at_ fin) {t : Nat} (ht : t < nt) : Calls Try.prog 29 #[.pointer (some ⟨rb, 0, none⟩), .int .i64 (t : Int)] w fun e w' => e = .returned (.int .i64 0) ∧ RL w' rb vp ve nt m z at_ (upd fin t) ∧ Keeps (RB rb vp ve) w w' := by
  obtain ⟨g, c, rfl, ct, zt, hne, hP⟩ := h.ended ht
  have c2 := h.c2
  have t0 : ¬ (t : Int) < 0 := by omega
  have t1 : ¬ (nt : Int) ≤ (t : Int) := by omega
  have t2 : (t : Int) < (nt : Int) := by omega
  have t3 : (0 : Int) ≤ (t : Int) := by omega
  have t1b : decide (nt ≤ t) = false := decide_eq_false (by omega)
  clear h
  go_enter Try.func29, Try.ntmps29
  go_wp2
  go_ret
  exact ⟨rfl, hP, (Keeps.refl (RB rb vp _) w).setCell (p := ⟨g, t, none⟩) (fun _ => .inr (.inr rfl)) _⟩
set_option maxHeartbeats 1600000 in
set_option maxRecDepth 1000000 in
theorem rfinish_no (h : RL w rb vp ve nt m z at_ fin) {t : Int} (ht : ¬ (0 ≤ t ∧ t < nt)) : Calls Try.prog 29 #[.pointer (some ⟨rb, 0, none⟩), .int .i64 t] w fun e w' => e = .returned (.int .i64 42) ∧ w' = w := by
  obtain ⟨a, c, rfl⟩ := owns_form h.nv
  have c2 := h.c2
  clear h
  by_cases t0 : t < 0
  · clear ht
    go_enter Try.func29, Try.ntmps29
    go_wp2
    go_ret
    exact ⟨rfl, rfl⟩
  · have t1 : (nt : Int) ≤ t := by omega
    clear ht
    go_enter Try.func29, Try.ntmps29
    go_wp2
    go_ret
    exact ⟨rfl, rfl⟩
set_option maxHeartbeats 1600000 in
set_option maxRecDepth 1000000 in
theorem rfinished_any (h : RL w rb vp ve nt m z at_ fin) {t : Nat} (ht : t < nt) : Calls Try.prog 30 #[.pointer (some ⟨rb, 0, none⟩), .int .i64 (t : Int)] w fun e w' => e = .returned (.tuple #[.bool (fin t), .int .i64 0]) ∧ w' = w := by
  obtain ⟨g, c, rfl, ct, _, hne, _⟩ := h.ended ht
  have c2 := h.c2
  have t0 : ¬ (t : Int) < 0 := by omega
  have t1 : ¬ (nt : Int) ≤ (t : Int) := by omega
  have t2 : (t : Int) < (nt : Int) := by omega
  have t3 : (0 : Int) ≤ (t : Int) := by omega
  have t1b : decide (nt ≤ t) = false := decide_eq_false (by omega)
  clear h
  go_enter Try.func30, Try.ntmps30
  go_wp2
  refine bodyPost_ret (v := .tuple #[.bool (fin t), .int .i64 0]) (by simp [results, Try.f30, go_sem]) rfl ?_
  exact ⟨rfl, rfl⟩
set_option maxHeartbeats 1600000 in
set_option maxRecDepth 1000000 in
theorem rfinished_no (h : RL w rb vp ve nt m z at_ fin) {t : Int} (ht : ¬ (0 ≤ t ∧ t < nt)) : Calls Try.prog 30 #[.pointer (some ⟨rb, 0, none⟩), .int .i64 t] w fun e w' => e = .returned (.tuple #[.bool false, .int .i64 42]) ∧ w' = w := by
  obtain ⟨a, c, rfl⟩ := owns_form h.nv
  have c2 := h.c2
  clear h
  by_cases t0 : t < 0
  · clear ht
    go_enter Try.func30, Try.ntmps30
    go_wp2
    refine bodyPost_ret (v := .tuple #[.bool false, .int .i64 42]) (by simp [results, Try.f30, go_sem]) rfl ?_
    exact ⟨rfl, rfl⟩
  · have t1 : (nt : Int) ≤ t := by omega
    clear ht
    go_enter Try.func30, Try.ntmps30
    go_wp2
    refine bodyPost_ret (v := .tuple #[.bool false, .int .i64 42]) (by simp [results, Try.f30, go_sem]) rfl ?_
    exact ⟨rfl, rfl⟩
end
end Go.Proofs.Ytgfjhogogajbjab
