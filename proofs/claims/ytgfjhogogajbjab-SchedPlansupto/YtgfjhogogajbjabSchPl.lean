import Derived.Test.YtgfjhogogajbjabSchRP2
namespace Go.Proofs.Ytgfjhogogajbjab
open Go.RowKit Go.Shelf

/-- A plan and its twin. -/
structure Pr where
  pb : Nat
  vs : Value
  rb : Nat
  vp : Value
  ve : Value
  nt : Nat
  m : Nat
  z : Nat → Int
  at_ : Nat
  fin : Nat → Bool
def Pr.Own (p : Pr) (k : Nat) : Prop := k = p.pb ∨ p.vs.ownBlock = some k
def Pr.Blk (p : Pr) (k : Nat) : Prop := p.Own k ∨ RB p.rb p.vp p.ve k
structure PrI (W : World) (p : Pr) : Prop where
  pl : PL W p.pb p.vs p.nt p.m (nmf p.nt p.z) p.at_ p.fin
  rl : RL W p.rb p.vp p.ve p.nt p.m p.z p.at_ p.fin
  ap : ∀ k, p.Own k → ¬ RB p.rb p.vp p.ve k
  n6 : p.nt ≤ 6
  m4 : p.m ≤ 4096
  am : p.at_ ≤ p.m
theorem PrI.keeps {W W' : World} {p : Pr} {S : Nat → Prop} (h : PrI W p) (k : Keeps S W W') (hS : ∀ i, p.Blk i → ¬ S i) : PrI W' p :=
  ⟨h.pl.keeps k (hS _ (.inl (.inl rfl))) (fun g e => hS g (.inl (.inr e))), h.rl.keeps k (fun i hi => hS i (.inr hi)), h.ap, h.n6, h.m4, h.am⟩
theorem PrI.new {W W' : World} {p : Pr} (h : PrI W p) (k : Keeps (fun _ => False) W W') : PrI W' p := h.keeps k (fun _ _ e => e)
theorem PrI.lt {W : World} {p : Pr} (h : PrI W p) {k : Nat} (hk : p.Blk k) : k < W.heap.size := by
  rcases hk with (rfl | hk) | hk
  · exact h.pl.lt
  · exact owns_lt' h.pl.nm k hk
  · exact h.rl.ltb hk
/-- Played on. -/
def Pr.to (p : Pr) (a : Nat) (f : Nat → Bool) : Pr := { p with at_ := a, fin := f }

section
variable {W : World} {p : Pr}

/-- First the plan, then its twin. -/
theorem PrI.both {Wa w1 w1a w3 w3a : World} (h : PrI W p) {a : Nat} {f : Nat → Bool} (ha : a ≤ p.m) (ka : Keeps (fun _ => False) W Wa) (k1 : Keeps (fun k => k = p.pb) Wa w1) (hP : PL w1 p.pb p.vs p.nt p.m (nmf p.nt p.z) a f) (kb : Keeps (fun _ => False) w1 w1a) (k3 : Keeps (RB p.rb p.vp p.ve) w1a w3) (hR : RL w3 p.rb p.vp p.ve p.nt p.m p.z a f) (kc : Keeps (fun _ => False) w3 w3a) :
    PrI w3a (p.to a f) ∧ Keeps p.Blk W w3a :=
  ⟨⟨((hP.new kb).keeps k3 (h.ap _ (.inl rfl)) (fun g e => h.ap g (.inr e))).new kc, hR.new kc, h.ap, h.n6, h.m4, ha⟩,
   (((ka.mono (fun _ _ e => e.elim)).trans (k1.mono (fun _ _ e => .inl (.inl e)))).trans ((kb.mono (fun _ _ e => e.elim)).trans (k3.mono (fun _ _ e => .inr e)))).trans (kc.mono (fun _ _ e => e.elim))⟩

set_option maxHeartbeats 3200000 in
set_option maxRecDepth 1000000 in
theorem played_next (h : PrI W p) (who n : Int) (a : Option Addr) (l c : Nat) :
    Calls Try.prog 20 #[.agg #[.int .i64 1, .int .i64 who, .int .i64 n, .slice a l c], .pointer (some ⟨p.pb, 0, none⟩), .pointer (some ⟨p.rb, 0, none⟩)] W fun e W' => e = .returned (.bool true) ∧ ∃ a f, PrI W' (p.to a f) ∧ Keeps p.Blk W W' := by
  by_cases hlt : p.at_ < p.m
  · have hN := fun o => next_any (h.new ((Keeps.refl _ W).alloc o)).pl hlt h.m4 h.n6 ⟨nmz_lo _ _, nmz_hi _ _⟩
    obtain ⟨tv, htv⟩ : ∃ tv, Hid (tv = turn (nmf p.nt p.z p.at_) p.fin) := ⟨_, rfl⟩
    rw [← htv.out] at hN
    have HI : Hid (PrI W p) := h
    have hR : Hid (∀ W2, Keeps (fun k => k = p.pb) W W2 → ¬ RB p.rb p.vp p.ve W2.heap.size ∧ ∀ o, Calls Try.prog 28 #[.pointer (some ⟨p.rb, 0, none⟩)] (W2.alloc o) fun e w' => e = .returned (.tuple #[.agg #[.int .i64 (p.at_ : Int), .int .i64 tv], .bool true]) ∧ RL w' p.rb p.vp p.ve p.nt p.m p.z (p.at_ + 1) p.fin ∧ Keeps (RB p.rb p.vp p.ve) (W2.alloc o) w') := fun W2 k => by
      have h2 := h.rl.keeps k (fun i hi e => h.ap i (.inl e) hi)
      refine ⟨fun e => Nat.lt_irrefl _ (h2.ltb e), fun o => ?_⟩
      rw [htv.out]
      exact rnext_any (h2.new ((Keeps.refl _ W2).alloc o)) hlt h.m4 h.n6
    clear h
    go_enter Try.func20, Try.ntmps20
    go_wp2_with (first | (go_at_call 9; refine (hN _).mono ?_; clear hN; rintro e w1 ⟨rfl, hP1, k1⟩; have k1' : Keeps (fun k => k = p.pb) W w1 := ((Keeps.refl (fun _ => False) W).alloc _).trans' k1 (fun _ _ e => e.elim) (fun _ _ e => e); obtain ⟨nb, hR2⟩ := hR.out w1 k1') | (go_at_call 28; refine (hR2 _).mono ?_; clear hR2; rintro e w3 ⟨rfl, hR3, k3⟩; have q0 := fun o => ((Keeps.refl (fun _ => False) w3).alloc o).cell (k3.cell (p := ⟨w1.heap.size, 0, none⟩) (v := .int .i64 (p.at_ : Int)) (by simp) nb) (fun e => e); have q1 := fun o => ((Keeps.refl (fun _ => False) w3).alloc o).cell (k3.cell (p := ⟨w1.heap.size, 1, none⟩) (v := .int .i64 tv) (by simp) nb) (fun e => e)))
    go_ret
    exact ⟨rfl, _, _, HI.out.both hlt ((Keeps.refl _ W).alloc _) k1 hP1 ((Keeps.refl _ w1).alloc _) k3 hR3 ((Keeps.refl _ w3).alloc _)⟩
  · have hat : p.at_ = p.m := by have := h.am; omega
    have hN := fun o => next_done (w := W.alloc o) (p := some ⟨p.pb, 0, none⟩) (fun o' => by
      have := left_any ((h.new ((Keeps.refl _ W).alloc o)).new ((Keeps.refl _ _).alloc o')).pl h.am h.m4
      rw [hat, Int.sub_self] at this
      exact this)
    have HI : Hid (PrI W p) := h
    have hR : Hid (∀ W2, Keeps (fun _ => False) W W2 → ∀ o, Calls Try.prog 28 #[.pointer (some ⟨p.rb, 0, none⟩)] (W2.alloc o) fun e w' => e = .returned (.tuple #[.agg #[.int .i64 0, .int .i64 0], .bool false]) ∧ Keeps (fun _ => False) (W2.alloc o) w') := fun W2 k o => by
      have := (h.rl.new k).new ((Keeps.refl _ W2).alloc o)
      rw [hat] at this
      exact rnext_done this
    clear h
    go_enter Try.func20, Try.ntmps20
    go_wp2_with (first | (go_at_call 9; refine (hN _).mono ?_; clear hN; rintro e w1 ⟨rfl, k1⟩; have k1' : Keeps (fun _ => False) W w1 := ((Keeps.refl (fun _ => False) W).alloc _).trans k1; have hR2 := hR.out w1 k1') | (go_at_call 28; refine (hR2 _).mono ?_; clear hR2; rintro e w3 ⟨rfl, k3⟩; have q0 := fun o => ((Keeps.refl (fun _ => False) w3).alloc o).cell (k3.cell (p := ⟨w1.heap.size, 0, none⟩) (v := .int .i64 0) (by simp) (fun e => e)) (fun e => e); have q1 := fun o => ((Keeps.refl (fun _ => False) w3).alloc o).cell (k3.cell (p := ⟨w1.heap.size, 1, none⟩) (v := .int .i64 0) (by simp) (fun e => e)) (fun e => e)))
    go_ret
    have kz : ∀ o, Keeps (fun _ => False) W (w3.alloc o) := fun o => (k1'.trans (((Keeps.refl _ w1).alloc _).trans k3)).trans ((Keeps.refl _ w3).alloc o)
    exact ⟨rfl, _, _, HI.out.new (kz _), (kz _).mono (fun _ _ e => e.elim)⟩

set_option maxHeartbeats 3200000 in
set_option maxRecDepth 1000000 in
theorem played_finished (h : PrI W p) (who n : Int) (a : Option Addr) (l c : Nat) :
    Calls Try.prog 20 #[.agg #[.int .i64 3, .int .i64 who, .int .i64 n, .slice a l c], .pointer (some ⟨p.pb, 0, none⟩), .pointer (some ⟨p.rb, 0, none⟩)] W fun e W' => e = .returned (.bool true) ∧ ∃ a f, PrI W' (p.to a f) ∧ Keeps p.Blk W W' := by
  have HI : Hid (PrI W p) := h
  by_cases hin : 0 ≤ n ∧ n < p.nt
  · obtain ⟨t, rfl⟩ : ∃ t : Nat, n = (t : Int) := ⟨n.toNat, by omega⟩
    have ht : t < p.nt := by omega
    have hN := fun o => finished_any (h.new ((Keeps.refl _ W).alloc o)).pl h.n6 ht
    have hR := fun o => rfinished_any (h.new ((Keeps.refl _ W).alloc o)).rl ht
    clear h hin
    generalize p.fin t = b at *
    go_enter Try.func20, Try.ntmps20
    go_wp2_with (first | (go_at_call 12; refine (hN _).mono ?_; rintro e w1 ⟨rfl, hw1⟩; subst hw1) | (go_at_call 30; refine (hR _).mono ?_; rintro e w1 ⟨rfl, hw1⟩; subst hw1))
    go_ret
    exact ⟨rfl, _, _, HI.out.new ((Keeps.refl _ W).alloc _), (Keeps.refl _ W).alloc _⟩
  · have hN := fun o => finished_not (p := some ⟨p.pb, 0, none⟩) (by have := has_any (h.new ((Keeps.refl _ W).alloc o)).pl n; rw [decide_eq_false hin] at this; exact this)
    have hR := fun o => rfinished_no (h.new ((Keeps.refl _ W).alloc o)).rl hin
    clear h hin
    go_enter Try.func20, Try.ntmps20
    go_wp2_with (first | (go_at_call 12; refine (hN _).mono ?_; rintro e w1 ⟨rfl, hw1⟩; subst hw1) | (go_at_call 30; refine (hR _).mono ?_; rintro e w1 ⟨rfl, hw1⟩; subst hw1))
    go_ret
    exact ⟨rfl, _, _, HI.out.new ((Keeps.refl _ W).alloc _), (Keeps.refl _ W).alloc _⟩

set_option maxHeartbeats 3200000 in
set_option maxRecDepth 1000000 in
theorem played_left (h : PrI W p) (who n : Int) (a : Option Addr) (l c : Nat) :
    Calls Try.prog 20 #[.agg #[.int .i64 4, .int .i64 who, .int .i64 n, .slice a l c], .pointer (some ⟨p.pb, 0, none⟩), .pointer (some ⟨p.rb, 0, none⟩)] W fun e W' => e = .returned (.bool true) ∧ ∃ a f, PrI W' (p.to a f) ∧ Keeps p.Blk W W' := by
  have HI : Hid (PrI W p) := h
  have hN := fun o => left_any (h.new ((Keeps.refl _ W).alloc o)).pl h.am h.m4
  have hR : Hid (∀ W2, Keeps (fun _ => False) W W2 → Calls Try.prog 31 #[.pointer (some ⟨p.rb, 0, none⟩)] W2 fun e w' => e = .returned (.int .i64 ((p.m : Int) - (p.at_ : Int))) ∧ Keeps (fun _ => False) W2 w') := fun W2 k => rleft_any (h.new k).rl h.am h.m4
  clear h
  go_enter Try.func20, Try.ntmps20
  go_wp2_with (first | (go_at_call 8; refine (hN _).mono ?_; rintro e w1 ⟨rfl, k1⟩; have k1' : Keeps (fun _ => False) W w1 := ((Keeps.refl (fun _ => False) W).alloc _).trans k1) | (go_at_call 31; refine (hR.out w1 k1').mono ?_; rintro e w3 ⟨rfl, k3⟩))
  go_ret
  exact ⟨rfl, _, _, HI.out.new (k1'.trans k3), (k1'.trans k3).mono (fun _ _ e => e.elim)⟩

set_option maxHeartbeats 3200000 in
set_option maxRecDepth 1000000 in
theorem played_finish (h : PrI W p) (who n : Int) (a : Option Addr) (l c : Nat) :
    Calls Try.prog 20 #[.agg #[.int .i64 2, .int .i64 who, .int .i64 n, .slice a l c], .pointer (some ⟨p.pb, 0, none⟩), .pointer (some ⟨p.rb, 0, none⟩)] W fun e W' => e = .returned (.bool true) ∧ ∃ a f, PrI W' (p.to a f) ∧ Keeps p.Blk W W' := by
  have HI : Hid (PrI W p) := h
  have hlb : ∀ k, p.Blk k → k < W.heap.size := fun k hk => h.lt hk
  have hbp : ¬ W.heap.size = p.pb := fun e => Nat.lt_irrefl _ (e ▸ hlb p.pb (.inl (.inl rfl)))
  have hbr : ¬ RB p.rb p.vp p.ve W.heap.size := fun e => Nat.lt_irrefl _ (hlb _ (.inr e))
  by_cases hin : 0 ≤ n ∧ n < p.nt
  · obtain ⟨t, rfl⟩ : ∃ t : Nat, n = (t : Int) := ⟨n.toNat, by omega⟩
    have ht : t < p.nt := by omega
    have hN := fun o => finish_any (h.new (((Keeps.refl _ W).alloc o).drew)).pl h.n6 ht
    have hR : Hid (∀ o W2, Keeps (fun k => k = p.pb) (W.alloc o).drew W2 → Calls Try.prog 29 #[.pointer (some ⟨p.rb, 0, none⟩), .int .i64 (t : Int)] W2 fun e w' => e = .returned (.int .i64 0) ∧ RL w' p.rb p.vp p.ve p.nt p.m p.z p.at_ (upd p.fin t) ∧ Keeps (RB p.rb p.vp p.ve) W2 w') := fun o W2 k => rfinish_any ((h.rl.new (((Keeps.refl _ W).alloc o).drew)).keeps k (fun i hi e => h.ap i (.inl e) hi)) ht
    clear h hin hlb
    go_enter Try.func20, Try.ntmps20
    go_wp2
    go_region_held3 (fun w' => w'.cell? ⟨W.heap.size, 2, none⟩ = some (.int .i64 (t : Int))) (first | assumption | go_keep) (first | (go_at_call 11; refine (hN _).mono ?_; rintro e w1 ⟨rfl, hP1, k1⟩; have q1 := k1.cell (p := ⟨W.heap.size, 2, none⟩) (v := .int .i64 (t : Int)) (by simp) hbp) | (go_at_call 29; refine (hR.out _ w1 k1).mono ?_; rintro e w3 ⟨rfl, hR3, k3⟩; have q3 := k3.cell q1 hbr))
    go_wp2
    go_ret
    exact ⟨rfl, _, _, HI.out.both HI.out.am (((Keeps.refl _ W).alloc _).drew) k1 hP1 (Keeps.refl _ w1) k3 hR3 (Keeps.refl _ w3)⟩
  · have hN := fun o => finish_not (p := some ⟨p.pb, 0, none⟩) (by have := has_any (h.new (((Keeps.refl _ W).alloc o).drew)).pl n; rw [decide_eq_false hin] at this; exact this)
    have hR := fun o => rfinish_no (h.new (((Keeps.refl _ W).alloc o).drew)).rl hin
    clear h hin hlb
    go_enter Try.func20, Try.ntmps20
    go_wp2
    go_region_held3 (fun w' => w'.cell? ⟨W.heap.size, 2, none⟩ = some (.int .i64 n)) (first | assumption | go_keep) (first | (go_at_call 11; refine (hN _).mono ?_; rintro e w1 ⟨rfl, hw1⟩; subst hw1) | (go_at_call 29; refine (hR _).mono ?_; rintro e w1 ⟨rfl, hw1⟩; subst hw1))
    go_wp2
    go_ret
    exact ⟨rfl, _, _, HI.out.new (((Keeps.refl _ W).alloc _).drew), ((Keeps.refl _ W).alloc _).drew⟩

set_option maxHeartbeats 3200000 in
set_option maxRecDepth 1000000 in
theorem played_other (h : PrI W p) (k who n : Int) (hk : k ≠ 1 ∧ k ≠ 2 ∧ k ≠ 3 ∧ k ≠ 4) (a : Option Addr) (l c : Nat) :
    Calls Try.prog 20 #[.agg #[.int .i64 k, .int .i64 who, .int .i64 n, .slice a l c], .pointer (some ⟨p.pb, 0, none⟩), .pointer (some ⟨p.rb, 0, none⟩)] W fun e W' => e = .returned (.bool true) ∧ ∃ a f, PrI W' (p.to a f) ∧ Keeps p.Blk W W' := by
  have HI : Hid (PrI W p) := h
  have h1 : (k == 1) = false := by simp [hk.1]
  have h2 : (k == 2) = false := by simp [hk.2.1]
  have h3 : (k == 3) = false := by simp [hk.2.2.1]
  have h4 : (k == 4) = false := by simp [hk.2.2.2]
  clear h hk
  go_enter Try.func20, Try.ntmps20
  go_wp2
  go_ret
  exact ⟨rfl, _, _, HI.out.new ((Keeps.refl _ W).alloc _), (Keeps.refl _ W).alloc _⟩

theorem played_any (h : PrI W p) (k who n : Int) (a : Option Addr) (l c : Nat) :
    Calls Try.prog 20 #[.agg #[.int .i64 k, .int .i64 who, .int .i64 n, .slice a l c], .pointer (some ⟨p.pb, 0, none⟩), .pointer (some ⟨p.rb, 0, none⟩)] W fun e W' => e = .returned (.bool true) ∧ ∃ a f, PrI W' (p.to a f) ∧ Keeps p.Blk W W' := by
  by_cases h1 : k = 1
  · subst h1; exact played_next h who n a l c
  · by_cases h2 : k = 2
    · subst h2; exact played_finish h who n a l c
    · by_cases h3 : k = 3
      · subst h3; exact played_finished h who n a l c
      · by_cases h4 : k = 4
        · subst h4; exact played_left h who n a l c
        · exact played_other h k who n ⟨h1, h2, h3, h4⟩ a l c
end
end Go.Proofs.Ytgfjhogogajbjab
