import Derived.Test.YtepolcnplchfbaaKeepSt
import Derived.Test.YtepolcnplchfbaaDrawsNil
import Derived.Test.YtepolcnplchfbaaRefNew
namespace Go.Proofs.Ytepolcnplchfbaa
open Go.RowKit

theorem drewN_keeps (S : Nat → Prop) (w : World) (m : Nat) : Keeps S w (w.drewN m) := (Keeps.refl S w).drewN m
theorem IsDr.keeps {S : Nat → Prop} {w w' : World} {b r n k : Nat} {x : Nat → Int} (h : IsDr w b r n x k) (kp : Keeps S w w') (h1 : ¬ S b) (h2 : ¬ S r) : IsDr w' b r n x k :=
  ⟨kp.cell h.row h1, kp.cell h.taken h1, (kp.frozen (p := ⟨b, 1, none⟩) (World.block_lt_of_cell? _ _ h.taken) h1).trans h.free, fun i hi => kp.cell (h.nums i hi) h2, h.le, h.small⟩
theorem IsDr.step {w : World} {b r n k : Nat} {x : Nat → Int} (h : IsDr w b r n x k) (hbr : r ≠ b) (hk : k < n) : IsDr (w.setCell ⟨b, 1, none⟩ (.int .i64 ((k : Int) + 1))) b r n x (k + 1) where
  row := by rw [World.cell?_setCell_other (h := by simp)]; exact h.row
  taken := World.cell?_setCell_same (h := h.taken) ..
  free := by rw [World.frozen?_setCell]; exact h.free
  nums i hi := by rw [World.cell?_setCell_other (h := fun e => hbr (by simp only [Addr.mk.injEq] at e; exact e.1.symm))]; exact h.nums i hi
  le := hk
  small := h.small
/-- Numbers where they lie. -/
def RawB (a : Option Addr) (n : Nat) (k : Nat) : Prop := 0 < n ∧ ∃ o, a = some ⟨k, o, none⟩
theorem IsRaw.keeps {S : Nat → Prop} {w w' : World} {a : Option Addr} {n : Nat} {x : Nat → Int} (h : IsRaw w a n x) (kp : Keeps S w w') (hS : ∀ k, RawB a n k → ¬ S k) : IsRaw w' a n x := by
  by_cases h0 : n = 0
  · exact .inl h0
  · obtain ⟨b, off, rfl, hb, hc⟩ := h.resolve_left h0
    exact .inr ⟨b, off, rfl, Nat.lt_of_lt_of_le hb kp.size, fun i hi => kp.cell (hc i hi) (hS b ⟨by omega, off, rfl⟩)⟩
theorem IsRd.keeps {S : Nat → Prop} {w w' : World} {b cap n k : Nat} {a : Option Addr} {x : Nat → Int} (h : IsRd w b a cap n x k) (kp : Keeps S w w') (h1 : ¬ S b) (h2 : ∀ k, RawB a n k → ¬ S k) : IsRd w' b a cap n x k :=
  ⟨kp.cell h.row h1, kp.cell h.taken h1, (kp.frozen (p := ⟨b, 1, none⟩) (World.block_lt_of_cell? _ _ h.taken) h1).trans h.free, h.nums.keeps kp h2, h.le, h.small⟩
theorem IsRd.step {w : World} {b cap n k : Nat} {a : Option Addr} {x : Nat → Int} (h : IsRd w b a cap n x k) (hb : ∀ k, RawB a n k → k ≠ b) (hk : k < n) : IsRd (w.setCell ⟨b, 1, none⟩ (.int .i64 ((k : Int) + 1))) b a cap n x (k + 1) where
  row := by rw [World.cell?_setCell_other (h := by simp)]; exact h.row
  taken := World.cell?_setCell_same (h := h.taken) ..
  free := by rw [World.frozen?_setCell]; exact h.free
  nums := h.nums.keeps ((Keeps.refl (fun k => k = b) w).setCell (p := ⟨b, 1, none⟩) (fun _ => rfl) _) (fun k hk e => hb k hk e)
  le := hk
  small := h.small

/-- A stream and its twin. -/
structure Wd where
  pb : Nat
  r : Nat
  rb : Nat
  ra : Option Addr
  rc : Nat
  n : Nat
  x : Nat → Int
  k : Nat
def Wd.Own (p : Wd) (k : Nat) : Prop := k = p.pb ∨ k = p.r
def Wd.Twn (p : Wd) (k : Nat) : Prop := k = p.rb ∨ RawB p.ra p.n k
def Wd.Blk (p : Wd) (k : Nat) : Prop := p.Own k ∨ p.Twn k
def Wd.to (p : Wd) (k : Nat) : Wd := { p with k := k }
structure WI (W : World) (p : Wd) : Prop where
  dr : IsDr W p.pb p.r p.n p.x p.k
  rd : IsRd W p.rb p.ra p.rc p.n p.x p.k
  a1 : p.r ≠ p.pb
  a2 : ∀ k, RawB p.ra p.n k → k ≠ p.rb
  ap : ∀ k, p.Own k → ¬ p.Twn k
  rl : p.r < W.heap.size
theorem WI.lt {W : World} {p : Wd} (h : WI W p) {k : Nat} (hk : p.Blk k) : k < W.heap.size := by
  rcases hk with (rfl | rfl) | (rfl | ⟨hn, o, e⟩)
  · exact World.block_lt_of_cell? _ _ h.dr.row
  · exact h.rl
  · exact World.block_lt_of_cell? _ _ h.rd.row
  · rcases h.rd.nums with h0 | ⟨b, off, e', hb, _⟩
    · omega
    · rw [e] at e'; cases e'; exact hb
theorem WI.keeps {W W' : World} {p : Wd} {S : Nat → Prop} (h : WI W p) (k : Keeps S W W') (hS : ∀ i, p.Blk i → ¬ S i) : WI W' p :=
  ⟨h.dr.keeps k (hS _ (.inl (.inl rfl))) (hS _ (.inl (.inr rfl))), h.rd.keeps k (hS _ (.inr (.inl rfl))) (fun i hi => hS i (.inr (.inr hi))), h.a1, h.a2, h.ap, Nat.lt_of_lt_of_le h.rl k.size⟩
theorem WI.new {W W' : World} {p : Wd} (h : WI W p) (k : Keeps (fun _ => False) W W') : WI W' p := h.keeps k (fun _ _ e => e)
/-- The next number, and where the stream then stands. -/
def Wd.val (p : Wd) : Int := if p.k < p.n then p.x p.k else 0
def Wd.nxt (p : Wd) : Nat := if p.k < p.n then p.k + 1 else p.k
/-- First the stream, then its twin. -/
theorem WI.both {W w1 w3 : World} {p : Wd} {k : Nat} (h : WI W p) (k1 : Keeps (fun i => i = p.pb) W w1) (hD : IsDr w1 p.pb p.r p.n p.x k) (k3 : Keeps (fun i => i = p.rb) w1 w3) (hR : IsRd w3 p.rb p.ra p.rc p.n p.x k) : WI w3 (p.to k) ∧ Keeps p.Blk W w3 :=
  ⟨⟨hD.keeps k3 (fun e => h.ap p.pb (.inl rfl) (.inl e)) (fun e => h.ap p.r (.inr rfl) (.inl e)), hR, h.a1, h.a2, h.ap, Nat.lt_of_lt_of_le h.rl (Nat.le_trans k1.size k3.size)⟩,
   (k1.mono (fun _ _ e => .inl (.inl e))).trans (k3.mono (fun _ _ e => .inr (.inl e)))⟩

section
variable {W : World} {p : Wd}
theorem wnext (h : IsDr W p.pb p.r p.n p.x p.k) (hbr : p.r ≠ p.pb) : Calls Try.prog 8 #[.pointer (some ⟨p.pb, 0, none⟩)] W fun e w' => e = .returned (.int .i64 p.val) ∧ IsDr w' p.pb p.r p.n p.x p.nxt ∧ Keeps (fun i => i = p.pb) W w' := by
  by_cases hk : p.k < p.n
  · have e1 : p.val = p.x p.k := if_pos hk
    have e2 : p.nxt = p.k + 1 := if_pos hk
    refine (next_some h hk).mono ?_
    rintro e w' ⟨rfl, m, rfl⟩
    rw [e1, e2]
    have ks : Keeps (fun i => i = p.pb) W (W.setCell ⟨p.pb, 1, none⟩ (.int .i64 ((p.k : Int) + 1))) := (Keeps.refl (fun i => i = p.pb) W).setCell (p := ⟨p.pb, 1, none⟩) (fun _ => rfl) _
    exact ⟨rfl, (h.step hbr hk).keeps (drewN_keeps (fun _ => False) _ m) (fun e => e) (fun e => e), ks.trans (drewN_keeps _ _ m)⟩
  · have e1 : p.val = 0 := if_neg hk
    have e2 : p.nxt = p.k := if_neg hk
    refine (next_none h (by have := h.le; omega)).mono ?_
    rintro e w' ⟨rfl, m, rfl⟩
    rw [e1, e2]
    exact ⟨rfl, h.keeps (drewN_keeps (fun _ => False) _ m) (fun e => e) (fun e => e), drewN_keeps _ _ m⟩
theorem wrnext (h : IsRd W p.rb p.ra p.rc p.n p.x p.k) (ha : ∀ k, RawB p.ra p.n k → k ≠ p.rb) : Calls Try.prog 9 #[.pointer (some ⟨p.rb, 0, none⟩)] W fun e w' => e = .returned (.int .i64 p.val) ∧ IsRd w' p.rb p.ra p.rc p.n p.x p.nxt ∧ Keeps (fun i => i = p.rb) W w' := by
  by_cases hk : p.k < p.n
  · have e1 : p.val = p.x p.k := if_pos hk
    have e2 : p.nxt = p.k + 1 := if_pos hk
    refine (refNext_some h hk (fun q hq => ?_)).mono ?_
    · obtain ⟨b, off, e, _⟩ := h.nums.resolve_left (by omega)
      rw [e] at hq
      cases hq
      exact ha b ⟨by omega, off, e⟩
    rintro e w' ⟨rfl, m, rfl⟩
    rw [e1, e2]
    have ks : Keeps (fun i => i = p.rb) W (W.setCell ⟨p.rb, 1, none⟩ (.int .i64 ((p.k : Int) + 1))) := (Keeps.refl (fun i => i = p.rb) W).setCell (p := ⟨p.rb, 1, none⟩) (fun _ => rfl) _
    exact ⟨rfl, (h.step ha hk).keeps (drewN_keeps (fun _ => False) _ m) (fun e => e) (fun _ _ e => e), ks.trans (drewN_keeps _ _ m)⟩
  · have e1 : p.val = 0 := if_neg hk
    have e2 : p.nxt = p.k := if_neg hk
    refine (refNext_none h (by have := h.le; omega)).mono ?_
    rintro e w' ⟨rfl, m, rfl⟩
    rw [e1, e2]
    exact ⟨rfl, h.keeps (drewN_keeps (fun _ => False) _ m) (fun e => e) (fun _ _ e => e), drewN_keeps _ _ m⟩
/-- Below's answer. -/
def Wd.bel (p : Wd) (t : Int) : Int := if t ≤ 1 then 0 else if p.k < p.n then urem (p.x p.k) t else 0
def Wd.nxb (p : Wd) (t : Int) : Nat := if t ≤ 1 then p.k else p.nxt
theorem wbelow (h : IsDr W p.pb p.r p.n p.x p.k) (hbr : p.r ≠ p.pb) (t : Int) (ht : In64 t) : Calls Try.prog 10 #[.pointer (some ⟨p.pb, 0, none⟩), .int .i64 t] W fun e w' => e = .returned (.int .i64 (p.bel t)) ∧ IsDr w' p.pb p.r p.n p.x (p.nxb t) ∧ Keeps (fun i => i = p.pb) W w' := by
  by_cases h1 : t ≤ 1
  · have e1 : p.bel t = 0 := if_pos h1
    have e2 : p.nxb t = p.k := if_pos h1
    refine (below_low _ t h1 W).mono ?_
    rintro e w' ⟨rfl, rfl⟩
    rw [e1, e2]
    exact ⟨rfl, h, Keeps.refl _ _⟩
  · by_cases hk : p.k < p.n
    · have e1 : p.bel t = urem (p.x p.k) t := by unfold Wd.bel; rw [if_neg h1, if_pos hk]
      have e2 : p.nxb t = p.k + 1 := by unfold Wd.nxb Wd.nxt; rw [if_neg h1, if_pos hk]
      refine (below_some h hk t (by omega) ht).mono ?_
      rintro e w' ⟨rfl, m, rfl⟩
      rw [e1, e2]
      have ks : Keeps (fun i => i = p.pb) W (W.setCell ⟨p.pb, 1, none⟩ (.int .i64 ((p.k : Int) + 1))) := (Keeps.refl (fun i => i = p.pb) W).setCell (p := ⟨p.pb, 1, none⟩) (fun _ => rfl) _
      exact ⟨rfl, (h.step hbr hk).keeps (drewN_keeps (fun _ => False) _ m) (fun e => e) (fun e => e), ks.trans (drewN_keeps _ _ m)⟩
    · have e1 : p.bel t = 0 := by unfold Wd.bel; rw [if_neg h1, if_neg hk]
      have e2 : p.nxb t = p.k := by unfold Wd.nxb Wd.nxt; rw [if_neg h1, if_neg hk]
      refine (below_none h (by have := h.le; omega) t (by omega) ht).mono ?_
      rintro e w' ⟨rfl, m, rfl⟩
      rw [e1, e2]
      exact ⟨rfl, h.keeps (drewN_keeps (fun _ => False) _ m) (fun e => e) (fun e => e), drewN_keeps _ _ m⟩
theorem wrbelow (h : IsRd W p.rb p.ra p.rc p.n p.x p.k) (ha : ∀ k, RawB p.ra p.n k → k ≠ p.rb) (t : Int) (ht : In64 t) : Calls Try.prog 11 #[.pointer (some ⟨p.rb, 0, none⟩), .int .i64 t] W fun e w' => e = .returned (.int .i64 (p.bel t)) ∧ IsRd w' p.rb p.ra p.rc p.n p.x (p.nxb t) ∧ Keeps (fun i => i = p.rb) W w' := by
  by_cases h1 : t ≤ 1
  · have e1 : p.bel t = 0 := if_pos h1
    have e2 : p.nxb t = p.k := if_pos h1
    refine (refBelow_low _ t h1 W).mono ?_
    rintro e w' ⟨rfl, rfl⟩
    rw [e1, e2]
    exact ⟨rfl, h, Keeps.refl _ _⟩
  · by_cases hk : p.k < p.n
    · have e1 : p.bel t = urem (p.x p.k) t := by unfold Wd.bel; rw [if_neg h1, if_pos hk]
      have e2 : p.nxb t = p.k + 1 := by unfold Wd.nxb Wd.nxt; rw [if_neg h1, if_pos hk]
      refine (refBelow_some h hk (fun q hq => ?_) t (by omega) ht).mono ?_
      · obtain ⟨b, off, e, _⟩ := h.nums.resolve_left (by omega)
        rw [e] at hq
        cases hq
        exact ha b ⟨by omega, off, e⟩
      rintro e w' ⟨rfl, m, rfl⟩
      rw [e1, e2]
      have ks : Keeps (fun i => i = p.rb) W (W.setCell ⟨p.rb, 1, none⟩ (.int .i64 ((p.k : Int) + 1))) := (Keeps.refl (fun i => i = p.rb) W).setCell (p := ⟨p.rb, 1, none⟩) (fun _ => rfl) _
      exact ⟨rfl, (h.step ha hk).keeps (drewN_keeps (fun _ => False) _ m) (fun e => e) (fun _ _ e => e), ks.trans (drewN_keeps _ _ m)⟩
    · have e1 : p.bel t = 0 := by unfold Wd.bel; rw [if_neg h1, if_neg hk]
      have e2 : p.nxb t = p.k := by unfold Wd.nxb Wd.nxt; rw [if_neg h1, if_neg hk]
      refine (refBelow_none h (by have := h.le; omega) t (by omega) ht).mono ?_
      rintro e w' ⟨rfl, m, rfl⟩
      rw [e1, e2]
      exact ⟨rfl, h.keeps (drewN_keeps (fun _ => False) _ m) (fun e => e) (fun _ _ e => e), drewN_keeps _ _ m⟩
theorem wleft (h : IsDr W p.pb p.r p.n p.x p.k) : Calls Try.prog 14 #[.pointer (some ⟨p.pb, 0, none⟩)] W fun e w' => e = .returned (.int .i64 ((p.n : Int) - (p.k : Int))) ∧ Keeps (fun _ => False) W w' :=
  (left_any h).mono (by rintro e w' ⟨rfl, m, rfl⟩; exact ⟨rfl, drewN_keeps _ _ m⟩)
theorem wrleft (h : IsRd W p.rb p.ra p.rc p.n p.x p.k) : Calls Try.prog 15 #[.pointer (some ⟨p.rb, 0, none⟩)] W fun e w' => e = .returned (.int .i64 ((p.n : Int) - (p.k : Int))) ∧ Keeps (fun _ => False) W w' :=
  (refLeft_any h).mono (by rintro e w' ⟨rfl, m, rfl⟩; exact ⟨rfl, drewN_keeps _ _ m⟩)
end
end Go.Proofs.Ytepolcnplchfbaa
