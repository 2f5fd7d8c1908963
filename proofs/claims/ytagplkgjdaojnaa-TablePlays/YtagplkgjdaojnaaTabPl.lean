import Derived.Test.YtagplkgjdaojnaaTabL
namespace Go.Proofs.Ytagplkgjdaojnaa
open Go.RowKit
attribute [local go_sem] Oper.semAt_some

/-- A table and its twin. -/
structure Pr where
  T : Tk
  rb : Nat
  vr : Value
  rs : List Rd
def Pr.Blk (p : Pr) (k : Nat) : Prop := p.T.Blk k ∨ RBlk p.rb p.vr k
structure PrI (W : World) (p : Pr) : Prop where
  t : TV W p.T p.rs
  r : RV W p.rb p.vr p.rs
  ap : ∀ k, p.T.Blk k → ¬ RBlk p.rb p.vr k
theorem PrI.keeps {W W' : World} {p : Pr} {S : Nat → Prop} (h : PrI W p) (k : Keeps S W W') (hS : ∀ i, p.Blk i → ¬ S i) : PrI W' p :=
  ⟨h.t.keep k (fun i e => hS i (.inl e)), h.r.keep k (fun i e => hS i (.inr e)), h.ap⟩
theorem PrI.new {W W' : World} {p : Pr} (h : PrI W p) (k : Keeps (fun _ => False) W W') : PrI W' p := h.keeps k (fun _ _ e => e)
theorem PrI.lt {W : World} {p : Pr} (h : PrI W p) {k : Nat} (hk : p.Blk k) : k < W.heap.size := by
  rcases hk with hk | hk
  · exact h.t.lt hk
  · exact h.r.lt hk
/-- Played on. -/
structure Pt (W W' : World) (p p' : Pr) : Prop where
  kp : Keeps p.Blk W W'
  bk : ∀ k, p'.Blk k → p.Blk k ∨ W.heap.size ≤ k
  tb : p'.T.tb = p.T.tb
  rb : p'.rb = p.rb
  ln : p'.rs.length ≤ p.rs.length + 1
theorem Pt.new {W W' : World} {p : Pr} (k : Keeps (fun _ => False) W W') : Pt W W' p p := ⟨k.mono (fun _ _ e => e.elim), fun _ h => .inl h, rfl, rfl, Nat.le_succ _⟩
theorem PrI.both {W W0 W1 W2 W3 W4 : World} {p : Pr} (h : PrI W p) (k0 : Keeps (fun _ => False) W W0) {T' : Tk} {vr' : Value} {rs' : List Rd} (ht : TV W1 T' rs') (l : Lf W0 W1 p.T T') (k12 : Keeps (fun _ => False) W1 W2) (hr : RV W3 p.rb vr' rs') (f : Rf W2 W3 p.rb p.vr vr') (k34 : Keeps (fun _ => False) W3 W4) (hl : rs'.length ≤ p.rs.length + 1) :
    PrI W4 ⟨T', p.rb, vr', rs'⟩ ∧ Pt W W4 p ⟨T', p.rb, vr', rs'⟩ := by
  have s0 := k0.size
  have s1 := l.kp.size
  have s2 := k12.size
  have hT : ∀ k, T'.Blk k → ¬ RBlk p.rb p.vr k := fun k e e' => by
    have := h.r.lt e'
    rcases l.bk k e with x | x
    · exact h.ap k x e'
    · omega
  have hlT : ∀ k, T'.Blk k → k < W2.heap.size := fun k e => by have := ht.lt e; omega
  refine ⟨⟨((ht.new k12).keep f.kp (fun i e e' => hT i e e')).new k34, hr.new k34, fun k e e' => ?_⟩, ⟨?_, fun k hk => ?_, l.tb, rfl, hl⟩⟩
  · rcases f.bk k e' with x | x
    · exact hT k e x
    · have := hlT k e; omega
  · have x1 : Keeps p.Blk W W1 := k0.trans' l.kp (fun _ _ e => e.elim) (fun _ _ e => .inl e)
    have x2 : Keeps p.Blk W W3 := (x1.trans (k12.mono (fun _ _ e => e.elim))).trans (f.kp.mono (fun _ _ e => .inr e))
    exact x2.trans (k34.mono (fun _ _ e => e.elim))
  · rcases hk with e | e
    · rcases l.bk k e with x | x
      · exact .inl (.inl x)
      · exact .inr (by omega)
    · rcases f.bk k e with x | x
      · exact .inl (.inr x)
      · exact .inr (by omega)
theorem evo_form (x : Option En) : ∃ eo ev' en : Int, evo x = .agg #[.int .i64 eo, .int .i64 ev', .int .i64 en] := by
  cases x with
  | none => exact ⟨0, 0, 0, rfl⟩
  | some e => exact ⟨_, _, _, rfl⟩

section
variable {W : World} {p : Pr}

set_option maxHeartbeats 3200000 in
set_option maxRecDepth 1000000 in
theorem played_find (h : PrI W p) {who n v : Int} {eo ev' en er : Int} {rs' : List Rd} (hl : rs'.length ≤ p.rs.length + 1)
    (c1 : ∀ W0, Keeps (fun _ => False) W W0 → Calls Try.prog 26 #[.pointer (some ⟨p.T.tb, 0, none⟩), .int .i64 n] W0 fun e w' => e = .returned (.tuple #[.agg #[.int .i64 eo, .int .i64 ev', .int .i64 en], .int .i64 er]) ∧ ∃ T', TV w' T' rs' ∧ Lf W0 w' p.T T')
    (c2 : ∀ W2, RV W2 p.rb p.vr p.rs → Calls Try.prog 31 #[.pointer (some ⟨p.rb, 0, none⟩), .int .i64 n] W2 fun e w' => e = .returned (.tuple #[.agg #[.int .i64 eo, .int .i64 ev', .int .i64 en], .int .i64 er]) ∧ ∃ vr', RV w' p.rb vr' rs' ∧ Rf W2 w' p.rb p.vr vr') :
    Calls Try.prog 22 #[.agg #[.int .i64 3, .int .i64 who, .int .i64 n, .int .i64 v], .pointer (some ⟨p.T.tb, 0, none⟩), .pointer (some ⟨p.rb, 0, none⟩)] W fun e W' => e = .returned (.bool true) ∧ ∃ p', PrI W' p' ∧ Pt W W' p p' := by
  have H : Hid (PrI W p) := h
  have hlt : Hid (∀ k, p.Blk k → k < W.heap.size) := fun k hk => h.lt hk
  have C1 := c1 _ ((Keeps.refl (fun _ => False) W).alloc (.cells #[.int .i64 3, .int .i64 who, .int .i64 n, .int .i64 v] 34))
  have hbr : (er == er) = true := by simp
  clear h c1
  go_enter Try.func22, Try.ntmps22
  go_wp2_with fail
  refine C1.mono ?_
  rintro e w1 ⟨rfl, T', hT', hL'⟩
  clear C1
  have nX : ¬ p.T.Blk W.heap.size := fun e => by have := hlt.out _ (.inl e); omega
  have y2 := hL'.kp.cell (p := ⟨W.heap.size, 2, none⟩) (v := .int .i64 n) (by simp) nX
  have y2a := fun ob => ((Keeps.refl (fun _ => False) w1).alloc ob).cell y2 (fun e => e)
  have sA : (W.alloc (.cells #[.int .i64 3, .int .i64 who, .int .i64 n, .int .i64 v] 34)).heap.size = W.heap.size + 1 := by simp
  have sz1 := hL'.kp.size
  have hR1 : RV w1 p.rb p.vr p.rs := (H.out.r.new ((Keeps.refl _ W).alloc _)).keep hL'.kp (fun i e e' => H.out.ap i e' e)
  have kA : Keeps (fun _ => False) w1 (w1.alloc (.cells #[.int .i64 eo, .int .i64 ev', .int .i64 en] 36)) := (Keeps.refl _ w1).alloc _
  have C2 := c2 _ (hR1.new kA)
  clear c2 y2
  go_wp2_with fail
  refine C2.mono ?_
  rintro e w3 ⟨rfl, vr', hR', hF'⟩
  clear C2
  have nY : ¬ RBlk p.rb p.vr w1.heap.size := fun e => by have := hlt.out _ (.inr e); omega
  have x0 := hF'.kp.cell (p := ⟨w1.heap.size, 0, none⟩) (v := .int .i64 eo) (by simp) nY
  have x1 := hF'.kp.cell (p := ⟨w1.heap.size, 1, none⟩) (v := .int .i64 ev') (by simp) nY
  have x2 := hF'.kp.cell (p := ⟨w1.heap.size, 2, none⟩) (v := .int .i64 en) (by simp) nY
  have kB := fun ob => (Keeps.refl (fun _ => False) w3).alloc ob
  have x0a := fun ob => (kB ob).cell x0 (fun e => e)
  have x1a := fun ob => (kB ob).cell x1 (fun e => e)
  have x2a := fun ob => (kB ob).cell x2 (fun e => e)
  have HEND : Hid (∀ W5, Keeps (fun _ => False) (w3.alloc (.cells #[.int .i64 eo, .int .i64 ev', .int .i64 en] 70)) W5 → PrI W5 ⟨T', p.rb, vr', rs'⟩ ∧ Pt W W5 p ⟨T', p.rb, vr', rs'⟩) := fun W5 k5 => H.out.both ((Keeps.refl _ W).alloc _) hT' hL' kA hR' hF' ((kB _).trans k5) hl
  clear hT' hL' hR' hF' hR1 x0 x1 x2 kA kB y2a
  go_wp2_with fail
  refine (same_any _ _ _ _).mono ?_
  rintro e w5 ⟨rfl, k5⟩
  have HE : Hid (∃ p', PrI w5 p' ∧ Pt W w5 p p') := ⟨_, HEND.out w5 k5⟩
  clear HEND k5
  go_wp2_with fail
  go_ret
  exact ⟨rfl, HE.out⟩

set_option maxHeartbeats 3200000 in
set_option maxRecDepth 1000000 in
theorem played_at (h : PrI W p) {who n v : Int} {eo ev' en er : Int} {rs' : List Rd} (hl : rs'.length ≤ p.rs.length + 1)
    (c1 : ∀ W0, Keeps (fun _ => False) W W0 → Calls Try.prog 27 #[.pointer (some ⟨p.T.tb, 0, none⟩), .int .i64 n] W0 fun e w' => e = .returned (.tuple #[.agg #[.int .i64 eo, .int .i64 ev', .int .i64 en], .int .i64 er]) ∧ ∃ T', TV w' T' rs' ∧ Lf W0 w' p.T T')
    (c2 : ∀ W2, RV W2 p.rb p.vr p.rs → Calls Try.prog 33 #[.pointer (some ⟨p.rb, 0, none⟩), .int .i64 n] W2 fun e w' => e = .returned (.tuple #[.agg #[.int .i64 eo, .int .i64 ev', .int .i64 en], .int .i64 er]) ∧ ∃ vr', RV w' p.rb vr' rs' ∧ Rf W2 w' p.rb p.vr vr') :
    Calls Try.prog 22 #[.agg #[.int .i64 4, .int .i64 who, .int .i64 n, .int .i64 v], .pointer (some ⟨p.T.tb, 0, none⟩), .pointer (some ⟨p.rb, 0, none⟩)] W fun e W' => e = .returned (.bool true) ∧ ∃ p', PrI W' p' ∧ Pt W W' p p' := by
  have H : Hid (PrI W p) := h
  have hlt : Hid (∀ k, p.Blk k → k < W.heap.size) := fun k hk => h.lt hk
  have C1 := c1 _ ((Keeps.refl (fun _ => False) W).alloc (.cells #[.int .i64 4, .int .i64 who, .int .i64 n, .int .i64 v] 34))
  have hbr : (er == er) = true := by simp
  clear h c1
  go_enter Try.func22, Try.ntmps22
  go_wp2_with fail
  refine C1.mono ?_
  rintro e w1 ⟨rfl, T', hT', hL'⟩
  clear C1
  have nX : ¬ p.T.Blk W.heap.size := fun e => by have := hlt.out _ (.inl e); omega
  have y2 := hL'.kp.cell (p := ⟨W.heap.size, 2, none⟩) (v := .int .i64 n) (by simp) nX
  have y2a := fun ob => ((Keeps.refl (fun _ => False) w1).alloc ob).cell y2 (fun e => e)
  have sA : (W.alloc (.cells #[.int .i64 4, .int .i64 who, .int .i64 n, .int .i64 v] 34)).heap.size = W.heap.size + 1 := by simp
  have sz1 := hL'.kp.size
  have hR1 : RV w1 p.rb p.vr p.rs := (H.out.r.new ((Keeps.refl _ W).alloc _)).keep hL'.kp (fun i e e' => H.out.ap i e' e)
  have kA : Keeps (fun _ => False) w1 (w1.alloc (.cells #[.int .i64 eo, .int .i64 ev', .int .i64 en] 36)) := (Keeps.refl _ w1).alloc _
  have C2 := c2 _ (hR1.new kA)
  clear c2 y2
  go_wp2_with fail
  refine C2.mono ?_
  rintro e w3 ⟨rfl, vr', hR', hF'⟩
  clear C2
  have nY : ¬ RBlk p.rb p.vr w1.heap.size := fun e => by have := hlt.out _ (.inr e); omega
  have x0 := hF'.kp.cell (p := ⟨w1.heap.size, 0, none⟩) (v := .int .i64 eo) (by simp) nY
  have x1 := hF'.kp.cell (p := ⟨w1.heap.size, 1, none⟩) (v := .int .i64 ev') (by simp) nY
  have x2 := hF'.kp.cell (p := ⟨w1.heap.size, 2, none⟩) (v := .int .i64 en) (by simp) nY
  have kB := fun ob => (Keeps.refl (fun _ => False) w3).alloc ob
  have x0a := fun ob => (kB ob).cell x0 (fun e => e)
  have x1a := fun ob => (kB ob).cell x1 (fun e => e)
  have x2a := fun ob => (kB ob).cell x2 (fun e => e)
  have HEND : Hid (∀ W5, Keeps (fun _ => False) (w3.alloc (.cells #[.int .i64 eo, .int .i64 ev', .int .i64 en] 70)) W5 → PrI W5 ⟨T', p.rb, vr', rs'⟩ ∧ Pt W W5 p ⟨T', p.rb, vr', rs'⟩) := fun W5 k5 => H.out.both ((Keeps.refl _ W).alloc _) hT' hL' kA hR' hF' ((kB _).trans k5) hl
  clear hT' hL' hR' hF' hR1 x0 x1 x2 kA kB y2a
  go_wp2_with fail
  refine (same_any _ _ _ _).mono ?_
  rintro e w5 ⟨rfl, k5⟩
  have HE : Hid (∃ p', PrI w5 p' ∧ Pt W w5 p p') := ⟨_, HEND.out w5 k5⟩
  clear HEND k5
  go_wp2_with fail
  go_ret
  exact ⟨rfl, HE.out⟩

set_option maxHeartbeats 3200000 in
set_option maxRecDepth 1000000 in
theorem played_release (h : PrI W p) {who n v : Int} {eo ev' en er : Int} {rs' : List Rd} (hl : rs'.length ≤ p.rs.length + 1)
    (c1 : ∀ W0, Keeps (fun _ => False) W W0 → Calls Try.prog 12 #[.pointer (some ⟨p.T.tb, 0, none⟩), .int .i64 n] W0 fun e w' => e = .returned (.tuple #[.agg #[.int .i64 eo, .int .i64 ev', .int .i64 en], .int .i64 er]) ∧ ∃ T', TV w' T' rs' ∧ Lf W0 w' p.T T')
    (c2 : ∀ W2, RV W2 p.rb p.vr p.rs → Calls Try.prog 34 #[.pointer (some ⟨p.rb, 0, none⟩), .int .i64 n, .int .i64 2] W2 fun e w' => e = .returned (.tuple #[.agg #[.int .i64 eo, .int .i64 ev', .int .i64 en], .int .i64 er]) ∧ ∃ vr', RV w' p.rb vr' rs' ∧ Rf W2 w' p.rb p.vr vr') :
    Calls Try.prog 22 #[.agg #[.int .i64 5, .int .i64 who, .int .i64 n, .int .i64 v], .pointer (some ⟨p.T.tb, 0, none⟩), .pointer (some ⟨p.rb, 0, none⟩)] W fun e W' => e = .returned (.bool true) ∧ ∃ p', PrI W' p' ∧ Pt W W' p p' := by
  have H : Hid (PrI W p) := h
  have hlt : Hid (∀ k, p.Blk k → k < W.heap.size) := fun k hk => h.lt hk
  have C1 := c1 _ ((Keeps.refl (fun _ => False) W).alloc (.cells #[.int .i64 5, .int .i64 who, .int .i64 n, .int .i64 v] 34))
  have hbr : (er == er) = true := by simp
  clear h c1
  go_enter Try.func22, Try.ntmps22
  go_wp2_with fail
  refine C1.mono ?_
  rintro e w1 ⟨rfl, T', hT', hL'⟩
  clear C1
  have nX : ¬ p.T.Blk W.heap.size := fun e => by have := hlt.out _ (.inl e); omega
  have y2 := hL'.kp.cell (p := ⟨W.heap.size, 2, none⟩) (v := .int .i64 n) (by simp) nX
  have y2a := fun ob => ((Keeps.refl (fun _ => False) w1).alloc ob).cell y2 (fun e => e)
  have sA : (W.alloc (.cells #[.int .i64 5, .int .i64 who, .int .i64 n, .int .i64 v] 34)).heap.size = W.heap.size + 1 := by simp
  have sz1 := hL'.kp.size
  have hR1 : RV w1 p.rb p.vr p.rs := (H.out.r.new ((Keeps.refl _ W).alloc _)).keep hL'.kp (fun i e e' => H.out.ap i e' e)
  have kA : Keeps (fun _ => False) w1 (w1.alloc (.cells #[.int .i64 eo, .int .i64 ev', .int .i64 en] 36)) := (Keeps.refl _ w1).alloc _
  have C2 := c2 _ (hR1.new kA)
  clear c2 y2
  go_wp2_with fail
  refine C2.mono ?_
  rintro e w3 ⟨rfl, vr', hR', hF'⟩
  clear C2
  have nY : ¬ RBlk p.rb p.vr w1.heap.size := fun e => by have := hlt.out _ (.inr e); omega
  have x0 := hF'.kp.cell (p := ⟨w1.heap.size, 0, none⟩) (v := .int .i64 eo) (by simp) nY
  have x1 := hF'.kp.cell (p := ⟨w1.heap.size, 1, none⟩) (v := .int .i64 ev') (by simp) nY
  have x2 := hF'.kp.cell (p := ⟨w1.heap.size, 2, none⟩) (v := .int .i64 en) (by simp) nY
  have kB := fun ob => (Keeps.refl (fun _ => False) w3).alloc ob
  have x0a := fun ob => (kB ob).cell x0 (fun e => e)
  have x1a := fun ob => (kB ob).cell x1 (fun e => e)
  have x2a := fun ob => (kB ob).cell x2 (fun e => e)
  have HEND : Hid (∀ W5, Keeps (fun _ => False) (w3.alloc (.cells #[.int .i64 eo, .int .i64 ev', .int .i64 en] 70)) W5 → PrI W5 ⟨T', p.rb, vr', rs'⟩ ∧ Pt W W5 p ⟨T', p.rb, vr', rs'⟩) := fun W5 k5 => H.out.both ((Keeps.refl _ W).alloc _) hT' hL' kA hR' hF' ((kB _).trans k5) hl
  clear hT' hL' hR' hF' hR1 x0 x1 x2 kA kB y2a
  go_wp2_with fail
  refine (same_any _ _ _ _).mono ?_
  rintro e w5 ⟨rfl, k5⟩
  have HE : Hid (∃ p', PrI w5 p' ∧ Pt W w5 p p') := ⟨_, HEND.out w5 k5⟩
  clear HEND k5
  go_wp2_with fail
  go_ret
  exact ⟨rfl, HE.out⟩

set_option maxHeartbeats 3200000 in
set_option maxRecDepth 1000000 in
theorem played_upgrade (h : PrI W p) {who n v : Int} {eo ev' en er : Int} {rs' : List Rd} (hl : rs'.length ≤ p.rs.length + 1)
    (c1 : ∀ W0, Keeps (fun _ => False) W W0 → Calls Try.prog 11 #[.pointer (some ⟨p.T.tb, 0, none⟩), .int .i64 n] W0 fun e w' => e = .returned (.tuple #[.agg #[.int .i64 eo, .int .i64 ev', .int .i64 en], .int .i64 er]) ∧ ∃ T', TV w' T' rs' ∧ Lf W0 w' p.T T')
    (c2 : ∀ W2, RV W2 p.rb p.vr p.rs → Calls Try.prog 34 #[.pointer (some ⟨p.rb, 0, none⟩), .int .i64 n, .int .i64 3] W2 fun e w' => e = .returned (.tuple #[.agg #[.int .i64 eo, .int .i64 ev', .int .i64 en], .int .i64 er]) ∧ ∃ vr', RV w' p.rb vr' rs' ∧ Rf W2 w' p.rb p.vr vr') :
    Calls Try.prog 22 #[.agg #[.int .i64 6, .int .i64 who, .int .i64 n, .int .i64 v], .pointer (some ⟨p.T.tb, 0, none⟩), .pointer (some ⟨p.rb, 0, none⟩)] W fun e W' => e = .returned (.bool true) ∧ ∃ p', PrI W' p' ∧ Pt W W' p p' := by
  have H : Hid (PrI W p) := h
  have hlt : Hid (∀ k, p.Blk k → k < W.heap.size) := fun k hk => h.lt hk
  have C1 := c1 _ ((Keeps.refl (fun _ => False) W).alloc (.cells #[.int .i64 6, .int .i64 who, .int .i64 n, .int .i64 v] 34))
  have hbr : (er == er) = true := by simp
  clear h c1
  go_enter Try.func22, Try.ntmps22
  go_wp2_with fail
  refine C1.mono ?_
  rintro e w1 ⟨rfl, T', hT', hL'⟩
  clear C1
  have nX : ¬ p.T.Blk W.heap.size := fun e => by have := hlt.out _ (.inl e); omega
  have y2 := hL'.kp.cell (p := ⟨W.heap.size, 2, none⟩) (v := .int .i64 n) (by simp) nX
  have y2a := fun ob => ((Keeps.refl (fun _ => False) w1).alloc ob).cell y2 (fun e => e)
  have sA : (W.alloc (.cells #[.int .i64 6, .int .i64 who, .int .i64 n, .int .i64 v] 34)).heap.size = W.heap.size + 1 := by simp
  have sz1 := hL'.kp.size
  have hR1 : RV w1 p.rb p.vr p.rs := (H.out.r.new ((Keeps.refl _ W).alloc _)).keep hL'.kp (fun i e e' => H.out.ap i e' e)
  have kA : Keeps (fun _ => False) w1 (w1.alloc (.cells #[.int .i64 eo, .int .i64 ev', .int .i64 en] 36)) := (Keeps.refl _ w1).alloc _
  have C2 := c2 _ (hR1.new kA)
  clear c2 y2
  go_wp2_with fail
  refine C2.mono ?_
  rintro e w3 ⟨rfl, vr', hR', hF'⟩
  clear C2
  have nY : ¬ RBlk p.rb p.vr w1.heap.size := fun e => by have := hlt.out _ (.inr e); omega
  have x0 := hF'.kp.cell (p := ⟨w1.heap.size, 0, none⟩) (v := .int .i64 eo) (by simp) nY
  have x1 := hF'.kp.cell (p := ⟨w1.heap.size, 1, none⟩) (v := .int .i64 ev') (by simp) nY
  have x2 := hF'.kp.cell (p := ⟨w1.heap.size, 2, none⟩) (v := .int .i64 en) (by simp) nY
  have kB := fun ob => (Keeps.refl (fun _ => False) w3).alloc ob
  have x0a := fun ob => (kB ob).cell x0 (fun e => e)
  have x1a := fun ob => (kB ob).cell x1 (fun e => e)
  have x2a := fun ob => (kB ob).cell x2 (fun e => e)
  have HEND : Hid (∀ W5, Keeps (fun _ => False) (w3.alloc (.cells #[.int .i64 eo, .int .i64 ev', .int .i64 en] 70)) W5 → PrI W5 ⟨T', p.rb, vr', rs'⟩ ∧ Pt W W5 p ⟨T', p.rb, vr', rs'⟩) := fun W5 k5 => H.out.both ((Keeps.refl _ W).alloc _) hT' hL' kA hR' hF' ((kB _).trans k5) hl
  clear hT' hL' hR' hF' hR1 x0 x1 x2 kA kB y2a
  go_wp2_with fail
  refine (same_any _ _ _ _).mono ?_
  rintro e w5 ⟨rfl, k5⟩
  have HE : Hid (∃ p', PrI w5 p' ∧ Pt W w5 p p') := ⟨_, HEND.out w5 k5⟩
  clear HEND k5
  go_wp2_with fail
  go_ret
  exact ⟨rfl, HE.out⟩

set_option maxHeartbeats 3200000 in
set_option maxRecDepth 1000000 in
theorem played_add (h : PrI W p) {who n v : Int} {o1 er : Int} {rs' : List Rd} (hl : rs'.length ≤ p.rs.length + 1)
    (c1 : ∀ W0, Keeps (fun _ => False) W W0 → Calls Try.prog 9 #[.pointer (some ⟨p.T.tb, 0, none⟩), .int .i64 n, .int .i64 v] W0 fun e w' => e = .returned (.tuple #[.int .i64 o1, .int .i64 er]) ∧ ∃ T', TV w' T' rs' ∧ Lf W0 w' p.T T')
    (c2 : ∀ W2, RV W2 p.rb p.vr p.rs → Calls Try.prog 30 #[.pointer (some ⟨p.rb, 0, none⟩), .int .i64 n, .int .i64 v] W2 fun e w' => e = .returned (.tuple #[.int .i64 o1, .int .i64 er]) ∧ ∃ vr', RV w' p.rb vr' rs' ∧ Rf W2 w' p.rb p.vr vr') :
    Calls Try.prog 22 #[.agg #[.int .i64 2, .int .i64 who, .int .i64 n, .int .i64 v], .pointer (some ⟨p.T.tb, 0, none⟩), .pointer (some ⟨p.rb, 0, none⟩)] W fun e W' => e = .returned (.bool true) ∧ ∃ p', PrI W' p' ∧ Pt W W' p p' := by
  have H : Hid (PrI W p) := h
  have hlt : Hid (∀ k, p.Blk k → k < W.heap.size) := fun k hk => h.lt hk
  have C1 := c1 _ ((Keeps.refl (fun _ => False) W).alloc (.cells #[.int .i64 2, .int .i64 who, .int .i64 n, .int .i64 v] 34))
  have hbr : (er == er) = true := by simp
  have hbo : (o1 == o1) = true := by simp
  clear h c1
  go_enter Try.func22, Try.ntmps22
  go_wp2_with fail
  refine C1.mono ?_
  rintro e w1 ⟨rfl, T', hT', hL'⟩
  clear C1
  have nX : ¬ p.T.Blk W.heap.size := fun e => by have := hlt.out _ (.inl e); omega
  have y2 := hL'.kp.cell (p := ⟨W.heap.size, 2, none⟩) (v := .int .i64 n) (by simp) nX
  have y3 := hL'.kp.cell (p := ⟨W.heap.size, 3, none⟩) (v := .int .i64 v) (by simp) nX
  have hR1 : RV w1 p.rb p.vr p.rs := (H.out.r.new ((Keeps.refl _ W).alloc _)).keep hL'.kp (fun i e e' => H.out.ap i e' e)
  have C2 := c2 _ hR1
  clear c2
  go_wp2_with fail
  refine C2.mono ?_
  rintro e w3 ⟨rfl, vr', hR', hF'⟩
  clear C2
  have HE : Hid (∃ p', PrI w3 p' ∧ Pt W w3 p p') := ⟨_, H.out.both ((Keeps.refl _ W).alloc _) hT' hL' (Keeps.refl _ _) hR' hF' (Keeps.refl _ _) hl⟩
  clear hT' hL' hR' hF' hR1 y2 y3
  go_wp2_with fail
  go_ret
  exact ⟨rfl, HE.out⟩

set_option maxHeartbeats 3200000 in
set_option maxRecDepth 1000000 in
theorem played_fate (h : PrI W p) (_hn : p.rs.length ≤ 4398046511200) (who n v : Int) : Calls Try.prog 22 #[.agg #[.int .i64 7, .int .i64 who, .int .i64 n, .int .i64 v], .pointer (some ⟨p.T.tb, 0, none⟩), .pointer (some ⟨p.rb, 0, none⟩)] W fun e W' => e = .returned (.bool true) ∧ ∃ p', PrI W' p' ∧ Pt W W' p p' := by
  have H : Hid (PrI W p) := h
  have C1 := fateOf_any (h.t.new ((Keeps.refl (fun _ => False) W).alloc (.cells #[.int .i64 7, .int .i64 who, .int .i64 n, .int .i64 v] 34))) n
  have C2 := rfateOf_any (h.r.new ((Keeps.refl (fun _ => False) W).alloc (.cells #[.int .i64 7, .int .i64 who, .int .i64 n, .int .i64 v] 34))) n
  clear h _hn
  generalize fto p.rs n = F at *
  obtain ⟨fa, fb⟩ := F
  simp only at C1 C2
  have hb : (fa == fa) = true := by simp
  have hb' : (fb == fb) = true := by simp
  go_enter Try.func22, Try.ntmps22
  go_wp2_with fail
  refine C1.mono ?_
  rintro e w1 ⟨rfl, hw1⟩
  rw [← hw1] at C2
  have k1 : Keeps (fun _ => False) W w1 := by rw [hw1]; exact (Keeps.refl _ W).alloc _
  have y2 : w1.cell? ⟨W.heap.size, 2, none⟩ = some (.int .i64 n) := by rw [hw1]; simp
  clear C1 hw1
  go_wp2_with fail
  refine C2.mono ?_
  rintro e w2 ⟨rfl, hw2⟩
  have k2 : Keeps (fun _ => False) w1 w2 := by rw [hw2]; exact Keeps.refl _ _
  have HE : Hid (∃ p', PrI w2 p' ∧ Pt W w2 p p') := ⟨p, H.out.new (k1.trans k2), Pt.new (k1.trans k2)⟩
  clear C2 k1 k2 hw2 y2
  go_wp2_with fail
  go_ret
  exact ⟨rfl, HE.out⟩

set_option maxHeartbeats 3200000 in
set_option maxRecDepth 1000000 in
theorem played_len (h : PrI W p) (hn : p.rs.length ≤ 4398046511200) (who n v : Int) : Calls Try.prog 22 #[.agg #[.int .i64 8, .int .i64 who, .int .i64 n, .int .i64 v], .pointer (some ⟨p.T.tb, 0, none⟩), .pointer (some ⟨p.rb, 0, none⟩)] W fun e W' => e = .returned (.bool true) ∧ ∃ p', PrI W' p' ∧ Pt W W' p p' := by
  have H : Hid (PrI W p) := h
  have C1 := len_any (h.t.new ((Keeps.refl (fun _ => False) W).alloc (.cells #[.int .i64 8, .int .i64 who, .int .i64 n, .int .i64 v] 34)))
  have C2 := rlen_any (h.r.new ((Keeps.refl (fun _ => False) W).alloc (.cells #[.int .i64 8, .int .i64 who, .int .i64 n, .int .i64 v] 34))) hn
  clear h
  generalize (es p.rs).length = L at *
  have hb : ((L : Int) == (L : Int)) = true := by simp
  go_enter Try.func22, Try.ntmps22
  go_wp2_with fail
  refine C1.mono ?_
  rintro e w1 ⟨rfl, hw1⟩
  rw [← hw1] at C2
  have k1 : Keeps (fun _ => False) W w1 := by rw [hw1]; exact (Keeps.refl _ W).alloc _
  clear C1 hw1
  go_wp2_with fail
  refine C2.mono ?_
  rintro e w2 ⟨rfl, k2⟩
  have HE : Hid (∃ p', PrI w2 p' ∧ Pt W w2 p p') := ⟨p, H.out.new (k1.trans k2), Pt.new (k1.trans k2)⟩
  clear C2 k1 k2
  go_wp2_with fail
  go_ret
  exact ⟨rfl, HE.out⟩

set_option maxHeartbeats 3200000 in
set_option maxRecDepth 1000000 in
theorem played_added (h : PrI W p) (_hn : p.rs.length ≤ 4398046511200) (who n v : Int) : Calls Try.prog 22 #[.agg #[.int .i64 9, .int .i64 who, .int .i64 n, .int .i64 v], .pointer (some ⟨p.T.tb, 0, none⟩), .pointer (some ⟨p.rb, 0, none⟩)] W fun e W' => e = .returned (.bool true) ∧ ∃ p', PrI W' p' ∧ Pt W W' p p' := by
  have H : Hid (PrI W p) := h
  have C1 := added_any (h.t.new ((Keeps.refl (fun _ => False) W).alloc (.cells #[.int .i64 9, .int .i64 who, .int .i64 n, .int .i64 v] 34)))
  have C2 := radded_any (h.r.new ((Keeps.refl (fun _ => False) W).alloc (.cells #[.int .i64 9, .int .i64 who, .int .i64 n, .int .i64 v] 34)))
  clear h _hn
  generalize p.rs.length = L at *
  have hb : ((L : Int) == (L : Int)) = true := by simp
  go_enter Try.func22, Try.ntmps22
  go_wp2_with fail
  refine C1.mono ?_
  rintro e w1 ⟨rfl, hw1⟩
  rw [← hw1] at C2
  have k1 : Keeps (fun _ => False) W w1 := by rw [hw1]; exact (Keeps.refl _ W).alloc _
  clear C1 hw1
  go_wp2_with fail
  refine C2.mono ?_
  rintro e w2 ⟨rfl, hw2⟩
  have k2 : Keeps (fun _ => False) w1 w2 := by rw [hw2]; exact Keeps.refl _ _
  have HE : Hid (∃ p', PrI w2 p' ∧ Pt W w2 p p') := ⟨p, H.out.new (k1.trans k2), Pt.new (k1.trans k2)⟩
  clear C2 k1 k2 hw2
  go_wp2_with fail
  go_ret
  exact ⟨rfl, HE.out⟩

set_option maxHeartbeats 3200000 in
set_option maxRecDepth 1000000 in
theorem played_entries (h : PrI W p) (hn : p.rs.length ≤ 4398046511200) (who n v : Int) : Calls Try.prog 22 #[.agg #[.int .i64 10, .int .i64 who, .int .i64 n, .int .i64 v], .pointer (some ⟨p.T.tb, 0, none⟩), .pointer (some ⟨p.rb, 0, none⟩)] W fun e W' => e = .returned (.bool true) ∧ ∃ p', PrI W' p' ∧ Pt W W' p p' := by
  have H : Hid (PrI W p) := h
  have C1 := fun m => list_any (h.t.new ((Keeps.refl (fun _ => False) W).alloc (.cells #[.int .i64 10, .int .i64 who, .int .i64 n, .int .i64 v] 34))) (h.r.new ((Keeps.refl (fun _ => False) W).alloc (.cells #[.int .i64 10, .int .i64 who, .int .i64 n, .int .i64 v] 34))) hn m
  clear h hn
  go_enter Try.func22, Try.ntmps22
  go_wp2_with fail
  refine (C1 _).mono ?_
  rintro e w1 ⟨rfl, k1⟩
  have HE : Hid (∃ p', PrI w1 p' ∧ Pt W w1 p p') := ⟨p, H.out.new (((Keeps.refl _ W).alloc _).trans k1), Pt.new (((Keeps.refl _ W).alloc _).trans k1)⟩
  clear C1 k1
  go_wp2_with fail
  go_ret
  exact ⟨rfl, HE.out⟩

set_option maxHeartbeats 3200000 in
set_option maxRecDepth 1000000 in
theorem played_other (h : PrI W p) {kd : Int} (who n v : Int) (hk : ∀ c : Int, c = 2 ∨ c = 3 ∨ c = 4 ∨ c = 5 ∨ c = 6 ∨ c = 7 ∨ c = 8 ∨ c = 9 ∨ c = 10 → kd ≠ c) : Calls Try.prog 22 #[.agg #[.int .i64 kd, .int .i64 who, .int .i64 n, .int .i64 v], .pointer (some ⟨p.T.tb, 0, none⟩), .pointer (some ⟨p.rb, 0, none⟩)] W fun e W' => e = .returned (.bool true) ∧ ∃ p', PrI W' p' ∧ Pt W W' p p' := by
  have b2 : (kd == 2) = false := by simpa using hk 2 (by omega)
  have b3 : (kd == 3) = false := by simpa using hk 3 (by omega)
  have b4 : (kd == 4) = false := by simpa using hk 4 (by omega)
  have b5 : (kd == 5) = false := by simpa using hk 5 (by omega)
  have b6 : (kd == 6) = false := by simpa using hk 6 (by omega)
  have b7 : (kd == 7) = false := by simpa using hk 7 (by omega)
  have b8 : (kd == 8) = false := by simpa using hk 8 (by omega)
  have b9 : (kd == 9) = false := by simpa using hk 9 (by omega)
  have b10 : (kd == 10) = false := by simpa using hk 10 (by omega)
  have HE : Hid (∀ ob, ∃ p', PrI (W.alloc ob) p' ∧ Pt W (W.alloc ob) p p') := fun ob => ⟨p, h.new ((Keeps.refl _ W).alloc _), Pt.new ((Keeps.refl _ W).alloc _)⟩
  clear h hk
  go_enter Try.func22, Try.ntmps22
  go_wp2_with fail
  go_ret
  exact ⟨rfl, HE.out _⟩

/-- One step on a pair. -/
theorem played_any (h : PrI W p) (hn : p.rs.length ≤ 4398046511200) {kd n v : Int} (who : Int) (h1 : I64 n) (h2 : I64 v) : Calls Try.prog 22 #[.agg #[.int .i64 kd, .int .i64 who, .int .i64 n, .int .i64 v], .pointer (some ⟨p.T.tb, 0, none⟩), .pointer (some ⟨p.rb, 0, none⟩)] W fun e W' => e = .returned (.bool true) ∧ ∃ p', PrI W' p' ∧ Pt W W' p p' := by
  by_cases k2 : kd = 2
  · subst k2
    rcases hld_dec p.rs n with hh | hh
    · exact played_add h (rs' := p.rs) (Nat.le_succ _) (fun W0 K => (add_no (h.t.new K) v h1 hh).mono (by rintro e w' ⟨rfl, rfl⟩; exact ⟨rfl, p.T, h.t.new K, Lf.refl _ _⟩)) (fun W2 hR => (radd_no hR h.t.gd hn v hh).mono (by rintro e w' ⟨rfl, k⟩; exact ⟨rfl, p.vr, hR.new k, Rf.new k⟩))
    · exact played_add h (rs' := add p.rs n v) (by rw [add_len]; exact Nat.le_refl _) (fun W0 K => add_ok (h.t.new K) h1 h2 hh hn) (fun W2 hR => radd_ok hR h.t.gd hn hh)
  by_cases k3 : kd = 3
  · subst k3
    obtain ⟨eo, ev', en, he⟩ := evo_form (fnd p.rs n)
    exact played_find h (rs' := p.rs) (eo := eo) (ev' := ev') (en := en) (Nat.le_succ _) (fun W0 K => (find_any (h.t.new K) h1).mono (by rintro e w' ⟨rfl, k⟩; exact ⟨by rw [he], p.T, (h.t.new K).new k, Lf.new k⟩)) (fun W2 hR => (rfind_any hR hn n).mono (by rintro e w' ⟨rfl, k⟩; exact ⟨by rw [he], p.vr, hR.new k, Rf.new k⟩))
  by_cases k4 : kd = 4
  · subst k4
    obtain ⟨eo, ev', en, he⟩ := evo_form (atp p.rs n)
    exact played_at h (rs' := p.rs) (eo := eo) (ev' := ev') (en := en) (Nat.le_succ _) (fun W0 K => (at_any (h.t.new K) n).mono (by rintro e w' ⟨rfl, k⟩; exact ⟨by rw [he], p.T, (h.t.new K).new k, Lf.new k⟩)) (fun W2 hR => (rat_any hR hn n).mono (by rintro e w' ⟨rfl, k⟩; exact ⟨by rw [he], p.vr, hR.new k, Rf.new k⟩))
  by_cases k5 : kd = 5
  · subst k5
    rcases hld_dec p.rs n with hh | hh
    · obtain ⟨j, r, r1, r2, r3⟩ := hh
      subst r3
      exact played_release h (rs' := p.rs.set j (r.to 2)) (by simp) (fun W0 K => release_ok (h.t.new K) r1 r2 hn) (fun W2 hR => (rout_ok (f := 2) hR h.t.gd hn r1 r2).mono (by rintro e w' ⟨rfl, a, b⟩; exact ⟨rfl, p.vr, a, b⟩))
    · exact played_release h (rs' := p.rs) (Nat.le_succ _) (fun W0 K => (release_no (h.t.new K) h1 hh).mono (by rintro e w' ⟨rfl, k⟩; exact ⟨rfl, p.T, (h.t.new K).new k, Lf.new k⟩)) (fun W2 hR => (rout_no hR h.t.gd hn 2 hh).mono (by rintro e w' ⟨rfl, k⟩; exact ⟨rfl, p.vr, hR.new k, Rf.new k⟩))
  by_cases k6 : kd = 6
  · subst k6
    rcases hld_dec p.rs n with hh | hh
    · obtain ⟨j, r, r1, r2, r3⟩ := hh
      subst r3
      exact played_upgrade h (rs' := p.rs.set j (r.to 3)) (by simp) (fun W0 K => upgrade_ok (h.t.new K) r1 r2 hn) (fun W2 hR => (rout_ok (f := 3) hR h.t.gd hn r1 r2).mono (by rintro e w' ⟨rfl, a, b⟩; exact ⟨rfl, p.vr, a, b⟩))
    · exact played_upgrade h (rs' := p.rs) (Nat.le_succ _) (fun W0 K => (upgrade_no (h.t.new K) h1 hh).mono (by rintro e w' ⟨rfl, k⟩; exact ⟨rfl, p.T, (h.t.new K).new k, Lf.new k⟩)) (fun W2 hR => (rout_no hR h.t.gd hn 3 hh).mono (by rintro e w' ⟨rfl, k⟩; exact ⟨rfl, p.vr, hR.new k, Rf.new k⟩))
  by_cases k7 : kd = 7
  · subst k7; exact played_fate h hn who n v
  by_cases k8 : kd = 8
  · subst k8; exact played_len h hn who n v
  by_cases k9 : kd = 9
  · subst k9; exact played_added h hn who n v
  by_cases k10 : kd = 10
  · subst k10; exact played_entries h hn who n v
  exact played_other h who n v (fun c hc e => by
    rcases hc with h | h | h | h | h | h | h | h | h <;> (rw [h] at e; contradiction))
end
end Go.Proofs.Ytagplkgjdaojnaa
