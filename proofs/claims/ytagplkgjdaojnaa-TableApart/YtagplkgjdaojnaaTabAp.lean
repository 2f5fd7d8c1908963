import Derived.Test.YtagplkgjdaojnaaTabOr
namespace Go.Proofs.Ytagplkgjdaojnaa
open Go.RowKit
attribute [local go_sem] Oper.semAt_some

set_option maxHeartbeats 6400000 in
set_option maxRecDepth 1000000 in
theorem holds_any {w : World} {T : Tk} {rs : List Rd} (h : TV w T rs) {a : Option Addr} {L cap : Nat} (hL : L = (es rs).length) (ho : w.ownsRow 0 36 3 (.slice a L cap) L (fl ecells (es rs))) (hn : rs.length ≤ 4398046511200) {N : Nat} (hN : N = rs.length) :
    Calls Try.prog 19 #[.pointer (some ⟨T.tb, 0, none⟩), .slice a L cap, .int .i64 (N : Int)] w fun e w' => e = .returned (.bool true) ∧ Keeps (fun _ => False) w w' := by
  have hle := es_len rs
  have hL9 : L ≤ 4398046511200 := by omega
  have HLl : Hid (L = (es rs).length) := hL
  have HN : Hid (N = rs.length) := hN
  have CE := entries_any h hn
  have CL := fun W (K : Keeps (fun _ => False) w W) => len_any (h.new K)
  have CA := fun W (K : Keeps (fun _ => False) w W) => added_any (h.new K)
  rw [← HLl.out] at CL CE
  rw [← HN.out] at CA
  have hbL : ((L : Int) != (L : Int)) = false := by simp
  have hbN : ((N : Int) != (N : Int)) = false := by simp
  clear hL hN
  go_enter Try.func19, Try.ntmps19
  go_wp2_with fail
  refine CE.mono ?_
  rintro e w2 ⟨v2, rfl, o2, k2⟩
  obtain ⟨a2, c2, rfl, -⟩ := owns_form o2
  have o2' := owns_base o2
  clear CE o2
  go_wp2_with fail
  refine (CL _ k2).mono ?_
  rintro e w3 ⟨rfl, hw3⟩
  have k3 : Keeps (fun _ => False) w w3 := by rw [hw3]; exact k2
  have k23 : Keeps (fun _ => False) w2 w3 := by rw [hw3]; exact Keeps.refl _ _
  clear hw3 CL
  go_wp2_with fail
  refine (CA _ k3).mono ?_
  rintro e w4 ⟨rfl, hw4⟩
  have k4 : Keeps (fun _ => False) w w4 := by rw [hw4]; exact k3
  have k24 : Keeps (fun _ => False) w2 w4 := by rw [hw4]; exact k23
  have o4 := k24.owns o2' (fun _ _ e => e)
  clear hw4 CA k3 k23 k24 o2' k2
  go_wp2_with fail
  go_loopw [8] (fun iv W => ∃ i : Nat, iv = .int .i64 (i : Int) ∧ i ≤ L ∧ Keeps (fun _ => False) w4 W) (fun iv _ => L - (intOf iv).toNat)
  case atStart => exact ⟨0, rfl, Nat.zero_le _, Keeps.refl _ _⟩
  case round =>
    obtain ⟨i, rfl, hiL, kW⟩ := hrel
    have hi0 : (0 : Int) ≤ (i : Int) := by omega
    by_cases hlt : i < L
    · have hltI : (i : Int) < (L : Int) := by omega
      obtain ⟨e, he⟩ : ∃ e, (es rs)[i]? = some e := ⟨(es rs)[i]'(by rw [← HLl.out]; exact hlt), by simp⟩
      have oa := (k4.trans kW).owns ho (fun _ _ e => e)
      have ob := kW.owns o4 (fun _ _ e => e)
      obtain ⟨g, rfl⟩ : ∃ g, a = some ⟨g, 0, none⟩ := by
        rcases oa.2 with ⟨_, e0⟩ | ⟨g, cp, cur, e0, _⟩
        · omega
        · cases e0; exact ⟨g, rfl⟩
      obtain ⟨g2, rfl⟩ : ∃ g, a2 = some ⟨g, 0, none⟩ := by
        rcases ob.2 with ⟨_, e0⟩ | ⟨g, cp, cur, e0, _⟩
        · omega
        · cases e0; exact ⟨g, rfl⟩
      obtain ⟨c0, c1, c2⟩ := owns_en oa rfl he
      obtain ⟨d0, d1, d2⟩ := owns_en ob rfl he
      simp only at c0 c1 c2 d0 d1 d2
      have hfind := fun W (K : Keeps (fun _ => False) w W) => (h.new K).find_en he
      obtain ⟨eo, heo⟩ : ∃ eo, Hid (eo = e.ob) := ⟨_, rfl⟩
      obtain ⟨ev', hev⟩ : ∃ ev', Hid (ev' = e.ver) := ⟨_, rfl⟩
      obtain ⟨en, hen⟩ : ∃ en, Hid (en = e.ord) := ⟨_, rfl⟩
      simp only [← heo.out, ← hev.out, ← hen.out] at c0 c1 c2 d0 d1 d2 hfind
      have hbo : (eo != eo) = false := by simp
      have hbv : (ev' != ev') = false := by simp
      have hbn : ((en : Int) != (en : Int)) = false := by simp
      clear he oa ob
      go_wp2_with fail
      refine (hfind _ (k4.trans kW)).mono ?_
      rintro x w5 ⟨rfl, k5⟩
      clear hfind
      go_wp2_with fail
      obtain ⟨w6, hw6⟩ : ∃ w6, Hid (w6 = w5.alloc (.cells #[.int .i64 eo, .int .i64 ev', .int .i64 (en : Int)] 36)) := ⟨_, rfl⟩
      rw [← hw6.out]
      have k6 : Keeps (fun _ => False) wr w6 := by rw [hw6.out]; exact k5.alloc _
      have K6 := kW.trans k6
      have f0 : w6.cell? ⟨w5.heap.size, 0, none⟩ = some (.int .i64 eo) := by rw [hw6.out]; simp
      have f1 : w6.cell? ⟨w5.heap.size, 1, none⟩ = some (.int .i64 ev') := by rw [hw6.out]; simp
      have f2 : w6.cell? ⟨w5.heap.size, 2, none⟩ = some (.int .i64 (en : Int)) := by rw [hw6.out]; simp
      generalize w5.heap.size = b6 at *
      have C0 := ks_cell (k6.cell c0 (fun e => e))
      have C1 := ks_cell (k6.cell c1 (fun e => e))
      have C2 := ks_cell (k6.cell c2 (fun e => e))
      have D0 := ks_cell (k6.cell d0 (fun e => e))
      have D1 := ks_cell (k6.cell d1 (fun e => e))
      have D2 := ks_cell (k6.cell d2 (fun e => e))
      have F0 := ks_cell f0
      have F1 := ks_cell f1
      have F2 := ks_cell f2
      have hNE : Nonempty (KS w6) := ⟨⟨w6, Keeps.refl _ w6⟩⟩
      clear hw6 c0 c1 c2 d0 d1 d2 f0 f1 f2 k6 k5
      refine wp_region_ks (by kernel_rfl) (by kernel_rfl) ?_
      repeat (go_big_quiet_step (fail))
      refine wpQuiet_nil ?_
      rintro _ ⟨U, rfl⟩
      go_wp2_with fail
      go_roundw
      case rel => exact ⟨i + 1, by go_num, by omega, K6.trans U.property⟩
      case measure => simp [intOf]; omega
    · rw [show i = L by omega]
      have K5 := k4.trans kW
      clear h ho o4 kW k4
      go_wp2_with fail
      go_ret
      exact ⟨rfl, K5⟩

/-- Two tables apart, and two lists that are read alone. -/
structure Ap (w W : World) (T1 T2 : Tk) (rs1 rs2 : List Rd) (v9 v13 : Value) (l9 l13 : List En) : Prop where
  t1 : TV W T1 rs1
  t2 : TV W T2 rs2
  d : ∀ k, T1.Blk k → ¬ T2.Blk k
  o9 : W.ownsRow 0 36 3 v9 l9.length (fl ecells l9)
  o13 : W.ownsRow 0 36 3 v13 l13.length (fl ecells l13)
  p9 : ∀ g, v9.ownBlock = some g → ¬ T1.Blk g ∧ ¬ T2.Blk g
  p13 : ∀ g, v13.ownBlock = some g → ¬ T1.Blk g ∧ ¬ T2.Blk g
  lo : ∀ k, T1.Blk k ∨ T2.Blk k → w.heap.size ≤ k
  kp : Keeps (fun _ => False) w W
section
variable {w W W' : World} {T1 T2 T' : Tk} {rs1 rs2 rs' : List Rd} {v9 v13 : Value} {l9 l13 : List En}
theorem Ap.new (h : Ap w W T1 T2 rs1 rs2 v9 v13 l9 l13) (k : Keeps (fun _ => False) W W') : Ap w W' T1 T2 rs1 rs2 v9 v13 l9 l13 :=
  ⟨h.t1.new k, h.t2.new k, h.d, k.owns h.o9 (fun _ _ e => e), k.owns h.o13 (fun _ _ e => e), h.p9, h.p13, h.lo, h.kp.trans k⟩
theorem Ap.call1 (h : Ap w W T1 T2 rs1 rs2 v9 v13 l9 l13) (ht : TV W' T' rs') (k : Lf W W' T1 T') : Ap w W' T' T2 rs' rs2 v9 v13 l9 l13 := by
  refine ⟨ht, h.t2.keep k.kp (fun i e e' => h.d i e' e), fun i e e' => ?_, k.kp.owns h.o9 (fun g e => (h.p9 g e).1), k.kp.owns h.o13 (fun g e => (h.p13 g e).1), fun g e => ⟨fun e' => ?_, (h.p9 g e).2⟩, fun g e => ⟨fun e' => ?_, (h.p13 g e).2⟩, fun i e => ?_, h.kp.trans' k.kp (fun _ _ e => e) (fun i hi e => ?_)⟩
  · rcases k.bk i e with x | x
    · exact h.d i x e'
    · have := h.t2.lt e'; omega
  · rcases k.bk g e' with x | x
    · exact (h.p9 g e).1 x
    · have := owns_lt' h.o9 g e; omega
  · rcases k.bk g e' with x | x
    · exact (h.p13 g e).1 x
    · have := owns_lt' h.o13 g e; omega
  · rcases e with e | e
    · rcases k.bk i e with x | x
      · exact h.lo i (.inl x)
      · have := h.kp.size; omega
    · exact h.lo i (.inr e)
  · have := h.lo i (.inl e); omega
theorem Ap.swap (h : Ap w W T1 T2 rs1 rs2 v9 v13 l9 l13) : Ap w W T2 T1 rs2 rs1 v9 v13 l9 l13 :=
  ⟨h.t2, h.t1, fun i e e' => h.d i e' e, h.o9, h.o13, fun g e => (h.p9 g e).symm, fun g e => (h.p13 g e).symm, fun i e => h.lo i e.symm, h.kp⟩
theorem Ap.call2 (h : Ap w W T1 T2 rs1 rs2 v9 v13 l9 l13) (ht : TV W' T' rs') (k : Lf W W' T2 T') : Ap w W' T1 T' rs1 rs' v9 v13 l9 l13 := (h.swap.call1 ht k).swap
end
end Go.Proofs.Ytagplkgjdaojnaa
