import Derived.Test.YtaikngpgmcpecaaGreatRefCelA
namespace Go.Proofs.YtaikngpgmcpecaaGreat
open Go.RowKit

set_option maxHeartbeats 3200000 in
set_option maxRecDepth 1000000 in
theorem rmake_any {w : World} {rb : Nat} {s : Mm} {B : Nat → Prop} (h : RI w rb s B) (x : Int) (hl : s.cells.length < 65536) :
    Calls Tryz.prog 72 #[.pointer (some ⟨rb, 0, none⟩), .int .i64 x] w fun e w' => e = .returned (.tuple #[.int .i64 s.cells.length, .int .i64 0]) ∧ ∃ B', RI w' rb (s.make x) B' ∧ LeftP w w' B B' := by
  obtain ⟨vf, vr, vg, rvs, ρ, h, hn, hi, rfl⟩ := h
  obtain ⟨a, cap, hva, _⟩ := owns_slice h.rf
  have f0 := h.f0
  have z0 := h.z 0 (by omega)
  have g1 : decide ((65536 : Int) ≤ (s.cells.length : Int)) = false := decide_eq_false (by omega)
  have g2 : decide (65536 ≤ s.cells.length) = false := decide_eq_false (by omega)
  have g3 : ¬ (65536 : Int) ≤ (s.cells.length : Int) := by omega
  have lm := h.ltb
  have H : Hid (RV w rb vf vr vg s.cells rvs (ix s.log) ρ s) := h
  have HO : Hid (w.ownsRow 0 2 1 vf s.cells.length (fcells s.cells)) := h.rf
  have nf : vf.ownBlock ≠ some rb := fun e => by have := h.pf rb e; rw [h.pb] at this; omega
  have nr : vr.ownBlock ≠ some rb := fun e => by have := h.pr rb e; rw [h.pb] at this; omega
  obtain ⟨i0, hi0, hz0, hz1, hz2⟩ := info_parts int64Info
  obtain ⟨j0, hj0, hy0, hy1, hy2⟩ := info_parts intsInfo
  have h63 : s.cells.length + 1 ≤ maxLen := by unfold maxLen; omega
  have hb : (s.cells.length + 1) * 8 ≤ 140737488355328 := by omega
  have hb2 : (rvs.length + 1) * 24 ≤ 140737488355328 := by omega
  have h632 : rvs.length + 1 ≤ maxLen := by omega
  have HN : Hid (rvs.length = s.cells.length) := hn
  subst hva
  have HI : Hid (∀ c, s.cells.length ≤ c → ix s.log c = []) := hi
  clear h hn hi
  go_enter Tryz.func72, Tryz.ntmps72
  go_wp2_with ((at_builtin; refine wpList_append_lies _ rfl _ _ _ rfl 0 2 i0 _ 1 8 underInt64s hi0 hz0 hz1 hz2 rfl (by decide) (.slice a s.cells.length cap) s.cells.length (fcells s.cells) rfl (HO.out.alloc _) ⟨w.heap.size, 0, none⟩ 1 1 [.int .i64 x] rfl rfl (World.news_of_block (cs := #[.int .i64 x]) (t := 2) (fr := (0, 0)) (heap_alloc_new w _)) (by simp [Value.oneCell']) (by omega) h63 hb (by simp) _ rfl ?_))
  intro gg cap1 w1 hown1 hgrow hat hlt1
  have KA : Keeps (fun _ => False) w (w.alloc (.cells #[.int .i64 x] 2)) := (Keeps.refl _ w).alloc _
  obtain ⟨h1, k1⟩ := (H.out.new KA).growF hgrow hown1 (hat.imp id (fun e => by rw [e]; simp))
  have r1 : w1.cell? ⟨rb, 0, none⟩ = some (.slice a s.cells.length cap) := hgrow.cell (KA.cell f0 (fun e => e)) (Ne.symm nf)
  have r2 : w1.frozen? ⟨rb, 0, none⟩ = false := (hgrow.frozen_far ⟨rb, 0, none⟩ (by simp; omega) (Ne.symm nf)).trans ((KA.frozen (p := ⟨rb, 0, none⟩) lm (fun e => e)).trans z0)
  have q1 : w1.cell? ⟨rb, 1, none⟩ = some vr := hgrow.cell (KA.cell H.out.f1 (fun e => e)) (Ne.symm nf)
  have q2 : w1.frozen? ⟨rb, 1, none⟩ = false := (hgrow.frozen_far ⟨rb, 1, none⟩ (by simp; omega) (Ne.symm nf)).trans ((KA.frozen (p := ⟨rb, 1, none⟩) lm (fun e => e)).trans (H.out.z 1 (by omega)))
  have L1 : Hid ((Value.slice a s.cells.length cap).ownBlock = some gg ∨ w.heap.size ≤ gg) := hat.imp id (fun e => by rw [e]; simp)
  have F0 := h1.f0
  have F1 := h1.f1
  have Z1 := h1.z 1 (by omega)
  have H1 : Hid (RV (w1.setCell ⟨rb, 0, none⟩ (.slice (some ⟨gg, 0, none⟩) (s.cells.length + 1) cap1)) rb (.slice (some ⟨gg, 0, none⟩) (s.cells.length + 1) cap1) vr vg (s.cells ++ [(x, x)]) rvs (ix s.log) (role ρ gg 1) s) := h1
  have HO2 : Hid ((w1.setCell ⟨rb, 0, none⟩ (.slice (some ⟨gg, 0, none⟩) (s.cells.length + 1) cap1)).ownsRow 0 67 1 vr rvs.length rvs) := h1.rr
  have lm2 := h1.ltb
  clear f0 z0 HO h1 hgrow hown1 hat hlt1
  have hs1 : (w1.setCell ⟨rb, 0, none⟩ (.slice (some ⟨gg, 0, none⟩) (s.cells.length + 1) cap1)).heap.size = w1.heap.size := by simp
  have hnew : ∀ o, ((w1.setCell ⟨rb, 0, none⟩ (.slice (some ⟨gg, 0, none⟩) (s.cells.length + 1) cap1)).alloc o).heap[w1.heap.size]? = some o := fun o => by rw [← hs1]; exact heap_alloc_new _ o
  have HN2 : Hid (∀ o, ((w1.setCell ⟨rb, 0, none⟩ (.slice (some ⟨gg, 0, none⟩) (s.cells.length + 1) cap1)).alloc o).heap[w1.heap.size]? = some o) := hnew
  clear hnew hs1
  go_wp2_with ((at_builtin; refine wpList_append_lies _ rfl _ _ _ rfl 0 67 j0 _ 1 24 underIntss hj0 hy0 hy1 hy2 rfl (by decide) vr rvs.length rvs rfl (HO2.out.alloc _) ⟨w1.heap.size, 0, none⟩ 1 1 [.slice none 0 0] rfl rfl (World.news_of_block (cs := #[.slice none 0 0]) (t := 67) (fr := (0, 0)) (HN2.out _)) (by simp [Value.oneCell']) (by omega) h632 hb2 (by simp) _ rfl ?_))
  intro g3 cap3 w3 hown3 hgrow3 hat3 hlt3
  have KB : Keeps (fun _ => False) (w1.setCell ⟨rb, 0, none⟩ (.slice (some ⟨gg, 0, none⟩) (s.cells.length + 1) cap1)) ((w1.setCell ⟨rb, 0, none⟩ (.slice (some ⟨gg, 0, none⟩) (s.cells.length + 1) cap1)).alloc (.cells #[.slice none 0 0] 67)) := (Keeps.refl _ _).alloc _
  obtain ⟨h3, k3⟩ := (H1.out.new KB).growR (HI.out _ (by have := HN.out; omega)) hgrow3 hown3 (hat3.imp id (fun e => by rw [e]; simp))
  clear r1 r2
  have r1 : w3.cell? ⟨rb, 1, none⟩ = some vr := hgrow3.cell (KB.cell F1 (fun e => e)) (Ne.symm nr)
  have lm3 : rb < w1.heap.size := by simpa using lm2
  have r2 : w3.frozen? ⟨rb, 1, none⟩ = false := (hgrow3.frozen_far ⟨rb, 1, none⟩ (by simp; omega) (Ne.symm nr)).trans ((KB.frozen (p := ⟨rb, 1, none⟩) lm2 (fun e => e)).trans Z1)
  have c3 : w3.cell? ⟨rb, 0, none⟩ = some (.slice (some ⟨gg, 0, none⟩) (s.cells.length + 1) cap1) := hgrow3.cell (KB.cell F0 (fun e => e)) (Ne.symm nr)
  have L3 : Hid (vr.ownBlock = some g3 ∨ (w1.setCell ⟨rb, 0, none⟩ (.slice (some ⟨gg, 0, none⟩) (s.cells.length + 1) cap1)).heap.size ≤ g3) := hat3.imp id (fun e => by rw [e]; simp)
  clear F0 F1 Z1 HO2 hgrow3 hown3 hat3 hlt3
  go_wp2_with fail
  go_ret2
  have k0 : LeftP w (w1.setCell ⟨rb, 0, none⟩ (.slice (some ⟨gg, 0, none⟩) (s.cells.length + 1) cap1)) (RB rb (.slice a s.cells.length cap) vr vg rvs) (RB rb (.slice (some ⟨gg, 0, none⟩) (s.cells.length + 1) cap1) vr vg rvs) := by
    refine ⟨(KA.mono (fun _ _ e => e.elim)).trans' k1 (fun _ _ e => e) (fun i _ e => e.elim (fun e => .inr (.inl e)) (fun e => .inl e)), fun k hk => ?_⟩
    rcases hk with e | e | e
    · exact .inl (.inl e)
    · have e1 : gg = k := by simpa [Value.ownBlock] using e
      subst e1
      exact L1.out.elim (fun e => .inl (.inr (.inl e))) .inr
    · exact .inl (.inr (.inr e))
  have k9 : LeftP (w1.setCell ⟨rb, 0, none⟩ (.slice (some ⟨gg, 0, none⟩) (s.cells.length + 1) cap1)) (w3.setCell ⟨rb, 1, none⟩ (.slice (some ⟨g3, 0, none⟩) (rvs.length + 1) cap3)) (RB rb (.slice (some ⟨gg, 0, none⟩) (s.cells.length + 1) cap1) vr vg rvs) (RB rb (.slice (some ⟨gg, 0, none⟩) (s.cells.length + 1) cap1) (.slice (some ⟨g3, 0, none⟩) (rvs.length + 1) cap3) vg (rvs ++ [.slice none 0 0])) := by
    refine ⟨(KB.mono (fun _ _ e => e.elim)).trans' k3 (fun _ _ e => e) (fun i _ e => e.elim (fun e => .inr (.inr (.inl e))) (fun e => .inl e)), fun k hk => ?_⟩
    rcases hk with e | e | e | e | ⟨c, hc, e⟩
    · exact .inl (.inl e)
    · exact .inl (.inr (.inl e))
    · have e1 : g3 = k := by simpa [Value.ownBlock] using e
      subst e1
      exact L3.out.elim (fun e => .inl (.inr (.inr (.inl e)))) .inr
    · exact .inl (.inr (.inr (.inr (.inl e))))
    · simp at hc
      by_cases e' : c = rvs.length
      · subst e'; rw [va_snoc_last] at e; cases e
      · rw [va_snoc_left (by omega)] at e
        exact .inl (.inr (.inr (.inr (.inr ⟨c, by omega, e⟩))))
  have hnn := HN.out
  refine ⟨by go_num, _, ⟨_, _, _, _, _, ⟨h3.f0, h3.f1, h3.f2, h3.f3, h3.f4, h3.f5, h3.z, h3.rf, h3.rr, h3.rg, h3.each, h3.pb, h3.pf, h3.pr, h3.pg, h3.pe⟩, ?_, ?_, rfl⟩, k0.trans k9⟩
  · simp [Mm.make, hnn]
  · intro c hc
    exact HI.out c (by simp [Mm.make] at hc; omega)


end Go.Proofs.YtaikngpgmcpecaaGreat
