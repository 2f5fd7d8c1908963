import Derived.Test.YtfbbllokpikbiabOqHHQ
namespace Go.Proofs.Ytfbbllokpikbiab.Q
open Go.RowKit Go.Maps

/-- A heap in memory that may hold nothing: v is its items' slice. -/
structure HV (w : World) (hb : Nat) (v : Value) (xs : List It) (pm mb s : Nat) (M : Mp) : Prop where
  f0 : w.cell? ⟨hb, 0, none⟩ = some v
  z0 : w.frozen? ⟨hb, 0, none⟩ = false
  f1 : w.cell? ⟨hb, 1, none⟩ = some (.func (.func 75) #[] #[])
  f2 : w.cell? ⟨hb, 2, none⟩ = some (.func (.func 76) #[] #[.pointer (some ⟨pm, 0, none⟩)])
  row : w.ownsRow 0 76 2 v xs.length (flat xs)
  side : Side w pm mb s M
  ne : ∀ g, v.ownBlock = some g → g ≠ hb ∧ mb ≠ g ∧ pm ≠ g
  mh : mb ≠ hb ∧ pm ≠ hb
  num : ∀ x ∈ xs, I64 x.1 ∧ I64 x.2
  small : xs.length * 16 ≤ 140737488355328

section
variable {w : World} {hb g cap : Nat} {xs : List It} {pm mb s : Nat} {M : Mp} {v : Value}

theorem HS.hv (h : HS w hb g cap xs pm mb s M) : HV w hb (.slice (some ⟨g, 0, none⟩) xs.length cap) xs pm mb s M :=
  ⟨h.f0, h.z0, h.f1, h.f2, h.row, h.side, fun k e => by cases e; exact ⟨h.gh, h.mg.1, h.mg.2.2.1⟩, ⟨h.mg.2.1, h.mg.2.2.2⟩, h.num, h.small⟩
theorem HV.hs (h : HV w hb v xs pm mb s M) (hn : 0 < xs.length) : ∃ g cap, v = .slice (some ⟨g, 0, none⟩) xs.length cap ∧ HS w hb g cap xs pm mb s M := by
  obtain ⟨g, cap, rfl, _, _⟩ := h.row.form hn
  have hne := h.ne g rfl
  exact ⟨g, cap, rfl, ⟨h.f0, h.z0, h.f1, h.f2, h.row, h.side, hne.1, ⟨hne.2.1, h.mh.1, hne.2.2, h.mh.2⟩, h.num, h.small⟩⟩
theorem HV.lh (h : HV w hb v xs pm mb s M) : hb < w.heap.size := World.block_lt_of_cell? _ _ h.f0
theorem HV.keep (h : HV w hb v xs pm mb s M) {w' : World} {S : Nat → Prop} (hk : Keeps S w w') (hh : ¬ S hb) (hg : ∀ g, v.ownBlock = some g → ¬ S g) (hm : ¬ S mb) (hp : ¬ S pm) : HV w' hb v xs pm mb s M :=
  ⟨hk.cell h.f0 hh, (hk.frozen h.lh hh).trans h.z0, hk.cell h.f1 hh, hk.cell h.f2 hh, hk.owns h.row hg, h.side.keep hk hp hm, h.ne, h.mh, h.num, h.small⟩
theorem HV.new (h : HV w hb v xs pm mb s M) {w' : World} (hk : Keeps (fun _ => False) w w') : HV w' hb v xs pm mb s M :=
  h.keep hk (fun e => e) (fun _ _ e => e) (fun e => e) (fun e => e)

/-- One more in the row, and the row written down. -/
theorem HV.grow (h : HV w hb v xs pm mb s M) {w1 : World} {x : It} (hx : I64 x.1 ∧ I64 x.2) (hsm : (xs.length + 1) * 16 ≤ 140737488355328) (hg : w.grownBy w1 v.ownBlock)
    (ho : w1.ownsRow 0 76 2 (.slice (some ⟨g, 0, none⟩) (xs.length + 1) cap) (xs.length + 1) (flat xs ++ [.int .i64 x.1, .int .i64 x.2])) (hat : v.ownBlock = some g ∨ g = w.heap.size) :
    HS (w1.setCell ⟨hb, 0, none⟩ (.slice (some ⟨g, 0, none⟩) (xs.length + 1) cap)) hb g cap (xs ++ [x]) pm mb s M ∧
      Keeps (fun k => v.ownBlock = some k ∨ k = hb) w (w1.setCell ⟨hb, 0, none⟩ (.slice (some ⟨g, 0, none⟩) (xs.length + 1) cap)) := by
  have hlh := h.lh
  have K1 : Keeps (fun k => v.ownBlock = some k) w w1 := (Keeps.refl _ w).grown hg (fun _ _ e => e)
  have K2 : Keeps (fun k => k = hb) w1 (w1.setCell ⟨hb, 0, none⟩ (.slice (some ⟨g, 0, none⟩) (xs.length + 1) cap)) := Keeps.setCell (S := fun k => k = hb) (p := ⟨hb, 0, none⟩) (Keeps.refl _ w1) (fun _ => rfl) _
  have nh : ¬ v.ownBlock = some hb := fun e => (h.ne hb e).1 rfl
  have gh : g ≠ hb := by
    rcases hat with e | e
    · exact (h.ne g e).1
    · omega
  have hl : (xs ++ [x]).length = xs.length + 1 := by simp
  refine ⟨⟨?_, ?_, ?_, ?_, ?_, ?_, gh, ?_, ?_, by rw [hl]; exact hsm⟩, K1.trans' K2 (fun _ _ e => .inl e) (fun _ _ e => .inr e)⟩
  · rw [hl]; exact World.cell?_setCell_same _ _ _ (K1.cell h.f0 nh)
  · rw [World.frozen?_setCell]; exact (K1.frozen hlh nh).trans h.z0
  · rw [World.cell?_setCell_other _ _ _ _ (by simp)]; exact K1.cell h.f1 nh
  · rw [World.cell?_setCell_other _ _ _ _ (by simp)]; exact K1.cell h.f2 nh
  · rw [hl, flat_append]
    exact K2.owns ho (fun k e => by cases e; exact gh)
  · exact (h.side.keep K1 (fun e => (h.ne pm e).2.2 rfl) (fun e => (h.ne mb e).2.1 rfl)).keep K2 h.mh.2 h.mh.1
  · have hm := h.side.map.lt
    have hp := World.block_lt_of_cell? _ _ h.side.cell
    have hp' : pm < w.heap.size := hp
    rcases hat with e | e
    · exact ⟨(h.ne g e).2.1, h.mh.1, (h.ne g e).2.2, h.mh.2⟩
    · exact ⟨by omega, h.mh.1, by omega, h.mh.2⟩
  · intro y hy
    rcases List.mem_append.1 hy with hy | hy
    · exact h.num y hy
    · simp at hy; rw [hy]; exact hx

/-- What put may turn. -/
def PT (v : Value) (hb mb : Nat) (k : Nat) : Prop := v.ownBlock = some k ∨ k = hb ∨ k = mb

theorem itemInfo : (Try.prog.info? 76).map (fun i => (i.zero, i.size, i.bytes)) = some (some (.agg #[.int .i64 0, .int .i64 0]), 2, 16) := by kernel_rfl
theorem underItems : Try.prog.underlying 86 = some (.slice 76) := by kernel_rfl

theorem full_snoc {M : Mp} {xs : List It} (h : Full M xs) (x : It) (k : Int) : Full (M.put x.2 k) (xs ++ [x]) := fun y hy => by
  rcases List.mem_append.1 hy with hy | hy
  · exact Mp.put_ne (h y hy)
  · simp at hy; subst hy; simp [Mp.put]

set_option maxHeartbeats 3200000 in
set_option maxRecDepth 1000000 in
/-- One more is taken in. -/
theorem put_any (h : HV w hb v xs pm mb s M) (hF : Full M xs) (hH : Heap bef xs) (x : It) (hx : I64 x.1 ∧ I64 x.2) (hroom : (xs.length + 1) * 16 ≤ 140737488355328) (hs : nx M s x.2 < maxLen) :
    Calls Try.prog 52 #[.pointer (some ⟨hb, 0, none⟩), .agg #[.int .i64 x.1, .int .i64 x.2]] w fun e w' =>
      e = .returned (.tuple #[]) ∧ ∃ g cap ys N, HS w' hb g cap ys pm mb (nx M s x.2) N ∧ (v.ownBlock = some g ∨ w.heap.size ≤ g) ∧ Keeps (PT v hb mb) w w' ∧ Moves (xs ++ [x]) (M.put x.2 xs.length) ys N ∧ Heap bef ys ∧ (∀ o u, 0 < o → w.cell? ⟨hb, o, none⟩ = some u → w'.cell? ⟨hb, o, none⟩ = some u) := by
  obtain ⟨w0, hw0⟩ : ∃ w0, w0 = w.alloc (.cells #[.int .i64 x.1, .int .i64 x.2] 76) := ⟨_, rfl⟩
  have K0 : Keeps (fun _ => False) w w0 := by rw [hw0]; exact (Keeps.refl _ w).alloc _
  have b0 : w0.cell? ⟨w.heap.size, 0, none⟩ = some (.int .i64 x.1) := by rw [hw0]; simp
  have b1 : w0.cell? ⟨w.heap.size, 1, none⟩ = some (.int .i64 x.2) := by rw [hw0]; simp
  have sz : Hid (w0.heap.size = w.heap.size + 1) := by show _ = _; rw [hw0]; simp
  have h0 := h.new K0
  have f0 := h0.f0
  have z0 := h0.z0
  have lh := h.lh
  have HO : Hid (w0.ownsRow 0 76 2 v xs.length (flat xs)) := h0.row
  have nh : ¬ v.ownBlock = some hb := fun e => (h.ne hb e).1 rfl
  have nb : ¬ v.ownBlock = some w.heap.size := fun e => by have := owns_lt' h.row _ e; omega
  obtain ⟨i0, hi0, hz0, hz1, hz2⟩ := info_parts itemInfo
  have h63 : xs.length + 1 ≤ maxLen := by unfold maxLen; omega
  go_enter Try.func52, Try.ntmps52
  go_wp2_with fail
  rw [← hw0]
  clear hw0
  have n1 := World.new_ne w0 _ f0
  have n2 := World.new_ne w0 _ b0
  have n3 := World.new_ne w0 _ b1
  have ka : ∀ (ob : Obj), (w0.alloc ob).drew.cell? ⟨hb, 0, none⟩ = some v ∧ (w0.alloc ob).drew.frozen? ⟨hb, 0, none⟩ = false := fun ob =>
    ⟨(((Keeps.refl (fun _ => False) w0).alloc ob).drew).cell f0 (fun e => e), ((((Keeps.refl (fun _ => False) w0).alloc ob).drew).frozen (p := ⟨hb, 0, none⟩) (by show hb < _; have := sz.out; omega) (fun e => e)).trans z0⟩
  go_region_law ((refine step_append_lies _ (by rfl) _ _ _ (by rfl) 0 76 i0 _ 2 16 underItems hi0 hz0 hz1 hz2 rfl (by omega) v xs.length (flat xs) (by rfl) ((HO.out.alloc _).drew) ⟨w0.heap.size, 0, none⟩ 1 1 [.int .i64 x.1, .int .i64 x.2] (by rfl) (by rfl) (World.news_of_block (cs := #[.int .i64 x.1, .int .i64 x.2]) (t := 76) (fr := (0, 0)) (heap_alloc_new w0 _)) (by simp [Value.oneCell']) (by omega) h63 hroom (Nat.zero_le _) (w0.heap.size + 1) (by simp) ?_; intro gg cap1 w1 hown1 hgrow hat hlt1; have r1 := (hgrow.cell_far ⟨hb, 0, none⟩ (by have := sz.out; simp; omega) (Ne.symm nh)).trans (ka _).1; have r2 := (hgrow.frozen_far ⟨hb, 0, none⟩ (by have := sz.out; simp; omega) (Ne.symm nh)).trans (ka _).2))
  all_goals
    go_simp
    have KA : Keeps (fun _ => False) w0 (World.drew (w0.alloc (.cells #[.int .i64 x.1, .int .i64 x.2] 76))) := ((Keeps.refl _ w0).alloc _).drew
    have hA := h0.new KA
    obtain ⟨h1, k1⟩ := hA.grow hx hroom hgrow hown1 (hat.imp id (fun e => by rw [e]; simp))
    have g2 : v.ownBlock = some gg ∨ w.heap.size < gg := hat.imp id (fun e => by have := sz.out; omega)
    have oth : Hid (∀ o u, 0 < o → w.cell? ⟨hb, o, none⟩ = some u → (w1.setCell ⟨hb, 0, none⟩ (.slice (some ⟨gg, 0, none⟩) (xs.length + 1) cap1)).cell? ⟨hb, o, none⟩ = some u) := fun o u ho hc => by
      rw [World.cell?_setCell_other _ _ _ _ (by intro e; simp at e; try omega)]
      exact hgrow.cell (KA.cell (K0.cell hc (fun e => e)) (fun e => e)) (Ne.symm nh)
    have nS : ¬ (v.ownBlock = some w.heap.size ∨ w.heap.size = hb) := fun e => e.elim nb (fun e => by omega)
    have c0 := k1.cell (p := ⟨w.heap.size, 0, none⟩) (KA.cell b0 (fun e => e)) nS
    have c1 := k1.cell (p := ⟨w.heap.size, 1, none⟩) (KA.cell b1 (fun e => e)) nS
    have K1 := ((K0.mono (fun _ _ e => e.elim)).trans (KA.mono (fun _ _ e => e.elim))).trans k1
    clear f0 z0 b0 b1 HO n1 n2 n3 ka hgrow hown1 hat hlt1 r1 r2 hA KA k1 h0 K0
    generalize World.setCell w1 _ _ = w2 at h1 c0 c1 K1 oth ⊢
    have hl : Hid ((xs ++ [x]).length = xs.length + 1) := by show _ = _; simp
    have F0 := h1.f0
    rw [hl.out] at F0
    have F2 := h1.f2
    have hxl : ia (xs ++ [x]) xs.length = x := by simp [ia]
    go_wp2_with fail
    go_region_held3 (fun w' => w'.cell? ⟨hb, 2, none⟩ = some (.func (.func 76) #[] #[.pointer (some ⟨pm, 0, none⟩)]) ∧ w'.cell? ⟨w.heap.size, 0, none⟩ = some (.int .i64 x.1) ∧ w'.cell? ⟨w.heap.size, 1, none⟩ = some (.int .i64 x.2)) (go_keep) ((go_at_call 76; refine (told_nx h1.drew (i := xs.length) (by simp) hxl hs).mono ?_; rintro e w3 ⟨rfl, h3, k3⟩; have q0 := h3.f2; have nT : ¬ Tch gg mb w.heap.size := fun e => e.elim (fun e => g2.elim (fun e' => nb (by rw [e]; exact e')) (fun e' => by omega)) (fun e => by have := h.side.map.lt; omega); have q1 := k3.cell (p := ⟨w.heap.size, 0, none⟩) c0 nT; have q2 := k3.cell (p := ⟨w.heap.size, 1, none⟩) c1 nT))
    clear q0 q1 q2 F0 F2 c0 c1
    go_wp2_with fail
    refine (rise_any h3 (p := xs.length) (by simp) (full_snoc hF x _) (hH.snoc_loose x)).mono ?_
    rintro e w4 ⟨ys, O, moved, rfl, h4, k4, m4, ht, hf⟩
    go_wp2_with fail
    go_end0
    have nTh : ¬ Tch gg mb hb := fun e => e.elim (fun e => h1.gh e.symm) (fun e => h.mh.1 e.symm)
    have kT : Keeps (PT v hb mb) w w4 := K1.trans' (((Keeps.refl _ w2).drew.trans k3).trans k4) (fun _ _ e => e.elim .inl (fun e => .inr (.inl e))) (fun i hi e => e.elim (fun e => g2.elim (fun e' => .inl (by rw [e]; exact e')) (fun e' => by omega)) (fun e => .inr (.inr e)))
    refine ⟨rfl, gg, cap1, ys, O, h4, g2.imp id (fun e => by omega), kT, m4, ?_, fun o u ho hc => k4.cell (k3.cell (oth.out o u ho hc) nTh) nTh⟩
    cases moved with
    | true => exact ht rfl
    | false =>
      obtain ⟨e1, _, hok⟩ := hf rfl
      rw [e1]
      exact ((hH.snoc_loose x).heavy (fun h0 _ => hok h0)).heap Heap.below_last
end

end Go.Proofs.Ytfbbllokpikbiab.Q
