import Derived.Test.YtdeiochjkbogpaaLocQ
namespace Go.Proofs.Ytdeiochjkbogpaa
open Go.RowKit

def Sq (u j q : Nat) (r : Nat) : Prop := Sr u j r ∨ r = q
/-- A world of its own over a memory; k: how many steps have begun. -/
structure Rs (w : World) (ρ : Nat → Nat) (u j q rb wb mb : Nat) (s : Ws) (m : Mm) (k : Nat) : Prop where
  st : St w ρ u j wb mb s m
  c0 : w.cell? ⟨rb, 0, none⟩ = some (.pointer (some ⟨mb, 0, none⟩))
  c1 : w.cell? ⟨rb, 1, none⟩ = some (.pointer (some ⟨wb, 0, none⟩))
  c2 : w.cell? ⟨rb, 2, none⟩ = some (.int .i64 (k : Int))
  z2 : w.frozen? ⟨rb, 2, none⟩ = false
  rr : ρ rb = q
  q0 : q ≠ 0
  qs : ¬ Sr u j q
  iv : Inv s m
  bs : m.begun = true → m.step < (k : Int)
  lg : m.log.length + (if m.free then 1 else 0) ≤ k
section
variable {w w' : World} {ρ ρ' : Nat → Nat} {u j q rb wb mb : Nat} {s s' : Ws} {m m' : Mm} {k k' : Nat}
theorem Rs.lt (h : Rs w ρ u j q rb wb mb s m k) : rb < w.heap.size := World.block_lt_of_cell? _ _ h.c0
theorem Rs.not0 (h : Rs w ρ u j q rb wb mb s m k) : ¬ Sq u j q 0 := fun e => e.elim (Sr.not0 h.st) (fun e => h.q0 e.symm)
theorem Rs.step (h : Rs w ρ u j q rb wb mb s m k) (hs : St w' ρ' u j wb mb s' m') (x : Ext (Sr u j) w w' ρ ρ') (iv : Inv s' m') (bs : m'.begun = true → m'.step < (k : Int)) (lg : m'.log.length + (if m'.free then 1 else 0) ≤ k) : Rs w' ρ' u j q rb wb mb s' m' k ∧ Ext (Sq u j q) w w' ρ ρ' :=
  have n : ¬ Sr u j (ρ rb) := by rw [h.rr]; exact h.qs
  ⟨⟨hs, x.cell h.c0 n, x.cell h.c1 n, x.cell h.c2 n, (x.keeps.frozen (p := ⟨rb, 2, none⟩) h.lt n).trans h.z2, (x.old rb h.lt).trans h.rr, h.q0, h.qs, iv, bs, lg⟩, x.mono (fun _ e => .inl e)⟩
theorem Rs.new (h : Rs w ρ u j q rb wb mb s m k) (k1 : Keeps (fun _ => False) w w') : Rs w' ρ u j q rb wb mb s m k ∧ Ext (Sq u j q) w w' ρ ρ := h.step (h.st.new k1).1 (h.st.new k1).2 h.iv h.bs h.lg
theorem Rs.wr (h : Rs w ρ u j q rb wb mb s m k) {B : Nat} (K : Keeps (fun i => i = B) w w') (hB : ρ B = 0) : Rs w' ρ u j q rb wb mb s m k :=
  have n : rb ≠ B := fun e => h.q0 (by rw [← h.rr, e]; exact hB)
  ⟨h.st.wr K hB, K.cell h.c0 n, K.cell h.c1 n, K.cell h.c2 n, (K.frozen (p := ⟨rb, 2, none⟩) h.lt n).trans h.z2, h.rr, h.q0, h.qs, h.iv, h.bs, h.lg⟩
/-- A step is opened, and its number written. -/
theorem Rs.opened (h : Rs w ρ u j q rb wb mb s m k) (hs : St w' ρ' u j wb mb s (m.begin (k : Int) 0)) (x : Ext (Sr u j) w w' ρ ρ') : Rs (w'.setCell ⟨rb, 2, none⟩ (.int .i64 ((k : Int) + 1))) ρ' u j q rb wb mb s (m.begin (k : Int) 0) (k + 1) ∧ Ext (Sq u j q) w (w'.setCell ⟨rb, 2, none⟩ (.int .i64 ((k : Int) + 1))) ρ ρ' := by
  have n : ¬ Sr u j (ρ rb) := by rw [h.rr]; exact h.qs
  have rr' := (x.old rb h.lt).trans h.rr
  have lt' := Nat.lt_of_lt_of_le h.lt x.keeps.size
  have K := keeps_set w' rb 2 (.int .i64 ((k : Int) + 1))
  have y : Ext (fun r => r = q) w' (w'.setCell ⟨rb, 2, none⟩ (.int .i64 ((k : Int) + 1))) ρ' ρ' := ⟨K.mono (fun i _ e => by subst e; exact rr'), fun _ _ => rfl, fun i hi => .inr (hs.bnd i hi)⟩
  have o : ∀ i v, i ≠ 2 → w'.cell? ⟨rb, i, none⟩ = some v → (w'.setCell ⟨rb, 2, none⟩ (.int .i64 ((k : Int) + 1))).cell? ⟨rb, i, none⟩ = some v := fun i v hi hv => by
    rw [World.cell?_setCell_other _ _ _ _ (fun e => by cases e; exact hi rfl)]; exact hv
  have hlg : m.log.length ≤ k := by have := h.lg; split at this <;> omega
  exact ⟨⟨⟨fun i hi => hs.bnd i (Nat.le_trans K.size hi), hs.mj.ext y (fun e => h.qs (.inl e.symm)), hs.wj.ext y (fun r h1 h2 e => h.qs (.inr (by omega))), hs.u0, hs.j0, hs.ap⟩, o _ _ (by decide) (x.cell h.c0 n), o _ _ (by decide) (x.cell h.c1 n), World.cell?_setCell_same _ _ _ (x.cell h.c2 n), by rw [World.frozen?_setCell]; exact (x.keeps.frozen (p := ⟨rb, 2, none⟩) h.lt n).trans h.z2, rr', h.q0, h.qs, h.iv.mem _ _, fun _ => by show (k : Int) < ((k + 1 : Nat) : Int); omega, by show m.log.length + 1 ≤ k + 1; omega⟩, (x.mono (fun _ e => .inl e)).trans (y.mono (fun _ e => .inr e))⟩
theorem Rs.may (h : Rs w ρ u j q rb wb mb s m k) : m.may (k : Int) 0 = true := by
  have := h.bs
  unfold Mm.may
  cases hb : m.begun
  · simp
  · have := this hb; simp; omega
theorem Rs.log (h : Rs w ρ u j q rb wb mb s m k) (hk : k ≤ 2500000000000) : (m.log.length + 1) * 56 ≤ 140737488355328 := by
  have := h.lg
  have : m.log.length ≤ k := by split at this <;> omega
  omega

set_option maxHeartbeats 1600000 in
set_option maxRecDepth 1000000 in
theorem open_any (h : Rs w ρ u j q rb wb mb s m k) (hk : k ≤ 2500000000000) :
    Calls Try.prog 45 #[.pointer (some ⟨rb, 0, none⟩)] w fun e w' => e = .returned (.bool true) ∧ ∃ ρ', Rs w' ρ' u j q rb wb mb s (m.begin (k : Int) 0) (k + 1) ∧ Ext (Sq u j q) w w' ρ ρ' := by
  have KD : Keeps (fun _ => False) w w.drew := (Keeps.refl _ w).drew
  obtain ⟨hD, xD⟩ := h.st.new KD
  have hb := sbegin hD (k : Int) 0 h.may
  have n : ¬ Sr u j (ρ rb) := by rw [h.rr]; exact h.qs
  have c0 := h.c0
  have c2 := h.c2
  have fin := fun (w2 : World) (ρ2 : Nat → Nat) (h2 : St w2 ρ2 u j wb mb s (m.begin (k : Int) 0)) (x2 : Ext (Sr u j) w w2 ρ ρ2) => h.opened h2 x2
  have z2 := h.z2
  have lt := h.lt
  clear hD h
  go_enter Try.func45, Try.ntmps45
  go_wp2_with fail
  go_region_held3 (fun w' => w'.cell? ⟨rb, 0, none⟩ = some (.pointer (some ⟨mb, 0, none⟩)) ∧ w'.cell? ⟨rb, 2, none⟩ = some (.int .i64 (k : Int))) (go_keep) ((go_at_call 16; refine hb.mono ?_; rintro e w2 ⟨rfl, ρ2, h2, x2⟩; have q0 := x2.cell (p := ⟨rb, 0, none⟩) (KD.cell c0 (fun e => e)) n; have q2 := x2.cell (p := ⟨rb, 2, none⟩) (KD.cell c2 (fun e => e)) n; have y2 := (x2.keeps.frozen (p := ⟨rb, 2, none⟩) lt n).trans z2))
  all_goals
    (try simp only [Exit.then])
    clear c0 c2 z2
    go_wp2_with (go_at_call 12; refine (num_of _ _).mono ?_; rintro e w' ⟨rfl, rfl⟩)
    go_ret
    obtain ⟨f1, f2⟩ := fin _ _ h2 (xD.trans x2)
    exact ⟨rfl, ρ2, f1, f2⟩
end
end Go.Proofs.Ytdeiochjkbogpaa
