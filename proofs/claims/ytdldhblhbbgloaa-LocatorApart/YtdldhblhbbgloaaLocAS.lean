import Derived.Test.YtdldhblhbbgloaaLocAF
import Derived.Test.YtdldhblhbbgloaaLocX
import Derived.Deep.AppendSrc
namespace Go.Proofs.Ytdldhblhbbgloaa
open Go.RowKit
theorem Ext.to {S T : Nat → Prop} {w w' : World} {ρ ρ' : Nat → Nat} (x : Ext S w w' ρ ρ') (h : ∀ r, S r → T r) : Ext T w w' ρ ρ' := x.mono h
section
variable {W W' : World} {ρ ρ' : Nat → Nat} {u j q rb wb mb : Nat} {s s' : Ws} {m m' : Mm} {k k' : Nat} {S : Nat → Prop}
/-- What others do, of other roles, leaves a raw be. -/
theorem Rs.ext (h : Rs W ρ u j q rb wb mb s m k) (x : Ext S W W' ρ ρ') (hb : Bnd W' ρ') (hu : ¬ S u) (hj : ∀ r, j ≤ r → r < j + 5 → ¬ S r) (hq : ¬ S q) : Rs W' ρ' u j q rb wb mb s m k :=
  have n : ¬ S (ρ rb) := by rw [h.rr]; exact hq
  ⟨⟨hb, h.st.mj.ext x hu, h.st.wj.ext x hj, h.st.u0, h.st.j0, h.st.ap⟩, x.cell h.c0 n, x.cell h.c1 n, x.cell h.c2 n, (x.keeps.frozen (p := ⟨rb, 2, none⟩) h.lt n).trans h.z2, (x.old rb h.lt).trans h.rr, h.q0, h.qs, h.iv, h.bs, h.lg⟩
/-- The step's number is written. -/
theorem keepsR (h : Bnd W ρ) {B : Nat} (hB : ρ B = q) (v : Value) : Ext (fun r => r = q) W (W.setCell ⟨B, 2, none⟩ v) ρ ρ ∧ Bnd (W.setCell ⟨B, 2, none⟩ v) ρ :=
  have K := keeps_set W B 2 v
  ⟨⟨K.mono (fun i _ e => by subst e; exact hB), fun _ _ => rfl, fun i hi => .inr (h i hi)⟩, fun i hi => h i (Nat.le_trans K.size hi)⟩
end
/-- A world by itself, one over a memory, and a third one over that memory. -/
structure A3 (w W : World) (ρ : Nat → Nat) (rb wb mb rc wc mc sb wd : Nat) (s : Ws) (m : Mm) (k : Nat) (t : Ws) (l : Mm) (kk : Nat) (v : Ws) : Prop where
  one : Rs W ρ 1 2 7 rb wb mb s m k
  two : Rs W ρ 11 12 17 rc wc mc t l kk
  wj : WJ W ρ 22 wd mc v
  d0 : W.cell? ⟨sb, 0, none⟩ = some (.pointer (some ⟨mc, 0, none⟩))
  d1 : W.cell? ⟨sb, 1, none⟩ = some (.pointer (some ⟨wd, 0, none⟩))
  d2 : ∃ x : Int, W.cell? ⟨sb, 2, none⟩ = some (.int .i64 x)
  dz : W.frozen? ⟨sb, 2, none⟩ = false
  dr : ρ sb = 27
  iv : Inv v l
  ap : Apt t v
  sim : Sim s m t l
  kp : Keeps (fun _ => False) w W
  lo : ∀ i, i < w.heap.size → ρ i = 0
section
variable {w W W' : World} {ρ ρ' : Nat → Nat} {rb wb mb rc wc mc sb wd : Nat} {s s' : Ws} {m m' : Mm} {k k' : Nat} {t t' : Ws} {l l' : Mm} {kk kk' : Nat} {v v' : Ws}
theorem A3.lt (h : A3 w W ρ rb wb mb rc wc mc sb wd s m k t l kk v) : sb < W.heap.size := World.block_lt_of_cell? _ _ h.d0
theorem A3.new (h : A3 w W ρ rb wb mb rc wc mc sb wd s m k t l kk v) (K : Keeps (fun _ => False) W W') : A3 w W' ρ rb wb mb rc wc mc sb wd s m k t l kk v := by
  have x := Ext.alloc (S := fun _ => False) h.one.st.bnd K
  obtain ⟨y, hy⟩ := h.d2
  exact ⟨(h.one.new K).1, (h.two.new K).1, h.wj.ext x.1 (fun _ _ _ e => e), K.cell h.d0 (fun e => e), K.cell h.d1 (fun e => e), ⟨y, K.cell hy (fun e => e)⟩, (K.frozen (p := ⟨sb, 2, none⟩) h.lt (fun e => e)).trans h.dz, h.dr, h.iv, h.ap, h.sim, h.kp.trans K, h.lo⟩
/-- A block without a role, new since the beginning, is written. -/
theorem A3.wr (h : A3 w W ρ rb wb mb rc wc mc sb wd s m k t l kk v) {B : Nat} (K : Keeps (fun i => i = B) W W') (hB : ρ B = 0) (hw : w.heap.size ≤ B) : A3 w W' ρ rb wb mb rc wc mc sb wd s m k t l kk v := by
  have x : Ext (fun r => r = 0) W W' ρ ρ := ⟨K.mono (fun i _ e => by subst e; exact hB), fun _ _ => rfl, fun i hi => .inr (h.one.st.bnd i hi)⟩
  have n : ¬ sb = B := fun e => by have := h.dr; rw [e, hB] at this; cases this
  obtain ⟨y, hy⟩ := h.d2
  exact ⟨h.one.wr K hB, h.two.wr K hB, h.wj.ext x (fun r h1 h2 e => by omega), K.cell h.d0 n, K.cell h.d1 n, ⟨y, K.cell hy n⟩, (K.frozen (p := ⟨sb, 2, none⟩) h.lt n).trans h.dz, h.dr, h.iv, h.ap, h.sim, h.kp.trans' K (fun _ _ e => e) (fun i hi e => by omega), h.lo⟩
theorem A3.st (h : A3 w W ρ rb wb mb rc wc mc sb wd s m k t l kk v) : St W ρ 11 22 wd mc v l := ⟨h.two.st.bnd, h.two.st.mj, h.wj, by decide, by decide, by omega⟩
theorem sq1 {r : Nat} : Sq 1 2 7 r ↔ r = 1 ∨ (2 ≤ r ∧ r < 8) := by unfold Sq Sr; omega
theorem sq11 {r : Nat} : Sq 11 12 17 r ↔ r = 11 ∨ (12 ≤ r ∧ r < 18) := by unfold Sq Sr; omega
theorem sq22 {r : Nat} : Sq 11 22 27 r ↔ r = 11 ∨ (22 ≤ r ∧ r < 28) := by unfold Sq Sr; omega
theorem A3.kp' (h : A3 w W ρ rb wb mb rc wc mc sb wd s m k t l kk v) {S : Nat → Prop} (x : Ext S W W' ρ ρ') (hS : ¬ S 0) : Keeps (fun _ => False) w W' ∧ ∀ i, i < w.heap.size → ρ' i = 0 :=
  ⟨h.kp.trans' x.keeps (fun _ _ e => e) (fun i hi e => by rw [h.lo i hi] at e; exact hS e), fun i hi => (x.old i (Nat.lt_of_lt_of_le hi h.kp.size)).trans (h.lo i hi)⟩
/-- The third one takes over the number of steps. -/
theorem A3.sync (h : A3 w W ρ rb wb mb rc wc mc sb wd s m k t l kk v) : A3 w (W.setCell ⟨sb, 2, none⟩ (.int .i64 (kk : Int))) ρ rb wb mb rc wc mc sb wd s m k t l kk v ∧ Rs (W.setCell ⟨sb, 2, none⟩ (.int .i64 (kk : Int))) ρ 11 22 27 sb wd mc v l kk := by
  obtain ⟨x, hb⟩ := keepsR h.one.st.bnd h.dr (.int .i64 (kk : Int))
  obtain ⟨y, hy⟩ := h.d2
  have o : ∀ i u, i ≠ 2 → W.cell? ⟨sb, i, none⟩ = some u → (W.setCell ⟨sb, 2, none⟩ (.int .i64 (kk : Int))).cell? ⟨sb, i, none⟩ = some u := fun i u hi hu => by
    rw [World.cell?_setCell_other _ _ _ _ (fun e => by cases e; exact hi rfl)]; exact hu
  have c2 : (W.setCell ⟨sb, 2, none⟩ (.int .i64 (kk : Int))).cell? ⟨sb, 2, none⟩ = some (.int .i64 (kk : Int)) := World.cell?_setCell_same _ _ _ hy
  have z2 : (W.setCell ⟨sb, 2, none⟩ (.int .i64 (kk : Int))).frozen? ⟨sb, 2, none⟩ = false := by rw [World.frozen?_setCell]; exact h.dz
  have a1 := h.one.ext x hb (by decide) (fun r h1 h2 e => by omega) (by decide)
  have a2 := h.two.ext x hb (by decide) (fun r h1 h2 e => by omega) (by decide)
  have a3 := h.wj.ext x (fun r h1 h2 e => by omega)
  obtain ⟨p1, p2⟩ := h.kp' x (by decide)
  exact ⟨⟨a1, a2, a3, o _ _ (by decide) h.d0, o _ _ (by decide) h.d1, ⟨_, c2⟩, z2, h.dr, h.iv, h.ap, h.sim, p1, p2⟩, ⟨⟨hb, a2.st.mj, a3, by decide, by decide, by omega⟩, o _ _ (by decide) h.d0, o _ _ (by decide) h.d1, c2, z2, h.dr, by decide, fun e => by rcases e with e | e <;> omega, h.iv, h.two.bs, h.two.lg⟩⟩
/-- The third one's step, and its number handed back. -/
theorem A3.side (h : A3 w W ρ rb wb mb rc wc mc sb wd s m k t l kk v) {o : Oq} {la : Mm} {e n : Int} {d : Bool} (hop : Opn l kk o la kk') (hd : Do v la o v' l' e d n) (hr : Rs W' ρ' 11 22 27 sb wd mc v' l' kk') (x : Ext (Sq 11 22 27) W W' ρ ρ') :
    W'.cell? ⟨rc, 2, none⟩ = some (.int .i64 (kk : Int)) ∧ W'.frozen? ⟨rc, 2, none⟩ = false ∧ A3 w (W'.setCell ⟨rc, 2, none⟩ (.int .i64 (kk' : Int))) ρ' rb wb mb rc wc mc sb wd s m k t l' kk' v' := by
  have hvl : ∀ c, la.val c = l.val c := fun c => by rcases hop with ⟨_, e, _⟩ | ⟨_, e, _⟩ <;> rw [e] <;> rfl
  have hva : Inv v la := by rcases hop with ⟨_, e, _⟩ | ⟨_, e, _⟩ <;> rw [e]; exact h.iv.mem _ _; exact h.iv
  have hta : Inv t la := by rcases hop with ⟨_, e, _⟩ | ⟨_, e, _⟩ <;> rw [e]; exact h.two.iv.mem _ _; exact h.two.iv
  obtain ⟨ap', it', fr⟩ := h.ap.symm.step hta hva hd
  have nr : ¬ Sq 11 22 27 (ρ rc) := by rw [h.two.rr, sq22]; omega
  have b1 := h.one.ext x hr.st.bnd (by rw [sq22]; omega) (fun r h1 h2 => by rw [sq22]; omega) (by rw [sq22]; omega)
  have wj2 := h.two.st.wj.ext x (fun r h1 h2 => by rw [sq22]; omega)
  have rr' := (x.old rc h.two.lt).trans h.two.rr
  have c2 := x.cell h.two.c2 nr
  have z2 := (x.keeps.frozen (p := ⟨rc, 2, none⟩) h.two.lt nr).trans h.two.z2
  refine ⟨c2, z2, ?_⟩
  obtain ⟨y, hb⟩ := keepsR hr.st.bnd rr' (.int .i64 (kk' : Int))
  have o2 : ∀ i u, i ≠ 2 → W'.cell? ⟨rc, i, none⟩ = some u → (W'.setCell ⟨rc, 2, none⟩ (.int .i64 (kk' : Int))).cell? ⟨rc, i, none⟩ = some u := fun i u hi hu => by
    rw [World.cell?_setCell_other _ _ _ _ (fun e => by cases e; exact hi rfl)]; exact hu
  have hr' := hr.ext y hb (by decide) (fun r h1 h2 e => by omega) (by decide)
  obtain ⟨p1, p2⟩ := h.kp' x (by rw [sq22]; omega)
  have p3 : Keeps (fun _ => False) w (W'.setCell ⟨rc, 2, none⟩ (.int .i64 (kk' : Int))) := p1.trans' y.keeps (fun _ _ e => e) (fun i hi e => by rw [p2 i hi] at e; cases e)
  exact ⟨b1.ext y hb (by decide) (fun r h1 h2 e => by omega) (by decide),
    ⟨⟨hb, hr'.st.mj, wj2.ext y (fun r h1 h2 e => by omega), by decide, by decide, by omega⟩, o2 _ _ (by decide) (x.cell h.two.c0 nr), o2 _ _ (by decide) (x.cell h.two.c1 nr), World.cell?_setCell_same _ _ _ c2, by rw [World.frozen?_setCell]; exact z2, rr', h.two.q0, h.two.qs, it', hr.bs, hr.lg⟩,
    hr'.st.wj, hr'.c0, hr'.c1, ⟨_, hr'.c2⟩, hr'.z2, hr'.rr, hr.iv, ap'.symm, h.sim.frame (fun c hc => by rw [fr c hc, hvl]), p3, p2⟩
/-- A step of the first. -/
theorem A3.first (h : A3 w W ρ rb wb mb rc wc mc sb wd s m k t l kk v) (hr : Rs W' ρ' 1 2 7 rb wb mb s' m' k') (x : Ext (Sq 1 2 7) W W' ρ ρ') (hs : Sim s' m' t l) : A3 w W' ρ' rb wb mb rc wc mc sb wd s' m' k' t l kk v := by
  have n : ¬ Sq 1 2 7 (ρ sb) := by rw [h.dr, sq1]; omega
  obtain ⟨y, hy⟩ := h.d2
  obtain ⟨p1, p2⟩ := h.kp' x (by rw [sq1]; omega)
  exact ⟨hr, h.two.ext x hr.st.bnd (by rw [sq1]; omega) (fun r h1 h2 => by rw [sq1]; omega) (by rw [sq1]; omega), h.wj.ext x (fun r h1 h2 => by rw [sq1]; omega), x.cell h.d0 n, x.cell h.d1 n, ⟨y, x.cell hy n⟩, (x.keeps.frozen (p := ⟨sb, 2, none⟩) h.lt n).trans h.dz, (x.old sb h.lt).trans h.dr, h.iv, h.ap, hs, p1, p2⟩
/-- A step of each, the same: they answer alike. -/
theorem A3.both {W2 : World} {ρ2 : Nat → Nat} (h : A3 w W ρ rb wb mb rc wc mc sb wd s m k t l kk v) {o : Oq} (hsh : o.shut = false) {ma la : Mm} {e n e2 n2 : Int} {d d2 : Bool} (ho : Opn m k o ma k') (hd : Do s ma o s' m' e d n) (hr : Rs W' ρ' 1 2 7 rb wb mb s' m' k') (x : Ext (Sq 1 2 7) W W' ρ ρ')
    (K : Keeps (fun _ => False) W' W2) {W3 : World} (ho2 : Opn l kk o la kk') (hd2 : Do t la o t' l' e2 d2 n2) (hr2 : Rs W3 ρ2 11 12 17 rc wc mc t' l' kk') (x2 : Ext (Sq 11 12 17) W2 W3 ρ' ρ2) (hrm : s.roomA m = true) (hrl : t.roomA l = true) :
    e2 = e ∧ d2 = d ∧ n2 = n ∧ A3 w W3 ρ2 rb wb mb rc wc mc sb wd s' m' k' t' l' kk' v := by
  have hvm : ∀ c, ma.val c = m.val c := fun c => by rcases ho with ⟨_, e, _⟩ | ⟨_, e, _⟩ <;> rw [e] <;> rfl
  have hvl : ∀ c, la.val c = l.val c := fun c => by rcases ho2 with ⟨_, e, _⟩ | ⟨_, e, _⟩ <;> rw [e] <;> rfl
  have im : Inv s ma := by rcases ho with ⟨_, e, _⟩ | ⟨_, e, _⟩ <;> rw [e]; exact h.one.iv.mem _ _; exact h.one.iv
  have il : Inv t la := by rcases ho2 with ⟨_, e, _⟩ | ⟨_, e, _⟩ <;> rw [e]; exact h.two.iv.mem _ _; exact h.two.iv
  have ivl : Inv v la := by rcases ho2 with ⟨_, e, _⟩ | ⟨_, e, _⟩ <;> rw [e]; exact h.iv.mem _ _; exact h.iv
  have sm : Sim s ma t la := ⟨h.sim.no, h.sim.na, h.sim.lo, h.sim.vl, fun i hi => by rw [hvm, hvl]; exact h.sim.ob i hi, fun i hi => by rw [hvm, hvl]; exact h.sim.st i hi, fun i hi => by rw [hvm, hvl]; exact h.sim.fl i hi⟩
  have hfr : 8 ≤ o.kind ∧ o.kind ≤ 14 → la.free = ma.free := fun q => by
    have ac : acc o = true := by simp [acc, hsh, q.1, q.2]
    rcases ho with ⟨_, e, _⟩ | ⟨e, _, _⟩
    · rcases ho2 with ⟨_, e', _⟩ | ⟨e', _, _⟩
      · rw [e, e']; rfl
      · rw [ac] at e'; cases e'
    · rw [ac] at e; cases e
  have rm : s.roomA ma = true := by rcases ho with ⟨_, e, _⟩ | ⟨_, e, _⟩ <;> rw [e] <;> exact hrm
  have rl : t.roomA la = true := by rcases ho2 with ⟨_, e, _⟩ | ⟨_, e, _⟩ <;> rw [e] <;> exact hrl
  obtain ⟨q1, q2, q3, sm'⟩ := sm.step im il hfr (by rw [rm, rl]) hd hd2
  refine ⟨q1, q2, q3, ?_⟩
  have h1 := (h.first hr x (s' := s') (m' := m') (t := t) (l := l))
  obtain ⟨ap', iv', _⟩ := h.ap.step ivl il hd2
  have n : ¬ Sq 1 2 7 (ρ sb) := by rw [h.dr, sq1]; omega
  have dr' := (x.old sb h.lt).trans h.dr
  have n2' : ¬ Sq 11 12 17 (ρ' sb) := by rw [dr', sq11]; omega
  have lt' := Nat.lt_of_lt_of_le h.lt x.keeps.size
  have lt2 := Nat.lt_of_lt_of_le lt' K.size
  obtain ⟨y, hy⟩ := h.d2
  obtain ⟨p1, p2⟩ := h.kp' x (by rw [sq1]; omega)
  have xk := Ext.alloc (S := fun _ => False) hr.st.bnd K
  exact ⟨((hr.new K).1).ext x2 hr2.st.bnd (by rw [sq11]; omega) (fun r h1 h2 => by rw [sq11]; omega) (by rw [sq11]; omega), hr2, ((h.wj.ext x (fun r h1 h2 => by rw [sq1]; omega)).ext xk.1 (fun _ _ _ e => e)).ext x2 (fun r h1 h2 => by rw [sq11]; omega),
    x2.cell (K.cell (x.cell h.d0 n) (fun e => e)) n2', x2.cell (K.cell (x.cell h.d1 n) (fun e => e)) n2', ⟨y, x2.cell (K.cell (x.cell hy n) (fun e => e)) n2'⟩, (x2.keeps.frozen (p := ⟨sb, 2, none⟩) lt2 n2').trans ((K.frozen (p := ⟨sb, 2, none⟩) lt' (fun e => e)).trans ((x.keeps.frozen (p := ⟨sb, 2, none⟩) h.lt n).trans h.dz)), (x2.old sb lt2).trans dr', iv', ap', sm', (p1.trans K).trans' x2.keeps (fun _ _ e => e) (fun i hi e => by rw [p2 i hi, sq11] at e; omega), fun i hi => (x2.old i (Nat.lt_of_lt_of_le hi (Nat.le_trans h.kp.size (Nat.le_trans x.keeps.size K.size)))).trans (p2 i hi)⟩
end
end Go.Proofs.Ytdldhblhbbgloaa
