import Derived.Test.YtdldhblhbbgloaaLocX
import Derived.Test.YtdldhblhbbgloaaCelLog
namespace Go.Proofs.Ytdldhblhbbgloaa
open Go.RowKit

/-- What stands between the steps. -/
structure FS (w W : World) (ρ : Nat → Nat) (rb wb mb : Nat) (s : Ws) (m : Mm) (k : Nat) (sv : Value) (sd : List Int) : Prop where
  rs : Rs W ρ 1 2 7 rb wb mb s m k
  kp : Keeps (fun _ => False) w W
  lo : ∀ i, i < w.heap.size → ρ i = 0
  ow : W.ownsRow w.heap.size 3 1 sv sd.length (fl ic sd)
  rg : ∀ g, sv.ownBlock = some g → ρ g = 0
section
variable {w W W' : World} {ρ ρ' : Nat → Nat} {rb wb mb : Nat} {s s' : Ws} {m m' : Mm} {k k' : Nat} {sv sv' : Value} {sd sd' : List Int}
theorem sq0 : ¬ Sq 1 2 7 0 := fun e => e.elim (fun e => e.elim (fun e => by cases e) (fun e => by omega)) (fun e => by cases e)
theorem FS.new (h : FS w W ρ rb wb mb s m k sv sd) (K : Keeps (fun _ => False) W W') : FS w W' ρ rb wb mb s m k sv sd :=
  ⟨(h.rs.new K).1, h.kp.trans K, h.lo, K.owns h.ow (fun _ _ e => e), h.rg⟩
theorem FS.step (h : FS w W ρ rb wb mb s m k sv sd) (hr : Rs W' ρ' 1 2 7 rb wb mb s' m' k') (x : Ext (Sq 1 2 7) W W' ρ ρ') : FS w W' ρ' rb wb mb s' m' k' sv sd :=
  ⟨hr, h.kp.trans' x.keeps (fun _ _ e => e) (fun i hi e => by rw [h.lo i hi] at e; exact sq0 e), fun i hi => (x.old i (Nat.lt_of_lt_of_le hi h.kp.size)).trans (h.lo i hi), x.keeps.owns h.ow (fun g hg e => by rw [h.rg g hg] at e; exact sq0 e), fun g hg => (x.old g (owns_lt' h.ow g hg)).trans (h.rg g hg)⟩
/-- The list is written into. -/
theorem FS.set (h : FS w W ρ rb wb mb s m k sv sd) {g x : Nat} (hg : sv.ownBlock = some g) (hx : x < sd.length) (v : Int) : FS w (W.setCell ⟨g, x, none⟩ (.int .i64 v)) ρ rb wb mb s m k sv (sd.set x v) := by
  have K := keeps_set W g x (.int .i64 v)
  have lg := own_lo h.ow hg
  refine ⟨h.rs.wr K (h.rg g hg), h.kp.trans' K (fun _ _ e => e) (fun i hi e => by omega), h.lo, ?_, h.rg⟩
  have own := h.ow
  obtain ⟨a, cp, e0, hgs⟩ : ∃ a cap, sv = .slice a sd.length cap ∧ (0 < sd.length → a = some ⟨g, 0, none⟩) := by
    rcases own.2 with ⟨h1, h0⟩ | ⟨g', cap, cur, h1, _⟩
    · rw [h1] at hg; cases hg
    · rw [h1] at hg; cases hg; exact ⟨_, _, h1, fun _ => rfl⟩
  subst e0
  rw [hgs (by omega)] at own ⊢
  have h1 := (own.stored x (.int .i64 v)).1
  have e1 := fl_set ic_len sd x 0 (sd.getD x 0) v (.int .i64 v) (getD_get hx) (by omega) rfl
  rw [Nat.mul_one, Nat.add_zero] at e1
  rw [List.length_set, e1]
  exact h1
/-- One more is said. -/
theorem FS.app (h : FS w W ρ rb wb mb s m k sv sd) {W1 : World} {gg cap : Nat} (v : Int) (K : Keeps (fun _ => False) W W1) (hg : W1.grownBy W' sv.ownBlock) (ho : W'.ownsRow w.heap.size 3 1 (.slice (some ⟨gg, 0, none⟩) (sd.length + 1) cap) (sd.length + 1) (fl ic sd ++ [.int .i64 v])) (hat : sv.ownBlock = some gg ∨ W.heap.size ≤ gg) :
    FS w W' ρ rb wb mb s m k (.slice (some ⟨gg, 0, none⟩) (sd.length + 1) cap) (sd ++ [v]) := by
  have K2 : Keeps (fun i => sv.ownBlock = some i) W1 W' := (Keeps.refl _ W1).grown hg (fun _ _ e => e)
  have KK : Keeps (fun i => sv.ownBlock = some i) W W' := K.trans' K2 (fun _ _ e => e.elim) (fun _ _ e => e)
  have x : Ext (fun r => r = 0) W W' ρ ρ := ⟨KK.mono (fun i _ e => h.rg i e), fun _ _ => rfl, fun i hi => .inr (h.rs.st.bnd i hi)⟩
  have n : ¬ ρ rb = 0 := by rw [h.rs.rr]; exact h.rs.q0
  have r := h.rs
  refine ⟨⟨⟨fun i hi => r.st.bnd i (Nat.le_trans KK.size hi), r.st.mj.ext x (fun e => r.st.u0 e), r.st.wj.ext x (fun q h1 h2 e => r.st.j0 (by omega)), r.st.u0, r.st.j0, r.st.ap⟩, x.cell r.c0 n, x.cell r.c1 n, x.cell r.c2 n, (x.keeps.frozen (p := ⟨rb, 2, none⟩) r.lt n).trans r.z2, r.rr, r.q0, r.qs, r.iv, r.bs, r.lg⟩, h.kp.trans' KK (fun _ _ e => e) (fun i hi e => by have := own_lo h.ow e; omega), h.lo, ?_, fun g e => ?_⟩
  · have e : fl ic (sd ++ [v]) = fl ic sd ++ [.int .i64 v] := by simp [fl, ic]
    rw [e]; simpa using ho
  · cases e
    rcases hat with e | e
    · exact h.rg _ e
    · exact h.rs.st.bnd _ e
theorem FS.slice (h : FS w W ρ rb wb mb s m k sv sd) : ∃ a cap, sv = .slice a sd.length cap ∧ (∀ x, x < sd.length → ∃ g, a = some ⟨g, 0, none⟩ ∧ sv.ownBlock = some g ∧ W.cell? ⟨g, x, none⟩ = some (.int .i64 (sd.getD x 0)) ∧ W.frozen? ⟨g, x, none⟩ = false) := by
  have own := h.ow
  rcases own.2 with ⟨h1, h0⟩ | ⟨g, cap, cur, h1, _⟩
  · exact ⟨none, 0, by rw [h1, h0], fun x hx => by omega⟩
  · refine ⟨some ⟨g, 0, none⟩, cap, h1, fun x hx => ⟨g, rfl, by rw [h1]; rfl, ?_, ?_⟩⟩
    · have e := fl_get ic_len sd x 0 (by omega)
      rw [getD_get (d := 0) hx, Nat.mul_one, Nat.add_zero] at e
      exact owns_cell own (by rw [h1]; rfl) e
    · rw [h1] at own; exact own.frozenAt x
end
/-- How the log grows. -/
theorem Do.rows {s s' : Ws} {m m' : Mm} {o : Oq} {e n : Int} {d : Bool} (h : Do s m o s' m' e d n) : ((8 ≤ o.kind ∧ o.kind ≤ 14) ∧ e = 0 → m'.log.length = m.log.length + 1) ∧ (¬ ((8 ≤ o.kind ∧ o.kind ≤ 14) ∧ e = 0) → m'.log.length = m.log.length) := by
  cases h with
  | idle h => exact ⟨fun q => absurd (.inr (.inr (.inr q.1))) h, fun _ => rfl⟩
  | no _ he _ _ _ => exact ⟨fun q => absurd q.2 he, fun _ => rfl⟩
  | att h _ => exact ⟨fun q => by omega, fun _ => rfl⟩
  | mk h _ _ _ _ _ _ _ _ _ => exact ⟨fun q => by omega, fun _ => rfl⟩
  | put h _ _ _ _ _ => exact ⟨fun q => by omega, fun _ => rfl⟩
  | load h x _ _ hf => exact ⟨fun _ => by simp [Mm.load, Mm.take], fun q => absurd ⟨by omega, rfl⟩ q⟩
  | acq h x y z _ _ _ _ _ _ _ _ hf => exact ⟨fun _ => by simp [Mm.swap, Mm.take], fun q => absurd ⟨by omega, rfl⟩ q⟩
  | stat h x _ _ hf => exact ⟨fun _ => by simp [Mm.load, Mm.take], fun q => absurd ⟨by omega, rfl⟩ q⟩
  | fin sv h x _ _ _ hf => exact ⟨fun _ => by simp [Mm.swap, Mm.take], fun q => absurd ⟨by omega, rfl⟩ q⟩
  | flag h x _ _ hf => exact ⟨fun _ => by simp [Mm.load, Mm.take], fun q => absurd ⟨by omega, rfl⟩ q⟩
  | mark h x p q _ _ _ hf _ => exact ⟨fun _ => by simp [Mm.swap, Mm.take], fun q => absurd ⟨by omega, rfl⟩ q⟩
theorem Opn.rows {m m1 : Mm} {k k' : Nat} {o : Oq} (h : Opn m k o m1 k') : m1.log = m.log := by rcases h with ⟨_, rfl, _⟩ | ⟨_, rfl, _⟩ <;> rfl
theorem Opn.val {m m1 : Mm} {k k' : Nat} {o : Oq} (h : Opn m k o m1 k') (c : Nat) : m1.val c = m.val c := by rcases h with ⟨_, rfl, _⟩ | ⟨_, rfl, _⟩ <;> rfl
/-- A refusal tells no more. -/
theorem Do.nod {s s' : Ws} {m m' : Mm} {o : Oq} {e n : Int} {d : Bool} (h : Do s m o s' m' e d n) (he : e ≠ 0) : d = false := by
  cases h with
  | no _ _ _ _ _ => rfl
  | _ => exact absurd rfl he
/-- The numbers that are gone were used. -/
def Gn (s : Ws) (gd : List Int) : Prop := ∀ x, x ∈ gd → ∃ z : Nat, x = (z : Int) ∧ z < s.locs.length ∧ (s.lo z).used = true
theorem Gn.step {s s' : Ws} {m m' : Mm} {o : Oq} {e n : Int} {d : Bool} {gd : List Int} (h : Gn s gd) (i : Inv s m) (hd : Do s m o s' m' e d n) : Gn s' gd := by
  have _ := i
  intro x hx
  obtain ⟨z, ez, hz, hu⟩ := h x hx
  refine ⟨z, ez, ?_, ?_⟩
  · cases hd with
    | mk h _ _ _ _ _ _ _ _ _ => simp [Ws.lay]; omega
    | acq h _ _ _ _ _ _ _ _ _ _ _ _ => simpa [Ws.use] using hz
    | _ => exact hz
  · cases hd with
    | mk h _ _ _ _ _ _ _ _ _ =>
      show ((⟨s.objs, s.atts, s.locs ++ [_], _⟩ : Ws).lo z).used = true
      rw [lo_app, if_pos hz]; exact hu
    | acq h _ _ z' _ _ _ _ _ _ hU _ _ =>
      rw [lo_use, if_neg]
      · exact hu
      · rintro ⟨rfl, _⟩; rw [hu] at hU; cases hU
    | _ => exact hu
/-- An Acquire that took. -/
theorem Do.took {s s' : Ws} {m m' : Mm} {o : Oq} {e n : Int} {gd : List Int} (hd : Do s m o s' m' e true n) (i : Inv s m) (hk : o.kind = 9) (hg : Gn s gd) : ∃ x y z : Nat, o.a = x ∧ o.b = y ∧ o.c = z ∧ x < s.objs.length ∧ s'.objs = s.objs ∧ m.val (s.ob x) = (y : Int) ∧ m'.val (s'.ob x) = (z : Int) ∧ Gn s' (gd ++ [(y : Int)]) ∧ ∀ g, g ∈ gd ++ [(y : Int)] → g ≠ (z : Int) := by
  have hd' := hd
  generalize hdt : true = dd at hd'
  cases hd' with
  | idle h => cases hdt
  | no _ _ _ _ _ => cases hdt
  | att h _ => cases hdt
  | mk h _ _ _ _ _ _ _ _ _ => cases hdt
  | put h _ _ _ _ _ => cases hdt
  | load h _ _ _ _ => cases hdt
  | acq h x y z ex ey ez hx hy hz hU hC hf =>
    have hv : m.val (s.ob x) = (y : Int) := of_decide_eq_true hdt.symm
    have hg2 := hg.step i hd
    obtain ⟨k, q1, q2, q3⟩ := i.at_ x hx
    have eky : k = y := by rw [hv] at q1; omega
    rw [eky] at q3
    refine ⟨x, y, z, ex, ey, ez, hx, rfl, hv, ?_, ?_, ?_⟩
    · show (m.swap (s.ob x) (y : Int) (z : Int)).val (s.ob x) = _
      rw [m.val_swap, if_pos ⟨rfl, i.co x hx, hv⟩]
    · intro g hgm
      rcases List.mem_append.1 hgm with h1 | h1
      · exact hg2 g h1
      · simp at h1
        refine ⟨y, h1, by simpa [Ws.use] using hy, ?_⟩
        rw [lo_use]
        by_cases e : y = z ∧ z < s.locs.length
        · rw [if_pos e]; exact hdt.symm
        · rw [if_neg e]; exact q3
    · intro g hgm e
      rcases List.mem_append.1 hgm with h1 | h1
      · obtain ⟨z', e', _, hu⟩ := hg g h1
        have : z' = z := by omega
        rw [this, hU] at hu; cases hu
      · simp at h1
        have : y = z := by omega
        rw [this, hU] at q3; cases q3
  | stat h _ _ _ _ => cases hdt
  | fin _ h _ _ _ _ _ => exact absurd h (by omega)
  | flag h _ _ _ _ => exact absurd hk (by omega)
  | mark h _ _ _ _ _ _ _ _ => exact absurd hk (by omega)
theorem slog {w : World} {ρ : Nat → Nat} {u j q rb wb mb : Nat} {s : Ws} {m : Mm} {k : Nat} (h : Rs w ρ u j q rb wb mb s m k) (hk : k ≤ 2500000000000) :
    Calls Try.prog 35 #[.pointer (some ⟨mb, 0, none⟩)] w fun e w' => ∃ a cap, e = .returned (.slice a m.log.length cap) ∧ Keeps (fun _ => False) w w' := by
  obtain ⟨F, hm1, _⟩ := h.st.mj
  refine (log_any hm1 (by have := h.log hk; omega)).mono ?_
  rintro e w' ⟨v, rfl, ho, k⟩
  rcases ho.2 with ⟨rfl, h0⟩ | ⟨g, cap, cur, rfl, _⟩
  · exact ⟨none, 0, by rw [h0], k⟩
  · exact ⟨_, _, rfl, k⟩
end Go.Proofs.Ytdldhblhbbgloaa
