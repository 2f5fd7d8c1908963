import Derived.Test.YtaikngpgmcpecaaGreatRefCelG
namespace Go.Proofs.YtaikngpgmcpecaaGreat
open Go.RowKit
/-- A locator's cells in the document's lists. -/
def l3 (x : Lo) : List Value := [.int .i64 (x.owner : Int), .int .i64 (x.old : Int), .int .i64 (x.new : Int)]
def lu (x : Lo) : List Value := [.bool x.used]
theorem l3_len (x : Lo) : (l3 x).length = 3 := rfl
theorem lu_len (x : Lo) : (lu x).length = 1 := rfl
/-- A list among a struct's fields. -/
structure Fd where
  ty : Nat
  sz : Nat
  n : Nat
  xs : List Value
/-- A struct of lists in memory: block qb, its fields 1 to 5; σ tells the blocks apart. -/
structure DS (w : World) (qb : Nat) (sv : Nat → Value) (σ : Nat → Nat) (d : Nat → Fd) : Prop where
  fs : ∀ o, 1 ≤ o → o ≤ 5 → w.cell? ⟨qb, o, none⟩ = some (sv o)
  z : ∀ o, w.frozen? ⟨qb, o, none⟩ = false
  ow : ∀ o, 1 ≤ o → o ≤ 5 → w.ownsRow 0 (d o).ty (d o).sz (sv o) (d o).n (d o).xs
  pq : σ qb = 0
  ps : ∀ o g, 1 ≤ o → o ≤ 5 → (sv o).ownBlock = some g → σ g = o
def uf {α : Type} (f : Nat → α) (o : Nat) (x : α) : Nat → α := fun i => if i = o then x else f i
theorem uf_self {α : Type} {f : Nat → α} {o : Nat} {x : α} : uf f o x o = x := if_pos rfl
theorem uf_other {α : Type} {f : Nat → α} {o i : Nat} {x : α} (h : i ≠ o) : uf f o x i = f i := if_neg h
/-- Its blocks. -/
def DB (qb : Nat) (sv : Nat → Value) (k : Nat) : Prop := k = qb ∨ ∃ o, 1 ≤ o ∧ o ≤ 5 ∧ (sv o).ownBlock = some k
section
variable {w w' w1 : World} {qb : Nat} {sv : Nat → Value} {σ : Nat → Nat} {d : Nat → Fd}
theorem DS.ltb (h : DS w qb sv σ d) : qb < w.heap.size := World.block_lt_of_cell? _ _ (h.fs 1 (by omega) (by omega))
theorem DS.lt (h : DS w qb sv σ d) {k : Nat} (hk : DB qb sv k) : k < w.heap.size := by
  rcases hk with rfl | ⟨o, o1, o2, e⟩
  · exact h.ltb
  · exact owns_lt' (h.ow o o1 o2) k e
theorem DS.keep (h : DS w qb sv σ d) {S : Nat → Prop} (k : Keeps S w w') (hS : ∀ i, DB qb sv i → ¬ S i) : DS w' qb sv σ d :=
  have hb : ¬ S qb := hS qb (.inl rfl)
  ⟨fun o o1 o2 => k.cell (h.fs o o1 o2) hb, fun o => (k.frozen (p := ⟨qb, o, none⟩) h.ltb hb).trans (h.z o), fun o o1 o2 => k.owns (h.ow o o1 o2) (fun g e => hS g (.inr ⟨o, o1, o2, e⟩)), h.pq, h.ps⟩
theorem DS.new (h : DS w qb sv σ d) (k : Keeps (fun _ => False) w w') : DS w' qb sv σ d := h.keep k (fun _ _ e => e)
/-- A list has grown, and is written down. -/
theorem DS.grow (h : DS w qb sv σ d) {o : Nat} (o1 : 1 ≤ o) (o2 : o ≤ 5) {K0 : World} (k0 : Keeps (fun _ => False) w K0) (hg : K0.grownBy w1 (sv o).ownBlock) {g n cap : Nat} {xs : List Value} (ho : w1.ownsRow 0 (d o).ty (d o).sz (.slice (some ⟨g, 0, none⟩) n cap) n xs) (hat : (sv o).ownBlock = some g ∨ K0.heap.size ≤ g) :
    ∃ σ', DS (w1.setCell ⟨qb, o, none⟩ (.slice (some ⟨g, 0, none⟩) n cap)) qb (uf sv o (.slice (some ⟨g, 0, none⟩) n cap)) σ' (uf d o ⟨(d o).ty, (d o).sz, n, xs⟩) ∧
      LeftP w (w1.setCell ⟨qb, o, none⟩ (.slice (some ⟨g, 0, none⟩) n cap)) (DB qb sv) (DB qb (uf sv o (.slice (some ⟨g, 0, none⟩) n cap))) := by
  have K1 : Keeps (fun k => (sv o).ownBlock = some k) w w1 := k0.trans' ((Keeps.refl _ K0).grown hg (fun _ _ e => e)) (fun _ _ e => e.elim) (fun _ _ e => e)
  have K2 := keeps_set w1 qb o (.slice (some ⟨g, 0, none⟩) n cap)
  have hl := h.ltb
  have hs := k0.size
  have nq : ¬ (sv o).ownBlock = some qb := fun e => by have := h.ps o qb o1 o2 e; rw [h.pq] at this; omega
  have off : ∀ k, k < w.heap.size → σ k ≠ o → k ≠ g := fun k hk hr e => by
    rcases hat with e' | e'
    · exact hr (by rw [e]; exact h.ps o g o1 o2 e')
    · omega
  have gq : g ≠ qb := fun e => off qb hl (by rw [h.pq]; omega) e.symm
  refine ⟨fun k => if k = g then o else σ k, ⟨fun i i1 i2 => ?_, fun i => ?_, fun i i1 i2 => ?_, ?_, fun i k i1 i2 e => ?_⟩, ⟨?_, fun k hk => ?_⟩⟩
  · by_cases e : i = o
    · subst e; rw [uf_self]; exact World.cell?_setCell_same _ _ _ (K1.cell (h.fs i i1 i2) nq)
    · rw [uf_other e, World.cell?_setCell_other _ _ _ _ (fun q => by injection q with _ q2; exact e q2.symm)]; exact K1.cell (h.fs i i1 i2) nq
  · rw [World.frozen?_setCell]; exact (K1.frozen (p := ⟨qb, i, none⟩) hl nq).trans (h.z i)
  · by_cases e : i = o
    · subst e; rw [uf_self, uf_self]; exact K2.owns ho (fun k e => by cases e; exact gq)
    · rw [uf_other e, uf_other e]
      exact K2.owns (K1.owns (h.ow i i1 i2) (fun k e1 e2 => by have a := h.ps i k i1 i2 e1; have b := h.ps o k o1 o2 e2; omega)) (fun k e1 e2 => by have a := h.ps i k i1 i2 e1; rw [e2, h.pq] at a; omega)
  · show (if qb = g then o else σ qb) = 0
    rw [if_neg (Ne.symm gq)]; exact h.pq
  · show (if k = g then o else σ k) = i
    by_cases q : i = o
    · subst q; rw [uf_self] at e; cases e; exact if_pos rfl
    · rw [uf_other q] at e
      have hk := h.ps i k i1 i2 e
      rw [if_neg (off k (owns_lt' (h.ow i i1 i2) k e) (by omega))]
      exact hk
  · exact K1.trans' K2 (fun k _ e => .inr ⟨o, o1, o2, e⟩) (fun k _ e => .inl e)
  · rcases hk with e | ⟨i, i1, i2, e⟩
    · exact .inl (.inl e)
    · by_cases q : i = o
      · subst q; rw [uf_self] at e; cases e
        exact hat.elim (fun e => .inl (.inr ⟨i, i1, i2, e⟩)) (fun e => .inr (show w.heap.size ≤ g by omega))
      · rw [uf_other q] at e; exact .inl (.inr ⟨i, i1, i2, e⟩)
/-- Cells of a list are written. -/
theorem DS.put (h : DS w qb sv σ d) {o : Nat} (o1 : 1 ≤ o) (o2 : o ≤ 5) {g : Nat} (hg : (sv o).ownBlock = some g) (K : Keeps (fun k => k = g) w w') {xs : List Value} (ho : w'.ownsRow 0 (d o).ty (d o).sz (sv o) (d o).n xs) :
    DS w' qb sv σ (uf d o ⟨(d o).ty, (d o).sz, (d o).n, xs⟩) ∧ LeftP w w' (DB qb sv) (DB qb sv) := by
  have rg := h.ps o g o1 o2 hg
  have nq : ¬ qb = g := fun e => by rw [← e, h.pq] at rg; omega
  refine ⟨⟨fun i i1 i2 => K.cell (h.fs i i1 i2) nq, fun i => (K.frozen (p := ⟨qb, i, none⟩) h.ltb nq).trans (h.z i), fun i i1 i2 => ?_, h.pq, h.ps⟩, K.mono (fun k _ e => .inr ⟨o, o1, o2, by rw [e]; exact hg⟩), fun _ e => .inl e⟩
  by_cases e : i = o
  · subst e; rw [uf_self]; exact ho
  · rw [uf_other e]; exact K.owns (h.ow i i1 i2) (fun k e1 e2 => by have a := h.ps i k i1 i2 e1; rw [e2] at a; omega)
end
/-- The lists of the document's world. -/
def dsw (s : Ws) : Nat → Fd := fun o => if o = 1 then ⟨3, 1, s.objs.length, fl oc s.objs⟩ else if o = 2 then ⟨125, 5, s.atts.length, fl ac s.atts⟩ else if o = 3 then ⟨103, 3, s.locs.length, fl l3 s.locs⟩ else if o = 4 then ⟨4, 1, s.locs.length, fl lu s.locs⟩ else if o = 5 then ⟨37, 3, s.vals.length, fl vc3 s.vals⟩ else ⟨0, 0, 0, []⟩
/-- The document's world and its memory; D: their blocks. -/
structure DW (w : World) (qb rb : Nat) (sv : Nat → Value) (σ : Nat → Nat) (B : Nat → Prop) (s : Ws) (m : Mm) : Prop where
  f0 : w.cell? ⟨qb, 0, none⟩ = some (.pointer (some ⟨rb, 0, none⟩))
  ds : DS w qb sv σ (dsw s)
  ri : RI w rb m B
  ap : ∀ k, DB qb sv k → ¬ B k
def DI (w : World) (qb rb : Nat) (s : Ws) (m : Mm) (D : Nat → Prop) : Prop := ∃ sv σ B, DW w qb rb sv σ B s m ∧ D = fun k => DB qb sv k ∨ B k
section
variable {w w' : World} {qb rb : Nat} {sv : Nat → Value} {σ : Nat → Nat} {B D : Nat → Prop} {s : Ws} {m m' : Mm}
theorem DW.new (h : DW w qb rb sv σ B s m) (k : Keeps (fun _ => False) w w') : DW w' qb rb sv σ B s m := ⟨k.cell h.f0 id, h.ds.new k, h.ri.new k, h.ap⟩
/-- The memory's call. -/
theorem DW.mem {B' : Nat → Prop} (h : DW w qb rb sv σ B s m) (hr : RI w' rb m' B') (l : LeftP w w' B B') : DW w' qb rb sv σ B' s m' :=
  ⟨l.keeps.cell h.f0 (h.ap qb (.inl rfl)), h.ds.keep l.keeps h.ap, hr, fun k hk hb => (l.old k hb).elim (h.ap k hk) (fun e => by have := h.ds.lt hk; omega)⟩
theorem DW.left {B' : Nat → Prop} (l : LeftP w w' B B') : LeftP w w' (fun k => DB qb sv k ∨ B k) (fun k => DB qb sv k ∨ B' k) :=
  ⟨l.keeps.mono (fun _ _ e => .inr e), fun k hk => hk.elim (fun e => .inl (.inl e)) (fun e => (l.old k e).imp .inr id)⟩
theorem DI.keep (h : DI w qb rb s m D) {S : Nat → Prop} (k : Keeps S w w') (hS : ∀ i, D i → ¬ S i) : DI w' qb rb s m D := by
  obtain ⟨sv, σ, B, h, rfl⟩ := h
  exact ⟨sv, σ, B, ⟨k.cell h.f0 (hS qb (.inl (.inl rfl))), h.ds.keep k (fun i e => hS i (.inl e)), h.ri.keep k (fun i e => hS i (.inr e)), h.ap⟩, rfl⟩
theorem DI.lt (h : DI w qb rb s m D) {k : Nat} (hk : D k) : k < w.heap.size := by
  obtain ⟨sv, σ, B, h, rfl⟩ := h
  exact hk.elim h.ds.lt h.ri.lt
theorem DI.new (h : DI w qb rb s m D) (k : Keeps (fun _ => False) w w') : DI w' qb rb s m D := h.keep k (fun _ _ e => e)
end
end Go.Proofs.YtaikngpgmcpecaaGreat
