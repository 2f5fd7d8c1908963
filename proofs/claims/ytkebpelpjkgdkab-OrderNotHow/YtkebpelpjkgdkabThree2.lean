import Derived.Test.YtkebpelpjkgdkabThree
namespace Go.Proofs.Ytkebpelpjkgdkab
open Go.RowKit Go.Maps

/-- .. and blocks that are kept for other things. -/
def TQR (w0 w : World) (a b c : Option (Nat × List It)) (hv : Value) (H : List It) (R : List Nat) : Prop :=
  ∃ Fa Fb Fc, QX w a Fa ∧ QX w b Fb ∧ QX w c Fc ∧ Dj Fa Fb ∧ Dj Fa Fc ∧ Dj Fb Fc ∧ Dj Fa hv.ownBlock.toList ∧ Dj Fb hv.ownBlock.toList ∧ Dj Fc hv.ownBlock.toList ∧
    (∀ k ∈ Fa, w0.heap.size ≤ k) ∧ (∀ k ∈ Fb, w0.heap.size ≤ k) ∧ (∀ k ∈ Fc, w0.heap.size ≤ k) ∧ w.ownsRow w0.heap.size 32 2 hv H.length (flat H) ∧ Keeps (fun _ => False) w0 w ∧
    Dj Fa R ∧ Dj Fb R ∧ Dj Fc R ∧ ∀ k ∈ R, k < w.heap.size

section
variable {w0 w : World} {a b c : Option (Nat × List It)} {hv : Value} {H : List It} {R : List Nat}

theorem TQ.tqr (h : TQ w0 w a b c hv H) : TQR w0 w a b c hv H [] := by
  obtain ⟨Fa, Fb, Fc, qa, qb, qc, d1, d2, d3, e1, e2, e3, n1, n2, n3, ho, hk⟩ := h
  exact ⟨Fa, Fb, Fc, qa, qb, qc, d1, d2, d3, e1, e2, e3, n1, n2, n3, ho, hk, (fun _ _ h => by cases h), (fun _ _ h => by cases h), (fun _ _ h => by cases h), (fun _ h => by cases h)⟩
theorem TQR.tq (h : TQR w0 w a b c hv H R) : TQ w0 w a b c hv H := by
  obtain ⟨Fa, Fb, Fc, qa, qb, qc, d1, d2, d3, e1, e2, e3, n1, n2, n3, ho, hk, _⟩ := h
  exact ⟨Fa, Fb, Fc, qa, qb, qc, d1, d2, d3, e1, e2, e3, n1, n2, n3, ho, hk⟩
theorem TQR.rot (h : TQR w0 w a b c hv H R) : TQR w0 w b c a hv H R := by
  obtain ⟨Fa, Fb, Fc, qa, qb, qc, d1, d2, d3, e1, e2, e3, n1, n2, n3, ho, hk, r1, r2, r3, rl⟩ := h
  exact ⟨Fb, Fc, Fa, qb, qc, qa, d3, d1.symm, d2.symm, e2, e3, e1, n2, n3, n1, ho, hk, r2, r3, r1, rl⟩
/-- A new block, kept. -/
theorem TQR.alloc (h : TQR w0 w a b c hv H R) (o : Obj) : TQR w0 (w.alloc o) a b c hv H (w.heap.size :: R) := by
  obtain ⟨Fa, Fb, Fc, qa, qb, qc, d1, d2, d3, e1, e2, e3, n1, n2, n3, ho, hk, r1, r2, r3, rl⟩ := h
  have k : Keeps (fun _ => False) w (w.alloc o) := (Keeps.refl _ w).alloc _
  have dj : ∀ {F : List Nat}, (∀ k ∈ F, k < w.heap.size) → Dj F R → Dj F (w.heap.size :: R) := fun hF hd i hi hm => by
    rcases List.mem_cons.1 hm with e | e
    · have := hF i hi; omega
    · exact hd i hi e
  refine ⟨Fa, Fb, Fc, qa.keep k (fun _ _ e => e), qb.keep k (fun _ _ e => e), qc.keep k (fun _ _ e => e), d1, d2, d3, e1, e2, e3, n1, n2, n3, k.owns ho (fun _ _ e => e), hk.trans k, dj qa.lt r1, dj qb.lt r2, dj qc.lt r3, fun i hi => ?_⟩
  rcases List.mem_cons.1 hi with e | e
  · rw [e]; simp
  · have := rl i e; simp; omega
theorem tqr_take {q : Nat} {xs : List It} (h : TQR w0 w (some (q, xs)) b c hv H R) (hl : 0 < xs.length) :
    Calls Try.prog 15 #[.pointer (some ⟨q, 0, none⟩)] w fun e w' =>
      ∃ x ys, e = .returned (.tuple #[.agg #[.int .i64 x.1, .int .i64 x.2], .int .i64 0]) ∧ TQR w0 w' (some (q, ys)) b c hv H R ∧ (x :: ys).Perm xs ∧ (∀ y ∈ xs, bef y x = false) ∧ (∀ (o : Nat) (k : Nat) (v : Value), k ∈ R → w.cell? ⟨k, o, none⟩ = some v → w'.cell? ⟨k, o, none⟩ = some v) := by
  obtain ⟨F, Fb, Fc, qa, qb, qc, d1, d2, d3, e1, e2, e3, n1, n2, n3, ho, hk, r1, r2, r3, rl⟩ := h
  refine (take_some (F := F) qa hl).mono ?_
  rintro e w' ⟨x, ys, F', rfl, q', hp, hm, l⟩
  have hG : ∀ k ∈ hv.ownBlock.toList, k < w.heap.size := fun k hk' => owns_lt' ho k (by simpa using hk')
  refine ⟨x, ys, rfl, ⟨F', Fb, Fc, q', qb.keep l.keeps (fun k hk' => d1.symm k hk'), qc.keep l.keeps (fun k hk' => d2.symm k hk'), l.dj d1 qb.lt, l.dj d2 qc.lt, d3, l.dj e1 hG, e2, e3,
    (fun k hk' => (l.old k hk').elim (n1 k) (fun e => by have := hk.size; omega)), n2, n3, l.keeps.owns ho (fun g hg hm => e1 g hm (by simp [hg])), hk.trans' l.keeps (fun _ _ e => e) (fun i hi e => by have := n1 i e; omega),
    l.dj r1 rl, r2, r3, fun i hi => by have := rl i hi; have := l.keeps.size; omega⟩, hp, hm, fun o k v hkR hc => l.keeps.cell hc (fun hm => r1 k hm hkR)⟩
end
end Go.Proofs.Ytkebpelpjkgdkab
