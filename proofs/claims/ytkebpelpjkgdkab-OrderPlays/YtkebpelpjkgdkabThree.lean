import Derived.Test.YtkebpelpjkgdkabQueF
import Derived.Test.YtkebpelpjkgdkabLoad
namespace Go.Proofs.Ytkebpelpjkgdkab
open Go.RowKit Go.Maps

/-- Lists of blocks with nothing in common. -/
def Dj (F G : List Nat) : Prop := ∀ k ∈ F, k ∉ G
theorem Dj.symm {F G : List Nat} (h : Dj F G) : Dj G F := fun k hk hm => h k hm hk
theorem Left.dj {w w' : World} {F F' G : List Nat} (l : Left w w' F F') (h : Dj F G) (hG : ∀ k ∈ G, k < w.heap.size) : Dj F' G := fun k hk hm => (l.old k hk).elim (fun e => h k e hm) (fun e => by have := hG k hm; omega)

/-- A queue, or none. -/
def QX (w : World) (o : Option (Nat × List It)) (F : List Nat) : Prop :=
  match o with
  | none => F = []
  | some (q, xs) => QI w q xs F
theorem QX.keep {w w' : World} {o : Option (Nat × List It)} {F : List Nat} (h : QX w o F) {S : Nat → Prop} (hk : Keeps S w w') (hF : ∀ k ∈ F, ¬ S k) : QX w' o F := by
  match o, h with
  | none, h => exact h
  | some (q, xs), h => exact QI.keep h hk hF
theorem QX.lt {w : World} {o : Option (Nat × List It)} {F : List Nat} (h : QX w o F) : ∀ k ∈ F, k < w.heap.size := by
  match o, h with
  | none, h => intro k hk; rw [show F = [] from h] at hk; cases hk
  | some (q, xs), h => exact QI.lt h

/-- Three queues and a list of one's own, apart from one another and from all that was there. -/
def TQF (w0 w : World) (a b c : Option (Nat × List It)) (hv : Value) (H : List It) (Fa : List Nat) : Prop :=
  ∃ Fb Fc, QX w a Fa ∧ QX w b Fb ∧ QX w c Fc ∧ Dj Fa Fb ∧ Dj Fa Fc ∧ Dj Fb Fc ∧ Dj Fa hv.ownBlock.toList ∧ Dj Fb hv.ownBlock.toList ∧ Dj Fc hv.ownBlock.toList ∧
    (∀ k ∈ Fa, w0.heap.size ≤ k) ∧ (∀ k ∈ Fb, w0.heap.size ≤ k) ∧ (∀ k ∈ Fc, w0.heap.size ≤ k) ∧ w.ownsRow w0.heap.size 32 2 hv H.length (flat H) ∧ Keeps (fun _ => False) w0 w
def TQ (w0 w : World) (a b c : Option (Nat × List It)) (hv : Value) (H : List It) : Prop := ∃ Fa, TQF w0 w a b c hv H Fa

section
variable {w0 w : World} {a b c : Option (Nat × List It)} {hv : Value} {H : List It}

theorem TQ.rot (h : TQ w0 w a b c hv H) : TQ w0 w b c a hv H := by
  obtain ⟨Fa, Fb, Fc, qa, qb, qc, d1, d2, d3, e1, e2, e3, n1, n2, n3, ho, hk⟩ := h
  exact ⟨Fb, Fc, Fa, qb, qc, qa, d3, d1.symm, d2.symm, e2, e3, e1, n2, n3, n1, ho, hk⟩
theorem TQ.new (h : TQ w0 w a b c hv H) {w' : World} (k : Keeps (fun _ => False) w w') : TQ w0 w' a b c hv H := by
  obtain ⟨Fa, Fb, Fc, qa, qb, qc, d1, d2, d3, e1, e2, e3, n1, n2, n3, ho, hk⟩ := h
  exact ⟨Fa, Fb, Fc, qa.keep k (fun _ _ e => e), qb.keep k (fun _ _ e => e), qc.keep k (fun _ _ e => e), d1, d2, d3, e1, e2, e3, n1, n2, n3, k.owns ho (fun _ _ e => e), hk.trans k⟩
theorem TQ.keeps (h : TQ w0 w a b c hv H) : Keeps (fun _ => False) w0 w := by
  obtain ⟨Fa, Fb, Fc, qa, qb, qc, d1, d2, d3, e1, e2, e3, n1, n2, n3, ho, hk⟩ := h
  exact hk
theorem TQ.own (h : TQ w0 w a b c hv H) : w.ownsRow w0.heap.size 32 2 hv H.length (flat H) := by
  obtain ⟨Fa, Fb, Fc, qa, qb, qc, d1, d2, d3, e1, e2, e3, n1, n2, n3, ho, hk⟩ := h
  exact ho
theorem TQ.start {w : World} (hk : Keeps (fun _ => False) w0 w) : TQ w0 w none none none (.slice none 0 0) [] :=
  ⟨[], [], [], rfl, rfl, rfl, (fun _ h => by cases h), (fun _ h => by cases h), (fun _ h => by cases h), (fun _ h => by cases h), (fun _ h => by cases h), (fun _ h => by cases h), (fun _ h => by cases h), (fun _ h => by cases h), (fun _ h => by cases h), World.ownsRow_nil _ _ _ _, hk⟩

/-- A call on the first queue. -/
theorem TQF.left {q : Nat} {xs ys : List It} {w' : World} {F F' : List Nat} (h : TQF w0 w (some (q, xs)) b c hv H F) (q' : QI w' q ys F') (l : Left w w' F F') : TQ w0 w' (some (q, ys)) b c hv H := by
  obtain ⟨Fb, Fc, qa, qb, qc, d1, d2, d3, e1, e2, e3, n1, n2, n3, ho, hk⟩ := h
  have hl := owns_lt' ho
  have hG : ∀ k ∈ hv.ownBlock.toList, k < w.heap.size := fun k hk' => hl k (by simpa using hk')
  exact ⟨F', Fb, Fc, q', qb.keep l.keeps (fun k hk' => d1.symm k hk'), qc.keep l.keeps (fun k hk' => d2.symm k hk'), l.dj d1 qb.lt, l.dj d2 qc.lt, d3, l.dj e1 hG, e2, e3,
    (fun k hk' => (l.old k hk').elim (n1 k) (fun e => by have := hk.size; omega)), n2, n3, l.keeps.owns ho (fun g hg hm => e1 g hm (by simp [hg])), hk.trans' l.keeps (fun _ _ e => e) (fun i hi e => by have := n1 i e; omega)⟩
theorem TQF.qi {q : Nat} {xs : List It} {F : List Nat} (h : TQF w0 w (some (q, xs)) b c hv H F) : QI w q xs F := by
  obtain ⟨Fb, Fc, qa, _⟩ := h
  exact qa
theorem TQF.new {F : List Nat} (h : TQF w0 w a b c hv H F) {w' : World} (k : Keeps (fun _ => False) w w') : TQ w0 w' a b c hv H := TQ.new ⟨F, h⟩ k

theorem tq_new (h : TQ w0 w none b c hv H) : Calls Try.prog 8 #[] w fun e w' => e = .returned (.pointer (some ⟨w.heap.size, 0, none⟩)) ∧ TQ w0 w' (some (w.heap.size, [])) b c hv H := by
  refine (new_any w).mono ?_
  rintro e w' ⟨rfl, hq, k⟩
  obtain ⟨Fa, Fb, Fc, qa, qb, qc, d1, d2, d3, e1, e2, e3, n1, n2, n3, ho, hk⟩ := h
  have hG : ∀ k ∈ hv.ownBlock.toList, k < w.heap.size := fun k hk' => owns_lt' ho k (by simpa using hk')
  refine ⟨rfl, [w.heap.size], Fb, Fc, hq, qb.keep k (fun _ _ e => e), qc.keep k (fun _ _ e => e), ?_, ?_, d3, ?_, e2, e3, ?_, n2, n3, k.owns ho (fun _ _ e => e), hk.trans k⟩
  · intro i hi hm; simp at hi; have := qb.lt i hm; omega
  · intro i hi hm; simp at hi; have := qc.lt i hm; omega
  · intro i hi hm; simp at hi; have := hG i hm; omega
  · intro i hi; simp at hi; rw [hi]; exact hk.size

theorem tq_add {q : Nat} {xs : List It} (h : TQ w0 w (some (q, xs)) b c hv H) (x : It) (hx : I64 x.1 ∧ I64 x.2) :
    Calls Try.prog 14 #[.pointer (some ⟨q, 0, none⟩), .agg #[.int .i64 x.1, .int .i64 x.2]] w fun e w' =>
      (x.2 ∈ ids xs ∧ e = .returned (.int .i64 21) ∧ TQ w0 w' (some (q, xs)) b c hv H) ∨ (x.2 ∉ ids xs ∧ 4096 ≤ xs.length ∧ e = .returned (.int .i64 22) ∧ TQ w0 w' (some (q, xs)) b c hv H) ∨
      (x.2 ∉ ids xs ∧ xs.length < 4096 ∧ e = .returned (.int .i64 0) ∧ ∃ ys, TQ w0 w' (some (q, ys)) b c hv H ∧ ys.Perm (xs ++ [x])) := by
  obtain ⟨F, h⟩ := h
  refine (add_any h.qi x hx).mono ?_
  rintro e w' (⟨hi, rfl, _, k⟩ | ⟨hi, hf, rfl, _, k⟩ | ⟨hi, hl, rfl, ys, F', q', hp, l⟩)
  · exact .inl ⟨hi, rfl, h.new k⟩
  · exact .inr (.inl ⟨hi, hf, rfl, h.new k⟩)
  · exact .inr (.inr ⟨hi, hl, rfl, ys, h.left q' l, hp⟩)
theorem tq_take {q : Nat} {xs : List It} (h : TQ w0 w (some (q, xs)) b c hv H) (hl : 0 < xs.length) :
    Calls Try.prog 15 #[.pointer (some ⟨q, 0, none⟩)] w fun e w' =>
      ∃ x ys, e = .returned (.tuple #[.agg #[.int .i64 x.1, .int .i64 x.2], .int .i64 0]) ∧ TQ w0 w' (some (q, ys)) b c hv H ∧ (x :: ys).Perm xs ∧ (∀ y ∈ xs, bef y x = false) := by
  obtain ⟨F, h⟩ := h
  refine (take_some h.qi hl).mono ?_
  rintro e w' ⟨x, ys, F', rfl, q', hp, hm, l⟩
  exact ⟨x, ys, rfl, h.left q' l, hp, hm⟩
theorem tq_key {q : Nat} {xs : List It} (h : TQ w0 w (some (q, xs)) b c hv H) {k : Int} (hk : I64 k) :
    Calls Try.prog 10 #[.pointer (some ⟨q, 0, none⟩), .int .i64 k] w fun e w' => w' = w ∧ ((k ∉ ids xs ∧ e = .returned (.tuple #[.int .i64 0, .int .i64 23])) ∨ ∃ x ∈ xs, x.2 = k ∧ e = .returned (.tuple #[.int .i64 x.1, .int .i64 0])) := by
  obtain ⟨F, h⟩ := h
  exact key_any h.qi hk
theorem tq_change {q : Nat} {xs : List It} (h : TQ w0 w (some (q, xs)) b c hv H) {k key : Int} (hk : I64 k) (hkey : I64 key) :
    Calls Try.prog 11 #[.pointer (some ⟨q, 0, none⟩), .int .i64 k, .int .i64 key] w fun e w' => (k ∉ ids xs ∧ e = .returned (.int .i64 23) ∧ TQ w0 w' (some (q, xs)) b c hv H) ∨
      (∃ p, p < xs.length ∧ (ia xs p).2 = k ∧ e = .returned (.int .i64 0) ∧ ∃ ys, TQ w0 w' (some (q, ys)) b c hv H ∧ ys.Perm (xs.set p (key, k))) := by
  obtain ⟨F, h⟩ := h
  refine (qchange_any h.qi hk hkey).mono ?_
  rintro e w' (⟨hi, rfl, rfl⟩ | ⟨p, hp, hpk, rfl, ys, q', hpm, l⟩)
  · exact .inl ⟨hi, rfl, F, h⟩
  · exact .inr ⟨p, hp, hpk, rfl, ys, h.left q' l, hpm⟩
theorem tq_drop {q : Nat} {xs : List It} (h : TQ w0 w (some (q, xs)) b c hv H) {k : Int} (hk : I64 k) :
    Calls Try.prog 12 #[.pointer (some ⟨q, 0, none⟩), .int .i64 k] w fun e w' => (k ∉ ids xs ∧ e = .returned (.int .i64 23) ∧ TQ w0 w' (some (q, xs)) b c hv H) ∨
      (∃ x, x ∈ xs ∧ x.2 = k ∧ e = .returned (.int .i64 0) ∧ ∃ ys, TQ w0 w' (some (q, ys)) b c hv H ∧ (x :: ys).Perm xs) := by
  obtain ⟨F, h⟩ := h
  refine (drop_any h.qi hk).mono ?_
  rintro e w' (⟨hi, rfl, rfl⟩ | ⟨x, hx, hxk, rfl, ys, q', hpm, l⟩)
  · exact .inl ⟨hi, rfl, F, h⟩
  · exact .inr ⟨x, hx, hxk, rfl, ys, h.left q' l, hpm⟩
theorem tq_len {q : Nat} {xs : List It} (h : TQ w0 w (some (q, xs)) b c hv H) : Calls Try.prog 16 #[.pointer (some ⟨q, 0, none⟩)] w fun e w' => e = .returned (.int .i64 xs.length) ∧ w' = w := by
  obtain ⟨F, h⟩ := h
  exact len_any h.qi
theorem tq_least {q : Nat} {xs : List It} (h : TQ w0 w (some (q, xs)) b c hv H) :
    Calls Try.prog 19 #[.pointer (some ⟨q, 0, none⟩)] w fun e w' => TQ w0 w' (some (q, xs)) b c hv H ∧
      ((xs = [] ∧ e = .returned (.tuple #[.agg #[.int .i64 0, .int .i64 0], .int .i64 20])) ∨
       (∃ x ∈ xs, (∀ y ∈ xs, bef y x = false) ∧ e = .returned (.tuple #[.agg #[.int .i64 x.1, .int .i64 x.2], .int .i64 0]))) := by
  obtain ⟨F, h⟩ := h
  refine (least_any h.qi).mono ?_
  rintro e w' ⟨k, r⟩
  exact ⟨h.new k, r⟩
/-- Items: the list becomes the one that is held. -/
theorem tq_items {q : Nat} {xs : List It} (h : TQ w0 w (some (q, xs)) b c hv H) :
    Calls Try.prog 17 #[.pointer (some ⟨q, 0, none⟩)] w fun e w' => ∃ v, e = .returned v ∧ TQ w0 w' (some (q, xs)) b c v (srt xs) := by
  obtain ⟨F, h⟩ := h
  refine (items_any h.qi).mono ?_
  rintro e w' ⟨v, rfl, ho, k⟩
  obtain ⟨Fb, Fc, qa, qb, qc, d1, d2, d3, e1, e2, e3, n1, n2, n3, ho', hk⟩ := h
  have hb : ∀ g ∈ v.ownBlock.toList, w.heap.size ≤ g := fun g hg => owns_base' ho g (by simpa using hg)
  refine ⟨v, rfl, F, Fb, Fc, QI.keep qa k (fun _ _ e => e), qb.keep k (fun _ _ e => e), qc.keep k (fun _ _ e => e), d1, d2, d3, ?_, ?_, ?_, n1, n2, n3, owns_mono' ho hk.size, hk.trans k⟩
  · intro i hi hm; have := hb i hm; have := QI.lt qa i hi; omega
  · intro i hi hm; have := hb i hm; have := qb.lt i hi; omega
  · intro i hi hm; have := hb i hm; have := qc.lt i hi; omega
/-- load: what it answers may become the list that is held. -/
theorem tq_load {q : Nat} (h : TQ w0 w (some (q, [])) b c hv H) {a' : Option Addr} {items : List It} (hi : IL w0 a' items) (hl : items.length * 16 ≤ 140737488355328) (hnum : ∀ x ∈ items, I64 x.1 ∧ I64 x.2) (cap : Nat) :
    Calls Try.prog 9 #[.pointer (some ⟨q, 0, none⟩), .slice a' items.length cap] w fun e w' => ∃ v, e = .returned (.tuple #[.bool true, v]) ∧ ∃ xs, xs.Perm (hold items) ∧ TQ w0 w' (some (q, xs)) b c hv H ∧ TQ w0 w' (some (q, xs)) b c v (hold items) := by
  obtain ⟨F, h⟩ := h
  have hkp := TQ.keeps ⟨F, h⟩
  have hnF : items.length = 0 ∨ ∀ b off, a' = some ⟨b, off, none⟩ → b ∉ F := by
    rcases hi with h0 | ⟨b', off', rfl, hb, _⟩
    · exact .inl h0
    · obtain ⟨Fb, Fc, qa, qb, qc, d1, d2, d3, e1, e2, e3, n1, _⟩ := h
      exact .inr (fun b off e hm => by cases e; have := n1 _ hm; omega)
  refine (load_any h.qi (hi.new hkp) hnF hl hnum cap).mono ?_
  rintro e w' ⟨v, rfl, ho, xs, F', q', hp, l, hg⟩
  have h1 := h.left q' l
  refine ⟨v, rfl, xs, hp, h1, ?_⟩
  obtain ⟨Fb, Fc, qa, qb, qc, d1, d2, d3, e1, e2, e3, n1, n2, n3, ho', hk⟩ := h
  have hb : ∀ g ∈ v.ownBlock.toList, w.heap.size ≤ g := fun g hg' => owns_base' ho g (by simpa using hg')
  refine ⟨F', Fb, Fc, q', qb.keep l.keeps (fun k hk' => d1.symm k hk'), qc.keep l.keeps (fun k hk' => d2.symm k hk'), l.dj d1 qb.lt, l.dj d2 qc.lt, d3, ?_, ?_, ?_, ?_, n2, n3, owns_mono' ho hk.size, h1.keeps⟩
  · intro i hi hm; exact hg i (by simpa using hm) hi
  · intro i hi hm; have := hb i hm; have := qb.lt i hi; omega
  · intro i hi hm; have := hb i hm; have := qc.lt i hi; omega
  · intro k hk'; exact (l.old k hk').elim (n1 k) (fun e => by have := hk.size; omega)

end
end Go.Proofs.Ytkebpelpjkgdkab
