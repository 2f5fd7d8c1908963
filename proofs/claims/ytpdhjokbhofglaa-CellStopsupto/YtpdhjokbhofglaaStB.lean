import Derived.Test.YtpdhjokbhofglaaStA
namespace Go.Proofs.Ytpdhjokbhofglaa
open Go.RowKit Go.Shelf

theorem cells_of {A : World} {g : Nat} {o : Obj} {p : Addr} {v : Value} (hc : A.cell? p = some v) (hp : p.block = g) (ho : A.heap[g]? = some o) : o.isCells = true := by
  subst hp
  unfold World.cell? at hc
  rw [ho] at hc
  cases o <;> first | rfl | (simp at hc)
theorem MP.kept {w0 A B : World} {R : Nat → Prop} {mb : Nat} {s : Mm} {row : Option Nat} (h : MP w0 R A mb s) (hg : A.grownBy B row) (hr : ∀ r, row = some r → w0.heap.size ≤ r ∧ ∃ o : Obj, A.heap[r]? = some o ∧ o.isCells = false) : MP w0 R B mb s := by
  obtain ⟨F, ⟨vc, vl, h, rfl⟩, hF, hk, hR⟩ := h
  have k : Keeps (fun i => row = some i) A B := (Keeps.refl _ A).grown hg (fun i _ e => e)
  have own : ∀ {e z n : Nat} {v : Value} {xs : List Value}, A.ownsRow 0 e z v n xs → ∀ g, v.ownBlock = some g → ¬ row = some g := fun {e z n v xs} ho g hg' er => by
    obtain ⟨_, o, h1, h2⟩ := hr g er
    rcases ho.2 with ⟨h', _⟩ | ⟨g', c, cur, h', _, hgg, _⟩
    · rw [h'] at hg'; cases hg'
    · rw [h'] at hg'
      cases hg'
      rw [h1] at hgg
      cases hgg
      cases h2
  have hm : ¬ row = some mb := fun er => by
    obtain ⟨_, o, h1, h2⟩ := hr mb er
    have := cells_of h.f0 rfl h1
    rw [h2] at this
    cases this
  exact ⟨_, ⟨vc, vl, h.keep k hm (own h.rc) (own h.rl), rfl⟩, hF, hk.trans' k (fun _ _ e => e) (fun i hi e => by have := (hr i e).1; omega), fun g hg' => Nat.lt_of_lt_of_le (hR g hg') k.size⟩
/-- The log in memory. -/
theorem MP.log {w0 W : World} {R : Nat → Prop} {mb : Nat} {s : Mm} (h : MP w0 R W mb s) : ∃ a cap, W.cell? ⟨mb, 1, none⟩ = some (.slice a s.log.length cap) ∧ RowsAt W a s.log ∧ ∀ g, a = some ⟨g, 0, none⟩ → g < W.heap.size ∧ ¬ R g := by
  obtain ⟨F, ⟨vc, vl, h, rfl⟩, hF, hk, hR⟩ := h
  obtain ⟨a, cap, rfl, hr, hg⟩ := own_at h.rl rfl
  exact ⟨a, cap, h.f1, hr, fun g e => ⟨owns_lt' h.rl g (hg g e).1, (hF g (by simp [(hg g e).1])).2⟩⟩

theorem own_lo' {W : World} {base e z n : Nat} {v : Value} {xs : List Value} (h : W.ownsRow base e z v n xs) {g : Nat} (hg : v.ownBlock = some g) : base ≤ g := by
  rcases h.2 with ⟨h', _⟩ | ⟨g', c, cur, h', hb, _⟩
  · rw [h'] at hg; cases hg
  · rw [h'] at hg; cases hg; exact hb
/-- What stands while the tail is gone through. -/
structure SX (W0 : World) (bm mb c4 c5 : Nat) (al : Option Addr) (cl : Nat) (L : List Rw) (st : Nat) (fm : Int) (R : Nat → Prop) (W : World) (sp : Mm) (p : Nat) : Prop where
  mp : MP W0 R W mb sp
  b9 : Boxed W bm 23 (.pointer (some ⟨mb, 0, none⟩))
  bL : Boxed W c4 32 (.slice al L.length cl)
  bS : Boxed W (c4 + 1) 3 (.int .i64 (st : Int))
  bN : Boxed W (c4 + 1 + 1) 3 (.int .i64 ((L.length - st : Nat) : Int))
  b1 : Boxed W (c4 + 1 + 1 + 1) 23 (.pointer (some ⟨mb, 0, none⟩))
  b2 : Boxed W (c4 + 1 + 1 + 1 + 1) 3 (.int .i64 fm)
  bF : Boxed W c5 35 (.func (.func 18) #[] #[.pointer (some ⟨c4 + 1 + 1 + 1, 0, none⟩), .pointer (some ⟨c4 + 1 + 1 + 1 + 1, 0, none⟩)])
  bP : Boxed W (c5 + 1) 3 (.int .i64 (p : Int))
  rl : W.ownsRow 0 39 7 (.slice al L.length cl) L.length (fl rcells L)
  ir : ∀ g, (g = bm ∨ g = c4 ∨ g = c4 + 1 ∨ g = c4 + 1 + 1 ∨ g = c4 + 1 + 1 + 1 ∨ g = c4 + 1 + 1 + 1 + 1 ∨ g = c5 ∨ g = c5 + 1 ∨ (Value.slice al L.length cl).ownBlock = some g) → R g
section
variable {W0 : World} {bm mb c4 c5 : Nat} {al : Option Addr} {cl : Nat} {L : List Rw} {st : Nat} {fm : Int} {R R' : Nat → Prop} {W W' : World} {sp sp' : Mm} {p : Nat}
/-- A change that leaves all of it alone. -/
theorem SX.keep {S : Nat → Prop} (h : SX W0 bm mb c4 c5 al cl L st fm R W sp p) (k : Keeps S W W') (hS : ∀ g, (g = bm ∨ g = c4 ∨ g = c4 + 1 ∨ g = c4 + 1 + 1 ∨ g = c4 + 1 + 1 + 1 ∨ g = c4 + 1 + 1 + 1 + 1 ∨ g = c5 ∨ g = c5 + 1 ∨ (Value.slice al L.length cl).ownBlock = some g) → ¬ S g) (hm : MP W0 R' W' mb sp') (hR : ∀ g, R g → R' g) : SX W0 bm mb c4 c5 al cl L st fm R' W' sp' p :=
  ⟨hm, bx_keeps h.b9 k (hS _ (by simp)), bx_keeps h.bL k (hS _ (by simp)), bx_keeps h.bS k (hS _ (by simp)), bx_keeps h.bN k (hS _ (by simp)), bx_keeps h.b1 k (hS _ (by simp)), bx_keeps h.b2 k (hS _ (by simp)), bx_keeps h.bF k (hS _ (by simp)), bx_keeps h.bP k (hS _ (by simp)), k.owns h.rl (fun g e => hS g (by simp [e])), fun g hg => hR g (h.ir g hg)⟩
theorem SX.mem (h : SX W0 bm mb c4 c5 al cl L st fm R W sp p) (hm : MP W0 R W' mb sp') (k : KP W0 R W W') : SX W0 bm mb c4 c5 al cl L st fm R W' sp' p :=
  h.keep k (fun g hg e => e.2 (h.ir g hg)) hm (fun _ e => e)
theorem SX.new (h : SX W0 bm mb c4 c5 al cl L st fm R W sp p) (k : Keeps (fun _ => False) W W') : SX W0 bm mb c4 c5 al cl L st fm R W' sp p := h.mem (h.mp.new k) (KP.new k)
/-- New blocks are looked after, too. -/
theorem SX.more (h : SX W0 bm mb c4 c5 al cl L st fm R W sp p) (T : Nat → Prop) (k : Keeps (fun _ => False) W W') (hT : ∀ g, T g → W.heap.size ≤ g ∧ g < W'.heap.size) : SX W0 bm mb c4 c5 al cl L st fm (fun g => R g ∨ T g) W' sp p :=
  h.keep k (fun _ _ e => e) (h.mp.own (k.mono (fun _ _ e => e.elim)) (fun g hg => by
    rcases hg with e | e
    · exact ⟨.inl e, Nat.lt_of_lt_of_le (h.mp.lt e) k.size⟩
    · exact ⟨.inr (hT g e).1, (hT g e).2⟩)) (fun _ e => .inl e)
theorem SX.kept {row : Option Nat} (h : SX W0 bm mb c4 c5 al cl L st fm R W sp p) (hg : W.grownBy W' row) (hr : ∀ r, row = some r → W0.heap.size ≤ r ∧ ∃ o : Obj, W.heap[r]? = some o ∧ o.isCells = false) : SX W0 bm mb c4 c5 al cl L st fm R W' sp p := by
  have bx : ∀ {B : Nat} {t : TypeId} {v : Value}, Boxed W B t v → ¬ row = some B := fun {B t v} hb e => by
    obtain ⟨_, o, h1, h2⟩ := hr B e
    rw [show W.heap[B]? = _ from hb] at h1
    cases h1
    cases h2
  refine h.keep (S := fun i => row = some i) ((Keeps.refl _ W).grown hg (fun _ _ e => e)) (fun g hg' => ?_) (h.mp.kept hg hr) (fun _ e => e)
  rcases hg' with rfl | rfl | rfl | rfl | rfl | rfl | rfl | rfl | e
  · exact bx h.b9
  · exact bx h.bL
  · exact bx h.bS
  · exact bx h.bN
  · exact bx h.b1
  · exact bx h.b2
  · exact bx h.bF
  · exact bx h.bP
  · intro er
    obtain ⟨_, o, h1, h2⟩ := hr g er
    rcases h.rl.2 with ⟨h', _⟩ | ⟨g', c, cur, h', _, hgg, _⟩
    · rw [h'] at e; cases e
    · rw [h'] at e
      cases e
      rw [h1] at hgg
      cases hgg
      cases h2
/-- More is put behind the log. -/
theorem SX.put (h : SX W0 bm mb c4 c5 al cl L st fm R W sp p) (hb : W0.heap.size ≤ c5 + 1) (hd : c5 + 1 ≠ bm ∧ (c5 + 1 ≠ c4 ∧ c5 + 1 ≠ c4 + 1 ∧ c5 + 1 ≠ c4 + 1 + 1 ∧ c5 + 1 ≠ c4 + 1 + 1 + 1 ∧ c5 + 1 ≠ c4 + 1 + 1 + 1 + 1) ∧ ¬ (Value.slice al L.length cl).ownBlock = some (c5 + 1)) (q : Nat) : SX W0 bm mb c4 c5 al cl L st fm R (W.setCell ⟨c5 + 1, 0, none⟩ (.int .i64 (q : Int))) sp q := by
  have k : Keeps (fun g => g = c5 + 1) W (W.setCell ⟨c5 + 1, 0, none⟩ (.int .i64 (q : Int))) := (Keeps.refl (fun g => g = c5 + 1) W).setCell (p := ⟨c5 + 1, 0, none⟩) (fun _ => rfl) _
  obtain ⟨d1, ⟨d2, d3, d4, d5, d6⟩, d7⟩ := hd
  exact ⟨h.mp.own (k.mono (fun g _ e => ⟨by omega, h.ir g (by subst e; simp)⟩)) (fun g hg => ⟨.inl hg, Nat.lt_of_lt_of_le (h.mp.lt hg) k.size⟩), bx_keeps h.b9 k (by omega), bx_keeps h.bL k (by omega), bx_keeps h.bS k (by omega), bx_keeps h.bN k (by omega), bx_keeps h.b1 k (by omega), bx_keeps h.b2 k (by omega), bx_keeps h.bF k (by omega), h.bP.set _, k.owns h.rl (fun g e e' => d7 (e' ▸ e)), h.ir⟩
/-- Another block that is looked after is written. -/
theorem SX.wr (h : SX W0 bm mb c4 c5 al cl L st fm R W sp p) {B : Nat} (hB : W0.heap.size ≤ B) (hR : R B) (hd : ∀ g, (g = bm ∨ g = c4 ∨ g = c4 + 1 ∨ g = c4 + 1 + 1 ∨ g = c4 + 1 + 1 + 1 ∨ g = c4 + 1 + 1 + 1 + 1 ∨ g = c5 ∨ g = c5 + 1 ∨ (Value.slice al L.length cl).ownBlock = some g) → g ≠ B) (v : Value) : SX W0 bm mb c4 c5 al cl L st fm R (W.setCell ⟨B, 0, none⟩ v) sp p := by
  have k : Keeps (fun g => g = B) W (W.setCell ⟨B, 0, none⟩ v) := (Keeps.refl (fun g => g = B) W).setCell (p := ⟨B, 0, none⟩) (fun _ => rfl) _
  exact h.keep k hd (h.mp.own (k.mono (fun g _ e => by subst e; exact ⟨hB, hR⟩)) (fun g hg => ⟨.inl hg, Nat.lt_of_lt_of_le (h.mp.lt hg) k.size⟩)) (fun _ e => e)
/-- At the beginning. -/
theorem SX.start {wr w4 w5 w6 : World} {s : Mm} (hM : MP W0 (fun g => g = bm) wr mb s) (hB : Boxed wr bm 23 (.pointer (some ⟨mb, 0, none⟩))) (k4 : Keeps (fun _ => False) wr w4) (ol : w4.ownsRow wr.heap.size 39 7 (.slice al L.length cl) L.length (fl rcells L))
    (h5 : w5 = ((((w4.alloc (.cells #[.slice al L.length cl] 32)).alloc (.cells #[.int .i64 (st : Int)] 3)).alloc (.cells #[.int .i64 ((L.length - st : Nat) : Int)] 3)).alloc (.cells #[.pointer (some ⟨mb, 0, none⟩)] 23)).alloc (.cells #[.int .i64 fm] 3))
    (h6 : w6 = (w5.alloc (.cells #[.func (.func 18) #[] #[.pointer (some ⟨w4.heap.size + 1 + 1 + 1, 0, none⟩), .pointer (some ⟨w4.heap.size + 1 + 1 + 1 + 1, 0, none⟩)]] 35)).alloc (.cells #[.int .i64 0] 3)) :
    SX W0 bm mb w4.heap.size w5.heap.size al cl L st fm (fun g => g = bm ∨ (wr.heap.size ≤ g ∧ g < w6.heap.size)) w6 s 0 := by
  have z5 : w5.heap.size = w4.heap.size + 5 := by rw [h5]; simp
  have z6 : w6.heap.size = w5.heap.size + 2 := by rw [h6]; simp
  have k45 : Keeps (fun _ => False) w4 w5 := by rw [h5]; exact (((((Keeps.refl _ w4).alloc _).alloc _).alloc _).alloc _).alloc _
  have k56 : Keeps (fun _ => False) w5 w6 := by rw [h6]; exact ((Keeps.refl _ w5).alloc _).alloc _
  have s4 := k4.size
  have K : Keeps (fun _ => False) wr w6 := (k4.trans k45).trans k56
  have no : ∀ {a b : World} {B : Nat} {t : TypeId} {v : Value}, Boxed a B t v → Keeps (fun _ => False) a b → Boxed b B t v := fun h k => bx_keeps h k (fun e => e)
  have a1 : ∀ (w : World) (o : Obj), Keeps (fun _ => False) w (w.alloc o) := fun w o => (Keeps.refl _ w).alloc o
  have q : ∀ (w : World) (t : TypeId) (v : Value) (n : Nat), w.heap.size = n → Boxed (w.alloc (.cells #[v] t)) n t v := fun w t v n e => e ▸ Boxed.new w t v
  refine ⟨hM.own (K.mono (fun _ _ e => e.elim)) (fun g hg => ?_), no hB K, no ?_ k56, no ?_ k56, no ?_ k56, no ?_ k56, no ?_ k56, ?_, ?_, (k45.trans k56).owns ⟨ol.1, ol.2.imp id (fun ⟨g, c, cur, e, h⟩ => ⟨g, c, cur, e, Nat.zero_le _, h.2⟩)⟩ (fun _ _ e => e), fun g hg => ?_⟩
  · rcases hg with e | e
    · exact ⟨.inl e, Nat.lt_of_lt_of_le (hM.lt e) K.size⟩
    · exact ⟨.inr e.1, e.2⟩
  · rw [h5]; exact no (q _ _ _ _ rfl) ((((a1 _ _).alloc _).alloc _).alloc _)
  · rw [h5]; exact no (q _ _ _ _ (by simp)) (((a1 _ _).alloc _).alloc _)
  · rw [h5]; exact no (q _ _ _ _ (by simp)) ((a1 _ _).alloc _)
  · rw [h5]; exact no (q _ _ _ _ (by simp)) (a1 _ _)
  · rw [h5]; exact q _ _ _ _ (by simp)
  · rw [h6]; exact no (q _ _ _ _ rfl) (a1 _ _)
  · rw [h6]; exact q _ _ _ _ (by simp)
  · rcases hg with e | e | e | e | e | e | e | e | e
    · exact .inl e
    all_goals first
      | exact .inr (by omega)
      | (have l1 := own_lo' ol e; have l2 := owns_lt' ol g e; exact .inr (by omega))
end
end Go.Proofs.Ytpdhjokbhofglaa
