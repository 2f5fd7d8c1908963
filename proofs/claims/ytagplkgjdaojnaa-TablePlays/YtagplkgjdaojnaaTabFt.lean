import Derived.Test.YtagplkgjdaojnaaTabS
import Derived.Test.YtagplkgjdaojnaaTabOpen
namespace Go.Proofs.Ytagplkgjdaojnaa
open Go.RowKit
attribute [local go_sem] Oper.semAt_some

def sel {α : Type} (a b c : α) : Nat → α := fun i => if i = 0 then a else if i = 1 then b else c
def put {α : Type} (f : Nat → α) (i : Nat) (x : α) : Nat → α := fun j => if j = i then x else f j
theorem put_sel0 {α : Type} (a b c x : α) : put (sel a b c) 0 x = sel x b c := by funext j; simp only [put, sel]; split <;> rfl
theorem put_sel1 {α : Type} (a b c x : α) : put (sel a b c) 1 x = sel a x c := by
  funext j; simp only [put, sel]
  by_cases h0 : j = 0
  · subst h0; rfl
  · by_cases h1 : j = 1
    · subst h1; rfl
    · simp [h0, h1]
theorem put_sel2 {α : Type} {a b c x : α} {j : Nat} (hj : j < 3) : put (sel a b c) 2 x j = sel a b x j := by
  rcases (by omega : j = 0 ∨ j = 1 ∨ j = 2) with rfl | rfl | rfl <;> rfl

/-- A table beside three lists of numbers. -/
structure Ft (w W : World) (T : Tk) (rs : List Rd) (v : Nat → Value) (l : Nat → List Value) : Prop where
  tv : TV W T rs
  r : ∀ i, i < 3 → W.ownsRow 0 3 1 (v i) (l i).length (l i)
  p : ∀ i j g, i < 3 → j < 3 → (v i).ownBlock = some g → (v j).ownBlock = some g → i = j
  q : ∀ i g, i < 3 → (v i).ownBlock = some g → ¬ T.Blk g
  lo : ∀ k, (T.Blk k ∨ ∃ i, i < 3 ∧ (v i).ownBlock = some k) → w.heap.size ≤ k
  kp : Keeps (fun _ => False) w W
section
variable {w W W' : World} {T T' : Tk} {rs rs' : List Rd} {v : Nat → Value} {l : Nat → List Value}
theorem Ft.new (h : Ft w W T rs v l) (k : Keeps (fun _ => False) W W') : Ft w W' T rs v l :=
  ⟨h.tv.new k, fun i hi => k.owns (h.r i hi) (fun _ _ e => e), h.p, h.q, h.lo, h.kp.trans k⟩
theorem Ft.call (h : Ft w W T rs v l) (ht : TV W' T' rs') (k : Lf W W' T T') : Ft w W' T' rs' v l := by
  have hlt : ∀ i g, i < 3 → (v i).ownBlock = some g → g < W.heap.size := fun i g hi e => owns_lt' (h.r i hi) g e
  refine ⟨ht, fun i hi => k.kp.owns (h.r i hi) (fun g e => h.q i g hi e), h.p, fun i g hi e e' => ?_, fun g e => ?_, h.kp.trans' k.kp (fun _ _ e => e) (fun i hi e => ?_)⟩
  · rcases k.bk g e' with x | x
    · exact h.q i g hi e x
    · have := hlt i g hi e; omega
  · rcases e with e | e
    · rcases k.bk g e with x | x
      · exact h.lo g (.inl x)
      · have := h.kp.size; omega
    · exact h.lo g (.inr e)
  · have := h.lo i (.inl e); omega
theorem Ft.grow (h : Ft w W T rs v l) {i : Nat} (hi : i < 3) {v' : Value} {l' : List Value} {o : Obj} (hg : (W.alloc o).grownBy W' (v i).ownBlock) (ho : W'.ownsRow 0 3 1 v' l'.length l') (hl : v'.ownBlock = (v i).ownBlock ∨ v'.ownBlock = some (W.alloc o).heap.size) : Ft w W' T rs (put v i v') (put l i l') := by
  have hlt : ∀ i g, i < 3 → (v i).ownBlock = some g → g < W.heap.size := fun i g hi e => owns_lt' (h.r i hi) g e
  have sA : (W.alloc o).heap.size = W.heap.size + 1 := by simp
  have hk : Keeps (fun k => (v i).ownBlock = some k) W W' := ((Keeps.refl (fun k => (v i).ownBlock = some k) W).alloc o).grown hg (fun _ _ e => e)
  have hv' : ∀ g, v'.ownBlock = some g → (v i).ownBlock = some g ∨ g = W.heap.size + 1 := fun g e => by
    rcases hl with e' | e'
    · exact .inl (e' ▸ e)
    · rw [e', sA] at e; cases e; exact .inr rfl
  have hput : ∀ j g, j < 3 → (put v i v' j).ownBlock = some g → (v j).ownBlock = some g ∨ (j = i ∧ g = W.heap.size + 1) := fun j g hj e => by
    simp only [put] at e
    split at e
    · rename_i x; subst x
      rcases hv' g e with y | y
      · exact .inl y
      · exact .inr ⟨rfl, y⟩
    · exact .inl e
  refine ⟨h.tv.keep hk (fun k e e' => h.q i k hi e' e), fun j hj => ?_, fun a b g ha hb e1 e2 => ?_, fun j g hj e e' => ?_, fun k e => ?_, h.kp.trans' hk (fun _ _ e => e) (fun k hk e => ?_)⟩
  · simp only [put]
    split
    · exact ho
    · rename_i x
      exact hk.owns (h.r j hj) (fun g e e' => x (h.p j i g hj hi e e'))
  · rcases hput a g ha e1 with x | ⟨x, y⟩ <;> rcases hput b g hb e2 with z | ⟨z, t⟩
    · exact h.p a b g ha hb x z
    · have := hlt a g ha x; omega
    · have := hlt b g hb z; omega
    · omega
  · rcases hput j g hj e with x | ⟨x, y⟩
    · exact h.q j g hj x e'
    · have := h.tv.lt e'; omega
  · rcases e with e | ⟨j, hj, e⟩
    · exact h.lo k (.inl e)
    · rcases hput j k hj e with x | ⟨x, y⟩
      · exact h.lo k (.inr ⟨j, hj, x⟩)
      · have := h.kp.size; omega
  · have := h.lo k (.inr ⟨i, hi, e⟩); omega
theorem Ft.set (h : Ft w W T rs v l) {i : Nat} (hi : i < 3) {g n cap : Nat} (hv : v i = .slice (some ⟨g, 0, none⟩) n cap) (hn : (l i).length = n) (j : Nat) (u : Value) : Ft w (W.setCell ⟨g, j, none⟩ u) T rs v (put l i ((l i).set j u)) := by
  have ho := h.r i hi
  rw [hv, hn] at ho
  have st := ho.stored j u
  have eb : (v i).ownBlock = some g := by rw [hv]; rfl
  have hk : Keeps (fun k => k = g) W (W.setCell ⟨g, j, none⟩ u) := keeps_set W g j u
  refine ⟨h.tv.keep hk (fun k e e' => h.q i k hi (by rw [eb, e']) e), fun a ha => ?_, h.p, h.q, h.lo, h.kp.trans' hk (fun _ _ e => e) (fun k hk e => ?_)⟩
  · simp only [put]
    split
    · rename_i x; subst x
      rw [List.length_set, hn, hv]
      exact st.1
    · rename_i x
      exact hk.owns (h.r a ha) (fun g' e e' => x (h.p a i g' ha hi e (by rw [eb, e'])))
  · have := h.lo k (.inr ⟨i, hi, by rw [eb, e]⟩); omega
end

theorem infoI : (Try.prog.info? 3).map (fun i => (i.zero, i.size, i.bytes)) = some (some (.int .i64 0), 1, 8) := by kernel_rfl
theorem underInts : Try.prog.underlying 32 = some (.slice 3) := by kernel_rfl
/-- A number behind a list. -/
theorem Ft.app {w W : World} {T : Tk} {rs : List Rd} {v : Nat → Value} {l : Nat → List Value} (h : Ft w W T rs v l) {i : Nat} (hi : i < 3) (hn : (l i).length ≤ 4398046511200) (x : Int) :
    ∃ a c W', (Builtin.append_ #[32, 32] 32 #[v i, .slice (some ⟨W.heap.size, 0, none⟩) 1 1]).run Try.prog (W.alloc (.cells #[.int .i64 x] 3)) = .ok (.slice a ((l i).length + 1) c) W' ∧ Ft w W' T rs (put v i (.slice a ((l i).length + 1) c)) (put l i (l i ++ [.int .i64 x])) ∧ Keeps (fun k => (v i).ownBlock = some k) W W' := by
  obtain ⟨i0, hi0, hz0, hz1, hz2⟩ := info_parts infoI
  obtain ⟨v', W', hr, ho, hg, _, hl⟩ := run_append_own_at (P := Try.prog) (w := W.alloc (.cells #[.int .i64 x] 3)) 0 32 32 3 i0 _ 1 8 underInts hi0 hz0 hz1 hz2 rfl (by decide) (v i) (l i).length (l i) ((h.r i hi).alloc _) ⟨W.heap.size, 0, none⟩ 1 1 [.int .i64 x] rfl (fun j u hu => by
    have hj : j < 1 := (List.getElem?_eq_some_iff.1 hu).1
    obtain rfl : j = 0 := by omega
    simp at hu
    subst hu
    simp [Addr.add]) (fun u hu => by simp at hu; subst hu; rfl) (by unfold maxLen; omega) (by omega) (Nat.zero_le _)
  obtain ⟨a, c, rfl, -⟩ := owns_form ho
  refine ⟨a, c, W', hr, h.grow hi hg (by simpa using ho) hl, ((Keeps.refl (fun k => (v i).ownBlock = some k) W).alloc _).grown hg (fun _ _ e => e)⟩

theorem Ft.app' {w W : World} {T : Tk} {rs : List Rd} {v : Nat → Value} {l : Nat → List Value} (h : Ft w W T rs v l) {i n : Nat} (hi : i < 3) {vi : Value} (hv : v i = vi) (hl : (l i).length = n) (hn : n ≤ 4398046511200) (x : Int) :
    ∃ a c W', (Builtin.append_ #[32, 32] 32 #[vi, .slice (some ⟨W.heap.size, 0, none⟩) 1 1]).run Try.prog (W.alloc (.cells #[.int .i64 x] 3)) = .ok (.slice a (n + 1) c) W' ∧ Ft w W' T rs (put v i (.slice a (n + 1) c)) (put l i (l i ++ [.int .i64 x])) ∧ Keeps (fun k => vi.ownBlock = some k) W W' := by
  subst hv hl
  exact h.app hi hn x
theorem Ft.congr {w W : World} {T : Tk} {rs : List Rd} {v v' : Nat → Value} {l l' : Nat → List Value} (h : Ft w W T rs v l) (hv : ∀ i, i < 3 → v i = v' i) (hl : ∀ i, i < 3 → l i = l' i) : Ft w W T rs v' l' :=
  ⟨h.tv, fun i hi => by rw [← hv i hi, ← hl i hi]; exact h.r i hi, fun i j g hi hj e1 e2 => h.p i j g hi hj (by rw [hv i hi]; exact e1) (by rw [hv j hj]; exact e2), fun i g hi e => h.q i g hi (by rw [hv i hi]; exact e), fun k e => h.lo k (e.imp id (fun ⟨i, hi, e⟩ => ⟨i, hi, by rw [hv i hi]; exact e⟩)), h.kp⟩
theorem Ft.keep {w W W' : World} {T : Tk} {rs : List Rd} {v : Nat → Value} {l : Nat → List Value} (h : Ft w W T rs v l) {S : Nat → Prop} (k : Keeps S W W') (hS : ∀ i, (T.Blk i ∨ ∃ a, a < 3 ∧ (v a).ownBlock = some i) → ¬ S i) (hw : ∀ i, i < w.heap.size → ¬ S i) : Ft w W' T rs v l :=
  ⟨h.tv.keep k (fun i e => hS i (.inl e)), fun i hi => k.owns (h.r i hi) (fun g e => hS g (.inr ⟨i, hi, e⟩)), h.p, h.q, h.lo, h.kp.trans' k (fun _ _ e => e) (fun i hi e => hw i hi e)⟩
theorem Ft.lt {w W : World} {T : Tk} {rs : List Rd} {v : Nat → Value} {l : Nat → List Value} (h : Ft w W T rs v l) {k : Nat} (hk : T.Blk k ∨ ∃ a, a < 3 ∧ (v a).ownBlock = some k) : k < W.heap.size := by
  rcases hk with e | ⟨i, hi, e⟩
  · exact h.tv.lt e
  · exact owns_lt' (h.r i hi) k e

/-- The last read of the object that is held, among the first j. -/
def lh (rs : List Rd) (k : Int) : Nat → Int
  | 0 => -1
  | j + 1 => if (rs.getD j ⟨0, 0, 0⟩).ob = k ∧ (rs.getD j ⟨0, 0, 0⟩).fate = 1 then (j : Int) else lh rs k j
theorem lh_none {rs : List Rd} {k : Int} (h : ¬ hld rs k) : ∀ j, j ≤ rs.length → lh rs k j = -1
  | 0, _ => rfl
  | j + 1, hj => by
    have hg : rs[j]? = some (rs.getD j ⟨0, 0, 0⟩) := by simp [List.getD_eq_getElem?_getD, show j < rs.length by omega]
    simp only [lh]
    rw [if_neg (fun e => h ⟨j, _, hg, e.2, e.1⟩)]
    exact lh_none h j (by omega)
theorem lh_some {rs : List Rd} (hG : Gd rs) {j : Nat} {r : Rd} (hj : rs[j]? = some r) (h1 : r.fate = 1) : ∀ n, n ≤ rs.length → lh rs r.ob n = if j < n then (j : Int) else -1
  | 0, _ => by simp [lh]
  | n + 1, hn => by
    have hg : rs[n]? = some (rs.getD n ⟨0, 0, 0⟩) := by simp [List.getD_eq_getElem?_getD, show n < rs.length by omega]
    simp only [lh]
    by_cases c : (rs.getD n ⟨0, 0, 0⟩).ob = r.ob ∧ (rs.getD n ⟨0, 0, 0⟩).fate = 1
    · have := hG.one n j _ _ hg hj c.2 h1 c.1
      rw [if_pos c, if_pos (by omega), this]
    · rw [if_neg c, lh_some hG hj h1 n (by omega)]
      by_cases e : j = n
      · subst e
        rw [hj] at hg
        have := Option.some.inj hg
        rw [← this] at c
        exact absurd ⟨rfl, h1⟩ c
      · by_cases d : j < n
        · rw [if_pos d, if_pos (by omega)]
        · rw [if_neg d, if_neg (by omega)]
def obs (rs : List Rd) : List Value := rs.map fun r => .int .i64 r.ob
def vers (rs : List Rd) : List Value := rs.map fun r => .int .i64 r.ver

theorem neq_ev (e : En) (w : World) : (binOp .neq 36 (ev e) (ev e)).run Try.prog w = .ok (.bool false) w := by
  unfold ev
  go_simp
end Go.Proofs.Ytagplkgjdaojnaa
