import Derived.Test.YtmnmphkkcabkiaaG04
import Derived.Great.BuildSlice
namespace Go.Proofs.Ytmnmphkkcabkiaa
open Go.RowKit
attribute [local go_sem] Oper.semAt_some run_store_nf run_store_f
structure AD (base : Nat) (w X : World) (B : Nat) (r : Rw) (t : Tv) (sv wv sv1 wv1 : Value) (m : Nat) : Prop where
  ct : CL X B (t.cells sv1 wv1)
  cr : CL X (B + 1) r.cells
  cz : CL X (B + 2) (tv0.cells nilv nilv)
  os : X.ownsRow base 44 9 sv1 t.saws.length (scl t.saws)
  ow : X.ownsRow base 46 4 wv1 t.wrs.length (wcl t.wrs)
  k : Keeps (fun b => sv.ownBlock = some b) w X
  bs : ∀ b, sv1.ownBlock = some b → sv.ownBlock = some b ∨ B + 2 < b
  bw : ∀ b, wv1.ownBlock = some b → wv.ownBlock = some b ∨ B + 2 < b
  ne : ∀ b, sv1.ownBlock = some b → wv1.ownBlock ≠ some b
  ls : t.saws.length ≤ m
  lw : t.wrs.length ≤ m
  sz : B + 2 < X.heap.size
  eb : w.heap.size = B
  lb : ∀ b, (sv.ownBlock = some b ∨ wv.ownBlock = some b) → b < B
  bb : base ≤ B
theorem AD.put {base B m : Nat} {w X : World} {r : Rw} {t t' : Tv} {sv wv sv1 wv1 : Value} (h : AD base w X B r t sv wv sv1 wv1 m) (o : Nat) (v : Value) (ho : o < 11) (e : (t.cells sv1 wv1).set o v = t'.cells sv1 wv1) (es : t'.saws = t.saws) (ew : t'.wrs = t.wrs) : AD base w (X.setCell ⟨B, o, none⟩ v) B r t' sv wv sv1 wv1 m := by
  have kk : Keeps (fun b => b = B) X (X.setCell ⟨B, o, none⟩ v) := (Keeps.refl (fun b => b = B) X).setCell (p := ⟨B, o, none⟩) (fun _ => rfl) _
  have hs1 : ∀ b, sv1.ownBlock = some b → ¬ b = B := fun b e e' => by
    rcases h.bs b e with h1 | h1
    · have := h.lb b (.inl h1); omega
    · omega
  have hw1 : ∀ b, wv1.ownBlock = some b → ¬ b = B := fun b e e' => by
    rcases h.bw b e with h1 | h1
    · have := h.lb b (.inr h1); omega
    · omega
  refine ⟨?_, h.cr.other (p := ⟨B, o, none⟩) (by show B ≠ B + 1; omega) _, h.cz.other (p := ⟨B, o, none⟩) (by show B ≠ B + 2; omega) _, ?_, ?_, ?_, h.bs, h.bw, h.ne, ?_, ?_, by simpa using h.sz, h.eb, h.lb, h.bb⟩
  · rw [← e]
    exact h.ct.set (by show o < 11; exact ho) _
  · rw [es]; exact kk.owns h.os (fun b e => hs1 b e)
  · rw [ew]; exact kk.owns h.ow (fun b e => hw1 b e)
  · exact h.k.setCell (p := ⟨B, o, none⟩) (fun hlt => absurd hlt (by show ¬ B < _; rw [h.eb]; omega)) _
  · rw [es]; exact h.ls
  · rw [ew]; exact h.lw
def addT5 (f : Func) : Code := match f.body with | some (.seq _ (.seq _ (.seq _ (.seq _ (.seq _ t))))) => t | _ => .skip
def addT4 (f : Func) : Code := match f.body with | some (.seq _ (.seq _ (.seq _ (.seq _ t)))) => t | _ => .skip
def addT3 (f : Func) : Code := match f.body with | some (.seq _ (.seq _ (.seq _ t))) => t | _ => .skip
def addT2 (f : Func) : Code := match f.body with | some (.seq _ (.seq _ t)) => t | _ => .skip
def addT1 (f : Func) : Code := match f.body with | some (.seq _ t) => t | _ => .skip
theorem AD.keep {base B m : Nat} {w X X' : World} {r : Rw} {t : Tv} {sv wv sv1 wv1 : Value} (h : AD base w X B r t sv wv sv1 wv1 m) (kk : Keeps (fun _ => False) X X') : AD base w X' B r t sv wv sv1 wv1 m :=
  ⟨h.ct.keep (by show 0 < 11; decide) kk (fun e => e), h.cr.keep (by show 0 < 26; decide) kk (fun e => e), h.cz.keep (by show 0 < 11; decide) kk (fun e => e), kk.owns h.os (fun _ _ e => e), kk.owns h.ow (fun _ _ e => e), h.k.trans' kk (fun _ _ e => e) (fun _ _ e => e.elim), h.bs, h.bw, h.ne, h.ls, h.lw, Nat.lt_of_lt_of_le h.sz kk.size, h.eb, h.lb, h.bb⟩
structure AF (base : Nat) (w X : World) (t : Tv) (sv wv sv1 wv1 : Value) : Prop where
  os : X.ownsRow base 44 9 sv1 t.saws.length (scl t.saws)
  ow : X.ownsRow base 46 4 wv1 t.wrs.length (wcl t.wrs)
  k : Keeps (fun b => sv.ownBlock = some b) w X
  bs : ∀ b, sv1.ownBlock = some b → sv.ownBlock = some b ∨ w.heap.size ≤ b
  bw : ∀ b, wv1.ownBlock = some b → wv.ownBlock = some b ∨ w.heap.size ≤ b
  ne : ∀ b, sv1.ownBlock = some b → wv1.ownBlock ≠ some b
theorem AD.fin {base B m : Nat} {w X X' : World} {r : Rw} {t : Tv} {sv wv sv1 wv1 : Value} (h : AD base w X B r t sv wv sv1 wv1 m) (kk : Keeps (fun b => b = B + 2) X X') : AF base w X' t sv wv sv1 wv1 := by
  refine ⟨kk.owns h.os (fun b e e' => ?_), kk.owns h.ow (fun b e e' => ?_), h.k.trans' kk (fun _ _ e => e) (fun b hb e => ?_), fun b e => (h.bs b e).imp id (fun e => by rw [h.eb]; omega), fun b e => (h.bw b e).imp id (fun e => by rw [h.eb]; omega), h.ne⟩
  · have e' : b = B + 2 := e'
    rcases h.bs b e with h1 | h1
    · have := h.lb b (.inl h1); omega
    · omega
  · have e' : b = B + 2 := e'
    rcases h.bw b e with h1 | h1
    · have := h.lb b (.inr h1); omega
    · omega
  · have e : b = B + 2 := e
    rw [h.eb] at hb
    omega
theorem AD.putS {base B m : Nat} {w X X' : World} {r : Rw} {t : Tv} {sv wv sv1 wv1 v : Value} {l : List Sw} (h : AD base w X B r t sv wv sv1 wv1 m) (kx : Keeps (fun b => sv1.ownBlock = some b) X X') (ho : X'.ownsRow base 44 9 v l.length (scl l)) (hb : ∀ b, v.ownBlock = some b → sv1.ownBlock = some b ∨ X.heap.size ≤ b) (hl : l.length ≤ m + 1) : AD base w (X'.setCell ⟨B, 9, none⟩ v) B r { t with saws := l } sv wv v wv1 (m + 1) := by
  have kk : Keeps (fun b => b = B) X' (X'.setCell ⟨B, 9, none⟩ v) := (Keeps.refl (fun b => b = B) X').setCell (p := ⟨B, 9, none⟩) (fun _ => rfl) _
  have hs1 : ∀ b, sv1.ownBlock = some b → ¬ b = B ∧ ¬ b = B + 1 ∧ ¬ b = B + 2 := fun b e => by
    rcases h.bs b e with h1 | h1
    · have := h.lb b (.inl h1); omega
    · omega
  have hw1 : ∀ b, wv1.ownBlock = some b → ¬ b = B := fun b e e' => by
    rcases h.bw b e with h1 | h1
    · have := h.lb b (.inr h1); omega
    · omega
  have hz := h.sz
  have hv : ∀ b, v.ownBlock = some b → ¬ b = B := fun b e e' => by
    rcases hb b e with h1 | h1
    · exact (hs1 b h1).1 e'
    · omega
  refine ⟨?_, (h.cr.keep (by show 0 < 26; decide) kx (fun e => (hs1 _ e).2.1 rfl)).other (p := ⟨B, 9, none⟩) (by show B ≠ B + 1; omega) _, (h.cz.keep (by show 0 < 11; decide) kx (fun e => (hs1 _ e).2.2 rfl)).other (p := ⟨B, 9, none⟩) (by show B ≠ B + 2; omega) _, kk.owns ho (fun b e => hv b e), kk.owns (kx.owns h.ow (fun b e e' => h.ne b e' e)) (fun b e => hw1 b e), ?_, ?_, h.bw, ?_, hl, Nat.le_trans h.lw (by omega), ?_, h.eb, h.lb, h.bb⟩
  · exact (h.ct.keep (by show 0 < 11; decide) kx (fun e => (hs1 _ e).1 rfl)).set (o := 9) (by show 9 < 11; decide) _
  · refine Keeps.setCell ?_ (p := ⟨B, 9, none⟩) (fun hlt => absurd hlt (by show ¬ B < _; rw [h.eb]; omega)) _
    refine h.k.trans' kx (fun _ _ e => e) (fun b hlt e => ?_)
    rcases h.bs b e with h1 | h1
    · exact h1
    · rw [h.eb] at hlt; omega
  · intro b e
    rcases hb b e with h1 | h1
    · exact h.bs b h1
    · exact .inr (by omega)
  · intro b e e'
    rcases hb b e with h1 | h1
    · exact h.ne b h1 e'
    · have := owns_lt' h.ow b e'; omega
  · have := kx.size
    simp
    omega
theorem putD_len (l : List Wo) (x : Wo) : (putD l x).length ≤ l.length + 1 := by
  have h := putK_len l x l.length
  unfold putD
  split
  · rename_i hb
    rw [if_pos hb] at h
    omega
  · rename_i hb
    rw [if_neg hb] at h
    rw [List.length_append]
    simp
    omega
theorem uSw : Try.prog.underlying 39 = some (.slice 44) := by kernel_rfl
theorem iSw : (Try.prog.info? 44).map (fun i => (i.zero, i.size, i.bytes)) = some (some (.agg #[.int .i64 0, .int .i64 0, .int .i64 0, .bool false, .bool false, .bool false, .int .i64 0, .int .i64 0, .bool false]), 9, 56) := by kernel_rfl
theorem append_s {W : World} {base k : Nat} {v : Value} {l : List Sw} (hown : W.ownsRow base 44 9 v k (scl l)) (hb : base ≤ W.heap.size) (hk : (k + 1) * 56 ≤ 140737488355328) (x : Sw) :
    ∃ v' w', (Builtin.append_ #[39, 39] 39 #[v, .slice (some ⟨W.heap.size, 0, none⟩) 1 1]).run Try.prog (W.alloc (.cells #[.int .i64 x.step, .int .i64 x.object, .int .i64 x.entry, .bool x.own, .bool x.write, .bool x.rel, .int .i64 x.vN, .int .i64 x.vX, .bool x.vD] 44)) = .ok v' w' ∧ w'.ownsRow base 44 9 v' (k + 1) (scl (l ++ [x])) ∧ Keeps (fun i => v.ownBlock = some i) W w' ∧ (∀ b, v'.ownBlock = some b → v.ownBlock = some b ∨ W.heap.size ≤ b) := by
  obtain ⟨v', w', hr, ho, kk, hb⟩ := append_sz uSw iSw rfl (by decide) hown hb (by decide) hk x.cells rfl (fun u hu => by
    unfold Sw.cells at hu
    simp at hu
    rcases hu with rfl | rfl | rfl | rfl | rfl | rfl | rfl | rfl | rfl <;> rfl)
  refine ⟨v', w', hr, ?_, kk, fun b e => ?_⟩
  · rw [scl_app, scl_one]
    exact ho
  · rcases hb with hb | hb
    · exact .inl (hb ▸ e)
    · rw [hb] at e
      injection e with e
      exact .inr (by omega)
end Go.Proofs.Ytmnmphkkcabkiaa

namespace Go.Proofs.Ytmnmphkkcabkiaa
open Go.RowKit
theorem owns_sets {base size n g cap : Nat} {e : TypeId} : ∀ (vs : List Value) (o : Nat) {w : World} {xs : List Value}, w.ownsRow base e size (.slice (some ⟨g, 0, none⟩) n cap) n xs → o + vs.length ≤ xs.length → (w.setCells g o vs).ownsRow base e size (.slice (some ⟨g, 0, none⟩) n cap) n (sets xs o vs)
  | [], o, w, xs, h, _ => by
    have e1 : sets xs o [] = xs := by unfold sets; simp
    rw [e1]
    exact h
  | v :: r, o, w, xs, h, hl => by
    have h1 := (h.stored o v).1
    have h2 := owns_sets r (o + 1) h1 (by simp at hl ⊢; omega)
    have e1 : sets (xs.set o v) (o + 1) r = sets xs o (v :: r) := by
      have ho : o < xs.length := by simp at hl; omega
      unfold sets
      rw [List.drop_set_of_lt (by omega), List.take_add_one, List.take_set_of_le (Nat.le_refl _), List.getElem?_set_self ho]
      simp
      rw [show o + 1 + r.length = o + (r.length + 1) by omega]
    rw [e1] at h2
    exact h2
def gcl (c : Nat → List Value) (n : Nat) : List Value := (List.range n).flatMap c
theorem gcl_succ (c : Nat → List Value) (n : Nat) : gcl c (n + 1) = gcl c n ++ c n := by
  unfold gcl
  rw [List.range_succ, List.flatMap_append]
  simp
theorem gcl_len {c : Nat → List Value} : ∀ {n : Nat}, (∀ i, i < n → (c i).length = 11) → (gcl c n).length = n * 11
  | 0, _ => rfl
  | n + 1, h => by
    rw [gcl_succ, List.length_append, gcl_len (fun i hi => h i (by omega)), h n (by omega)]
    omega
theorem gcl_get {c : Nat → List Value} {i : Nat} : ∀ {n : Nat}, (∀ j, j < n → (c j).length = 11) → i < n → ∀ j u, (c i)[j]? = some u → (gcl c n)[i * 11 + j]? = some u
  | 0, _, h, _, _, _ => by omega
  | n + 1, hc, h, j, u, e => by
    have hj : j < (c i).length := (List.getElem?_eq_some_iff.1 e).1
    rw [hc i h] at hj
    have hl := gcl_len (c := c) (n := n) (fun k hk => hc k (by omega))
    rw [gcl_succ]
    by_cases hk : i = n
    · subst hk
      rw [List.getElem?_append_right (by omega), hl, show i * 11 + j - i * 11 = j by omega]
      exact e
    · rw [List.getElem?_append_left (by omega)]
      exact gcl_get (fun k hk => hc k (by omega)) (by omega) j u e
theorem gcl_congr {c d : Nat → List Value} : ∀ {n : Nat}, (∀ i, i < n → c i = d i) → gcl c n = gcl d n
  | 0, _ => rfl
  | n + 1, h => by rw [gcl_succ, gcl_succ, gcl_congr (fun i hi => h i (by omega)), h n (by omega)]
theorem gcl_sets {c : Nat → List Value} {i : Nat} {v : List Value} (hv : v.length = 11) : ∀ {n : Nat}, (∀ j, j < n → (c j).length = 11) → i < n → sets (gcl c n) (i * 11) v = gcl (fun j => if j = i then v else c j) n
  | 0, _, h => by omega
  | n + 1, hc, h => by
    have hl := gcl_len (c := c) (n := n) (fun k hk => hc k (by omega))
    have hcn := hc n (by omega)
    rw [gcl_succ, gcl_succ]
    by_cases hk : i = n
    · subst hk
      rw [if_pos rfl, gcl_congr (c := fun j => if j = i then v else c j) (d := c) (fun j hj => if_neg (by omega))]
      unfold sets
      rw [List.take_append_of_le_length (by omega), List.take_of_length_le (by omega), List.drop_of_length_le (by rw [List.length_append]; omega), List.append_nil]
    · rw [if_neg (fun e => hk e.symm), ← gcl_sets hv (fun k hk => hc k (by omega)) (by omega)]
      unfold sets
      rw [List.take_append_of_le_length (by omega), List.drop_append_of_le_length (by omega), List.append_assoc, List.append_assoc, List.append_assoc]
theorem tv_len (t : Tv) (sv wv : Value) : (t.cells sv wv).length = 11 := rfl
def tcl (ts : List Tv) (sv wv : Nat → Value) : List Value := gcl (fun i => (ts.getD i tv0).cells (sv i) (wv i)) ts.length
structure TL (base : Nat) (W : World) (v : Value) (ts : List Tv) (sv wv : Nat → Value) (ρ : Nat → Nat) (m : Nat) : Prop where
  o : W.ownsRow base 42 11 v ts.length (tcl ts sv wv)
  s : ∀ i, i < ts.length → W.ownsRow base 44 9 (sv i) (ts.getD i tv0).saws.length (scl (ts.getD i tv0).saws)
  w : ∀ i, i < ts.length → W.ownsRow base 46 4 (wv i) (ts.getD i tv0).wrs.length (wcl (ts.getD i tv0).wrs)
  r0 : ∀ b, v.ownBlock = some b → ρ b = 1
  rs : ∀ i, i < ts.length → ∀ b, (sv i).ownBlock = some b → ρ b = 2 + 2 * i
  rw : ∀ i, i < ts.length → ∀ b, (wv i).ownBlock = some b → ρ b = 3 + 2 * i
  ls : ∀ i, i < ts.length → (ts.getD i tv0).saws.length ≤ m ∧ (ts.getD i tv0).wrs.length ≤ m
  bb : base ≤ W.heap.size
theorem TL.keep {base m : Nat} {W W' : World} {v : Value} {ts : List Tv} {sv wv : Nat → Value} {ρ : Nat → Nat} (h : TL base W v ts sv wv ρ m) (k : Keeps (fun _ => False) W W') : TL base W' v ts sv wv ρ m :=
  ⟨k.owns h.o (fun _ _ e => e), fun i hi => k.owns (h.s i hi) (fun _ _ e => e), fun i hi => k.owns (h.w i hi) (fun _ _ e => e), h.r0, h.rs, h.rw, h.ls, Nat.le_trans h.bb k.size⟩
theorem TL.more {base m m' : Nat} {W : World} {v : Value} {ts : List Tv} {sv wv : Nat → Value} {ρ : Nat → Nat} (h : TL base W v ts sv wv ρ m) (hm : m ≤ m') : TL base W v ts sv wv ρ m' :=
  ⟨h.o, h.s, h.w, h.r0, h.rs, h.rw, fun i hi => ⟨Nat.le_trans (h.ls i hi).1 hm, Nat.le_trans (h.ls i hi).2 hm⟩, h.bb⟩
theorem TL.first (W : World) (sv wv : Nat → Value) (ρ : Nat → Nat) (m : Nat) : TL W.heap.size W (.slice none 0 0) [] sv wv ρ m :=
  ⟨World.ownsRow_nil _ _ _ _, fun i hi => by simp at hi, fun i hi => by simp at hi, (fun b e => by cases e), fun i hi => by simp at hi, fun i hi => by simp at hi, fun i hi => by simp at hi, Nat.le_refl _⟩
theorem uTx : Try.prog.underlying 35 = some (.slice 42) := by kernel_rfl
theorem iTxs : (Try.prog.info? 42).map (fun i => (i.zero, i.size, i.bytes)) = some (some (.agg #[.int .i64 0, .int .i64 0, .int .i64 0, .int .i64 0, .int .i64 0, .int .i64 0, .int .i64 0, .int .i64 0, .int .i64 0, .slice none 0 0, .slice none 0 0]), 11, 120) := by kernel_rfl
theorem getD_app_left {ts : List Tv} {t : Tv} {i : Nat} (h : i < ts.length) : (ts ++ [t]).getD i tv0 = ts.getD i tv0 := by
  rw [List.getD_eq_getElem?_getD, List.getD_eq_getElem?_getD, List.getElem?_append_left h]
theorem getD_app_right (ts : List Tv) (t : Tv) : (ts ++ [t]).getD ts.length tv0 = t := by
  rw [List.getD_eq_getElem?_getD, List.getElem?_append_right (Nat.le_refl _), Nat.sub_self]
  rfl
theorem TL.add {base m : Nat} {W : World} {v : Value} {ts : List Tv} {sv wv : Nat → Value} {ρ : Nat → Nat} (h : TL base W v ts sv wv ρ m) (t : Tv) (hs : t.saws = []) (hw : t.wrs = []) (hk : (ts.length + 1) * 120 ≤ 140737488355328) :
    ∃ v' w', (Builtin.append_ #[35, 35] 35 #[v, .slice (some ⟨W.heap.size, 0, none⟩) 1 1]).run Try.prog (W.alloc (.cells (t.cells nilv nilv).toArray 42)) = .ok v' w' ∧ TL base w' v' (ts ++ [t]) (fun i => if i = ts.length then nilv else sv i) (fun i => if i = ts.length then nilv else wv i) (fun b => if b < W.heap.size then ρ b else 1) m ∧ Keeps (fun i => v.ownBlock = some i) W w' := by
  obtain ⟨v', w', hr, ho, kk, hbl⟩ := append_sz uTx iTxs rfl (by decide) h.o h.bb (by decide) hk (t.cells nilv nilv) rfl (fun u hu => by
    unfold Tv.cells nilv at hu
    simp at hu
    rcases hu with rfl | rfl | rfl | rfl | rfl | rfl | rfl | rfl | rfl | rfl <;> rfl)
  have hlen : (ts ++ [t]).length = ts.length + 1 := by rw [List.length_append]; rfl
  have hv : ∀ b, v'.ownBlock = some b → (v.ownBlock = some b ∨ b = W.heap.size + 1) := fun b e => by
    rcases hbl with hb | hb
    · exact .inl (hb ▸ e)
    · rw [hb] at e; injection e with e; exact .inr e.symm
  refine ⟨v', w', hr, ⟨?_, fun i hi => ?_, fun i hi => ?_, fun b e => ?_, fun i hi b e => ?_, fun i hi b e => ?_, fun i hi => ?_, Nat.le_trans h.bb kk.size⟩, kk⟩
  · unfold tcl
    rw [hlen, gcl_succ, getD_app_right]
    dsimp only
    rw [if_pos rfl, if_pos rfl, gcl_congr (d := fun i => (ts.getD i tv0).cells (sv i) (wv i)) (fun i hi => by rw [getD_app_left hi, if_neg (by omega), if_neg (by omega)])]
    exact ho
  · rw [hlen] at hi
    by_cases e : i = ts.length
    · subst e
      rw [if_pos rfl, getD_app_right, hs]
      exact World.ownsRow_nil _ _ _ _
    · rw [if_neg e, getD_app_left (by omega)]
      exact kk.owns (h.s i (by omega)) (fun b e1 e2 => by have := h.rs i (by omega) b e1; have := h.r0 b e2; omega)
  · rw [hlen] at hi
    by_cases e : i = ts.length
    · subst e
      rw [if_pos rfl, getD_app_right, hw]
      exact World.ownsRow_nil _ _ _ _
    · rw [if_neg e, getD_app_left (by omega)]
      exact kk.owns (h.w i (by omega)) (fun b e1 e2 => by have := h.rw i (by omega) b e1; have := h.r0 b e2; omega)
  · rcases hv b e with h1 | h1
    · rw [if_pos (owns_lt' h.o b h1)]
      exact h.r0 b h1
    · rw [if_neg (by omega)]
  · rw [hlen] at hi
    by_cases e' : i = ts.length
    · subst e'
      rw [if_pos rfl] at e
      cases e
    · rw [if_neg e'] at e
      rw [if_pos (owns_lt' (h.s i (by omega)) b e)]
      exact h.rs i (by omega) b e
  · rw [hlen] at hi
    by_cases e' : i = ts.length
    · subst e'
      rw [if_pos rfl] at e
      cases e
    · rw [if_neg e'] at e
      rw [if_pos (owns_lt' (h.w i (by omega)) b e)]
      exact h.rw i (by omega) b e
  · rw [hlen] at hi
    by_cases e : i = ts.length
    · subst e
      rw [getD_app_right, hs, hw]
      exact ⟨Nat.zero_le _, Nat.zero_le _⟩
    · rw [getD_app_left (by omega)]
      exact h.ls i (by omega)
def fAt (l : List Rw) : Nat → (Nat → Int)
  | 0 => f0 6
  | k + 1 => folP (fAt l k) (l.getD k rw0) (l.getD k rw0).thread.toNat
theorem fst_drop {l : List Rw} (h : fstP l 0 (f0 6) = none) : ∀ k, k ≤ l.length → fstP (l.drop k) k (fAt l k) = none
  | 0, _ => by rw [List.drop_zero]; exact h
  | k + 1, hk => by
    have ih := fst_drop h k (by omega)
    have hd : l.drop k = l.getD k rw0 :: l.drop (k + 1) := by
      rw [List.drop_eq_getElem_cons (by omega), List.getD_eq_getElem?_getD, List.getElem?_eq_getElem (by omega)]; rfl
    rw [hd] at ih
    unfold fstP at ih
    split at ih
    · cases ih
    · exact ih
theorem row_ok {l : List Rw} (h : fstP l 0 (f0 6) = none) {k : Nat} (hk : k < l.length) : (l.getD k rw0).step = (k : Int) ∧ fitP (fAt l k) (l.getD k rw0) (l.getD k rw0).thread.toNat = true := by
  have ih := fst_drop h k (by omega)
  have hd : l.drop k = l.getD k rw0 :: l.drop (k + 1) := by
    rw [List.drop_eq_getElem_cons (by omega), List.getD_eq_getElem?_getD, List.getElem?_eq_getElem (by omega)]; rfl
  rw [hd] at ih
  unfold fstP at ih
  split at ih
  · cases ih
  · rename_i hn
    have h1 : ¬ (l.getD k rw0).step ≠ (k : Int) := fun e => hn (.inl e)
    have h2 : ¬ fitP (fAt l k) (l.getD k rw0) (l.getD k rw0).thread.toNat = false := fun e => hn (.inr e)
    exact ⟨Decidable.of_not_not h1, by simpa using h2⟩
end Go.Proofs.Ytmnmphkkcabkiaa

namespace Go.Proofs.Ytmnmphkkcabkiaa
open Go.RowKit
structure VI (f : Nat → Int) (n : Nat) : Prop where
  c : f 31 = (n : Int)
  t : ∀ th, th < 6 → f (th * 5) ≠ 0 → 1 ≤ f (th * 5 + 3) ∧ f (th * 5 + 3) ≤ (n : Int)
theorem VI.start : VI (f0 6) 0 := by
  refine ⟨rfl, fun th ht h => absurd ?_ h⟩
  unfold f0
  rw [if_neg (by omega)]
def beg1 (r : Rw) : Nat := if r.kind = 1 ∨ r.kind = 2 then 1 else 0
theorem up_at (f : Nat → Int) (o : Nat) (v : Int) : up f o v o = v := if_pos rfl
theorem up_ne {f : Nat → Int} {o p : Nat} {v : Int} (h : p ≠ o) : up f o v p = f p := if_neg h
theorem fol3_at {f : Nat → Int} {r : Rw} {th p : Nat} (h : p ≠ th * 5 + 4) : fol3 f r th p = fol2 f r th p := by
  unfold fol3
  split
  · exact up_ne h
  · rfl
theorem folP_at {f : Nat → Int} {r : Rw} {th p : Nat} (hk : r.kind ≠ 0) (h : p ≠ th * 5) (h4 : p ≠ th * 5 + 4) : folP f r th p = fol2 f r th p := by
  unfold folP
  rw [if_neg hk]
  split
  · rw [up_ne h]; exact fol3_at h4
  · split
    · rw [up_ne h]; exact fol3_at h4
    · exact fol3_at h4
structure RO (f : Nat → Int) (n : Nat) (r : Rw) : Prop where
  th : r.kind ≠ 0 → 0 ≤ r.thread ∧ r.thread < 6
  b : r.kind = 1 ∨ r.kind = 2 → r.no = (n : Int) + 1 ∧ r.told = false ∧ r.puts = false ∧ r.fin = 0
  o : ofD r.kind = true → 1 ≤ r.no ∧ r.no ≤ (n : Int)
theorem VI.row {f : Nat → Int} {n : Nat} (h : VI f n) {r : Rw} (hf : fitP f r r.thread.toNat = true) : RO f n r := by
  refine ⟨fun hk => fit_away hf hk, fun hk => ?_, fun hk => ?_⟩
  · have hk0 : r.kind ≠ 0 := by rcases hk with e | e <;> omega
    have ht := fit_away hf hk0
    unfold fitP at hf
    rw [if_neg hk0, if_neg (by omega)] at hf
    rcases hk with e | e
    · rw [if_pos e] at hf
      simp only [Bool.and_eq_true, eq3_iff, sil_iff] at hf
      rw [h.c] at hf
      exact ⟨hf.1.1.2.2.2, hf.2.2.1, hf.2.2.2, hf.2.1⟩
    · rw [if_neg (by omega), if_pos e] at hf
      simp only [Bool.and_eq_true, eq3_iff, sil_iff] at hf
      rw [h.c] at hf
      exact ⟨hf.1.2.2.2, hf.2.2.1, hf.2.2.2, hf.2.1⟩
  · have hk0 : r.kind ≠ 0 := fun e => by rw [e] at hk; cases hk
    have hk1 : r.kind ≠ 1 := fun e => by rw [e] at hk; cases hk
    have hk2 : r.kind ≠ 2 := fun e => by rw [e] at hk; cases hk
    have hk3 : r.kind ≠ 17 := fun e => by rw [e] at hk; cases hk
    have ht := fit_away hf hk0
    unfold fitP at hf
    rw [if_neg hk0, if_neg (by omega), if_neg hk1, if_neg hk2, if_neg hk3] at hf
    simp only [Bool.and_eq_true, eq3_iff, beq_iff_eq] at hf
    obtain ⟨⟨⟨⟨_, h1⟩, _, _, h2⟩, _⟩, _⟩ := hf
    have := h.t r.thread.toNat (by omega) (by rw [h1]; decide)
    rw [h2]
    exact this
theorem VI.next {f : Nat → Int} {n : Nat} (h : VI f n) {r : Rw} (hf : fitP f r r.thread.toNat = true) : VI (folP f r r.thread.toNat) (n + beg1 r) := by
  have hro := h.row hf
  by_cases hk : r.kind = 0
  · have e1 : folP f r r.thread.toNat = f := by unfold folP; rw [if_pos hk]
    have e2 : beg1 r = 0 := by unfold beg1; rw [if_neg (by omega)]
    rw [e1, e2]
    exact h
  have ht := hro.th hk
  have hf' := hf
  obtain ⟨th, hth⟩ : ∃ th, r.thread.toNat = th := ⟨_, rfl⟩
  rw [hth] at hf ⊢
  have htl : th < 6 := by omega
  unfold fitP at hf
  rw [if_neg hk, if_neg (by omega)] at hf
  have f31 : folP f r th 31 = (n : Int) + (beg1 r : Nat) := by
    rw [folP_at hk (by omega) (by omega)]
    unfold fol2 beg1
    by_cases h1 : r.kind = 1
    · rw [if_pos h1, if_pos (.inl h1), up_ne (by omega), up_ne (by omega), up_at, h.c]
      rfl
    · rw [if_neg h1]
      by_cases h2 : r.kind = 2
      · rw [if_pos h2, if_pos (.inr h2), up_ne (by omega), up_ne (by omega), up_at, h.c]
        rfl
      · rw [if_neg h2, if_neg (show ¬ (r.kind = 1 ∨ r.kind = 2) by omega)]
        have g : fol1 f r th 31 = f 31 := by unfold fol1; rw [up_ne (by omega), up_ne (by omega), up_ne (by omega)]
        split
        · rw [up_ne (by omega), g, h.c]; simp
        · rw [g, h.c]; simp
  refine ⟨by rw [f31]; simp, fun q hq hs => ?_⟩
  by_cases e : q = th
  · subst e
    have g3 : folP f r q (q * 5 + 3) = r.no := by
      rw [folP_at hk (by omega) (by omega)]
      have g : fol1 f r q (q * 5 + 3) = r.no := by unfold fol1; rw [up_at]
      unfold fol2
      split
      · rw [up_ne (by omega), up_ne (by omega), up_ne (by omega), up_ne (by omega)]; exact g
      · split
        · rw [up_ne (by omega), up_ne (by omega), up_ne (by omega)]; exact g
        · split
          · rw [up_ne (by omega)]; exact g
          · exact g
    rw [g3]
    by_cases hb : r.kind = 1 ∨ r.kind = 2
    · have := (hro.b hb).1
      have eb : beg1 r = 1 := by unfold beg1; rw [if_pos hb]
      rw [eb, this]
      simp
      omega
    · have eb : beg1 r = 0 := by unfold beg1; rw [if_neg hb]
      rw [eb, Nat.add_zero]
      by_cases h17 : r.kind = 17
      · rw [if_neg (by omega), if_neg (by omega), if_pos h17] at hf
        simp only [Bool.and_eq_true, eq3_iff, beq_iff_eq] at hf
        obtain ⟨⟨h1, _, _, h2⟩, _⟩ := hf
        have := h.t q hq (by rw [h1]; decide)
        rw [h2]
        exact this
      · exact hro.o (ofd_x hk (by omega) (by omega) h17)
  · have gq : ∀ o, o < 5 → folP f r th (q * 5 + o) = f (q * 5 + o) := fun o ho => by
      rw [folP_at hk (by omega) (by omega)]
      have g : fol1 f r th (q * 5 + o) = f (q * 5 + o) := by unfold fol1; rw [up_ne (by omega), up_ne (by omega), up_ne (by omega)]
      unfold fol2
      split
      · rw [up_ne (by omega), up_ne (by omega), up_ne (by omega), up_ne (by omega)]; exact g
      · split
        · rw [up_ne (by omega), up_ne (by omega), up_ne (by omega)]; exact g
        · split
          · rw [up_ne (by omega)]; exact g
          · exact g
    have g0 := gq 0 (by omega)
    rw [Nat.add_zero] at g0
    rw [g0] at hs
    rw [gq 3 (by omega)]
    have := h.t q hq hs
    omega
def stT (s : List Tv × (Nat → Int)) (r : Rw) : List Tv × (Nat → Int) :=
  if r.kind = 1 then (s.1 ++ [begD r r.seen], up s.2 r.thread.toNat r.seen)
  else if r.kind = 2 then (s.1 ++ [begD r (s.2 r.thread.toNat)], s.2)
  else if ofD r.kind = true then (s.1.set (r.no - 1).toNat (addD (s.1.getD (r.no - 1).toNat tv0) r), s.2)
  else s
def txK (l : List Rw) : Nat → List Tv × (Nat → Int)
  | 0 => ([], fun _ => 0)
  | k + 1 => stT (txK l k) (l.getD k rw0)
theorem stT_len (s : List Tv × (Nat → Int)) (r : Rw) : (stT s r).1.length = s.1.length + beg1 r := by
  unfold stT beg1
  split
  · rename_i h
    rw [if_pos (.inl h), List.length_append]
    rfl
  · split
    · rename_i h
      rw [if_pos (.inr h), List.length_append]
      rfl
    · rename_i h1 h2
      rw [if_neg (show ¬ (r.kind = 1 ∨ r.kind = 2) by omega)]
      split
      · simp
      · simp
theorem txK_vi {l : List Rw} (h : fstP l 0 (f0 6) = none) : ∀ k, k ≤ l.length → VI (fAt l k) (txK l k).1.length
  | 0, _ => VI.start
  | k + 1, hk => by
    have ih := txK_vi h k (by omega)
    show VI (folP (fAt l k) (l.getD k rw0) (l.getD k rw0).thread.toNat) (stT (txK l k) (l.getD k rw0)).1.length
    rw [stT_len]
    exact ih.next (row_ok h (by omega)).2
theorem txK_ro {l : List Rw} (h : fstP l 0 (f0 6) = none) {k : Nat} (hk : k < l.length) : RO (fAt l k) (txK l k).1.length (l.getD k rw0) := (txK_vi h k (by omega)).row (row_ok h hk).2
theorem txK_le (l : List Rw) : ∀ k, (txK l k).1.length ≤ k
  | 0 => Nat.zero_le _
  | k + 1 => by
    have ih := txK_le l k
    show (stT (txK l k) (l.getD k rw0)).1.length ≤ k + 1
    rw [stT_len]
    unfold beg1
    split <;> omega
theorem txK_mono (l : List Rw) : ∀ k d, (txK l k).1.length ≤ (txK l (k + d)).1.length
  | _, 0 => Nat.le_refl _
  | k, d + 1 => by
    have ih := txK_mono l k d
    show _ ≤ (stT (txK l (k + d)) (l.getD (k + d) rw0)).1.length
    rw [stT_len]
    omega
def relS (e : Int) (s : Sw) : Sw := if s.entry = e then { s with rel := true } else s
def relR (ts : List Tv) (r : Rw) : List Tv := if r.kind = 4 ∧ 0 ≤ r.entry then ts.set (r.no - 1).toNat { ts.getD (r.no - 1).toNat tv0 with saws := (ts.getD (r.no - 1).toNat tv0).saws.map (relS r.entry) } else ts
def rlK (l : List Rw) (ts : List Tv) : Nat → List Tv
  | 0 => ts
  | k + 1 => relR (rlK l ts k) (l.getD k rw0)
def txD (l : List Rw) : List Tv := rlK l (txK l l.length).1 l.length
theorem rlK_len (l : List Rw) (ts : List Tv) : ∀ k, (rlK l ts k).length = ts.length
  | 0 => rfl
  | k + 1 => by
    have ih := rlK_len l ts k
    show (relR (rlK l ts k) (l.getD k rw0)).length = _
    unfold relR
    split
    · rw [List.length_set]; exact ih
    · exact ih
end Go.Proofs.Ytmnmphkkcabkiaa

namespace Go.Proofs.Ytmnmphkkcabkiaa
open Go.RowKit
attribute [local go_sem] Oper.semAt_some run_store_nf run_store_f
theorem getD_set_eq {ts : List Tv} {i : Nat} {t : Tv} (h : i < ts.length) : (ts.set i t).getD i tv0 = t := by
  rw [List.getD_eq_getElem?_getD, List.getElem?_set_self h]
  rfl
theorem getD_set_ne {ts : List Tv} {i j : Nat} {t : Tv} (h : j ≠ i) : (ts.set i t).getD j tv0 = ts.getD j tv0 := by
  rw [List.getD_eq_getElem?_getD, List.getD_eq_getElem?_getD, List.getElem?_set_ne (fun e => h e.symm)]
theorem TL.set {base m g cap n : Nat} {W W' : World} {ts : List Tv} {sv wv : Nat → Value} {ρ : Nat → Nat} {i : Nat} {t' : Tv} {sv' wv' : Value} (h : TL base W (.slice (some ⟨g, 0, none⟩) n cap) ts sv wv ρ m) (hn : ts.length = n) (hi : i < ts.length) (ha : AF base W W' t' (sv i) (wv i) sv' wv') (hl : t'.saws.length ≤ m + 1 ∧ t'.wrs.length ≤ m + 1) :
    TL base (W'.setCells g (i * 11) (t'.cells sv' wv')) (.slice (some ⟨g, 0, none⟩) n cap) (ts.set i t') (fun j => if j = i then sv' else sv j) (fun j => if j = i then wv' else wv j) (fun b => if b < W.heap.size then ρ b else if sv'.ownBlock = some b then 2 + 2 * i else 3 + 2 * i) (m + 1) ∧ Keeps (fun b => base ≤ b) W (W'.setCells g (i * 11) (t'.cells sv' wv')) := by
  have hg1 := h.r0 g rfl
  have hgl := owns_lt' h.o g rfl
  have kk : Keeps (fun b => b = g) W' (W'.setCells g (i * 11) (t'.cells sv' wv')) := (Keeps.refl (fun b => b = g) W').setsA _ _
  have hs' : ∀ b, sv'.ownBlock = some b → b ≠ g := fun b e e' => by
    rcases ha.bs b e with h1 | h1
    · have := h.rs i hi b h1; rw [e'] at this; omega
    · omega
  have hw' : ∀ b, wv'.ownBlock = some b → b ≠ g := fun b e e' => by
    rcases ha.bw b e with h1 | h1
    · have := h.rw i hi b h1; rw [e'] at this; omega
    · omega
  have ho' : W'.ownsRow base 42 11 (.slice (some ⟨g, 0, none⟩) n cap) n (tcl ts sv wv) := ha.k.owns (hn ▸ h.o) (fun b e e' => by have := h.rs i hi b e'; have := h.r0 b e; omega)
  have hlc : (tcl ts sv wv).length = ts.length * 11 := gcl_len (fun _ _ => rfl)
  refine ⟨⟨?_, fun j hj => ?_, fun j hj => ?_, fun b e => ?_, fun j hj b e => ?_, fun j hj b e => ?_, fun j hj => ?_, ?_⟩, ?_⟩
  · have h1 := owns_sets (t'.cells sv' wv') (i * 11) ho' (by rw [hlc, tv_len]; omega)
    rw [List.length_set, hn]
    have e1 : sets (tcl ts sv wv) (i * 11) (t'.cells sv' wv') = tcl (ts.set i t') (fun j => if j = i then sv' else sv j) (fun j => if j = i then wv' else wv j) := by
      unfold tcl
      rw [gcl_sets rfl (fun _ _ => rfl) hi, List.length_set]
      refine gcl_congr (fun j hj => ?_)
      by_cases e : j = i
      · subst e
        rw [if_pos rfl, getD_set_eq hj]
        dsimp only
        rw [if_pos rfl, if_pos rfl]
      · rw [if_neg e, getD_set_ne e]
        dsimp only
        rw [if_neg e, if_neg e]
    rw [← e1]
    exact h1
  · rw [List.length_set] at hj
    by_cases e : j = i
    · subst e
      rw [if_pos rfl, getD_set_eq hj]
      exact kk.owns ha.os (fun b e => hs' b e)
    · rw [if_neg e, getD_set_ne e]
      exact kk.owns (ha.k.owns (h.s j hj) (fun b e1 e2 => by have := h.rs j hj b e1; have := h.rs i hi b e2; omega)) (fun b e1 e2 => by have e2 : b = g := e2; have := h.rs j hj b e1; rw [e2] at this; omega)
  · rw [List.length_set] at hj
    by_cases e : j = i
    · subst e
      rw [if_pos rfl, getD_set_eq hj]
      exact kk.owns ha.ow (fun b e => hw' b e)
    · rw [if_neg e, getD_set_ne e]
      exact kk.owns (ha.k.owns (h.w j hj) (fun b e1 e2 => by have := h.rw j hj b e1; have := h.rs i hi b e2; omega)) (fun b e1 e2 => by have e2 : b = g := e2; have := h.rw j hj b e1; rw [e2] at this; omega)
  · have e : some g = some b := e
    injection e with e
    subst e
    rw [if_pos hgl]
    exact hg1
  · rw [List.length_set] at hj
    by_cases e' : j = i
    · subst e'
      rw [if_pos rfl] at e
      rcases ha.bs b e with h1 | h1
      · rw [if_pos (owns_lt' (h.s j hj) b h1)]
        exact h.rs j hj b h1
      · rw [if_neg (by omega), if_pos e]
    · rw [if_neg e'] at e
      rw [if_pos (owns_lt' (h.s j hj) b e)]
      exact h.rs j hj b e
  · rw [List.length_set] at hj
    by_cases e' : j = i
    · subst e'
      rw [if_pos rfl] at e
      rcases ha.bw b e with h1 | h1
      · rw [if_pos (owns_lt' (h.w j hj) b h1)]
        exact h.rw j hj b h1
      · rw [if_neg (by omega), if_neg (fun e2 => ha.ne b e2 e)]
    · rw [if_neg e'] at e
      rw [if_pos (owns_lt' (h.w j hj) b e)]
      exact h.rw j hj b e
  · rw [List.length_set] at hj
    by_cases e : j = i
    · subst e
      rw [getD_set_eq hj]
      exact hl
    · rw [getD_set_ne e]
      have := h.ls j hj
      omega
  · exact Nat.le_trans h.bb (Nat.le_trans ha.k.size kk.size)
  · exact ha.k.trans' kk (fun b _ e => owns_baseT (h.s i hi) b e) (fun b _ e => by have e : b = g := e; subst e; exact owns_baseT h.o b rfl)
end Go.Proofs.Ytmnmphkkcabkiaa

namespace Go.Proofs.Ytmnmphkkcabkiaa
open Go.RowKit
attribute [local go_sem] Oper.semAt_some run_store_nf run_store_f
theorem own_cl {W : World} {base n size g cap : Nat} {e : TypeId} {l : List Value} (h : W.ownsRow base e size (.slice (some ⟨g, 0, none⟩) n cap) n l) : CL W g l := by
  have hc := h.cells (g := g) rfl
  rcases h.2 with ⟨e, _⟩ | ⟨g', cap', cur, e, hbg, hg, _⟩
  · cases e
  · injection e with e1 _ e2
    injection e1 with e1
    injection e1 with e1 _ _
    subst e1
    refine ⟨fun o v e => ?_, fun o _ => by simp [World.frozen?, hg]⟩
    have := hc o v e
    rw [add_at, Nat.zero_add] at this
    exact this
theorem TL.keepB {base m : Nat} {W W' : World} {v : Value} {ts : List Tv} {sv wv : Nat → Value} {ρ : Nat → Nat} (h : TL base W v ts sv wv ρ m) {S : Nat → Prop} (k : Keeps S W W') (hS : ∀ i, base ≤ i → ¬ S i) : TL base W' v ts sv wv ρ m :=
  ⟨k.owns h.o (fun b e e' => hS b (owns_baseT h.o b e) e'), fun i hi => k.owns (h.s i hi) (fun b e e' => hS b (owns_baseT (h.s i hi) b e) e'), fun i hi => k.owns (h.w i hi) (fun b e e' => hS b (owns_baseT (h.w i hi) b e) e'), h.r0, h.rs, h.rw, h.ls, Nat.le_trans h.bb k.size⟩
theorem run_store_i64 {w : World} {b o : Nat} (hc : (w.cell? ⟨b, o, none⟩).isSome = true) (hz : w.frozen? ⟨b, o, none⟩ = false) (v : Int) : (storeVar 2 ⟨b, o, none⟩ (.int .i64 v)).run Try.prog w = .ok () (w.setCell ⟨b, o, none⟩ (.int .i64 v)) := by
  obtain ⟨u, hu⟩ := Option.isSome_iff_exists.1 hc
  go_simp
theorem wp_append_t {P : Program} {w : World} {o : Oper} {a : Act} {Kk : Act → World → Prop} {Q : Exit → Act → World → Prop} (s x : Operand) (t : TypeId)
    (ho : o.op = .call { callee := .builtin .append, args := #[s, x], argTypes := #[t, t] }) (v src v' : Value) (w' : World) (hs : a.eval s = v) (hx : a.eval x = src)
    (hr : (Builtin.append_ #[t, t] o.type #[v, src]).run P w = .ok v' w') (h : Kk (a.put o.dst v') w') : Oper.wp P o a w Kk Q := by
  unfold Oper.wp execOp
  simp only [ho, resolve, invoke, builtin, Sem.run_bind, Sem.run_pure, Result.andThen_ok, List.map_toArray, List.map_cons, List.map_nil, hs, hx, hr]
  exact h
theorem wp_buildTx {o : Oper} {a : Act} {w : World} {K : Act → World → Prop} {Q : Exit → Act → World → Prop} (x : Operand) (ho : o.op = .buildSlice 35 1 #[(0, x)]) (cs : Array Value) (hc : cs.size = 11) (hx : a.eval x = .agg cs)
    (h : K (a.put o.dst (.slice (some ⟨w.heap.size, 0, none⟩) 1 1)) (w.alloc (.cells cs 42))) : o.wp Try.prog a w K Q := by
  obtain ⟨i0, hi0, hzz⟩ := Option.map_eq_some_iff.1 iTxs
  simp only [Prod.mk.injEq] at hzz
  obtain ⟨hz0, hz1, -⟩ := hzz
  refine wp_buildSlice 35 42 1 _ ho cs i0 _ uTx hi0 hz0 (by rw [hz1]; decide) (by rw [hz1]; decide) ?_ h
  rw [hz1]
  have e : (#[(0, x)].map fun (i, x) => (i, a.eval x)).toList = ([Value.agg cs].zipIdx 0).map fun x => (x.2, x.1) := by simp [hx]
  have e2 : ([Value.agg cs].flatMap fun v => v.cells.toList).toArray = cs := by simp; rfl
  rw [e, Great.fill_whole (s := 11) (by decide) [Value.agg cs] _ (fun v hv => by simp at hv; subst hv; exact hc) (by simp), e2]
structure SBd (rb sb : Nat) (r : Rw) (g : Nat → Int) (W : World) : Prop where
  c : CL W rb r.cells
  i : IB W sb 6 g
def txT5 (f : Func) : Code := match f.body with | some (.seq _ (.seq _ (.seq _ (.seq _ (.seq _ t))))) => t | _ => .skip
def txT6 (f : Func) : Code := match f.body with | some (.seq _ (.seq _ (.seq _ (.seq _ (.seq _ (.seq _ t)))))) => t | _ => .skip
end Go.Proofs.Ytmnmphkkcabkiaa

namespace Go.Proofs.Ytmnmphkkcabkiaa
open Go.RowKit
attribute [local go_sem] Oper.semAt_some run_store_nf run_store_f
def sw0 : Sw := ⟨0, 0, 0, false, false, false, 0, 0, false⟩
theorem scl_getD {o : Nat} {u : Value} : ∀ {l : List Sw} {j : Nat}, j < l.length → (l.getD j sw0).cells[o]? = some u → (scl l)[j * 9 + o]? = some u
  | [], _, h, _ => by simp at h
  | s :: l, 0, _, e => by
    have ho : o < s.cells.length := (List.getElem?_eq_some_iff.1 e).1
    show (s.cells ++ scl l)[0 * 9 + o]? = _
    rw [Nat.zero_mul, Nat.zero_add, List.getElem?_append_left ho]
    exact e
  | s :: l, j + 1, h, e => by
    have hs : s.cells.length = 9 := rfl
    show (s.cells ++ scl l)[(j + 1) * 9 + o]? = _
    rw [List.getElem?_append_right (by omega), hs, show (j + 1) * 9 + o - 9 = j * 9 + o by omega]
    exact scl_getD (by simpa using h) e
def rlJ (e : Int) (l : List Sw) (j : Nat) : List Sw := (l.take j).map (relS e) ++ l.drop j
theorem TL.saw {base m i : Nat} {W W' : World} {v : Value} {ts : List Tv} {sv wv : Nat → Value} {ρ : Nat → Nat} (h : TL base W v ts sv wv ρ m) (hi : i < ts.length) (ss : List Sw) (hl : ss.length = (ts.getD i tv0).saws.length) (hk : Keeps (fun b => (sv i).ownBlock = some b) W W') (ho : W'.ownsRow base 44 9 (sv i) ss.length (scl ss)) : TL base W' v (ts.set i { ts.getD i tv0 with saws := ss }) sv wv ρ m := by
  refine ⟨?_, fun j hj => ?_, fun j hj => ?_, h.r0, fun j hj => ?_, fun j hj => ?_, fun j hj => ?_, Nat.le_trans h.bb hk.size⟩
  · have e : tcl (ts.set i { ts.getD i tv0 with saws := ss }) sv wv = tcl ts sv wv := by
      unfold tcl
      rw [List.length_set]
      refine gcl_congr (fun j hj => ?_)
      by_cases e : j = i
      · subst e
        rw [getD_set_eq hj]
        rfl
      · rw [getD_set_ne e]
    rw [e, List.length_set]
    exact hk.owns h.o (fun b e1 e2 => by have := h.r0 b e1; have := h.rs i hi b e2; omega)
  · rw [List.length_set] at hj
    by_cases e : j = i
    · subst e
      rw [getD_set_eq hj]
      exact ho
    · rw [getD_set_ne e]
      exact hk.owns (h.s j hj) (fun b e1 e2 => by have := h.rs j hj b e1; have := h.rs i hi b e2; omega)
  · rw [List.length_set] at hj
    have e2 : ((ts.set i { ts.getD i tv0 with saws := ss }).getD j tv0).wrs = (ts.getD j tv0).wrs := by
      by_cases e : j = i
      · subst e
        rw [getD_set_eq hj]
      · rw [getD_set_ne e]
    rw [e2]
    exact hk.owns (h.w j hj) (fun b e1 e2 => by have := h.rw j hj b e1; have := h.rs i hi b e2; omega)
  · exact h.rs j (by rw [List.length_set] at hj; exact hj)
  · exact h.rw j (by rw [List.length_set] at hj; exact hj)
  · rw [List.length_set] at hj
    by_cases e : j = i
    · subst e
      rw [getD_set_eq hj]
      have := h.ls j hj
      dsimp only
      omega
    · rw [getD_set_ne e]
      exact h.ls j hj
end Go.Proofs.Ytmnmphkkcabkiaa

namespace Go.Proofs.Ytmnmphkkcabkiaa
open Go.RowKit
attribute [local go_sem] Oper.semAt_some run_store_nf run_store_f
end Go.Proofs.Ytmnmphkkcabkiaa

namespace Go.Proofs.Ytmnmphkkcabkiaa
open Go.RowKit
attribute [local go_sem] Oper.semAt_some run_store_nf run_store_f
theorem iSwS : (Try.prog.info? 44).map (·.size) = some 9 := by kernel_rfl
theorem run_swAt {W : World} {b o : Nat} {s : Sw} (hc : ∀ j v, s.cells[j]? = some v → W.cell? ⟨b, o + j, none⟩ = some v) : (loadVar 44 ⟨b, o, none⟩).run Try.prog W = .ok (.agg s.cells.toArray) W :=
  run_loadVar_mid W b o 44 s.cells _ hc Try.underlying44 rfl (by rw [iSwS]; rfl)
theorem run_sw {W : World} {b : Nat} {s : Sw} (h : CL W b s.cells) : (loadVar 44 ⟨b, 0, none⟩).run Try.prog W = .ok (.agg s.cells.toArray) W := run_swAt (fun j v e => by rw [Nat.zero_add]; exact h.c j v e)
theorem one_sw (s : Sw) : s.cells.toArray.all (·.oneCell') = true := all_oneCell_toArray (by simp [Sw.cells, Value.oneCell'])
set_option maxHeartbeats 1000000 in
set_option maxRecDepth 100000 in
theorem sawOf_any (w : World) (r : Rw) : Calls Try.prog 56 #[.agg r.cells.toArray] w fun e w' => e = .returned (.agg (sawD r).cells.toArray) ∧ Keeps (fun _ => False) w w' := by
  obtain ⟨w0, e0, k0, -, hz⟩ := rw_box w r
  obtain ⟨W1, hW1⟩ : ∃ W1, W1 = w0.alloc (.cells #[.int .i64 0, .int .i64 0, .int .i64 0, .bool false, .bool false, .bool false, .int .i64 0, .int .i64 0, .bool false] 44) := ⟨_, rfl⟩
  have k1 : Keeps (fun _ => False) w0 W1 := by rw [hW1]; exact (Keeps.refl _ w0).alloc _
  have m1 : CL W1 (w.heap.size + 1) (Sw.cells ⟨0, 0, 0, false, false, false, 0, 0, false⟩) := by rw [hW1, ← hz]; exact CL.made w0 (Sw.cells ⟨0, 0, 0, false, false, false, 0, 0, false⟩) _
  have hb : CL W1 w.heap.size r.cells := (show CL w0 w.heap.size r.cells by rw [e0]; exact CL.made w r.cells _).keep (by show 0 < 26; decide) k1 (fun e => e)
  have c0 := hb.c 0 _ rfl
  have c5 := hb.c 5 _ rfl
  have c6 := hb.c 6 _ rfl
  have c7 := hb.c 7 _ rfl
  have c8 := hb.c 8 _ rfl
  have c18 := hb.c 18 _ rfl
  have c19 := hb.c 19 _ rfl
  have c20 := hb.c 20 _ rfl
  have hA := one_sw (sawD r)
  have K1 := k0.trans k1
  have HZ : Hid (sawD r = ⟨r.step, r.object, r.entry, r.kind == 3 && r.entry == -1, r.phase == 2, false, r.vN, r.vX, r.vD⟩) := rfl
  generalize sawD r = S at *
  clear hb hz k0
  cases hk3 : (r.kind == 3)
  · have hkb : (r.kind == 3) = false := hk3
    go_enter Try.func56, Try.ntmps56
    refine wp_seq_k (fun KK hKK => ?_)
    have hKH : Hid _ := hKK
    clear hKK
    go_wp2_with fail
    refine hKH.out _ _ ?_
    clear hKH KK
    rw [← e0, ← hW1]
    clear e0 hW1 k1
    go_wp2_with (refine wpList_store_cl rfl 44 _ _ rfl (w.heap.size + 1) 0 9 S.cells.toArray rfl (by rw [HZ.out, hkb]; rfl) rfl m1 (by show 9 ≤ 9; decide) iSwS hA ?_; intro w5 hc5 k5 hsz5; have hI5 : CL w5 (w.heap.size + 1) S.cells := hc5; have hR2 := run_sw hI5; have K5 : Keeps (fun _ => False) w w5 := K1.trans' k5 (fun _ _ e => e) (fun i hi e => by have e : i = w.heap.size + 1 := e; omega))
    exact bodyPost_ret (v := .agg S.cells.toArray) ((results_cell1 (p := 2) (ty := 44) rfl _ _ _).trans hR2) rfl ⟨rfl, K5⟩
  · have hkb : (r.kind == 3) = true := hk3
    go_enter Try.func56, Try.ntmps56
    refine wp_seq_k (fun KK hKK => ?_)
    have hKH : Hid _ := hKK
    clear hKK
    go_wp2_with fail
    refine hKH.out _ _ ?_
    clear hKH KK
    rw [← e0, ← hW1]
    clear e0 hW1 k1
    go_wp2_with (refine wpList_store_cl rfl 44 _ _ rfl (w.heap.size + 1) 0 9 S.cells.toArray rfl (by rw [HZ.out, hkb]; rfl) rfl m1 (by show 9 ≤ 9; decide) iSwS hA ?_; intro w5 hc5 k5 hsz5; have hI5 : CL w5 (w.heap.size + 1) S.cells := hc5; have hR2 := run_sw hI5; have K5 : Keeps (fun _ => False) w w5 := K1.trans' k5 (fun _ _ e => e) (fun i hi e => by have e : i = w.heap.size + 1 := e; omega))
    exact bodyPost_ret (v := .agg S.cells.toArray) ((results_cell1 (p := 2) (ty := 44) rfl _ _ _).trans hR2) rfl ⟨rfl, K5⟩
end Go.Proofs.Ytmnmphkkcabkiaa

