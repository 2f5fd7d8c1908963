import Derived.Test.YthmlppepgcjfgaaGrJ
namespace Go.Proofs.Ythmlppepgcjfgaa
open Go.RowKit Go.Deep
/-- An edge stands ahead of another one. -/
def LtE (a b : Ed) : Prop := a.f < b.f ∨ (a.f = b.f ∧ (a.t < b.t ∨ (a.t = b.t ∧ (a.k < b.k ∨ (a.k = b.k ∧ a.o < b.o)))))
instance (a b : Ed) : Decidable (LtE a b) := by unfold LtE; infer_instance
theorem LtE.trans {a b c : Ed} (h : LtE a b) (h' : LtE b c) : LtE a c := by unfold LtE at *; omega
theorem LtE.irr (a : Ed) : ¬ LtE a a := by unfold LtE; omega
theorem LtE.tri {a b : Ed} (h : ¬ LtE a b) (h' : ¬ LtE b a) : a = b := by
  unfold LtE at *
  cases a
  cases b
  simp only [Ed.mk.injEq] at *
  omega
def SrtE (l : List Ed) : Prop := l.Pairwise LtE
theorem SrtE.ext : ∀ {l l' : List Ed}, SrtE l → SrtE l' → (∀ e, e ∈ l ↔ e ∈ l') → l = l'
  | [], [], _, _, _ => rfl
  | [], y :: l', _, _, h => by have := (h y).2 (List.mem_cons_self ..); cases this
  | x :: l, [], _, _, h => by have := (h x).1 (List.mem_cons_self ..); cases this
  | x :: l, y :: l', hs, hs', h => by
    obtain ⟨a1, a2⟩ := List.pairwise_cons.1 hs
    obtain ⟨b1, b2⟩ := List.pairwise_cons.1 hs'
    have exy : x = y := by
      rcases List.mem_cons.1 ((h x).1 (List.mem_cons_self ..)) with e | e
      · exact e
      · rcases List.mem_cons.1 ((h y).2 (List.mem_cons_self ..)) with e2 | e2
        · exact e2.symm
        · exact absurd ((b1 x e).trans (a1 y e2)) (LtE.irr y)
    subst exy
    congr 1
    refine SrtE.ext a2 b2 (fun e => ?_)
    constructor
    · intro he
      rcases List.mem_cons.1 ((h e).1 (List.mem_cons_of_mem _ he)) with q | q
      · rw [q] at he; exact absurd (a1 _ he) (LtE.irr _)
      · exact q
    · intro he
      rcases List.mem_cons.1 ((h e).2 (List.mem_cons_of_mem _ he)) with q | q
      · rw [q] at he; exact absurd (b1 _ he) (LtE.irr _)
      · exact q
/-- An edge into a list. -/
def insE (x : Ed) : List Ed → List Ed
  | [] => [x]
  | y :: l => if LtE y x then y :: insE x l else if LtE x y then x :: y :: l else x :: l
theorem insE_len (x : Ed) : ∀ l : List Ed, (insE x l).length ≤ l.length + 1
  | [] => Nat.le_refl _
  | y :: l => by
    have h := insE_len x l
    unfold insE
    split
    · simp only [List.length_cons]; omega
    · split <;> simp
theorem insE_mem {x : Ed} : ∀ {l : List Ed} {e : Ed}, e ∈ insE x l ↔ (e ∈ l ∨ e = x)
  | [], e => by simp [insE]
  | y :: l, e => by
    have h := insE_mem (x := x) (l := l) (e := e)
    unfold insE
    split
    · rw [List.mem_cons, List.mem_cons, h, or_assoc]
    · split
      · rw [List.mem_cons, List.mem_cons]
        constructor
        · rintro (q | q)
          · exact .inr q
          · exact .inl q
        · rintro (q | q)
          · exact .inr q
          · exact .inl q
      · next h1 h2 =>
        have e2 := LtE.tri h1 h2
        subst e2
        rw [List.mem_cons]
        constructor
        · exact fun q => .inl q
        · rintro (q | q)
          · exact q
          · exact .inl q
theorem insE_srt {x : Ed} : ∀ {l : List Ed}, SrtE l → SrtE (insE x l)
  | [], _ => by unfold insE SrtE; simp
  | y :: l, h => by
    obtain ⟨a1, a2⟩ := List.pairwise_cons.1 h
    have ih := insE_srt (x := x) (l := l) a2
    unfold insE
    split
    · next h1 =>
      refine List.pairwise_cons.2 ⟨fun e he => ?_, ih⟩
      rcases insE_mem.1 he with q | q
      · exact a1 e q
      · rw [q]; exact h1
    · next h1 =>
      split
      · next h2 =>
        refine List.pairwise_cons.2 ⟨fun e he => ?_, h⟩
        rcases List.mem_cons.1 he with q | q
        · rw [q]; exact h2
        · exact h2.trans (a1 e q)
      · next h2 =>
        have e2 := LtE.tri h1 h2
        subst e2
        exact h
/-- put's loop. -/
def InsI (l : List Ed) (x : Ed) (k : Nat) (out : List Ed) (done : Bool) : Prop := (done = false ∧ out.length = k ∧ insE x l = out ++ insE x (l.drop k)) ∨ (done = true ∧ insE x l = out ++ l.drop k)
theorem InsI.start (l : List Ed) (x : Ed) : InsI l x 0 [] false := .inl ⟨rfl, rfl, by simp⟩
theorem InsI.len {l : List Ed} {x : Ed} {k : Nat} {out : List Ed} {done : Bool} (h : InsI l x k out done) (hk : k ≤ l.length) : out.length ≤ k + 1 := by
  rcases h with ⟨-, h, -⟩ | ⟨-, h⟩
  · omega
  · have h2 := insE_len x l
    rw [h, List.length_append, List.length_drop] at h2
    omega
theorem drop_ed {l : List Ed} {k : Nat} (h : k < l.length) : l.drop k = l.getD k ed0 :: l.drop (k + 1) := by
  have e : l.getD k ed0 = l[k] := by rw [List.getD_eq_getElem?_getD, List.getElem?_eq_getElem h]; rfl
  rw [e]
  exact List.drop_eq_getElem_cons h
theorem InsI.less {l : List Ed} {x : Ed} {k : Nat} {out : List Ed} (h : InsI l x k out false) (hk : k < l.length) (hl : LtE (l.getD k ed0) x) : InsI l x (k + 1) (out ++ [l.getD k ed0]) false := by
  rcases h with ⟨-, h1, h2⟩ | ⟨h, -⟩
  · refine .inl ⟨rfl, by simp [h1], ?_⟩
    rw [h2, drop_ed hk]
    conv => lhs; rw [insE, if_pos hl]
    simp
  · cases h
theorem InsI.same {l : List Ed} {x : Ed} {k : Nat} {out : List Ed} (h : InsI l x k out false) (hk : k < l.length) (hl : ¬ LtE (l.getD k ed0) x) (hl2 : ¬ LtE x (l.getD k ed0)) : InsI l x (k + 1) (out ++ [x]) true := by
  rcases h with ⟨-, h1, h2⟩ | ⟨h, -⟩
  · refine .inr ⟨rfl, ?_⟩
    rw [h2, drop_ed hk, insE, if_neg hl, if_neg hl2]
    simp
  · cases h
theorem InsI.here {l : List Ed} {x : Ed} {k : Nat} {out : List Ed} (h : InsI l x k out false) (hk : k < l.length) (hl : ¬ LtE (l.getD k ed0) x) (hl2 : LtE x (l.getD k ed0)) : InsI l x (k + 1) (out ++ [x] ++ [l.getD k ed0]) true := by
  rcases h with ⟨-, h1, h2⟩ | ⟨h, -⟩
  · refine .inr ⟨rfl, ?_⟩
    rw [h2, drop_ed hk, insE, if_neg hl, if_pos hl2]
    simp
  · cases h
theorem InsI.past {l : List Ed} {x : Ed} {k : Nat} {out : List Ed} (h : InsI l x k out true) (hk : k < l.length) : InsI l x (k + 1) (out ++ [l.getD k ed0]) true := by
  rcases h with ⟨h, -⟩ | ⟨-, h2⟩
  · cases h
  · refine .inr ⟨rfl, ?_⟩
    rw [h2, drop_ed hk]
    simp
theorem InsI.end0 {l : List Ed} {x : Ed} {k : Nat} {out : List Ed} (h : InsI l x k out false) (hk : l.length ≤ k) : insE x l = out ++ [x] := by
  rcases h with ⟨-, h1, h2⟩ | ⟨h, -⟩
  · rw [h2, List.drop_of_length_le hk]; rfl
  · cases h
theorem InsI.end1 {l : List Ed} {x : Ed} {k : Nat} {out : List Ed} (h : InsI l x k out true) (hk : l.length ≤ k) : insE x l = out := by
  rcases h with ⟨h, -⟩ | ⟨-, h2⟩
  · cases h
  · rw [h2, List.drop_of_length_le hk]; simp
/-- What was told. -/
structure Sw where
  step : Int
  object : Int
  entry : Int
  own : Bool
  write : Bool
  rel : Bool
  vN : Int
  vX : Int
  vD : Bool
def Sw.cells (s : Sw) : List Value := [.int .i64 s.step, .int .i64 s.object, .int .i64 s.entry, .bool s.own, .bool s.write, .bool s.rel, .int .i64 s.vN, .int .i64 s.vX, .bool s.vD]
/-- What was put. -/
structure Wo where
  object : Int
  vN : Int
  vX : Int
  vD : Bool
def Wo.cells (x : Wo) : List Value := [.int .i64 x.object, .int .i64 x.vN, .int .i64 x.vX, .bool x.vD]
/-- An attempt. -/
structure Tv where
  thread : Int
  job : Int
  try_ : Int
  no : Int
  stamp : Int
  bgn : Int
  fnl : Int
  end_ : Int
  out : Int
  saws : List Sw
  wrs : List Wo
def Tv.cells (t : Tv) (sv wv : Value) : List Value := [.int .i64 t.thread, .int .i64 t.job, .int .i64 t.try_, .int .i64 t.no, .int .i64 t.stamp, .int .i64 t.bgn, .int .i64 t.fnl, .int .i64 t.end_, .int .i64 t.out, sv, wv]
def sw0 : Sw := ⟨0, 0, 0, false, false, false, 0, 0, false⟩
def wo0 : Wo := ⟨0, 0, 0, false⟩
def tv0 : Tv := ⟨0, 0, 0, 0, 0, 0, 0, 0, 0, [], []⟩
/-- Saws, writes, attempts in memory, to be read. -/
def SWM (w : World) (a : Option Addr) (l : List Sw) : Prop := ∀ i, i < l.length → ∃ b off, a = some ⟨b, off, none⟩ ∧ ∀ j v, (l.getD i sw0).cells[j]? = some v → w.cell? ⟨b, off + i * 9 + j, none⟩ = some v
def WOM (w : World) (a : Option Addr) (l : List Wo) : Prop := ∀ i, i < l.length → ∃ b off, a = some ⟨b, off, none⟩ ∧ ∀ j v, (l.getD i wo0).cells[j]? = some v → w.cell? ⟨b, off + i * 4 + j, none⟩ = some v
/-- Where an attempt's lists lie. -/
structure Lp where
  sa : Option Addr
  sc : Nat
  wa : Option Addr
  wc : Nat
def Tv.clp (t : Tv) (p : Lp) : List Value := t.cells (.slice p.sa t.saws.length p.sc) (.slice p.wa t.wrs.length p.wc)
def TXM (w : World) (a : Option Addr) (ts : List Tv) (p : Nat → Lp) : Prop := ∀ i, i < ts.length → (∃ b off, a = some ⟨b, off, none⟩ ∧ ∀ j v, ((ts.getD i tv0).clp (p i))[j]? = some v → w.cell? ⟨b, off + i * 11 + j, none⟩ = some v) ∧ SWM w (p i).sa (ts.getD i tv0).saws ∧ WOM w (p i).wa (ts.getD i tv0).wrs
theorem SWM.keep {w w' : World} {a : Option Addr} {l : List Sw} (h : SWM w a l) (k : Keeps (fun _ => False) w w') : SWM w' a l := fun i hi => by
  obtain ⟨b, off, e, hc⟩ := h i hi
  exact ⟨b, off, e, fun j v hv => k.cell (hc j v hv) (fun e => e)⟩
theorem WOM.keep {w w' : World} {a : Option Addr} {l : List Wo} (h : WOM w a l) (k : Keeps (fun _ => False) w w') : WOM w' a l := fun i hi => by
  obtain ⟨b, off, e, hc⟩ := h i hi
  exact ⟨b, off, e, fun j v hv => k.cell (hc j v hv) (fun e => e)⟩
theorem TXM.keep {w w' : World} {a : Option Addr} {ts : List Tv} {p : Nat → Lp} (h : TXM w a ts p) (k : Keeps (fun _ => False) w w') : TXM w' a ts p := fun i hi => by
  obtain ⟨⟨b, off, e, hc⟩, h2, h3⟩ := h i hi
  exact ⟨⟨b, off, e, fun j v hv => k.cell (hc j v hv) (fun e => e)⟩, h2.keep k, h3.keep k⟩
/-- Does an attempt write, read an object? -/
def wrB (t : Tv) (x : Int) : Bool := t.wrs.any (fun q => q.object == x)
def rdB (t : Tv) (x : Int) : Bool := t.saws.any (fun s => s.object == x && !s.own && !s.rel)
/-- May these be asked for? -/
def okT (ts : List Tv) (i : Nat) : Prop := (ts.getD i tv0).out = 1 → (0 ≤ (ts.getD i tv0).fnl ∧ (ts.getD i tv0).bgn < (ts.getD i tv0).end_) ∧ ∀ j, j < i → (ts.getD j tv0).out = 1 → (ts.getD j tv0).end_ ≠ (ts.getD i tv0).end_
def MayT (ts : List Tv) : Prop := ts.length ≤ 4096 ∧ ∀ i, i < ts.length → okT ts i
/-- The edges that attempt u's object x makes with attempt t. -/
def EdT (ts : List Tv) (t u : Nat) (x : Int) (e : Ed) : Prop := (wrB (ts.getD t tv0) x = true ∧ (ts.getD u tv0).end_ < (ts.getD t tv0).end_ ∧ e = ⟨u, t, 1, x⟩) ∨ (rdB (ts.getD t tv0) x = true ∧ (ts.getD u tv0).end_ < (ts.getD t tv0).fnl ∧ e = ⟨u, t, 0, x⟩) ∨ (rdB (ts.getD t tv0) x = true ∧ ¬ (ts.getD u tv0).end_ < (ts.getD t tv0).fnl ∧ e = ⟨t, u, 2, x⟩)
def Two (ts : List Tv) (t u : Nat) : Prop := t ≠ u ∧ (ts.getD t tv0).out = 1 ∧ (ts.getD u tv0).out = 1
def EdA (ts : List Tv) (e : Ed) : Prop := ∃ t u i, t < ts.length ∧ u < ts.length ∧ Two ts t u ∧ i < (ts.getD u tv0).wrs.length ∧ EdT ts t u ((ts.getD u tv0).wrs.getD i wo0).object e
/-- What Build answers. -/
def BuA (ts : List Tv) (l : List Ed) (ec : Int) : Prop := (¬ MayT ts ∧ ec = 160 ∧ l = []) ∨ (MayT ts ∧ ec = 0 ∧ SrtE l ∧ ∀ e, e ∈ l ↔ EdA ts e)
theorem BuA.one {ts : List Tv} {l l' : List Ed} {ec ec' : Int} (h : BuA ts l ec) (h' : BuA ts l' ec') : l = l' ∧ ec = ec' := by
  rcases h with ⟨a1, a2, a3⟩ | ⟨a1, a2, a3, a4⟩ <;> rcases h' with ⟨b1, b2, b3⟩ | ⟨b1, b2, b3, b4⟩
  · exact ⟨by rw [a3, b3], by rw [a2, b2]⟩
  · exact absurd b1 a1
  · exact absurd a1 b1
  · exact ⟨a3.ext b3 (fun e => (a4 e).trans (b4 e).symm), by rw [a2, b2]⟩
end Go.Proofs.Ythmlppepgcjfgaa
