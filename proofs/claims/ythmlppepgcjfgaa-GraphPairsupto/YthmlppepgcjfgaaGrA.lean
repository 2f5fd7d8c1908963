import Derived.Test.YthmlppepgcjfgaaGnA
namespace Go.Proofs.Ythmlppepgcjfgaa
open Go.RowKit
/-- An edge between nodes. -/
structure Eg where
  f : Nat
  t : Nat
  k : Int
  o : Int
/-- So many edges lead from one node to another one. -/
inductive Pth (g : List Eg) : Nat → Nat → Nat → Prop
  | one (e : Eg) (h : e ∈ g) : Pth g 1 e.f e.t
  | more {k b : Nat} (e : Eg) (h : e ∈ g) (h2 : Pth g k e.t b) : Pth g (k + 1) e.f b
/-- Edges lead there. -/
def Rch (g : List Eg) (u b : Nat) : Prop := ∃ k, Pth g k u b
/-- The nodes to which a node's edges lead. -/
def ldN (g : List Eg) (v : Nat) : List Nat := (g.filter (fun e => e.f == v)).map Eg.t
theorem mem_ldN {g : List Eg} {v t : Nat} : t ∈ ldN g v ↔ ∃ e ∈ g, e.f = v ∧ e.t = t := by
  unfold ldN
  simp only [List.mem_map, List.mem_filter, beq_iff_eq]
  constructor
  · rintro ⟨e, ⟨h1, h2⟩, h3⟩; exact ⟨e, h1, h2, h3⟩
  · rintro ⟨e, h1, h2, h3⟩; exact ⟨e, ⟨h1, h2⟩, h3⟩
theorem ldN_app (g : List Eg) (e : Eg) (v : Nat) : ldN (g ++ [e]) v = if e.f = v then ldN g v ++ [e.t] else ldN g v := by
  unfold ldN
  rw [List.filter_append, List.map_append]
  by_cases h : e.f = v
  · rw [if_pos h, List.filter_cons_of_pos (by simpa using h)]; rfl
  · rw [if_neg h, List.filter_cons_of_neg (by simpa using h)]; simp
theorem ldN_len (g : List Eg) (v : Nat) : (ldN g v).length ≤ g.length := by
  unfold ldN; rw [List.length_map]; exact List.length_filter_le _ _
theorem rch_ld {g : List Eg} {u t : Nat} (h : t ∈ ldN g u) : Rch g u t := by
  obtain ⟨e, h1, rfl, rfl⟩ := mem_ldN.1 h
  exact ⟨1, .one e h1⟩
theorem rch_ld2 {g : List Eg} {u t b : Nat} (h : t ∈ ldN g u) (h2 : Rch g t b) : Rch g u b := by
  obtain ⟨e, h1, rfl, rfl⟩ := mem_ldN.1 h
  obtain ⟨k, h2⟩ := h2
  exact ⟨k + 1, .more e h1 h2⟩
/-- What a walk from a node comes to. -/
structure Wkd (g : List Eg) (to_ node : Nat) (M : Nat → Bool) (b : Bool) (M' : Nat → Bool) : Prop where
  m : ∀ v, M v = true → M' v = true
  y : b = true → Rch g node to_
  n : b = false → ∀ v, (v = node ∨ (M' v = true ∧ M v = false)) → ∀ t ∈ ldN g v, t ≠ to_ ∧ M' t = true
theorem wkd_none {g : List Eg} {to_ node : Nat} {M : Nat → Bool} (h : Wkd g to_ node (fun _ => false) false M) : ¬ Rch g node to_ := by
  have H : ∀ k u b, Pth g k u b → b = to_ → (u = node ∨ M u = true) → False := by
    intro k u b hp
    induction hp with
    | one e he =>
      intro hb hu
      exact (h.n rfl e.f (hu.imp id (fun h => ⟨h, rfl⟩)) e.t (mem_ldN.2 ⟨e, he, rfl, rfl⟩)).1 hb
    | more e he _ ih =>
      intro hb hu
      exact ih hb (.inr (h.n rfl e.f (hu.imp id (fun h => ⟨h, rfl⟩)) e.t (mem_ldN.2 ⟨e, he, rfl, rfl⟩)).2)
  rintro ⟨k, hp⟩
  exact H k _ _ hp rfl (.inl rfl)
/-- A place in a node's edges. -/
structure Wki (g : List Eg) (to_ node : Nat) (M M' : Nat → Bool) (i : Nat) : Prop where
  m : ∀ v, M v = true → M' v = true
  n : ∀ v, M' v = true → M v = false → ∀ t ∈ ldN g v, t ≠ to_ ∧ M' t = true
  l : ∀ t ∈ (ldN g node).take i, t ≠ to_ ∧ M' t = true
theorem Wki.start (g : List Eg) (to_ node : Nat) (M : Nat → Bool) : Wki g to_ node M M 0 := ⟨fun _ h => h, (fun v h h2 => by rw [h] at h2; cases h2), fun t ht => by simp at ht⟩
theorem Wki.done {g : List Eg} {to_ node : Nat} {M M' : Nat → Bool} {i : Nat} (h : Wki g to_ node M M' i) (hi : (ldN g node).length ≤ i) : Wkd g to_ node M false M' :=
  ⟨h.m, (fun e => by cases e), fun _ v hv t ht => by
    rcases hv with rfl | ⟨h1, h2⟩
    · exact h.l t (by rw [List.take_of_length_le hi]; exact ht)
    · exact h.n v h1 h2 t ht⟩
def upB (M : Nat → Bool) (x : Nat) : Nat → Bool := fun v => if v = x then true else M v
theorem take_nextN {S : List Nat} {i : Nat} (h : i < S.length) : S.take (i + 1) = S.take i ++ [S.getD i 0] := by
  rw [List.take_add_one, List.getElem?_eq_getElem h, List.getD_eq_getElem?_getD, List.getElem?_eq_getElem h]
  rfl
theorem getD_memN {S : List Nat} {i : Nat} (h : i < S.length) : S.getD i 0 ∈ S := by
  rw [List.getD_eq_getElem?_getD, List.getElem?_eq_getElem h]
  exact List.getElem_mem h
theorem Wki.was {g : List Eg} {to_ node : Nat} {M M' : Nat → Bool} {i : Nat} (h : Wki g to_ node M M' i) (hi : i < (ldN g node).length) (h1 : (ldN g node).getD i 0 ≠ to_) (h2 : M' ((ldN g node).getD i 0) = true) : Wki g to_ node M M' (i + 1) :=
  ⟨h.m, h.n, fun t ht => by
    rw [take_nextN hi] at ht
    rcases List.mem_append.1 ht with ht | ht
    · exact h.l t ht
    · simp only [List.mem_singleton] at ht
      subst ht
      exact ⟨h1, h2⟩⟩
theorem Wki.went {g : List Eg} {to_ node : Nat} {M M' M2 : Nat → Bool} {i : Nat} (h : Wki g to_ node M M' i) (hi : i < (ldN g node).length) (h1 : (ldN g node).getD i 0 ≠ to_) (h2 : Wkd g to_ ((ldN g node).getD i 0) (upB M' ((ldN g node).getD i 0)) false M2) : Wki g to_ node M M2 (i + 1) := by
  generalize hx : (ldN g node).getD i 0 = x at *
  have hm : ∀ v, M' v = true → M2 v = true := fun v hv => h2.m v (by unfold upB; split <;> simp [hv])
  refine ⟨fun v hv => hm v (h.m v hv), fun v hv hn t ht => ?_, fun t ht => ?_⟩
  · by_cases e : v = x
    · exact h2.n rfl v (.inl e) t ht
    · cases hc : M' v with
      | true => exact ⟨(h.n v hc hn t ht).1, hm _ (h.n v hc hn t ht).2⟩
      | false => exact h2.n rfl v (.inr ⟨hv, by unfold upB; rw [if_neg e]; exact hc⟩) t ht
  · rw [take_nextN hi, hx] at ht
    rcases List.mem_append.1 ht with ht | ht
    · exact ⟨(h.l t ht).1, hm _ (h.l t ht).2⟩
    · simp only [List.mem_singleton] at ht
      subst ht
      exact ⟨h1, h2.m _ (by unfold upB; simp)⟩
theorem Wki.hit {g : List Eg} {to_ node : Nat} {M M' : Nat → Bool} {i : Nat} (h : Wki g to_ node M M' i) (hi : i < (ldN g node).length) (h1 : (ldN g node).getD i 0 = to_) : Wkd g to_ node M true M' :=
  ⟨h.m, fun _ => h1 ▸ rch_ld (getD_memN hi), fun e => by cases e⟩
theorem Wki.hit2 {g : List Eg} {to_ node : Nat} {M M' M2 : Nat → Bool} {i : Nat} (h : Wki g to_ node M M' i) (hi : i < (ldN g node).length) (h2 : Wkd g to_ ((ldN g node).getD i 0) (upB M' ((ldN g node).getD i 0)) true M2) : Wkd g to_ node M true M2 :=
  ⟨fun v hv => h2.m v (by unfold upB; split <;> simp [h.m v hv]), fun _ => rch_ld2 (getD_memN hi) (h2.y rfl), fun e => by cases e⟩
/-- How many nodes were not met yet. -/
def um (M : Nat → Bool) : Nat → Nat
  | 0 => 0
  | n + 1 => um M n + (if M n then 0 else 1)
theorem um_mono {M M' : Nat → Bool} (h : ∀ v, M v = true → M' v = true) : ∀ n, um M' n ≤ um M n
  | 0 => Nat.le_refl _
  | n + 1 => by
    have := um_mono h n
    unfold um
    cases hc : M n with
    | true => rw [h n hc]; simpa using this
    | false => simp only [Bool.false_eq_true, if_false]; split <;> omega
theorem um_up {M : Nat → Bool} {x : Nat} (h : M x = false) : ∀ n, (x < n → um (upB M x) n + 1 = um M n) ∧ (n ≤ x → um (upB M x) n = um M n)
  | 0 => ⟨fun e => by omega, fun _ => rfl⟩
  | n + 1 => by
    obtain ⟨h1, h2⟩ := um_up h n
    unfold um
    by_cases e : n = x
    · subst e
      refine ⟨fun _ => ?_, fun e => by omega⟩
      rw [h2 (Nat.le_refl _), h]
      simp [upB]
    · have e2 : upB M x n = M n := by unfold upB; rw [if_neg e]
      rw [e2]
      refine ⟨fun hx => ?_, fun hx => ?_⟩
      · have := h1 (by omega)
        omega
      · rw [h2 (by omega)]
theorem um_none : ∀ n, um (fun _ => false) n = n
  | 0 => rfl
  | n + 1 => by unfold um; rw [um_none n]; rfl
/-! ### distances -/
theorem Pth.pos {g : List Eg} {k u b : Nat} (h : Pth g k u b) : 1 ≤ k := by cases h <;> omega
/-- Nodes stand below n. -/
def Bln (g : List Eg) (n : Nat) : Prop := ∀ e ∈ g, e.f < n ∧ e.t < n
theorem Pth.lt {g : List Eg} {n k u b : Nat} (hn : Bln g n) (h : Pth g k u b) : u < n := by cases h with | one e h => exact (hn e h).1 | more e h _ => exact (hn e h).1
theorem nodup_leN : ∀ (N : Nat) (L : List Nat), L.Nodup → (∀ x ∈ L, x < N) → L.length ≤ N
  | 0, [], _, _ => Nat.le_refl _
  | 0, x :: _, _, h => absurd (h x (by simp)) (by omega)
  | N + 1, L, hd, h => by
    have := nodup_leN N (L.erase N) (hd.erase N) (fun x hx => by
      have h1 := h x (List.mem_of_mem_erase hx)
      have h2 : x ≠ N := fun e => by subst e; exact (List.Nodup.not_mem_erase hd) hx
      omega)
    have h3 := List.length_erase (l := L) (a := N)
    rw [h3] at this
    split at this <;> omega
theorem mn_list {g : List Eg} {n b : Nat} (hn : Bln g n) : ∀ (k u : Nat), Pth g k u b → (∀ j, Pth g j u b → k ≤ j) → ∃ L : List Nat, L.length = k ∧ L.Nodup ∧ ∀ x ∈ L, x < n ∧ ∃ j, j ≤ k ∧ Pth g j x b := by
  intro k u h
  induction h with
  | one e he => intro _; exact ⟨[e.f], rfl, by simp, fun x hx => by simp at hx; subst hx; exact ⟨(hn e he).1, 1, Nat.le_refl _, .one e he⟩⟩
  | @more k b e he hp ih =>
    intro hm
    obtain ⟨L, h1, h2, h3⟩ := ih (fun j hj => by have := hm _ (.more e he hj); omega)
    refine ⟨e.f :: L, by simp [h1], List.nodup_cons.2 ⟨fun hx => ?_, h2⟩, fun x hx => ?_⟩
    · obtain ⟨_, j, hj, hpj⟩ := h3 _ hx
      have := hm j hpj
      omega
    · rcases List.mem_cons.1 hx with rfl | hx
      · exact ⟨(hn e he).1, k + 1, Nat.le_refl _, .more e he hp⟩
      · obtain ⟨h4, j, hj, hpj⟩ := h3 _ hx
        exact ⟨h4, j, by omega, hpj⟩
theorem least_ex {p : Nat → Prop} : ∀ k, p k → ∃ m, p m ∧ ∀ j, p j → m ≤ j := by
  intro k
  induction k using Nat.strongRecOn with
  | ind k ih =>
    intro hk
    by_cases h : ∃ j, j < k ∧ p j
    · obtain ⟨j, hj, hp⟩ := h; exact ih j hj hp
    · exact ⟨k, hk, fun j hj => Nat.le_of_not_lt (fun hl => h ⟨j, hl, hj⟩)⟩
theorem rch_short {g : List Eg} {n u b : Nat} (hn : Bln g n) (h : Rch g u b) : ∃ k, k ≤ n ∧ Pth g k u b := by
  obtain ⟨k, hk⟩ := h
  obtain ⟨m, hm, hl⟩ := least_ex (p := fun k => Pth g k u b) k hk
  obtain ⟨L, h1, h2, h3⟩ := mn_list hn m u hm hl
  have := nodup_leN n L h2 (fun x hx => (h3 x hx).1)
  exact ⟨m, by omega, hm⟩
/-- What away has, on its way. -/
structure Aw (g : List Eg) (n a : Nat) (d : Nat → Nat) : Prop where
  u : ∀ v, v < n → d v ≤ 1073741824
  s : ∀ v, v < n → d v < 1073741824 → Pth g (d v) v a
def awK (a : Nat) (d : Nat → Nat) (e : Eg) : Nat := if e.t = a then 1 else d e.t + 1
def upD (d : Nat → Nat) (x k : Nat) : Nat → Nat := fun v => if v = x then k else d v
theorem Aw.next {g : List Eg} {n a : Nat} {d : Nat → Nat} (h : Aw g n a d) (hn : Bln g n) {e : Eg} (he : e ∈ g) (hl : awK a d e < d e.f) : Aw g n a (upD d e.f (awK a d e)) := by
  have hu := h.u _ (hn e he).1
  refine ⟨fun v hv => ?_, fun v hv h2 => ?_⟩
  · unfold upD; split
    · omega
    · exact h.u v hv
  · unfold upD at h2 ⊢
    split
    · next ev =>
      rw [ev]
      unfold awK at hl ⊢
      split
      · next et => rw [← et]; exact .one e he
      · next et =>
        rw [if_neg et] at hl
        exact .more e he (h.s _ (hn e he).2 (by omega))
    · next ev => rw [if_neg ev] at h2; exact h.s v hv h2
/-- It can be made no smaller. -/
def AwF (g : List Eg) (a : Nat) (d : Nat → Nat) : Prop := ∀ e ∈ g, d e.f ≤ awK a d e
theorem AwF.le {g : List Eg} {a : Nat} {d : Nat → Nat} (h : AwF g a d) {k u b : Nat} (hp : Pth g k u b) (hb : b = a) : d u ≤ k := by
  induction hp with
  | one e he => have := h e he; unfold awK at this; rw [if_pos hb] at this; exact this
  | more e he _ ih =>
    have h1 := h e he
    have h2 := ih hb
    unfold awK at h1
    split at h1 <;> omega
theorem aw_rch {g : List Eg} {n a : Nat} {d : Nat → Nat} (h : Aw g n a d) (hn : Bln g n) (hf : AwF g a d) (h4 : n ≤ 4096) {v : Nat} (hv : v < n) : d v < 1073741824 ↔ Rch g v a :=
  ⟨fun hl => ⟨_, h.s v hv hl⟩, fun hr => by
    obtain ⟨k, hk, hp⟩ := rch_short hn hr
    have := hf.le hp rfl
    omega⟩
/-- Their sum. -/
def sm (d : Nat → Nat) : Nat → Nat
  | 0 => 0
  | n + 1 => sm d n + d n
theorem sm_up {d : Nat → Nat} {x k : Nat} (h : k < d x) : ∀ n, (x < n → sm (upD d x k) n < sm d n) ∧ (n ≤ x → sm (upD d x k) n = sm d n)
  | 0 => ⟨fun e => by omega, fun _ => rfl⟩
  | n + 1 => by
    obtain ⟨h1, h2⟩ := sm_up h n
    unfold sm
    by_cases e : n = x
    · subst e
      refine ⟨fun _ => ?_, fun e => by omega⟩
      rw [h2 (Nat.le_refl _)]
      simp [upD]; omega
    · have e2 : upD d x k n = d n := by unfold upD; rw [if_neg e]
      rw [e2]
      exact ⟨fun hx => by have := h1 (by omega); omega, fun hx => by rw [h2 (by omega)]⟩
/-! ### edges in memory -/
/-- An edge as it is handed in. -/
structure Ed where
  f : Int
  t : Int
  k : Int
  o : Int
def ed0 : Ed := ⟨0, 0, 0, 0⟩
def eg0 : Eg := ⟨0, 0, 0, 0⟩
instance : Inhabited Ed := ⟨ed0⟩
instance : Inhabited Eg := ⟨eg0⟩
def Ed.cells (e : Ed) : List Value := [.int .i64 e.f, .int .i64 e.t, .int .i64 e.k, .int .i64 e.o]
def Eg.ed (e : Eg) : Ed := ⟨(e.f : Int), (e.t : Int), e.k, e.o⟩
def EL (w : World) (a : Option Addr) (l : List Ed) : Prop := ∀ i, i < l.length → ∃ b off, a = some ⟨b, off, none⟩ ∧ ∀ j v, (l.getD i ed0).cells[j]? = some v → w.cell? ⟨b, off + i * 4 + j, none⟩ = some v
theorem EL.keepS {w w' : World} {a : Option Addr} {l : List Ed} {S : Nat → Prop} (h : EL w a l) (k : Keeps S w w') (hS : 0 < l.length → ∀ b off, a = some ⟨b, off, none⟩ → b < w.heap.size → ¬ S b) : EL w' a l := fun i hi => by
  obtain ⟨b, off, e, hc⟩ := h i hi
  have hb := World.block_lt_of_cell? _ _ (hc 0 _ rfl)
  exact ⟨b, off, e, fun j v hv => k.cell (hc j v hv) (hS (by omega) b off e hb)⟩
theorem EL.keep {w w' : World} {a : Option Addr} {l : List Ed} (h : EL w a l) (k : Keeps (fun _ => False) w w') : EL w' a l := h.keepS k (fun _ _ _ _ _ e => e)
theorem EL.lt {w : World} {a : Option Addr} {l : List Ed} (h : EL w a l) (hl : 0 < l.length) : ∃ b off, a = some ⟨b, off, none⟩ ∧ b < w.heap.size := by
  obtain ⟨b, off, e, hc⟩ := h 0 hl
  exact ⟨b, off, e, World.block_lt_of_cell? _ _ (hc 0 _ rfl)⟩
/-- May the graph stand? -/
def gdE (n : Int) (l : List Ed) : Bool := decide (∀ e ∈ l, 0 ≤ e.f ∧ e.f < n ∧ 0 ≤ e.t ∧ e.t < n)
def fltG (n : Int) (l : List Ed) : Int := if n < 0 ∨ 4096 < n then 200 else if gdE n l then 0 else 201
theorem good_eg {n : Int} {l : List Ed} (h : fltG n l = 0) : ∃ (m : Nat) (g : List Eg), n = (m : Int) ∧ m ≤ 4096 ∧ l = g.map Eg.ed ∧ Bln g m := by
  unfold fltG at h
  split at h
  · cases h
  · next hn =>
    split at h
    · next hg =>
      have hg := of_decide_eq_true hg
      refine ⟨n.toNat, l.map (fun e => ⟨e.f.toNat, e.t.toNat, e.k, e.o⟩), by omega, by omega, ?_, fun e he => ?_⟩
      · rw [List.map_map]
        conv => lhs; rw [← List.map_id l]
        refine List.map_congr_left (fun e he => ?_)
        have := hg e he
        obtain ⟨f, t, k, o⟩ := e
        show _ = Ed.mk ((f.toNat : Nat) : Int) ((t.toNat : Nat) : Int) k o
        rw [Int.toNat_of_nonneg this.1, Int.toNat_of_nonneg this.2.2.1]
        rfl
      · obtain ⟨d, hd, rfl⟩ := List.mem_map.1 he
        have := hg d hd
        show d.f.toNat < _ ∧ d.t.toNat < _
        omega
    · cases h
theorem eg_good {m : Nat} {g : List Eg} (hm : m ≤ 4096) (h : Bln g m) : fltG (m : Int) (g.map Eg.ed) = 0 := by
  unfold fltG
  rw [if_neg (by omega), if_pos]
  refine decide_eq_true (fun e he => ?_)
  obtain ⟨d, hd, rfl⟩ := List.mem_map.1 he
  have := h d hd
  show (0 : Int) ≤ (d.f : Int) ∧ (d.f : Int) < _ ∧ (0 : Int) ≤ (d.t : Int) ∧ (d.t : Int) < _
  omega
theorem eg_at {g : List Eg} {i : Nat} (h : i < g.length) : (g.map Eg.ed).getD i ed0 = (g.getD i eg0).ed ∧ g.getD i eg0 ∈ g := by
  rw [List.getD_eq_getElem?_getD, List.getElem?_map, List.getD_eq_getElem?_getD, List.getElem?_eq_getElem h]
  exact ⟨rfl, List.getElem_mem h⟩
theorem take_eg {g : List Eg} {i : Nat} (h : i < g.length) : g.take (i + 1) = g.take i ++ [g.getD i eg0] := by
  rw [List.take_add_one, List.getElem?_eq_getElem h, List.getD_eq_getElem?_getD, List.getElem?_eq_getElem h]
  rfl
theorem take_ed {g : List Ed} {i : Nat} (h : i < g.length) : g.take (i + 1) = g.take i ++ [g.getD i ed0] := by
  rw [List.take_add_one, List.getElem?_eq_getElem h, List.getD_eq_getElem?_getD, List.getElem?_eq_getElem h]
  rfl
/-- A block's cells as a function. -/
structure FB (w : World) (b n : Nat) (f : Nat → Value) : Prop where
  c : ∀ i, i < n → w.cell? ⟨b, i, none⟩ = some (f i)
  z : ∀ i, i < n → w.frozen? ⟨b, i, none⟩ = false
theorem FB.keep {w w' : World} {b n : Nat} {f : Nat → Value} {S : Nat → Prop} (h : FB w b n f) (k : Keeps S w w') (hS : ¬ S b) : FB w' b n f :=
  ⟨fun i hi => k.cell (h.c i hi) hS, fun i hi => (k.frozen (p := ⟨b, i, none⟩) (World.block_lt_of_cell? _ _ (h.c i hi)) hS).trans (h.z i hi)⟩
def upV (f : Nat → Value) (o : Nat) (v : Value) : Nat → Value := fun p => if p = o then v else f p
theorem FB.set {w : World} {b n : Nat} {f : Nat → Value} (h : FB w b n f) {o : Nat} (ho : o < n) (v : Value) : FB (w.setCell ⟨b, o, none⟩ v) b n (upV f o v) := by
  refine ⟨fun p hp => ?_, fun p hp => ?_⟩
  · unfold upV
    by_cases e : p = o
    · subst e
      rw [if_pos rfl]
      exact World.cell?_setCell_same _ _ _ (h.c p hp)
    · rw [if_neg e, World.cell?_setCell_other _ _ _ _ (by intro e2; injection e2 with _ e3; omega)]
      exact h.c p hp
  · simp only [World.frozen?_setCell]
    exact h.z p hp
theorem FB.congr {w : World} {b n : Nat} {f f' : Nat → Value} (h : FB w b n f) (e : ∀ i, i < n → f i = f' i) : FB w b n f' := ⟨fun i hi => by rw [← e i hi]; exact h.c i hi, h.z⟩
theorem FB.made (w : World) (n : Nat) (v : Value) (t : TypeId) : FB (w.alloc (.cells (madeCells #[v] n) t)) w.heap.size n (fun _ => v) := by
  have e : madeCells #[v] n = (List.replicate n v).toArray := by
    apply Array.ext'
    simp [madeCells]
    rw [List.eq_replicate_iff]
    refine ⟨by simp, fun b hb => ?_⟩
    obtain ⟨x, _, rfl⟩ := List.mem_map.1 hb
    rw [Nat.mod_one]; rfl
  rw [e]
  have h := CL.made w (List.replicate n v) t
  exact ⟨fun i hi => h.c i _ (by rw [List.getElem?_replicate, if_pos hi]), fun i hi => h.z i (by simpa using hi)⟩
theorem run_store_fi {w : World} {b o : Nat} (hc : (w.cell? ⟨b, o, none⟩).isSome = true) (hz : w.frozen? ⟨b, o, none⟩ = false) (v : Int) : (storeVar 3 ⟨b, o, none⟩ (.int .i64 v)).run Try.prog w = .ok () (w.setCell ⟨b, o, none⟩ (.int .i64 v)) := by
  obtain ⟨u, hu⟩ := Option.isSome_iff_exists.1 hc
  go_simp
theorem wpList_store_fi {w : World} {ops : Array Oper} {rest : List Oper} {o : Oper} {a : Act} {Q : Exit → Act → World → Prop} (hgd : o.guard = none) (hd : o.dst = none) (x y : Operand) (ho : o.op = .store 3 x y) (b off : Nat) (hx : a.eval x = .pointer (some ⟨b, off, none⟩)) (v : Int) (hy : a.eval y = .int .i64 v)
    {n : Nat} {f : Nat → Value} (hB : FB w b n f) (hl : off < n) (h : ∀ w1, FB w1 b n (upV f off (.int .i64 v)) → Keeps (fun k => k = b) w w1 → w1.heap.size = w.heap.size → wpList Try.prog ops Q rest a w1) : wpList Try.prog ops Q (o :: rest) a w :=
  wpList_plain hgd fun _ hK => by
    unfold Oper.wp execOp
    simp only [ho, hx, hy, Instr.storeAt, Instr.sureAddr, Sem.run_bind, Sem.run_pure, Result.andThen_ok, run_store_fi (by rw [hB.c off hl]; rfl) (hB.z off hl) v]
    refine hK _ _ ?_
    rw [hd]
    exact (h _ (hB.set hl _) ((Keeps.refl (fun k => k = b) w).setCell (p := ⟨b, off, none⟩) (fun _ => rfl) _) (by simp))
theorem run_store_fb {w : World} {b o : Nat} (hc : (w.cell? ⟨b, o, none⟩).isSome = true) (hz : w.frozen? ⟨b, o, none⟩ = false) (v : Bool) : (storeVar 4 ⟨b, o, none⟩ (.bool v)).run Try.prog w = .ok () (w.setCell ⟨b, o, none⟩ (.bool v)) := by
  obtain ⟨u, hu⟩ := Option.isSome_iff_exists.1 hc
  go_simp
theorem wpList_store_fb {w : World} {ops : Array Oper} {rest : List Oper} {o : Oper} {a : Act} {Q : Exit → Act → World → Prop} (hgd : o.guard = none) (hd : o.dst = none) (x y : Operand) (ho : o.op = .store 4 x y) (b off : Nat) (hx : a.eval x = .pointer (some ⟨b, off, none⟩)) (v : Bool) (hy : a.eval y = .bool v)
    {n : Nat} {f : Nat → Value} (hB : FB w b n f) (hl : off < n) (h : ∀ w1, FB w1 b n (upV f off (.bool v)) → Keeps (fun k => k = b) w w1 → w1.heap.size = w.heap.size → wpList Try.prog ops Q rest a w1) : wpList Try.prog ops Q (o :: rest) a w :=
  wpList_plain hgd fun _ hK => by
    unfold Oper.wp execOp
    simp only [ho, hx, hy, Instr.storeAt, Instr.sureAddr, Sem.run_bind, Sem.run_pure, Result.andThen_ok, run_store_fb (by rw [hB.c off hl]; rfl) (hB.z off hl) v]
    refine hK _ _ ?_
    rw [hd]
    exact (h _ (hB.set hl _) ((Keeps.refl (fun k => k = b) w).setCell (p := ⟨b, off, none⟩) (fun _ => rfl) _) (by simp))
end Go.Proofs.Ythmlppepgcjfgaa
