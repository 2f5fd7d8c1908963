import Derived.Test.YthmlppepgcjfgaaBdN
namespace Go.Proofs.Ythmlppepgcjfgaa
open Go.RowKit Go.Deep
theorem take_fm {α β : Type} (f : α → List β) {l : List α} {i : Nat} (d : α) (h : i < l.length) : (l.take (i + 1)).flatMap f = (l.take i).flatMap f ++ f (l.getD i d) := by
  rw [List.take_add_one, List.getElem?_eq_getElem h, List.getD_eq_getElem?_getD, List.getElem?_eq_getElem h, List.flatMap_append]
  simp
theorem pre_len {α β : Type} (f : α → List β) {l : List α} {i : Nat} (d : α) (h : i < l.length) : ((l.take i).flatMap f).length + (f (l.getD i d)).length ≤ (l.flatMap f).length := by
  have h1 := fm_take f l (i + 1)
  rw [take_fm f d h, List.length_append] at h1
  exact h1
theorem take_mp {α β : Type} (f : α → β) {l : List α} {i : Nat} (d : α) (h : i < l.length) : (l.take (i + 1)).map f = (l.take i).map f ++ [f (l.getD i d)] := by
  rw [List.take_add_one, List.getElem?_eq_getElem h, List.getD_eq_getElem?_getD, List.getElem?_eq_getElem h, List.map_append]
  rfl
theorem getD_mem {α : Type} {l : List α} {i : Nat} (d : α) (h : i < l.length) : l.getD i d ∈ l := by
  rw [List.getD_eq_getElem?_getD, List.getElem?_eq_getElem h]
  exact List.getElem_mem h
def ag0 : Ag := ⟨0, 0, 0, [], []⟩
def aa0 : At × Ag := (at0, ag0)
theorem getD_fst {P : List (At × Ag)} {i : Nat} (h : i < P.length) : (P.map (·.1)).getD i at0 = (P.getD i aa0).1 := by
  rw [List.getD_eq_getElem?_getD, List.getElem?_map, List.getElem?_eq_getElem h, List.getD_eq_getElem?_getD, List.getElem?_eq_getElem h]
  rfl
theorem fl_sum : ∀ P : List (At × Ag), (fl P).length ≤ sumG (P.map (·.2))
  | [] => Nat.zero_le _
  | p :: P => by
    have h := fl_sum P
    have e : fl (p :: P) = p.2.ws.map (fun x => (p.1, x)) ++ fl P := rfl
    have e2 : sumG ((p :: P).map (·.2)) = (p.2.ws.length + p.2.rs.length) + sumG (P.map (·.2)) := by unfold sumG; simp
    rw [e, e2, List.length_append, List.length_map]
    omega
/-- What between is given. -/
structure BeI (ts : List Tv) (P : List (At × Ag)) : Prop where
  a : Apt P
  n : P.length ≤ 4096
  s : sumG (P.map (·.2)) ≤ 1048576
  w : ∀ p ∈ P, (∀ x ∈ p.2.ws, I64 x) ∧ (∀ x ∈ p.2.rs, I64 x)
  m : ∀ e, e ∈ alE P ↔ GaE ts e
theorem BeI.of {ts : List Tv} {P : List (At × Ag)} (hB : TsB ts) (hG : CmG ts ts.length (P.map (·.2))) (ho : ∀ p ∈ P, OwA p) : BeI ts P := by
  refine ⟨hG.apt ho, ?_, ?_, fun p hp => ?_, hG.al ho⟩
  · have h := hG.l
    rw [List.length_map] at h
    have := hB.n
    omega
  · have h := hG.n
    rw [List.take_length] at h
    have := hB.s
    omega
  · obtain ⟨⟨i, hi, -, -, -, -, -, -, hr, hw⟩, -⟩ := hG.f p.2 (List.mem_map.2 ⟨p, hp, rfl⟩)
    obtain ⟨i1, i2⟩ := hB.i i hi
    constructor
    · intro x hx
      obtain ⟨q, hq, e⟩ := List.any_eq_true.1 ((hw x).1 hx)
      rw [← beq_iff_eq.1 e]
      exact i2 q hq
    · intro x hx
      obtain ⟨q, hq, e⟩ := List.any_eq_true.1 ((hr x).1 hx)
      simp only [Bool.and_eq_true, beq_iff_eq] at e
      rw [← e.1.1]
      exact i1 q hq
theorem BeI.len {ts : List Tv} {P : List (At × Ag)} (h : BeI ts P) : (alE P).length ≤ 4294967296 := by
  have h1 := h.a.len P
  have h2 : sumG (P.map (·.2)) * P.length ≤ 1048576 * 4096 := Nat.mul_le_mul h.s h.n
  exact Nat.le_trans h1 h2
theorem sumG_mem : ∀ {P : List (At × Ag)} {p : At × Ag}, p ∈ P → p.2.ws.length + p.2.rs.length ≤ sumG (P.map (·.2))
  | q :: P, p, h => by
    have e2 : sumG ((q :: P).map (·.2)) = (q.2.ws.length + q.2.rs.length) + sumG (P.map (·.2)) := by unfold sumG; simp
    rw [e2]
    rcases List.mem_cons.1 h with rfl | h
    · omega
    · have := sumG_mem h
      omega
theorem BeI.fl {ts : List Tv} {P : List (At × Ag)} (h : BeI ts P) : (fl P).length ≤ 1048576 := Nat.le_trans (fl_sum P) h.s
/-- The writers in memory. -/
def LO (w W : World) (g : List (At × Int)) : Prop := ∃ cnt f, LA W w.heap.size w.heap.size g cnt f ∧ Keeps (fun _ => False) w W
/-- .. beside an attempt's box. -/
def L1 (w W : World) (g : List (At × Int)) (bx : Nat) (t : At) : Prop := ∃ cnt f, LA W w.heap.size w.heap.size g cnt f ∧ CL W bx t.cells ∧ (∀ y u, f y = some u → u.ownBlock ≠ some bx) ∧ bx ≠ w.heap.size ∧ bx < W.heap.size ∧ Keeps (fun _ => False) w W
theorem LO.start (w : World) : LO w (w.alloc (.map #[] 0)) [] := ⟨0, _, LA.start w, (Keeps.refl _ w).alloc _⟩
theorem LO.keep {w W W' : World} {g : List (At × Int)} (h : LO w W g) (k : Keeps (fun _ => False) W W') : LO w W' g := by
  obtain ⟨cnt, f, h1, h2⟩ := h
  exact ⟨cnt, f, h1.keep k, h2.trans k⟩
theorem LO.look {w W : World} {g : List (At × Int)} (h : LO w W g) {x : Int} (hx : I64 x) : ∃ a cap, (Instr.lookup 55 (.map (some w.heap.size)) (.int .i64 x) false).run Try.prog W = .ok (.slice a (wrN g x).length cap) W ∧ ATM W a (wrN g x) := by
  obtain ⟨cnt, f, h1, h2⟩ := h
  exact h1.look hx
theorem LO.box {w W W' : World} {g : List (At × Int)} {t : At} (h : LO w W g) (k : Keeps (fun _ => False) W W') (hc : CL W' W.heap.size t.cells) : L1 w W' g W.heap.size t := by
  obtain ⟨cnt, f, h1, h2⟩ := h
  refine ⟨cnt, f, h1.keep k, hc, fun y u hu e => ?_, ?_, hc.lt (by show 0 < 5; decide), h2.trans k⟩
  · rcases h1.h y with ⟨e1, -⟩ | ⟨s, e1, ho⟩
    · rw [hu] at e1; cases e1
    · rw [hu] at e1
      cases e1
      have := owns_lt' ho _ e
      omega
  · have := h1.m.lt
    omega
theorem L1.out {w W : World} {g : List (At × Int)} {bx : Nat} {t : At} (h : L1 w W g bx t) : LO w W g := by
  obtain ⟨cnt, f, h1, -, -, -, -, h2⟩ := h
  exact ⟨cnt, f, h1, h2⟩
theorem L1.cl {w W : World} {g : List (At × Int)} {bx : Nat} {t : At} (h : L1 w W g bx t) : CL W bx t.cells ∧ Keeps (fun _ => False) w W := by
  obtain ⟨cnt, f, -, h1, -, -, -, h2⟩ := h
  exact ⟨h1, h2⟩
theorem L1.step {w W : World} {g : List (At × Int)} {bx : Nat} {t : At} (h : L1 w W g bx t) {x : Int} (hx : I64 x) (hg : g.length ≤ 1048576) :
    ∃ s a' n' c' W1 W2, (Instr.lookup 55 (.map (some w.heap.size)) (.int .i64 x) false).run Try.prog W = .ok s W ∧
      (Builtin.append_ #[41, 41] 41 #[s, .slice (some ⟨W.heap.size, 0, none⟩) 1 1]).run Try.prog (W.alloc (.cells t.cells.toArray 58)) = .ok (.slice a' n' c') W1 ∧
      (Instr.mapUpdate 55 (.map (some w.heap.size)) (.int .i64 x) (.slice a' n' c')).run Try.prog W1 = .ok () W2 ∧ L1 w W2 (g ++ [(t, x)]) bx t := by
  obtain ⟨cnt, f, h1, h2, h3, h4, h5, h6⟩ := h
  obtain ⟨s, a', c', W1, W2, cnt', f', q1, q2, q3, q4, q5, q6⟩ := h1.step t hx hg
  refine ⟨s, a', _, c', W1, W2, q1, q2, q3, cnt', f', q4, ?_, fun y u hu e => ?_, h4, Nat.lt_of_lt_of_le h5 q5.size, ?_⟩
  · refine h2.keep (by show 0 < 5; decide) q5 (fun e => ?_)
    rcases e with e | ⟨y, u, hu, e⟩
    · exact h4 e
    · exact h3 y u hu e
  · rcases q6 y u hu with ⟨y', u', hu', e'⟩ | e' | ⟨b, e', hb⟩
    · exact h3 y' u' hu' (by rw [← e']; exact e)
    · rw [e'] at e; cases e
    · rw [e'] at e
      injection e with e
      omega
  · refine h6.trans' q5 (fun _ _ e => e) (fun i hi e => ?_)
    rcases e with e | ⟨y, u, hu, e⟩
    · omega
    · rcases h1.h y with ⟨e1, -⟩ | ⟨s', e1, ho⟩
      · rw [hu] at e1; cases e1
      · rw [hu] at e1
        cases e1
        have := owns_baseT ho _ e
        omega
/-- The edges so far. -/
structure L2 (w2 W : World) (ev : Value) (E : List Ed) : Prop where
  o : W.ownsRow w2.heap.size 34 4 ev E.length (ecl E)
  k : Keeps (fun _ => False) w2 W
/-- .. beside an attempt's box. -/
structure L3 (w2 W : World) (ev : Value) (E : List Ed) (bx : Nat) (t : At) : Prop where
  l : L2 w2 W ev E
  c : CL W bx t.cells
  n : ev.ownBlock ≠ some bx
  b : bx < W.heap.size
theorem L2.box {w2 W W' : World} {ev : Value} {E : List Ed} {t : At} (h : L2 w2 W ev E) (k : Keeps (fun _ => False) W W') (hc : CL W' W.heap.size t.cells) : L3 w2 W' ev E W.heap.size t :=
  ⟨⟨k.owns h.o (fun _ _ e => e), h.k.trans k⟩, hc, (fun e => by have := owns_lt' h.o _ e; omega), hc.lt (by show 0 < 5; decide)⟩
theorem L3.step {w2 W W' : World} {ev src : Value} {E E2 : List Ed} {bx n base2 : Nat} {t : At} (h : L3 w2 W ev E bx t) (k : Keeps (fun _ => False) W W') (hs : W'.ownsRow base2 34 4 src n (ecl E2)) (hl : E.length + E2.length ≤ 4294967296) :
    ∃ v' W'', (Builtin.append_ #[23, 23] 23 #[ev, src]).run Try.prog W' = .ok v' W'' ∧ L3 w2 W'' v' (E ++ E2) bx t := by
  have hn := hs.1
  rw [ecl_len] at hn
  have hn : n = E2.length := by omega
  subst hn
  have ho := k.owns h.l.o (fun _ _ e => e)
  obtain ⟨v', W'', q1, q2, q3, q4⟩ := append_el ho hs (Nat.le_trans h.l.k.size k.size) (by omega)
  have hb := h.b
  have hz := k.size
  refine ⟨v', W'', q1, ⟨by rw [List.length_append]; exact q2, (h.l.k.trans k).trans' q3 (fun _ _ e => e) (fun i hi e => by have := owns_baseT ho i e; omega)⟩, (h.c.keep (by show 0 < 5; decide) k (fun e => e)).keep (by show 0 < 5; decide) q3 h.n, fun e => ?_, ?_⟩
  · rcases q4 with q | q
    · rw [q] at e; exact h.n e
    · rw [q] at e; injection e with e; omega
  · have := q3.size
    omega
def SoE : Prop := ∀ (w : World) (base n : Nat) (v : Value) (ls : List Ed), w.ownsRow base 34 4 v n (ecl ls) → n < 4611686018427387904 → Calls Try.prog 19 #[v, .func (.func 20) #[] #[]] w fun e w' => e = .returned (.tuple #[]) ∧ ∃ ms : List Ed, ls.Perm ms ∧ ms.Pairwise (fun x y => ¬ LtE y x) ∧ w'.ownsRow base 34 4 v n (ecl ms) ∧ Keeps (fun b => v.ownBlock = some b) w w'
/-- What between answers. -/
def BeP (w : World) (ts : List Tv) (e : Ending) (w' : World) : Prop := ∃ la ln lc l, e = .returned (.slice la ln lc) ∧ OE w.heap.size w' (.slice la ln lc) ln l ∧ SrtE l ∧ (∀ e, e ∈ l ↔ EdA ts e) ∧ Keeps (fun _ => False) w w'
theorem BeP.of {w w2 W W' : World} {ts : List Tv} {P : List (At × Ag)} {ev : Value} {ms : List Ed} (hI : BeI ts P) (k0 : Keeps (fun _ => False) w w2) (h : L2 w2 W ev (alE P)) (hp : (alE P).Perm ms) (hs : ms.Pairwise (fun x y => ¬ LtE y x)) (ho : W'.ownsRow w2.heap.size 34 4 ev (alE P).length (ecl ms)) (k : Keeps (fun b => ev.ownBlock = some b) W W') : BeP w ts (.returned ev) W' := by
  obtain ⟨a, c, rfl, -⟩ := own_slice ho
  refine ⟨a, _, c, ms, rfl, ⟨owns_low ho k0.size, hp.length_eq⟩, srt_of hs (hp.nodup_iff.1 hI.a.nodup), fun e => ?_, (k0.trans h.k).trans' k (fun _ _ e => e) (fun i hi e => by have := owns_baseT h.o i e; have := k0.size; omega)⟩
  rw [← hp.mem_iff, hI.m e, gaE_iff]
end Go.Proofs.Ythmlppepgcjfgaa
