import Derived.Test.YthchbcfecconbaaGreatDoorG19
import Derived.Test.YthchbcfecconbaaGreatDoorG03
namespace Go.Proofs.YthchbcfecconbaaGreatDoor
open Go.RowKit Go.Deep Go.ChangeShapes Go.WideShapes Go.ChangeAt
/-- Programs in memory: a list of lists. -/
def PLL (w : World) (a : Option Addr) (ps : List (List Ins)) : Prop := ∀ i p, ps[i]? = some p → ∃ b off ai ci, a = some ⟨b, off, none⟩ ∧ w.cell? ⟨b, off + i, none⟩ = some (.slice ai p.length ci) ∧ ISL w ai p
theorem PLL.keep {w w' : World} {a : Option Addr} {ps : List (List Ins)} (h : PLL w a ps) (k : Keeps (fun _ => False) w w') : PLL w' a ps := fun i p hp => by
  obtain ⟨b, off, ai, ci, e, hc, hI⟩ := h i p hp
  exact ⟨b, off, ai, ci, e, k.cell hc (fun e => e), hI.keep k⟩
/-- The first fault of programs. -/
def fcx : List (List Ins) → Int
  | [] => 0
  | p :: ps => if (chk p).1 = 0 then fcx ps else (chk p).1
theorem fcx_at : ∀ {ps : List (List Ins)} {k : Nat} {p : List Ins}, (∀ (j : Nat) (q : List Ins), j < k → ps[j]? = some q → (chk q).1 = 0) → ps[k]? = some p → ¬ (chk p).1 = 0 → fcx ps = (chk p).1
  | [], k, p, _, h, _ => by simp at h
  | q :: ps, 0, p, _, h, hp => by
    have h : q = p := by simpa using h
    subst h
    unfold fcx
    rw [if_neg hp]
  | q :: ps, k + 1, p, hj, h, hp => by
    unfold fcx
    rw [if_pos (hj 0 q (by omega) rfl)]
    exact fcx_at (k := k) (fun j r hjk hr => hj (j + 1) r (by omega) (by simpa using hr)) (by simpa using h) hp
theorem fcx_all : ∀ {ps : List (List Ins)}, (∀ (j : Nat) (q : List Ins), ps[j]? = some q → (chk q).1 = 0) → fcx ps = 0
  | [], _ => rfl
  | q :: ps, h => by
    unfold fcx
    rw [if_pos (h 0 q rfl)]
    exact fcx_all (fun j r hr => h (j + 1) r (by simpa using hr))
theorem fcx_zero : ∀ {ps : List (List Ins)}, fcx ps = 0 → ∀ (j : Nat) (q : List Ins), ps[j]? = some q → (chk q).1 = 0
  | [], _, j, q, h => by simp at h
  | p :: ps, h0, 0, q, h => by
    have h : p = q := by simpa using h
    subst h
    unfold fcx at h0
    split at h0
    · assumption
    · exact h0
  | p :: ps, h0, j + 1, q, h => by
    unfold fcx at h0
    split at h0
    · exact fcx_zero h0 j q (by simpa using h)
    · rename_i hne
      exact absurd h0 hne
/-- What the objects hold behind the first k programs. -/
def obA (ps : List (List Ins)) (os : List Int) (f : Nat) : Nat → List Int
  | 0 => os
  | k + 1 => lft (obA ps os f k) (gor (ps.getD k []) (obA ps os f k) [] f 0 rs0).1 (obA ps os f k).length
/-- Where the k-th program's run ends. -/
def grA (ps : List (List Ins)) (os : List Int) (f k : Nat) : Rs × Nat := gor (ps.getD k []) (obA ps os f k) [] f 0 rs0
theorem obA_len (ps : List (List Ins)) (os : List Int) (f : Nat) : ∀ k, (obA ps os f k).length = os.length
  | 0 => rfl
  | k + 1 => by
    unfold obA
    rw [lft_len]
    exact obA_len ps os f k
theorem gor_r64 {l : List Ins} {os : List Int} (h16 : os.length ≤ 16) (hos : ∀ i, In64 (os.getD i 0)) (hcan : ∀ p, p < l.length → (l.getD p ins0).can l.length = true) (hqs : ∀ p, p < l.length → In64 (l.getD p ins0).xN ∧ In64 (l.getD p ins0).yN) : ∀ (f c : Nat) (s : Rs), R64 s → (s.oc = 0 → 0 ≤ s.pl ∧ s.pl ≤ l.length) → R64 (gor l os [] f c s).1
  | 0, _, _, h, _ => h
  | f + 1, c, s, h, hp => by
    unfold gor
    split
    · rename_i h0
      have hp' := hp h0
      refine gor_r64 h16 hos hcan hqs f (c + 1) _ (h.stp h16 hos (fun i => by simp [In64]) (atI_can hcan (p := s.pl.toNat) (by omega)) ?_) (fun h1 => mstp_in os [] hcan hp' h1)
      unfold atI
      split
      · exact ⟨in64_zero, in64_zero⟩
      · exact hqs _ (by omega)
    · exact h
theorem lft_in64 {os : List Int} {s : Rs} (h16 : os.length ≤ 16) (hos : ∀ i, In64 (os.getD i 0)) (h : R64 s) (k : Nat) : ∀ i, In64 ((lft os s k).getD i 0) := fun i => by
  by_cases hi : i < os.length
  · unfold lft
    rw [List.getD_eq_getElem?_getD, List.getElem?_map, List.getElem?_range hi]
    show In64 (if i < k ∧ s.oc = 1 ∧ s.st i = 2 then s.nm i else os.getD i 0)
    split
    · exact h.n i (by omega)
    · exact hos i
  · rw [List.getD_eq_getElem?_getD, List.getElem?_eq_none (by rw [lft_len]; omega)]
    exact in64_zero
theorem obA_in64 {ps : List (List Ins)} {os : List Int} {f : Nat} (h16 : os.length ≤ 16) (hos : ∀ i, In64 (os.getD i 0)) (hz : fcx ps = 0) (hqs : ∀ p ∈ ps, ∀ i, i < p.length → In64 (p.getD i ins0).xN ∧ In64 (p.getD i ins0).yN) : ∀ k, k ≤ ps.length → ∀ i, In64 ((obA ps os f k).getD i 0)
  | 0, _ => hos
  | k + 1, hk => by
    have ih := obA_in64 (f := f) h16 hos hz hqs k (by omega)
    have hl := obA_len ps os f k
    unfold obA
    have he : ps[k]? = some (ps.getD k []) := by rw [List.getD_eq_getElem?_getD, List.getElem?_eq_getElem (by omega)]; rfl
    have hc := chk_ok (fcx_zero hz k _ he)
    have hm : ps.getD k [] ∈ ps := List.mem_of_getElem? he
    exact lft_in64 (by omega) ih (gor_r64 (by omega) ih hc.2 (hqs _ hm) f 0 rs0 R64.start (fun _ => by show (0 : Int) ≤ 0 ∧ (0 : Int) ≤ _; omega)) _
/-- The cells of the first k answers. -/
def alc (F : Nat → Rs × Nat) (S : Nat → Value) (k : Nat) : List Value := (List.range k).flatMap fun i => [.int .i64 (F i).1.oc, .int .i64 (F i).1.rs, S i, .int .i64 ((F i).2 : Int)]
theorem alc_succ (F : Nat → Rs × Nat) (S : Nat → Value) (k : Nat) : alc F S (k + 1) = alc F S k ++ [.int .i64 (F k).1.oc, .int .i64 (F k).1.rs, S k, .int .i64 ((F k).2 : Int)] := by
  unfold alc
  rw [List.range_succ, List.flatMap_append]
  rfl
theorem alc_len (F : Nat → Rs × Nat) (S : Nat → Value) : ∀ k, (alc F S k).length = k * 4
  | 0 => rfl
  | k + 1 => by
    rw [alc_succ, List.length_append, alc_len F S k]
    show k * 4 + 4 = (k + 1) * 4
    omega
theorem alc_get (F : Nat → Rs × Nat) (S : Nat → Value) {i : Nat} : ∀ {k : Nat}, i < k → ∀ j u, ([.int .i64 (F i).1.oc, .int .i64 (F i).1.rs, S i, .int .i64 ((F i).2 : Int)] : List Value)[j]? = some u → (alc F S k)[i * 4 + j]? = some u
  | 0, h, _, _, _ => by omega
  | k + 1, h, j, u, e => by
    have hj : j < 4 := (List.getElem?_eq_some_iff.1 e).1
    rw [alc_succ]
    by_cases hk : i = k
    · subst hk
      rw [List.getElem?_append_right (by rw [alc_len]; omega), alc_len, show i * 4 + j - i * 4 = j by omega]
      exact e
    · rw [List.getElem?_append_left (by rw [alc_len]; omega)]
      exact alc_get F S (by omega) j u e
theorem alc_congr {F : Nat → Rs × Nat} {S T : Nat → Value} : ∀ {k : Nat}, (∀ i, i < k → S i = T i) → alc F S k = alc F T k
  | 0, _ => rfl
  | k + 1, h => by
    rw [alc_succ, alc_succ, alc_congr (fun i hi => h i (by omega)), h k (by omega)]
theorem al0 : (Tryz.prog.info? 31).map (fun i => (i.zero, i.size, i.bytes)) = some (some (.agg #[.int .i64 0, .int .i64 0, .slice none 0 0, .int .i64 0]), 4, 48) := by kernel_rfl
theorem ali : ∃ i, Tryz.prog.info? 31 = some i ∧ i.zero = some (.agg #[.int .i64 0, .int .i64 0, .slice none 0 0, .int .i64 0]) ∧ i.size = 4 ∧ i.bytes = 48 := by
  have h := al0
  cases hq : Tryz.prog.info? 31 with
  | none => rw [hq] at h; cases h
  | some i =>
    rw [hq] at h
    injection h with h
    injection h with h1 h2
    injection h2 with h2 h3
    exact ⟨i, rfl, h1, h2, h3⟩
theorem aI : Tryz.prog.underlying 46 = some (.slice 31) := by kernel_rfl
/-- An answer behind a list of the call's own. -/
theorem append_al {W : World} {base k : Nat} {v : Value} {xs : List Value} (hown : W.ownsRow base 31 4 v k xs) (hb : base ≤ W.heap.size) (hk : (k + 1) * 48 ≤ 140737488355328) (q : List Value) (hq : q.length = 4) (h1 : ∀ u ∈ q, u.oneCell' = true) :
    ∃ v' w', (Builtin.append_ #[46, 46] 46 #[v, .slice (some ⟨W.heap.size, 0, none⟩) 1 1]).run Tryz.prog (W.alloc (.cells q.toArray 31)) = .ok v' w' ∧ w'.ownsRow base 31 4 v' (k + 1) (xs ++ q) ∧ Keeps (fun i => v.ownBlock = some i) W w' ∧ (v'.ownBlock = v.ownBlock ∨ v'.ownBlock = some (W.heap.size + 1)) := by
  obtain ⟨i0, hi0, hz0, hz1, hz2⟩ := ali
  obtain ⟨v', w', hr, ho, hg, _, hbl⟩ := run_append_own_at (P := Tryz.prog) (w := W.alloc (.cells q.toArray 31)) base 46 46 31 i0 _ 4 48 aI hi0 hz0 hz1 hz2 rfl (by decide) v k xs (((Keeps.refl (fun _ => False) W).alloc _).owns hown (fun _ _ e => e)) ⟨W.heap.size, 0, none⟩ 1 1 q (by omega) (fun j u hu => by
      rw [add_at]
      have := (CL.made W q 31).c j u hu
      simpa using this) h1 (by unfold maxLen; omega) (by omega) (Nat.le_trans hb (by simp))
  exact ⟨v', w', hr, ho, ((Keeps.refl _ W).alloc _).grown hg (fun i _ e => e), by simpa using hbl⟩
/-- The answers of the first k programs, in memory. -/
structure SA (base : Nat) (W : World) (v : Value) (k n : Nat) (F : Nat → Rs × Nat) (O : Nat → List Int) (B : Nat → Nat) : Prop where
  o : W.ownsRow base 31 4 v k (alc F (fun i => .slice (some ⟨B i, 0, none⟩) n n) k)
  c : ∀ i, i < k → CL W (B i) (nvs (O (i + 1)))
  b : ∀ i, i < k → base ≤ B i ∧ B i < W.heap.size ∧ v.ownBlock ≠ some (B i)
  d : ∀ i j, i < j → j < k → B i ≠ B j
theorem SA.keep {base k n : Nat} {W W' : World} {v : Value} {F : Nat → Rs × Nat} {O : Nat → List Int} {B : Nat → Nat} (h : SA base W v k n F O B) (kk : Keeps (fun _ => False) W W') : SA base W' v k n F O B :=
  ⟨kk.owns h.o (fun _ _ e => e), fun i hi => (h.c i hi).keep0 kk (fun _ e => e), fun i hi => ⟨(h.b i hi).1, Nat.lt_of_lt_of_le (h.b i hi).2.1 kk.size, (h.b i hi).2.2⟩, h.d⟩
theorem SA.next {base k n b : Nat} {W W1 : World} {v : Value} {F : Nat → Rs × Nat} {O : Nat → List Int} {B : Nat → Nat} (h : SA base W v k n F O B) (hb0 : base ≤ W.heap.size) (k1 : Keeps (fun _ => False) W W1) (hb : W.heap.size ≤ b) (hb1 : b < W1.heap.size) (hC : CL W1 b (nvs (O (k + 1)))) (hk : (k + 1) * 48 ≤ 140737488355328) :
    ∃ v' w', (Builtin.append_ #[46, 46] 46 #[v, .slice (some ⟨W1.heap.size, 0, none⟩) 1 1]).run Tryz.prog (W1.alloc (.cells #[.int .i64 (F k).1.oc, .int .i64 (F k).1.rs, .slice (some ⟨b, 0, none⟩) n n, .int .i64 ((F k).2 : Int)] 31)) = .ok v' w' ∧ SA base w' v' (k + 1) n F O (fun i => if i = k then b else B i) ∧ Keeps (fun i => v.ownBlock = some i) W1 w' := by
  have h1 := h.keep k1
  obtain ⟨v', w', hr, ho, kk, hbl⟩ := append_al h1.o (Nat.le_trans hb0 k1.size) hk [.int .i64 (F k).1.oc, .int .i64 (F k).1.rs, .slice (some ⟨b, 0, none⟩) n n, .int .i64 ((F k).2 : Int)] rfl (fun u hu => by
    simp at hu
    rcases hu with rfl | rfl | rfl | rfl <;> rfl)
  have hvb : v.ownBlock ≠ some b := fun e => by have := owns_lt' h.o b e; omega
  refine ⟨v', w', hr, ⟨?_, fun i hi => ?_, fun i hi => ?_, fun i j hij hj => ?_⟩, kk⟩
  · rw [alc_succ, if_pos rfl, alc_congr (T := fun i => .slice (some ⟨B i, 0, none⟩) n n) (fun i hi => by rw [if_neg (by omega)])]
    exact ho
  · by_cases e : i = k
    · subst e
      rw [if_pos rfl]
      exact hC.keep0 kk (fun _ => hvb)
    · rw [if_neg e]
      exact (h1.c i (by omega)).keep0 kk (fun _ => (h1.b i (by omega)).2.2)
  · have hs := kk.size
    by_cases e : i = k
    · subst e
      rw [if_pos rfl]
      refine ⟨by omega, by omega, fun e => ?_⟩
      rcases hbl with hb' | hb'
      · exact hvb (hb' ▸ e)
      · rw [hb'] at e; injection e with e; omega
    · rw [if_neg e]
      have := h1.b i (by omega)
      refine ⟨this.1, by omega, fun e => ?_⟩
      rcases hbl with hb' | hb'
      · exact this.2.2 (hb' ▸ e)
      · rw [hb'] at e; injection e with e; omega
  · by_cases e : j = k
    · subst e
      rw [if_pos rfl, if_neg (by omega)]
      have := (h.b i (by omega)).2.1
      omega
    · rw [if_neg e, if_neg (by omega)]
      exact h.d i j hij (by omega)
end Go.Proofs.YthchbcfecconbaaGreatDoor
