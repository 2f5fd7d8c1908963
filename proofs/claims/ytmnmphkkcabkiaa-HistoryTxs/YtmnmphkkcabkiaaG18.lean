import Derived.Test.YtmnmphkkcabkiaaG17
namespace Go.Proofs.Ytmnmphkkcabkiaa
open Go.RowKit
structure TvI (t : Tv) : Prop where
  s : ∀ s ∈ t.saws, s.rel = false ∧ I64 s.entry
  i : Inc t.wrs
  w : ∀ x ∈ t.wrs, I64 x.object
theorem TvI.add {t : Tv} (h : TvI t) {r : Rw} (h1 : I64 r.object) (h2 : I64 r.entry) : TvI (addD t r) := by
  have a1 : TvI (addF t r) := by
    unfold addF
    split
    · exact ⟨h.s, h.i, h.w⟩
    · exact h
  have a2 : TvI (addE (addF t r) r) := by
    unfold addE
    split
    · exact a1
    · exact ⟨a1.s, a1.i, a1.w⟩
  have a3 : TvI (addS (addE (addF t r) r) r) := by
    generalize addE (addF t r) r = u at a2 ⊢
    unfold addS
    split
    · refine ⟨fun s hs => ?_, a2.i, a2.w⟩
      rcases List.mem_append.1 hs with h | h
      · exact a2.s s h
      · rw [List.mem_singleton.1 h]
        exact ⟨rfl, h2⟩
    · exact a2
  unfold addD
  generalize addS (addE (addF t r) r) r = u at a3 ⊢
  unfold addW
  split
  · refine ⟨a3.s, ?_, fun x hx => ?_⟩
    · show Inc (putD u.wrs (wroD r))
      rw [putD_ins a3.i]
      exact a3.i.ins
    · have hx : x ∈ putD u.wrs (wroD r) := hx
      rw [putD_ins a3.i] at hx
      rcases mem_ins hx with h | h
      · rw [h]
        exact h1
      · exact a3.w x h
  · exact a3
theorem TvI.beg (r : Rw) (st : Int) : TvI (begD r st) := ⟨fun s hs => (by simp [begD] at hs), List.Pairwise.nil, fun s hs => (by simp [begD] at hs)⟩
theorem tvi_inv {l : List Rw} (h : fstP l 0 (f0 6) = none) (hi64 : ∀ k, k < l.length → I64 (l.getD k rw0).object ∧ I64 (l.getD k rw0).entry) : ∀ k, k ≤ l.length → ∀ i, i < (txK l k).1.length → TvI ((txK l k).1.getD i tv0)
  | 0, _, i, hi => absurd hi (Nat.not_lt_zero _)
  | k + 1, hk, i, hi => by
    have ih := tvi_inv h hi64 k (by omega)
    have hst := hi64 k (by omega)
    have hi' : i < (stT (txK l k) (l.getD k rw0)).1.length := hi
    show TvI ((stT (txK l k) (l.getD k rw0)).1.getD i tv0)
    generalize l.getD k rw0 = r at *
    generalize txK l k = s at *
    rw [stT_len] at hi'
    unfold beg1 at hi'
    unfold stT
    have app : ∀ st, i < s.1.length + 1 → TvI ((s.1 ++ [begD r st]).getD i tv0) := fun st hi => by
      by_cases e : i = s.1.length
      · subst e
        rw [getD_app_right]
        exact TvI.beg r st
      · rw [getD_app_left (by omega)]
        exact ih i (by omega)
    by_cases h1 : r.kind = 1
    · rw [if_pos (.inl h1)] at hi'
      rw [if_pos h1]
      exact app _ hi'
    rw [if_neg h1]
    by_cases h2 : r.kind = 2
    · rw [if_pos (.inr h2)] at hi'
      rw [if_pos h2]
      exact app _ hi'
    rw [if_neg (show ¬ (r.kind = 1 ∨ r.kind = 2) by omega)] at hi'
    rw [if_neg h2]
    by_cases hof : ofD r.kind = true
    · rw [if_pos hof]
      dsimp only
      by_cases e : i = (r.no - 1).toNat
      · subst e
        rw [getD_set_eq (by omega)]
        exact (ih _ (by omega)).add hst.1 hst.2
      · rw [getD_set_ne e]
        exact ih i (by omega)
    · rw [if_neg hof]
      exact ih i (by omega)
theorem telG_relG {c : Int → Nat} {s : Sw} (h : s.rel = false) : telG c s = relG c s := by
  unfold telG relG
  by_cases hc : 0 < c s.entry
  · rw [if_pos hc, decide_eq_true hc]
  · rw [if_neg hc, decide_eq_false hc, ← h]
def telT (t : Tv) (c : Int → Nat) : Tv := { t with saws := t.saws.map (telG c) }
def telL (T : Nat → Tv) (c : Nat → Int → Nat) (n : Nat) : List Tv := (List.range n).map (fun i => telT (T i) (c i))
theorem telL_len (T : Nat → Tv) (c : Nat → Int → Nat) (n : Nat) : (telL T c n).length = n := by unfold telL; simp
theorem telL_get {T : Nat → Tv} {c : Nat → Int → Nat} {n i : Nat} (hi : i < n) : (telL T c n).getD i tv0 = telT (T i) (c i) := by
  unfold telL
  rw [List.getD_eq_getElem?_getD, List.getElem?_map, List.getElem?_range hi]
  rfl
theorem rel_entry {l : List Rw} (h : fstP l 0 (f0 6) = none) (k : Nat) (hk : k < l.length) (h4 : (l.getD k rw0).kind = 4) : -1 ≤ (l.getD k rw0).entry := fit_rel (row_ok h hk).2 h4
theorem telL_txD {l : List Rw} (h : fstP l 0 (f0 6) = none) (hi64 : ∀ k, k < l.length → I64 (l.getD k rw0).object ∧ I64 (l.getD k rw0).entry) : telL (fun i => (txK l l.length).1.getD i tv0) (cK l l.length) (txK l l.length).1.length = txD l := by
  have hlen : (txD l).length = (txK l l.length).1.length := rlK_len _ _ _
  refine List.ext_getElem (by rw [telL_len, hlen]) (fun i h1 h2 => ?_)
  rw [telL_len] at h1
  have e1 : (telL (fun i => (txK l l.length).1.getD i tv0) (cK l l.length) (txK l l.length).1.length)[i]'(by rw [telL_len]; exact h1) = (telL (fun i => (txK l l.length).1.getD i tv0) (cK l l.length) (txK l l.length).1.length).getD i tv0 := by
    rw [List.getD_eq_getElem?_getD, List.getElem?_eq_getElem (by rw [telL_len]; exact h1)]; rfl
  have e2 : (txD l)[i] = (txD l).getD i tv0 := by rw [List.getD_eq_getElem?_getD, List.getElem?_eq_getElem h2]; rfl
  rw [e1, e2, telL_get h1]
  have e3 : (txD l).getD i tv0 = _ := rlK_saws (ts := (txK l l.length).1) (n := l.length) (fun k hk h4 => rel_entry h k hk h4) l.length (Nat.le_refl _) i h1
  rw [e3]
  have hT := tvi_inv h hi64 l.length (Nat.le_refl _) i h1
  unfold telT
  rw [List.map_congr_left (fun s hs => telG_relG (hT.s s hs).1)]
end Go.Proofs.Ytmnmphkkcabkiaa

namespace Go.Proofs.Ytmnmphkkcabkiaa
open Go.RowKit
structure TT (base N0 : Nat) (W : World) (k n : Nat) (pv : Value) (pb : Nat → Nat) (T : Nat → Tv) (sv : Nat → Value) (wb rb : Nat → Nat) (c : Nat → Int → Nat) (m : Nat) (lv : Value) (wv : Nat → Value) (τ : Nat → Nat) : Prop where
  o : W.ownsRow N0 42 11 lv k (gcl (fun i => (T i).cells (sv i) (wv i)) k)
  s : ∀ i, i < k → W.ownsRow base 44 9 (sv i) (T i).saws.length (scl ((T i).saws.map (telG (c i))))
  w : ∀ i, i < k → W.ownsRow N0 46 4 (wv i) (T i).wrs.length (wcl (T i).wrs)
  a : ∀ i, k ≤ i → i < n → PA base W (pb i) (T i) (sv i) (wb i) (rb i) (c i) m
  p : W.ownsRow base 71 1 pv n (pcl pb n)
  t0 : ∀ b, lv.ownBlock = some b → τ b = 1
  tw : ∀ i, i < k → ∀ b, (wv i).ownBlock = some b → τ b = 3 + 2 * i
  n0 : N0 ≤ W.heap.size
theorem TT.start {base n m : Nat} {X : World} {pv : Value} {pb wb rb : Nat → Nat} {T : Nat → Tv} {sv : Nat → Value} {c : Nat → Int → Nat} {ρ : Nat → Nat} (h : AT base X pv n pb T sv wb rb c ρ m) : TT base X.heap.size X 0 n pv pb T sv wb rb c m (.slice none 0 0) (fun _ => nilv) (fun _ => 0) :=
  ⟨World.ownsRow_nil _ _ _ _, fun i hi => by omega, fun i hi => by omega, fun i _ hi => h.a i hi, h.o, (fun b e => by cases e), fun i hi => by omega, Nat.le_refl _⟩
theorem TT.next {base n m k : Nat} {X W W1 : World} {pv lv wk : Value} {pb wb rb : Nat → Nat} {T : Nat → Tv} {sv wv : Nat → Value} {c : Nat → Int → Nat} {ρ τ : Nat → Nat} (hX : AT base X pv n pb T sv wb rb c ρ m) (h : TT base X.heap.size W k n pv pb T sv wb rb c m lv wv τ) (hk : k < n)
    (hs1 : W1.ownsRow base 44 9 (sv k) (T k).saws.length (scl ((T k).saws.map (telG (c k))))) (hw1 : W1.ownsRow W.heap.size 46 4 wk (T k).wrs.length (wcl (T k).wrs)) (k1 : Keeps (fun b => (sv k).ownBlock = some b) W W1) (hB : (k + 1) * 120 ≤ 140737488355328) :
    ∃ lv' W2, (Builtin.append_ #[35, 35] 35 #[lv, .slice (some ⟨W1.heap.size, 0, none⟩) 1 1]).run Try.prog (W1.alloc (.cells ((T k).cells (sv k) wk).toArray 42)) = .ok lv' W2 ∧
      TT base X.heap.size W2 (k + 1) n pv pb T sv wb rb c m lv' (fun i => if i = k then wk else wv i) (fun b => if b < W.heap.size then τ b else if wk.ownBlock = some b then 3 + 2 * k else 1) ∧ Keeps (fun b => base ≤ b) W W2 := by
  have lsv : ∀ i, i < n → ∀ b, (sv i).ownBlock = some b → b < X.heap.size := fun i hi b e => owns_lt' (hX.a i hi).s b e
  have lpb : ∀ i, i < n → pb i < X.heap.size := fun i hi => (hX.a i hi).cl.lt (by show 0 < 13; decide)
  have lwb : ∀ i, i < n → wb i < X.heap.size := fun i hi => (hX.a i hi).w.lt
  have lrb : ∀ i, i < n → rb i < X.heap.size := fun i hi => by obtain ⟨_, _, h2⟩ := (hX.a i hi).r; exact h2.lt
  have lpv : ∀ b, pv.ownBlock = some b → b < X.heap.size := fun b e => owns_lt' hX.o b e
  have n0 := h.n0
  have z1 := k1.size
  have hS : ∀ b, (sv k).ownBlock = some b → ρ b = 5 + 4 * k := hX.rs k hk
  have o1 := k1.owns h.o (fun b e1 e2 => by have := owns_baseT h.o b e1; have := lsv k hk b e2; omega)
  have s1 : ∀ i, i < k → W1.ownsRow base 44 9 (sv i) (T i).saws.length (scl ((T i).saws.map (telG (c i)))) := fun i hi => k1.owns (h.s i hi) (fun b e1 e2 => by have := hX.rs i (by omega) b e1; have := hS b e2; omega)
  have w1 : ∀ i, i < k → W1.ownsRow X.heap.size 46 4 (wv i) (T i).wrs.length (wcl (T i).wrs) := fun i hi => k1.owns (h.w i hi) (fun b e1 e2 => by have := owns_baseT (h.w i hi) b e1; have := lsv k hk b e2; omega)
  have a1 : ∀ i, k + 1 ≤ i → i < n → PA base W1 (pb i) (T i) (sv i) (wb i) (rb i) (c i) m := fun i hi hn => (h.a i (by omega) hn).keep k1 (fun e => by have := hX.rp i hn; have := hS _ e; omega) (fun e => by have := hX.rw i hn; have := hS _ e; omega) (fun e => by have := hX.rr i hn; have := hS _ e; omega) (fun b e1 e2 => by have := hX.rs i hn b e1; have := hS b e2; omega)
  have p1 := k1.owns h.p (fun b e1 e2 => by have := hX.r0 b e1; have := hS b e2; omega)
  obtain ⟨asl, csl, es, -⟩ := own_slice hs1
  obtain ⟨awl, cwl, ew, -⟩ := own_slice hw1
  obtain ⟨lv', W2, hr, ho, kk, hbl⟩ := append_sz uTx iTxs rfl (by decide) o1 (Nat.le_trans n0 z1) (by decide) hB ((T k).cells (sv k) wk) rfl (fun u hu => by
    rw [es, ew] at hu
    unfold Tv.cells at hu
    simp at hu
    rcases hu with rfl | rfl | rfl | rfl | rfl | rfl | rfl | rfl | rfl | rfl | rfl <;> rfl)
  have lb : ∀ b, lv.ownBlock = some b → X.heap.size ≤ b ∧ b < W.heap.size := fun b e => ⟨owns_baseT h.o b e, owns_lt' h.o b e⟩
  have bX := hX.bb
  refine ⟨lv', W2, hr, ⟨?_, fun i hi => ?_, fun i hi => ?_, fun i hi hn => ?_, ?_, fun b e => ?_, fun i hi b e => ?_, Nat.le_trans (Nat.le_trans n0 z1) kk.size⟩, k1.trans' kk (fun b _ e => ?_) (fun b _ e => ?_)⟩
  · rw [gcl_succ, if_pos rfl, gcl_congr (d := fun i => (T i).cells (sv i) (wv i)) (fun i hi => by rw [if_neg (by omega)])]
    exact ho
  · by_cases e : i = k
    · subst e
      exact kk.owns hs1 (fun b e1 e2 => by have := lsv i hk b e1; have := lb b e2; omega)
    · exact kk.owns (s1 i (by omega)) (fun b e1 e2 => by have := lsv i (by omega) b e1; have := lb b e2; omega)
  · by_cases e : i = k
    · subst e
      rw [if_pos rfl]
      exact kk.owns (owns_low hw1 n0) (fun b e1 e2 => by have := owns_baseT hw1 b e1; have := lb b e2; omega)
    · rw [if_neg e]
      exact kk.owns (w1 i (by omega)) (fun b e1 e2 => by have := h.tw i (by omega) b e1; have := h.t0 b e2; omega)
  · exact (a1 i hi hn).keep kk (fun e => by have := lpb i hn; have := lb _ e; omega) (fun e => by have := lwb i hn; have := lb _ e; omega) (fun e => by have := lrb i hn; have := lb _ e; omega) (fun b e1 e2 => by have := lsv i hn b e1; have := lb b e2; omega)
  · exact kk.owns p1 (fun b e1 e2 => by have := lpv b e1; have := lb b e2; omega)
  · rcases hbl with hb | hb
    · rw [hb] at e
      rw [if_pos (lb b e).2]
      exact h.t0 b e
    · rw [hb] at e
      have e := Option.some.inj e
      rw [if_neg (by omega), if_neg (fun e' => by have := owns_lt' hw1 b e'; omega)]
  · by_cases e' : i = k
    · subst e'
      rw [if_pos rfl] at e
      have := owns_baseT hw1 b e
      rw [if_neg (by omega), if_pos e]
    · rw [if_neg e'] at e
      rw [if_pos (owns_lt' (h.w i (by omega)) b e)]
      exact h.tw i (by omega) b e
  · exact owns_baseT (hX.a k hk).s b e
  · have := lb b e
    show base ≤ b
    omega
theorem TT.done {base n m : Nat} {X W : World} {pv lv : Value} {pb wb rb : Nat → Nat} {T : Nat → Tv} {sv wv : Nat → Value} {c : Nat → Int → Nat} {ρ τ : Nat → Nat} (hX : AT base X pv n pb T sv wb rb c ρ m) (h : TT base X.heap.size W n n pv pb T sv wb rb c m lv wv τ) :
    TL base W lv (telL T c n) sv wv (fun b => if b < X.heap.size then (ρ b - 1) / 2 else τ b) m := by
  have hl := telL_len T c n
  have bX := hX.bb
  refine ⟨?_, fun i hi => ?_, fun i hi => ?_, fun b e => ?_, fun i hi b e => ?_, fun i hi b e => ?_, fun i hi => ?_, Nat.le_trans bX h.n0⟩
  · unfold tcl
    rw [hl, gcl_congr (d := fun i => (T i).cells (sv i) (wv i)) (fun i hi => by rw [telL_get hi]; rfl)]
    exact owns_low h.o bX
  · rw [hl] at hi
    rw [telL_get hi]
    unfold telT
    dsimp only
    rw [List.length_map]
    exact h.s i hi
  · rw [hl] at hi
    rw [telL_get hi]
    exact owns_low (h.w i hi) bX
  · rw [if_neg (by have := owns_baseT h.o b e; omega)]
    exact h.t0 b e
  · rw [hl] at hi
    rw [if_pos (owns_lt' (hX.a i hi).s b e), hX.rs i hi b e]
    omega
  · rw [hl] at hi
    rw [if_neg (by have := owns_baseT (h.w i hi) b e; omega)]
    exact h.tw i hi b e
  · rw [hl] at hi
    rw [telL_get hi]
    unfold telT
    dsimp only
    rw [List.length_map]
    exact (hX.a i hi).ls
end Go.Proofs.Ytmnmphkkcabkiaa

namespace Go.Proofs.Ytmnmphkkcabkiaa
open Go.RowKit
attribute [local go_sem] Oper.semAt_some run_store_nf run_store_f
set_option maxHeartbeats 1000000 in
set_option maxRecDepth 100000 in
theorem txs_no {w : World} {a : Option Addr} {cap i : Nat} {l : List Rw} (hl : RSL w a l) (hlen : l.length ≤ 980000000000) (hf : fstP l 0 (f0 6) = some i) : Calls Try.prog 12 #[.slice a l.length cap] w fun e w' => e = .returned (.tuple #[.slice none 0 0, .int .i64 150]) ∧ Keeps (fun _ => False) w w' := by
  have hck := check_any (cap := cap) hl (by omega)
  rw [hf] at hck
  unfold ansP at hck
  dsimp only at hck
  clear hl hf
  generalize l.length = N at *
  go_enter Try.func12, Try.ntmps12
  go_wp2_with (go_at_call 23; refine hck.mono ?_; clear hck; rintro e w1 ⟨rfl, k1⟩)
  go_ret2
  exact ⟨rfl, k1⟩
theorem wpList_buildTx {ops : Array Oper} {rest : List Oper} {o : Oper} {a : Act} {w : World} {Q : Exit → Act → World → Prop} (hg : o.guard = none) (x : Operand) (ho : o.op = .buildSlice 35 1 #[(0, x)]) (cs : Array Value) (hc : cs.size = 11) (hx : a.eval x = .agg cs)
    (h : wpList Try.prog ops Q rest (a.put o.dst (.slice (some ⟨w.heap.size, 0, none⟩) 1 1)) (w.alloc (.cells cs 42))) : wpList Try.prog ops Q (o :: rest) a w :=
  wpList_plain hg fun _ hK => wp_buildTx x ho cs hc hx (hK _ _ h)
theorem pcl_cell {pb : Nat → Nat} {n i : Nat} (h : i < n) : (pcl pb n)[i]? = some (.pointer (some ⟨pb i, 0, none⟩)) := by
  unfold pcl
  rw [List.getElem?_map, List.getElem?_range h]
  rfl
set_option maxHeartbeats 1000000 in
set_option maxRecDepth 100000 in
theorem txs_ok {w : World} {a : Option Addr} {cap : Nat} {l : List Rw} (hN0 : SortNone) (hl : RSL w a l) (hlen : l.length ≤ 980000000000) (hf : fstP l 0 (f0 6) = none) (hi64 : ∀ k, k < l.length → I64 (l.getD k rw0).object ∧ I64 (l.getD k rw0).entry) : Calls Try.prog 12 #[.slice a l.length cap] w fun e w' => ∃ base lv sv wv ρ, e = .returned (.tuple #[lv, .int .i64 0]) ∧ w.heap.size ≤ base ∧ TL base w' lv (txD l) sv wv ρ l.length ∧ Keeps (fun _ => False) w w' := by
  have hck := check_any (cap := cap) hl (by omega)
  rw [hf] at hck
  unfold ansP at hck
  dsimp only at hck
  have HTV := tvi_inv hf hi64 l.length (Nat.le_refl _)
  have HAT : Hid (∀ W, Keeps (fun _ => False) w W → Calls Try.prog 24 #[.slice a l.length cap] W fun e w' => ∃ lv pb sv wb rb ρ, e = .returned lv ∧ AT (W.heap.size + 1) w' lv (txK l l.length).1.length pb (fun i => (txK l l.length).1.getD i tv0) sv wb rb (cK l l.length) ρ l.length ∧ Keeps (fun _ => False) W w') := fun W k => attempts_any (hl.keep k) rfl hlen hf hi64
  have hTD := telL_txD hf hi64
  have hle := txK_le l l.length
  clear hl hf hi64
  generalize txD l = TD at *
  generalize cK l l.length = cc at *
  generalize (txK l l.length).1.length = n at *
  generalize hTT : (fun i => (txK l l.length).1.getD i tv0) = T at *
  have HTI : Hid (∀ i, i < n → TvI (T i)) := fun i hi => by rw [← hTT]; exact HTV i hi
  clear HTV hTT
  generalize l.length = N at *
  have HTD : Hid (telL T cc n = TD) := hTD
  clear hTD
  go_enter Try.func12, Try.ntmps12
  go_wp2_with (first | (go_at_call 23; refine hck.mono ?_; clear hck; rintro e w1 ⟨rfl, k1⟩) | (go_at_call 24; refine (HAT.out w1 k1).mono ?_; clear HAT; rintro e X ⟨pv, pb, sv, wb, rb, ρ, rfl, hX, kX⟩; obtain ⟨ap, cp, rfl, hpc, -⟩ := own_slice hX.o))
  have kwX := k1.trans kX
  have HX : Hid (AT (w1.heap.size + 1) X (.slice ap n cp) n pb T sv wb rb cc ρ N) := hX
  have z1 := k1.size
  clear hX hpc k1 kX
  go_loopw [6, 20] (fun lv kv Wr => ∃ (k : Nat) (wv : Nat → Value) (τ : Nat → Nat), kv = .int .i64 (k : Int) ∧ k ≤ n ∧ TT (w1.heap.size + 1) X.heap.size Wr k n (.slice ap n cp) pb T sv wb rb cc N lv wv τ ∧ Keeps (fun _ => False) w Wr) (fun _ kv _ => n - (intOf kv).toNat)
  case atStart => exact ⟨0, _, _, rfl, Nat.zero_le _, TT.start HX.out, kwX⟩
  case round =>
    obtain ⟨k, wv, τ, rfl, hk, hT, kr⟩ := hrel
    by_cases hkn : k < n
    · have m1 : decide ((k : Int) < (n : Int)) = true := decide_eq_true (by omega)
      have m1' : decide (k < n) = true := decide_eq_true hkn
      have m2 : (k : Int) < (n : Int) := by omega
      have m3 : (0 : Int) ≤ (k : Int) := by omega
      obtain ⟨g, rfl⟩ : ∃ g, ap = some ⟨g, 0, none⟩ := by
        rcases hT.p.2 with ⟨_, h0⟩ | ⟨g', _, _, e, _⟩
        · omega
        · injection e with e _ _
          exact ⟨g', e⟩
      have hpk := (own_cl hT.p).c k _ (pcl_cell hkn)
      have hti := HTI.out k hkn
      have hat := atell_any (hT.a k (Nat.le_refl _) hkn) (fun s hs => (hti.s s hs).2) hlen (fun W hM => tell_any hN0 hM (Nat.le_trans (HX.out.a k hkn).ls.2 hlen) hti.i hti.w)
      obtain ⟨al, cl, el, -⟩ := own_slice hT.o
      subst el
      have HT2 : Hid (∀ W1 wk, W1.ownsRow (w1.heap.size + 1) 44 9 (sv k) (T k).saws.length (scl ((T k).saws.map (telG (cc k)))) → W1.ownsRow wr.heap.size 46 4 wk (T k).wrs.length (wcl (T k).wrs) → Keeps (fun b => (sv k).ownBlock = some b) wr W1 → ∃ al' cl' W2, (Builtin.append_ #[35, 35] 35 #[.slice al k cl, .slice (some ⟨W1.heap.size, 0, none⟩) 1 1]).run Try.prog (W1.alloc (.cells ((T k).cells (sv k) wk).toArray 42)) = .ok (.slice al' (k + 1) cl') W2 ∧
      TT (w1.heap.size + 1) X.heap.size W2 (k + 1) n (.slice (some ⟨g, 0, none⟩) n cp) pb T sv wb rb cc N (.slice al' (k + 1) cl') (fun i => if i = k then wk else wv i) (fun b => if b < wr.heap.size then τ b else if wk.ownBlock = some b then 3 + 2 * k else 1) ∧ Keeps (fun b => w1.heap.size + 1 ≤ b) wr W2) := fun W1 wk h1 h2 h3 => by
        obtain ⟨lv', W2, e1, e2, e3⟩ := TT.next HX.out hT hkn h1 h2 h3 (by omega)
        obtain ⟨al', cl', el', -⟩ := own_slice e2.o
        subst el'
        exact ⟨al', cl', W2, e1, e2, e3⟩
      clear hti
      go_wp2_with (first | (go_at_call 25; refine hat.mono ?_; clear hat; rintro e W1 ⟨wk, rfl, hs1, hw1, k2⟩; obtain ⟨al', cl', W2, hr2, hT2, k3⟩ := HT2.out W1 wk hs1 hw1 k2; clear HT2) | (refine wpList_buildTx rfl _ rfl ((T k).cells (sv k) wk).toArray rfl rfl ?_; (try simp only [Act.put, List.setIfInBounds_toArray, List.set_cons_zero, List.set_cons_succ])) | (at_builtin; refine wpList_append_t rfl _ _ _ rfl _ _ _ W2 rfl rfl hr2 ?_; clear hr2))
      have K2 : Keeps (fun _ => False) w W2 := kr.trans' k3 (fun _ _ e => e) (fun i hi e => by have e : w1.heap.size + 1 ≤ i := e; omega)
      go_roundw
      case rel => exact ⟨k + 1, _, _, by go_num, by omega, hT2, K2⟩
      case measure => simp [intOf]; omega
    · have m1 : decide ((k : Int) < (n : Int)) = false := decide_eq_false (by omega)
      have m1' : decide (k < n) = false := decide_eq_false hkn
      obtain rfl : k = n := by omega
      have hTL := TT.done HX.out hT
      rw [HTD.out] at hTL
      go_wp2_with fail
      go_ret2
      exact ⟨_, _, _, _, _, rfl, by omega, hTL, kr⟩
end Go.Proofs.Ytmnmphkkcabkiaa

namespace Go.Proofs.Ytmnmphkkcabkiaa
open Go.RowKit
theorem wpQuiet_neq {P : Program} {ops : Array Oper} {C : World → Prop} {Q : Act → Prop} {rest : List Oper} {o : Oper} {a : Act} (hw : Region.wanted o (yielded ops a.tmps) = true) (ty t2 : TypeId) (x y : Operand) (ho : o.op = .binOp .neq ty x y t2) (xs ys : Array Value) (hx : a.eval x = .agg xs) (hy : a.eval y = .agg ys) (b : Bool)
    (hm : P.eqGuardType P.depth ty = false) (hr : ∀ w, (Op.equalIn 10000 ty (.agg xs) (.agg ys)).run P w = .ok b w) (h : wpQuiet P ops C Q rest (a.put o.dst (.bool (!b)))) : wpQuiet P ops C Q (o :: rest) a :=
  BigFrame.wpQuiet_want hw fun K hK => ⟨.bool (!b), fun w hC => by
    unfold Oper.quietAt execOp
    simp only [ho, hx, hy, Sem.run_bind, Sem.run_pure, Result.andThen_ok, run_eqGuard_agg _ _ _ _ _ _ _ hm, run_neq_struct, hr]
    exact ⟨rfl, rfl⟩, hK _ h⟩
theorem eql_sw (s : Sw) (w : World) : (Op.equalIn 10000 44 (.agg s.cells.toArray) (.agg s.cells.toArray)).run Try.prog w = .ok true w := by
  rw [run_equalIn_agg w 9999 _ _ _ (by kernel_rfl) (by kernel_rfl)]
  unfold Program.fieldsOf
  rw [Try.underlying44]
  unfold Sw.cells
  go_simp
theorem eql_wo (s : Wo) (w : World) : (Op.equalIn 10000 46 (.agg s.cells.toArray) (.agg s.cells.toArray)).run Try.prog w = .ok true w := by
  rw [run_equalIn_agg w 9999 _ _ _ (by kernel_rfl) (by kernel_rfl)]
  unfold Program.fieldsOf
  rw [Try.underlying46]
  unfold Wo.cells
  go_simp
def SWL (w : World) (a : Option Addr) (l : List Sw) : Prop := ∀ i x, l[i]? = some x → ∃ b, a = some ⟨b, 0, none⟩ ∧ ∀ j v, x.cells[j]? = some v → w.cell? ⟨b, i * 9 + j, none⟩ = some v
theorem SWL.keep {w w' : World} {a : Option Addr} {l : List Sw} (h : SWL w a l) (k : Keeps (fun _ => False) w w') : SWL w' a l := fun i x hx => by
  obtain ⟨b, e, hc⟩ := h i x hx
  exact ⟨b, e, fun j v hv => k.cell (hc j v hv) (fun e => e)⟩
theorem swl_of {W : World} {base n : Nat} {v : Value} {l : List Sw} (h : W.ownsRow base 44 9 v n (scl l)) : ∃ a cap, v = .slice a n cap ∧ SWL W a l ∧ n = l.length := by
  have hl := h.1
  rw [scl_len] at hl
  obtain ⟨a, cap, rfl, hc, _⟩ := own_slice h
  refine ⟨a, cap, rfl, fun i x hx => ?_, by omega⟩
  obtain ⟨g, rfl, _⟩ := hc (i * 9 + 0) _ (scl_get l i x hx 0 _ rfl)
  refine ⟨g, rfl, fun j v hv => ?_⟩
  obtain ⟨g', e', hc'⟩ := hc (i * 9 + j) _ (scl_get l i x hx j v hv)
  cases e'
  exact hc'
set_option maxHeartbeats 1000000 in
set_option maxRecDepth 100000 in
theorem sameSaws_ok {w : World} {a b : Option Addr} {xs : List Sw} (ca cb : Nat) (ha : SWL w a xs) (hb : SWL w b xs) (hn : xs.length ≤ 4611686018427387904) : Calls Try.prog 26 #[.slice a xs.length ca, .slice b xs.length cb] w fun e w' => e = .returned (.bool true) ∧ Keeps (fun _ => False) w w' := by
  have hnn : ((xs.length : Int) != (xs.length : Int)) = false := by simp
  generalize hN : xs.length = N at *
  go_enter Try.func26, Try.ntmps26
  go_wp2
  go_loopw [5] (fun iv Wr => ∃ k : Nat, iv = .int .i64 (k : Int) ∧ k ≤ N ∧ Keeps (fun _ => False) w Wr) (fun iv _ => N - (intOf iv).toNat)
  case atStart => exact ⟨0, rfl, Nat.zero_le _, Keeps.refl _ w⟩
  case round =>
    obtain ⟨k, rfl, hk, kr⟩ := hrel
    by_cases hlt : k < N
    · have hltI : decide ((k : Int) < (N : Int)) = true := by simp; omega
      have hltJ : (k : Int) < (N : Int) := by omega
      have hk0 : (0 : Int) ≤ (k : Int) := by omega
      have hw1 : IntKind.i64.wrap ((k : Int) + 1) = (k : Int) + 1 := by rw [IntKind.wrap_i64]; omega
      obtain ⟨ba, rfl, c1⟩ := ha k _ (List.getElem?_eq_getElem (by omega))
      obtain ⟨bb, rfl, c2⟩ := hb k _ (List.getElem?_eq_getElem (by omega))
      generalize xs[k]'(by omega) = x at *
      have HR1 : Hid (∀ w', (∃ u : KS wr, w' = u.1) → (loadVar 44 ⟨ba, k * 9, none⟩).run Try.prog w' = .ok (.agg x.cells.toArray) w') := by
        rintro _ ⟨u, rfl⟩
        exact run_swAt (fun j v e => u.property.cell (kr.cell (c1 j v e) (fun e => e)) (fun e => e))
      have HR2 : Hid (∀ w', (∃ u : KS wr, w' = u.1) → (loadVar 44 ⟨bb, k * 9, none⟩).run Try.prog w' = .ok (.agg x.cells.toArray) w') := by
        rintro _ ⟨u, rfl⟩
        exact run_swAt (fun j v e => u.property.cell (kr.cell (c2 j v e) (fun e => e)) (fun e => e))
      have HE : Hid (∀ w, (Op.equalIn 10000 44 (.agg x.cells.toArray) (.agg x.cells.toArray)).run Try.prog w = .ok true w) := fun w => eql_sw x w
      have hNE : Nonempty (KS wr) := ⟨⟨wr, Keeps.refl _ wr⟩⟩
      clear c1 c2 ha hb
      go_wp2_with fail
      refine wp_region_ks (by kernel_rfl) (by kernel_rfl) ?_
      (repeat (first | go_big_quiet_skip | (refine wpQuiet_load (by kernel_rfl) 44 _ rfl ⟨ba, k * 9, none⟩ rfl _ HR1.out ?_; clear HR1; (try simp only [Act.put, List.setIfInBounds_toArray, List.set_cons_zero, List.set_cons_succ])) | (refine wpQuiet_load (by kernel_rfl) 44 _ rfl ⟨bb, k * 9, none⟩ rfl _ HR2.out ?_; clear HR2; (try simp only [Act.put, List.setIfInBounds_toArray, List.set_cons_zero, List.set_cons_succ])) | (refine wpQuiet_neq (by kernel_rfl) 44 _ _ _ rfl _ _ rfl rfl true (by kernel_rfl) HE.out ?_; (try simp only [Act.put, List.setIfInBounds_toArray, List.set_cons_zero, List.set_cons_succ])) | (go_big_quiet_step (fail))))
      refine wpQuiet_nil ?_
      rintro _ ⟨u, rfl⟩
      have ku := kr.trans u.property
      generalize u.val = wu at *
      go_wp2
      go_roundw
      case rel => exact ⟨k + 1, by go_num, by omega, ku⟩
      case measure => simp [intOf]; omega
    · have hltI : decide ((k : Int) < (N : Int)) = false := by simp; omega
      clear ha hb
      go_wp2
      go_ret
      exact ⟨rfl, kr⟩
theorem iWoK : (Try.prog.info? 46).map (·.size) = some 4 := by kernel_rfl
theorem run_woAt {W : World} {b o : Nat} {s : Wo} (hc : ∀ j v, s.cells[j]? = some v → W.cell? ⟨b, o + j, none⟩ = some v) : (loadVar 46 ⟨b, o, none⟩).run Try.prog W = .ok (.agg s.cells.toArray) W :=
  run_loadVar_mid W b o 46 s.cells _ (fun j v e => hc j v e) Try.underlying46 rfl (by rw [iWoK]; rfl)
set_option maxHeartbeats 1000000 in
set_option maxRecDepth 100000 in
theorem sameWrites_ok {w : World} {a b : Option Addr} {xs : List Wo} (ca cb : Nat) (ha : WRL w a xs) (hb : WRL w b xs) (hn : xs.length ≤ 4611686018427387904) : Calls Try.prog 27 #[.slice a xs.length ca, .slice b xs.length cb] w fun e w' => e = .returned (.bool true) ∧ Keeps (fun _ => False) w w' := by
  have hnn : ((xs.length : Int) != (xs.length : Int)) = false := by simp
  generalize hN : xs.length = N at *
  go_enter Try.func27, Try.ntmps27
  go_wp2
  go_loopw [5] (fun iv Wr => ∃ k : Nat, iv = .int .i64 (k : Int) ∧ k ≤ N ∧ Keeps (fun _ => False) w Wr) (fun iv _ => N - (intOf iv).toNat)
  case atStart => exact ⟨0, rfl, Nat.zero_le _, Keeps.refl _ w⟩
  case round =>
    obtain ⟨k, rfl, hk, kr⟩ := hrel
    by_cases hlt : k < N
    · have hltI : decide ((k : Int) < (N : Int)) = true := by simp; omega
      have hltJ : (k : Int) < (N : Int) := by omega
      have hk0 : (0 : Int) ≤ (k : Int) := by omega
      have hw1 : IntKind.i64.wrap ((k : Int) + 1) = (k : Int) + 1 := by rw [IntKind.wrap_i64]; omega
      obtain ⟨ba, rfl, c1⟩ := ha k _ (List.getElem?_eq_getElem (by omega))
      obtain ⟨bb, rfl, c2⟩ := hb k _ (List.getElem?_eq_getElem (by omega))
      generalize xs[k]'(by omega) = x at *
      have HR1 : Hid (∀ w', (∃ u : KS wr, w' = u.1) → (loadVar 46 ⟨ba, k * 4, none⟩).run Try.prog w' = .ok (.agg x.cells.toArray) w') := by
        rintro _ ⟨u, rfl⟩
        exact run_woAt (fun j v e => u.property.cell (kr.cell (c1 j v e) (fun e => e)) (fun e => e))
      have HR2 : Hid (∀ w', (∃ u : KS wr, w' = u.1) → (loadVar 46 ⟨bb, k * 4, none⟩).run Try.prog w' = .ok (.agg x.cells.toArray) w') := by
        rintro _ ⟨u, rfl⟩
        exact run_woAt (fun j v e => u.property.cell (kr.cell (c2 j v e) (fun e => e)) (fun e => e))
      have HE : Hid (∀ w, (Op.equalIn 10000 46 (.agg x.cells.toArray) (.agg x.cells.toArray)).run Try.prog w = .ok true w) := fun w => eql_wo x w
      have hNE : Nonempty (KS wr) := ⟨⟨wr, Keeps.refl _ wr⟩⟩
      clear c1 c2 ha hb
      go_wp2_with fail
      refine wp_region_ks (by kernel_rfl) (by kernel_rfl) ?_
      (repeat (first | go_big_quiet_skip | (refine wpQuiet_load (by kernel_rfl) 46 _ rfl ⟨ba, k * 4, none⟩ rfl _ HR1.out ?_; clear HR1; (try simp only [Act.put, List.setIfInBounds_toArray, List.set_cons_zero, List.set_cons_succ])) | (refine wpQuiet_load (by kernel_rfl) 46 _ rfl ⟨bb, k * 4, none⟩ rfl _ HR2.out ?_; clear HR2; (try simp only [Act.put, List.setIfInBounds_toArray, List.set_cons_zero, List.set_cons_succ])) | (refine wpQuiet_neq (by kernel_rfl) 46 _ _ _ rfl _ _ rfl rfl true (by kernel_rfl) HE.out ?_; (try simp only [Act.put, List.setIfInBounds_toArray, List.set_cons_zero, List.set_cons_succ])) | (go_big_quiet_step (fail))))
      refine wpQuiet_nil ?_
      rintro _ ⟨u, rfl⟩
      have ku := kr.trans u.property
      generalize u.val = wu at *
      go_wp2
      go_roundw
      case rel => exact ⟨k + 1, by go_num, by omega, ku⟩
      case measure => simp [intOf]; omega
    · have hltI : decide ((k : Int) < (N : Int)) = false := by simp; omega
      clear ha hb
      go_wp2
      go_ret
      exact ⟨rfl, kr⟩
end Go.Proofs.Ytmnmphkkcabkiaa

namespace Go.Proofs.Ytmnmphkkcabkiaa
open Go.RowKit
set_option maxHeartbeats 1000000 in
set_option maxRecDepth 100000 in
theorem sameTx_ok {w : World} (t : Tv) {a1 a2 b1 b2 : Option Addr} (c1 c2 d1 d2 : Nat) (hs1 : SWL w a1 t.saws) (hs2 : SWL w a2 t.saws) (hw1 : WRL w b1 t.wrs) (hw2 : WRL w b2 t.wrs) (l1 : t.saws.length ≤ 4611686018427387904) (l2 : t.wrs.length ≤ 4611686018427387904) :
    Calls Try.prog 15 #[.agg (t.cells (.slice a1 t.saws.length c1) (.slice b1 t.wrs.length d1)).toArray, .agg (t.cells (.slice a2 t.saws.length c2) (.slice b2 t.wrs.length d2)).toArray] w fun e w' => e = .returned (.bool true) ∧ Keeps (fun _ => False) w w' := by
  obtain ⟨X, hX⟩ : ∃ X, X = (w.alloc (.cells (t.cells (.slice a1 t.saws.length c1) (.slice b1 t.wrs.length d1)).toArray 42)).alloc (.cells (t.cells (.slice a2 t.saws.length c2) (.slice b2 t.wrs.length d2)).toArray 42) := ⟨_, rfl⟩
  have kX : Keeps (fun _ => False) w X := by rw [hX]; exact ((Keeps.refl _ w).alloc _).alloc _
  have hA : CL X w.heap.size (t.cells (.slice a1 t.saws.length c1) (.slice b1 t.wrs.length d1)) := by
    rw [hX]
    exact (CL.made w (t.cells (.slice a1 t.saws.length c1) (.slice b1 t.wrs.length d1)) 42).alloc (by show 0 < 11; decide) _
  have hB : CL X (w.heap.size + 1) (t.cells (.slice a2 t.saws.length c2) (.slice b2 t.wrs.length d2)) := by
    rw [hX]
    have := CL.made (w.alloc (.cells (t.cells (.slice a1 t.saws.length c1) (.slice b1 t.wrs.length d1)).toArray 42)) (t.cells (.slice a2 t.saws.length c2) (.slice b2 t.wrs.length d2)) 42
    simpa using this
  have hss := sameSaws_ok c1 c2 (hs1.keep kX) (hs2.keep kX) l1
  have HWW : Hid (∀ W, Keeps (fun _ => False) X W → Calls Try.prog 27 #[.slice b1 t.wrs.length d1, .slice b2 t.wrs.length d2] W fun e w' => e = .returned (.bool true) ∧ Keeps (fun _ => False) W w') := fun W k => sameWrites_ok d1 d2 ((hw1.keep kX).keep k) ((hw2.keep kX).keep k) l2
  have HX : Hid (_ = _) := hX
  clear hX hs1 hs2 hw1 hw2 l1 l2
  generalize t.saws.length = ns at *
  generalize t.wrs.length = nw at *
  obtain ⟨th, jb, tr, no, st, bg, fn, en, ou, sa, wr⟩ := t
  have p0 := hA.c 0 _ rfl
  have q0 := hB.c 0 _ rfl
  have p1 := hA.c 1 _ rfl
  have q1 := hB.c 1 _ rfl
  have p2 := hA.c 2 _ rfl
  have q2 := hB.c 2 _ rfl
  have p3 := hA.c 3 _ rfl
  have q3 := hB.c 3 _ rfl
  have p4 := hA.c 4 _ rfl
  have q4 := hB.c 4 _ rfl
  have p5 := hA.c 5 _ rfl
  have q5 := hB.c 5 _ rfl
  have p6 := hA.c 6 _ rfl
  have q6 := hB.c 6 _ rfl
  have p7 := hA.c 7 _ rfl
  have q7 := hB.c 7 _ rfl
  have p8 := hA.c 8 _ rfl
  have q8 := hB.c 8 _ rfl
  have p9 := hA.c 9 _ rfl
  have q9 := hB.c 9 _ rfl
  have p10 := hA.c 10 _ rfl
  have q10 := hB.c 10 _ rfl
  dsimp only at p0 p1 p2 p3 p4 p5 p6 p7 p8 p9 p10 q0 q1 q2 q3 q4 q5 q6 q7 q8 q9 q10
  clear hA hB
  go_enter Try.func15, Try.ntmps15
  refine wp_seq_k (fun KK hKK => ?_)
  have hKH : Hid _ := hKK
  clear hKK
  go_wp2_with fail
  refine hKH.out _ _ ?_
  clear hKH KK
  rw [← HX.out]
  clear HX
  have n1 : (th != th) = false := by simp
  have n2 : (jb != jb) = false := by simp
  have n3 : (tr != tr) = false := by simp
  have n4 : (no != no) = false := by simp
  have n5 : (st != st) = false := by simp
  have n6 : (bg != bg) = false := by simp
  have n7 : (fn != fn) = false := by simp
  have n8 : (en != en) = false := by simp
  have n9 : (ou != ou) = false := by simp
  go_wp2_with (first | (go_at_call 26; refine hss.mono ?_; clear hss; rintro e w2 ⟨rfl, k2⟩; have p10 := k2.cell p10 (fun e => e); have q10 := k2.cell q10 (fun e => e)) | (go_at_call 27; refine (HWW.out w2 k2).mono ?_; clear HWW; rintro e w3 ⟨rfl, k3⟩))
  go_ret
  exact ⟨rfl, (kX.trans k2).trans k3⟩
theorem TL.at {base m i : Nat} {W : World} {v : Value} {ts : List Tv} {sv wv : Nat → Value} {ρ : Nat → Nat} (h : TL base W v ts sv wv ρ m) (hi : i < ts.length) : ∃ g cap, v = .slice (some ⟨g, 0, none⟩) ts.length cap ∧ ∀ W', Keeps (fun _ => False) W W' → (loadVar 42 ⟨g, i * 11, none⟩).run Try.prog W' = .ok (.agg ((ts.getD i tv0).cells (sv i) (wv i)).toArray) W' := by
  rcases h.o.2 with ⟨_, h0⟩ | ⟨g, cap, cur, e, _⟩
  · omega
  subst e
  refine ⟨g, cap, rfl, fun W' k => run_tx (fun j u hu => ?_)⟩
  exact k.cell ((own_cl h.o).c _ _ (gcl_get (fun _ _ => rfl) hi j u hu)) (fun e => e)
theorem TL.sl {base m : Nat} {W : World} {v : Value} {ts : List Tv} {sv wv : Nat → Value} {ρ : Nat → Nat} (h : TL base W v ts sv wv ρ m) : ∃ a cap, v = .slice a ts.length cap := by
  obtain ⟨a, cap, e, -⟩ := own_slice h.o
  exact ⟨a, cap, e⟩
theorem TL.sln {base m n : Nat} {W : World} {v : Value} {ts : List Tv} {sv wv : Nat → Value} {ρ : Nat → Nat} (h : TL base W v ts sv wv ρ m) (hn : ts.length = n) : ∃ a cap, v = .slice a n cap := by
  obtain ⟨a, cap, e⟩ := h.sl
  rw [hn] at e
  exact ⟨a, cap, e⟩
theorem TL.same {base base2 m m2 i : Nat} {W : World} {v v2 : Value} {ts : List Tv} {sv wv sv2 wv2 : Nat → Value} {ρ ρ2 : Nat → Nat} (h : TL base W v ts sv wv ρ m) (h2 : TL base2 W v2 ts sv2 wv2 ρ2 m2) (hi : i < ts.length) (hm : m ≤ 4611686018427387904) :
    Calls Try.prog 15 #[.agg ((ts.getD i tv0).cells (sv i) (wv i)).toArray, .agg ((ts.getD i tv0).cells (sv2 i) (wv2 i)).toArray] W fun e w' => e = .returned (.bool true) ∧ Keeps (fun _ => False) W w' := by
  obtain ⟨a1, c1, e1, s1, -⟩ := swl_of (h.s i hi)
  obtain ⟨a2, c2, e2, s2, -⟩ := swl_of (h2.s i hi)
  obtain ⟨b1, d1, e3, r1, -⟩ := wrl_of (h.w i hi)
  obtain ⟨b2, d2, e4, r2, -⟩ := wrl_of (h2.w i hi)
  rw [e1, e2, e3, e4]
  exact sameTx_ok _ c1 c2 d1 d2 s1 s2 r1 r2 (Nat.le_trans (h.ls i hi).1 hm) (Nat.le_trans (h.ls i hi).2 hm)
end Go.Proofs.Ytmnmphkkcabkiaa

namespace Go.Proofs.Ytmnmphkkcabkiaa
open Go.RowKit
set_option maxHeartbeats 1000000 in
set_option maxRecDepth 100000 in
theorem told_any {w : World} {a : Option Addr} {cap : Nat} {l : List Rw} (hN0 : SortNone) (hl : RSL w a l) (hz : a = none → cap = 0) (hn : l.length * 192 ≤ 140737488355328) (hi64 : ∀ k, k < l.length → I64 (l.getD k rw0).object ∧ I64 (l.getD k rw0).entry) : Calls Try.prog 8 #[.slice a l.length cap] w fun e w' => e = .returned (.bool true) ∧ Keeps (fun _ => False) w w' := by
  have hC := copied_any hl hz hn
  cases hf : fstP l 0 (f0 6) with
  | some i =>
    have HR : Hid (∀ W a' cap', RSL W a' l → Calls Try.prog 19 #[.slice a' l.length cap'] W fun e w' => e = .returned (.tuple #[.slice none 0 0, .int .i64 150]) ∧ Keeps (fun _ => False) W w') := fun W a' cap' h => rtxs_no h (by omega) hf
    have HP : Hid (∀ W, Keeps (fun _ => False) w W → Calls Try.prog 12 #[.slice a l.length cap] W fun e w' => e = .returned (.tuple #[.slice none 0 0, .int .i64 150]) ∧ Keeps (fun _ => False) W w') := fun W k => txs_no (hl.keep k) (by omega) hf
    have hnm := fun W => num_any W 150
    clear hl hz hn hi64 hf
    generalize l.length = N at *
    go_enter Try.func8, Try.ntmps8
    go_wp2_with (first | (go_at_call 10; refine hC.mono ?_; clear hC; rintro e w1 ⟨a1, cap1, rfl, hl1, k1⟩) | (go_at_call 19; refine (HR.out w1 a1 cap1 hl1).mono ?_; clear HR; rintro e w2 ⟨rfl, k2⟩) | (go_at_call 12; refine (HP.out w2 (k1.trans k2)).mono ?_; clear HP; rintro e w3 ⟨rfl, k3⟩) | (go_at_call 13; refine (hnm _).mono ?_; rintro e w4 ⟨rfl, ew⟩; subst w4))
    go_loopw [7] (fun iv Wr => iv = .int .i64 0 ∧ Keeps (fun _ => False) w Wr) (fun _ _ => 0)
    case atStart => exact ⟨rfl, (k1.trans k2).trans k3⟩
    case round =>
      obtain ⟨rfl, kr⟩ := hrel
      go_wp2
      go_ret
      exact ⟨rfl, kr⟩
  | none =>
    have HR : Hid (∀ W a' cap', RSL W a' l → Calls Try.prog 19 #[.slice a' l.length cap'] W fun e w' => ∃ base lv sv wv ρ, e = .returned (.tuple #[lv, .int .i64 0]) ∧ W.heap.size ≤ base ∧ TL base w' lv (txD l) sv wv ρ l.length ∧ Keeps (fun _ => False) W w') := fun W a' cap' h => rtxs_ok h (by omega) hf
    have HP : Hid (∀ W, Keeps (fun _ => False) w W → Calls Try.prog 12 #[.slice a l.length cap] W fun e w' => ∃ base lv sv wv ρ, e = .returned (.tuple #[lv, .int .i64 0]) ∧ W.heap.size ≤ base ∧ TL base w' lv (txD l) sv wv ρ l.length ∧ Keeps (fun _ => False) W w') := fun W k => txs_ok hN0 (hl.keep k) (by omega) hf hi64
    have hnm := fun W => num_any W 0
    have hle : (txD l).length ≤ l.length := by
      have : (txD l).length = (txK l l.length).1.length := rlK_len _ _ _
      have := txK_le l l.length
      omega
    clear hl hz hi64 hf
    generalize txD l = ts at *
    generalize l.length = N at *
    obtain ⟨n, hts⟩ : ∃ n, ts.length = n := ⟨_, rfl⟩
    have hnn : ((n : Int) != (n : Int)) = false := by simp
    have HTS : Hid (ts.length = n) := hts
    rw [hts] at hle
    clear hts
    go_enter Try.func8, Try.ntmps8
    go_wp2_with (first | (go_at_call 10; refine hC.mono ?_; clear hC; rintro e w1 ⟨a1, cap1, rfl, hl1, k1⟩) | (go_at_call 19; refine (HR.out w1 a1 cap1 hl1).mono ?_; clear HR; rintro e w2 ⟨ba1, lv1, sv1, wv1, ρ1, rfl, -, hT1, k2⟩; obtain ⟨g1, p1, rfl⟩ := hT1.sln HTS.out) | (go_at_call 12; refine (HP.out w2 (k1.trans k2)).mono ?_; clear HP; rintro e w3 ⟨ba2, lv2, sv2, wv2, ρ2, rfl, -, hT2, k3⟩; obtain ⟨g2, p2, rfl⟩ := hT2.sln HTS.out) | (go_at_call 13; refine (hnm _).mono ?_; rintro e w4 ⟨rfl, ew⟩; subst w4))
    have hT1 := hT1.keep k3
    have kw3 := (k1.trans k2).trans k3
    clear k1 k2 k3 hl1
    have HT1 : Hid (TL ba1 w3 (.slice g1 n p1) ts sv1 wv1 ρ1 N) := hT1
    have HT2 : Hid (TL ba2 w3 (.slice g2 n p2) ts sv2 wv2 ρ2 N) := hT2
    clear hT1 hT2
    go_loopw [7] (fun iv Wr => ∃ k : Nat, iv = .int .i64 (k : Int) ∧ k ≤ n ∧ Keeps (fun _ => False) w3 Wr) (fun iv _ => n - (intOf iv).toNat)
    case atStart => exact ⟨0, rfl, Nat.zero_le _, Keeps.refl _ _⟩
    case round =>
      obtain ⟨k, rfl, hk, kr⟩ := hrel
      by_cases hkn : k < n
      · have m1 : decide ((k : Int) < (n : Int)) = true := decide_eq_true (by omega)
        have m1' : decide (k < n) = true := decide_eq_true hkn
        have m2 : (k : Int) < (n : Int) := by omega
        have m3 : (0 : Int) ≤ (k : Int) := by omega
        have hw1 : IntKind.i64.wrap ((k : Int) + 1) = (k : Int) + 1 := by rw [IntKind.wrap_i64]; omega
        obtain ⟨ga, ca, ea, ra⟩ := HT1.out.at (i := k) (by rw [HTS.out]; exact hkn)
        obtain ⟨gb, cb, eb, rb⟩ := HT2.out.at (i := k) (by rw [HTS.out]; exact hkn)
        obtain rfl : g1 = some ⟨ga, 0, none⟩ := by injection ea
        obtain rfl : g2 = some ⟨gb, 0, none⟩ := by injection eb
        have HS : Hid (∀ W, Keeps (fun _ => False) wr W → Calls Try.prog 15 #[.agg ((ts.getD k tv0).cells (sv2 k) (wv2 k)).toArray, .agg ((ts.getD k tv0).cells (sv1 k) (wv1 k)).toArray] W fun e w' => e = .returned (.bool true) ∧ Keeps (fun _ => False) W w') := fun W kW => TL.same (HT2.out.keep (kr.trans kW)) (HT1.out.keep (kr.trans kW)) (by rw [HTS.out]; exact hkn) (by omega)
        have HR1 : Hid (∀ w', (∃ u : KS wr, w' = u.1) → (loadVar 42 ⟨ga, k * 11, none⟩).run Try.prog w' = .ok (.agg ((ts.getD k tv0).cells (sv1 k) (wv1 k)).toArray) w') := by
          rintro _ ⟨u, rfl⟩
          exact ra _ (kr.trans u.property)
        have HR2 : Hid (∀ w', (∃ u : KS wr, w' = u.1) → (loadVar 42 ⟨gb, k * 11, none⟩).run Try.prog w' = .ok (.agg ((ts.getD k tv0).cells (sv2 k) (wv2 k)).toArray) w') := by
          rintro _ ⟨u, rfl⟩
          exact rb _ (kr.trans u.property)
        have hNE : Nonempty (KS wr) := ⟨⟨wr, Keeps.refl _ wr⟩⟩
        clear ea eb ra rb
        generalize ((ts.getD k tv0).cells (sv1 k) (wv1 k)).toArray = A1 at HS HR1
        generalize ((ts.getD k tv0).cells (sv2 k) (wv2 k)).toArray = A2 at HS HR2
        go_wp2_with fail
        refine wp_region_ks (by kernel_rfl) (by kernel_rfl) ?_
        (repeat (first | go_big_quiet_skip | (refine wpQuiet_load (by kernel_rfl) 42 _ rfl ⟨gb, k * 11, none⟩ rfl _ HR2.out ?_; clear HR2; (try simp only [Act.put, List.setIfInBounds_toArray, List.set_cons_zero, List.set_cons_succ])) | (refine wpQuiet_load (by kernel_rfl) 42 _ rfl ⟨ga, k * 11, none⟩ rfl _ HR1.out ?_; clear HR1; (try simp only [Act.put, List.setIfInBounds_toArray, List.set_cons_zero, List.set_cons_succ])) | (go_big_quiet_step ((go_at_call 15; refine (HS.out _ (KS.property _)).mono ?_; rintro e w9 ⟨rfl, k9⟩; exact ⟨rfl, ⟨_, (KS.property _).trans k9⟩, rfl⟩)))))
        refine wpQuiet_nil ?_
        rintro _ ⟨u, rfl⟩
        have ku := kr.trans u.property
        generalize u.val = wu at *
        go_wp2
        go_roundw
        case rel => exact ⟨k + 1, by go_num, by omega, ku⟩
        case measure => simp [intOf]; omega
      · have m1 : decide ((k : Int) < (n : Int)) = false := decide_eq_false (by omega)
        have m1' : decide (k < n) = false := decide_eq_false hkn
        go_wp2
        go_ret
        exact ⟨rfl, kw3.trans kr⟩
end Go.Proofs.Ytmnmphkkcabkiaa

