import Derived.Test.YtniogbghldkmjaaGreatDoorJI
namespace Go.Proofs.YtniogbghldkmjaaGreatDoor
open Go.RowKit Go.Deep Go.ChangeShapes Go.WideShapes Go.ChangeAt
/-- A list's room. -/
theorem open_cap {H : Type} {enc : TypeId × Value → H} {P : Program} {W : World} {spare : Nat → Bool} {held : Bool} {t e : TypeId} {fuel : Nat} {a : Option Addr} {len cap : Nat} {x : DataW H × List MemPlace}
    (ht : P.underlying t = some (.slice e)) (h : DataW.trod enc P W 0 spare held fuel t [.slice a len cap] = some x) : len ≤ cap := by
  rcases open_slice ht h with ⟨hcs, _⟩ | ⟨a', len', cap', m, n, D, Pl, hcs, hb, hl, hm, hmm, rfl, hx⟩
  · simp at hcs; omega
  · simp at hcs
    obtain ⟨rfl, rfl, rfl⟩ := hcs
    exact hl
end Go.Proofs.YtniogbghldkmjaaGreatDoor
namespace Go.Proofs.YtniogbghldkmjaaGreatDoor
open Go.RowKit
/-- A put of a plain number. -/
def putI (q : Int × Int) : Ins := ⟨3, 0, false, q.1, false, q.2, false, 0, 0, 0, 0⟩
/-- What the puts come to: the numbers, the count, whether an object was bad. -/
def pts (n : Nat) : List (Int × Int) → List Int → Nat → List Int × Nat × Bool
  | [], wt, c => (wt, c, false)
  | q :: l, wt, c => if 0 ≤ q.1 ∧ q.1 < n then pts n l (wt.set q.1.toNat q.2) (c + 1) else (wt, c + 1, true)
/-- A run's own numbers stand for a list. -/
def Own (os wt : List Int) (s : Rs) : Prop := wt.length = os.length ∧ ∀ i, i < os.length → wt.getD i 0 = if s.st i = 2 then s.nm i else os.getD i 0
theorem Own.lft {os wt : List Int} {s : Rs} (h : Own os wt s) (h1 : s.oc = 1) : lft os s os.length = wt := by
  unfold Go.Proofs.YtniogbghldkmjaaGreatDoor.lft
  apply List.ext_getElem (by simp [h.1])
  intro i h2 h3
  have hi : i < os.length := by simpa using h2
  have := h.2 i hi
  rw [List.getD_eq_getElem?_getD, List.getElem?_eq_getElem h3] at this
  rw [List.getElem_map, List.getElem_range]
  have e : wt[i] = if s.st i = 2 then s.nm i else os.getD i 0 := this
  rw [e]
  by_cases h4 : s.st i = 2
  · rw [if_pos ⟨hi, h1, h4⟩, if_pos h4]
  · rw [if_neg (fun e => h4 e.2.2), if_neg h4]
theorem put_step {os wt : List Int} {q : Int × Int} {s : Rs} (hq : 0 ≤ q.1 ∧ q.1 < os.length) (h : Own os wt s) : Own os (wt.set q.1.toNat q.2) (mstp os [] (putI q) s) ∧ (mstp os [] (putI q) s).oc = s.oc ∧ (mstp os [] (putI q) s).pl = s.pl + 1 ∧ (mstp os [] (putI q) s).rs = s.rs := by
  obtain ⟨x, v⟩ := q
  obtain ⟨k, rfl⟩ : ∃ k : Nat, x = (k : Int) := ⟨x.toNat, by simp only at hq; omega⟩
  have hk : k < os.length := by simp only at hq; omega
  have e : mstp os [] (putI ((k : Int), v)) s = { s.inc.wro os k with nm := fun i => if i = k then v else (s.inc.wro os k).nm i } := by
    unfold mstp putI
    simp only
    rw [if_pos (by decide)]
    have hs : s.sv false (k : Int) = (k : Int) := rfl
    rw [hs, if_pos ⟨by omega, by omega⟩]
    unfold mstpO
    simp only
    rw [if_neg (by decide), if_neg (by decide), if_pos (by decide), Int.toNat_natCast]
    rfl
  rw [e]
  have hw : ∀ i, (s.inc.wro os k).st i = if i = k then 2 else s.st i := fun i => by
    unfold Rs.wro
    split
    · rename_i h2
      have h2 : s.st k = 2 := h2
      by_cases e2 : i = k
      · rw [if_pos e2, e2]; exact h2
      · rw [if_neg e2]; rfl
    · rfl
  have hn : ∀ i, ¬ i = k → (s.inc.wro os k).nm i = s.nm i := fun i hi => by
    unfold Rs.wro
    split
    · rfl
    · exact if_neg hi
  have ho : (s.inc.wro os k).oc = s.oc ∧ (s.inc.wro os k).pl = s.pl + 1 ∧ (s.inc.wro os k).rs = s.rs := by
    unfold Rs.wro
    split <;> exact ⟨rfl, rfl, rfl⟩
  refine ⟨⟨by simp [h.1], fun i hi => ?_⟩, ho⟩
  simp only [Int.toNat_natCast]
  rw [hw]
  by_cases e2 : i = k
  · subst e2
    rw [if_pos rfl, if_pos rfl, if_pos rfl, List.getD_eq_getElem?_getD, List.getElem?_set_self (by rw [h.1]; exact hi)]; rfl
  · rw [if_neg e2, if_neg e2, hn i e2, ← h.2 i hi, List.getD_eq_getElem?_getD, List.getD_eq_getElem?_getD, List.getElem?_set_ne (fun e => e2 e.symm)]
theorem put_bad {os : List Int} {q : Int × Int} {s : Rs} (hq : ¬ (0 ≤ q.1 ∧ q.1 < os.length)) : mstp os [] (putI q) s = s.inc.bad := by
  unfold mstp putI
  simp only
  rw [if_pos (by decide)]
  have hs : s.sv false q.1 = q.1 := rfl
  rw [hs, if_neg hq]
theorem gor_puts {os : List Int} {L : List (Int × Int)} : ∀ (suf pre : List (Int × Int)), pre ++ suf = L → ∀ (wt : List Int) (c f : Nat) (s : Rs), s.oc = 0 → s.pl = (pre.length : Int) → s.rs = 0 → suf.length + 1 ≤ f → Own os wt s →
    (gor (L.map putI) os [] f c s).1.rs = 0 ∧ ((pts os.length suf wt c).2.2 = true → (gor (L.map putI) os [] f c s).1.oc = 3 ∧ (gor (L.map putI) os [] f c s).2 = (pts os.length suf wt c).2.1) ∧ ((pts os.length suf wt c).2.2 = false → (gor (L.map putI) os [] f c s).1.oc = 1 ∧ (gor (L.map putI) os [] f c s).2 = (pts os.length suf wt c).2.1 + 1 ∧ lft os (gor (L.map putI) os [] f c s).1 os.length = (pts os.length suf wt c).1)
  | [], pre, hL, wt, c, f, s, h0, hp, hr, hf, hO => by
    obtain ⟨f, rfl⟩ : ∃ g, f = g + 1 := ⟨f - 1, by omega⟩
    have e : atI (L.map putI) s.pl.toNat = doneI := if_pos (by rw [← hL]; simp; omega)
    rw [gor_step f c h0, e]
    have h1 : (mstp os [] doneI s).oc = 1 := rfl
    have h2 : (mstp os [] doneI s).rs = 0 := rfl
    rw [gor_end f (c + 1) (by rw [h1]; decide)]
    have hO' : Own os wt (mstp os [] doneI s) := hO
    exact ⟨h2, fun h => (by cases h), fun _ => ⟨h1, rfl, hO'.lft h1⟩⟩
  | q :: suf, pre, hL, wt, c, f, s, h0, hp, hr, hf, hO => by
    obtain ⟨f, rfl⟩ : ∃ g, f = g + 1 := ⟨f - 1, by simp at hf; omega⟩
    have hlen : L.length = pre.length + (suf.length + 1) := by rw [← hL]; simp
    have e : atI (L.map putI) s.pl.toNat = putI q := by
      have e1 : s.pl.toNat = pre.length := by omega
      rw [e1]
      have : ¬ pre.length = (L.map putI).length := by simp; omega
      rw [show atI (L.map putI) pre.length = (L.map putI).getD pre.length ins0 from if_neg this]
      rw [← hL, List.getD_eq_getElem?_getD]
      simp
    rw [gor_step f c h0, e]
    by_cases hq : 0 ≤ q.1 ∧ q.1 < os.length
    · have ep : pts os.length (q :: suf) wt c = pts os.length suf (wt.set q.1.toNat q.2) (c + 1) := if_pos hq
      rw [ep]
      obtain ⟨a1, a2, a3, a4⟩ := put_step hq hO
      exact gor_puts suf (pre ++ [q]) (by rw [← hL]; simp) _ (c + 1) f _ (a2.trans h0) (by rw [a3, hp]; simp) (a4.trans hr) (by simp at hf; omega) a1
    · have ep : pts os.length (q :: suf) wt c = (wt, c + 1, true) := if_neg hq
      rw [ep, put_bad hq, gor_end f (c + 1) (by show ¬ (3 : Int) = 0; decide)]
      exact ⟨hr, fun _ => ⟨rfl, rfl⟩, fun h => by cases h⟩
/-- A list of puts may be. -/
theorem puts_chk {L : List (Int × Int)} (h : L.length ≤ 64) : (chk (L.map putI)).1 = 0 := by
  have hc : ∀ q, (putI q).can ((L.map putI).length : Int) = true := fun q => by
    unfold putI Ins.can kdD kdR kdL kdO kdX kdY btw fts opk
    simp
  unfold chk
  rw [if_neg (by simpa using h)]
  have hb : ∀ m, m ≤ (L.map putI).length → firstBad (L.map putI) ((L.map putI).length : Int) m = none := by
    intro m
    induction m with
    | zero => intro _; rfl
    | succ m ih =>
      intro hm
      unfold firstBad
      have hlt : (L.map putI).length - (m + 1) < (L.map putI).length := by omega
      have : ((L.map putI).getD ((L.map putI).length - (m + 1)) ins0).can ((L.map putI).length : Int) = true := by
        rw [List.getD_eq_getElem?_getD, List.getElem?_eq_getElem hlt]
        simp only [Option.getD_some, List.getElem_map]
        exact hc _
      rw [this]
      simp only [Bool.true_eq_false, if_false]
      exact ih (by omega)
  rw [hb _ (Nat.le_refl _)]
  rfl
end Go.Proofs.YtniogbghldkmjaaGreatDoor
namespace Go.Proofs.YtniogbghldkmjaaGreatDoor
open Go.RowKit Go.Deep Go.ChangeShapes Go.WideShapes Go.ChangeAt
/-- Sets in memory. -/
def SETS (w : World) (a : Option Addr) (l : List (Int × Int)) : Prop := ∀ i x, l[i]? = some x → ∃ b off, a = some ⟨b, off, none⟩ ∧ w.cell? ⟨b, off + i * 2, none⟩ = some (.int .i64 x.1) ∧ w.cell? ⟨b, off + i * 2 + 1, none⟩ = some (.int .i64 x.2)
theorem SETS.keep {w w' : World} {a : Option Addr} {l : List (Int × Int)} (h : SETS w a l) (k : Keeps (fun _ => False) w w') : SETS w' a l := fun i x hx => by
  obtain ⟨b, off, e, hc, hd⟩ := h i x hx
  exact ⟨b, off, e, k.cell hc (fun e => e), k.cell hd (fun e => e)⟩
theorem SETS.take {w : World} {a : Option Addr} {l : List (Int × Int)} (h : SETS w a l) (n : Nat) : SETS w a (l.take n) := fun i x hx => by
  rw [List.getElem?_take] at hx
  split at hx
  · exact h i x hx
  · cases hx
theorem open_two {H : Type} {enc : TypeId × Value → H} {P : Program} {W : World} {spare : Nat → Bool} {held : Bool} {e : TypeId} {g0 g1 : Field} {fuel : Nat} {v0 v1 : Value} {x : DataW H × List MemPlace}
    (hs : P.underlying e = some (.struct #[g0, g1])) (o0 : g0.offset = 0) (o1 : g1.offset = 1) (c0 : P.cellsOf g0.type = 1) (c1 : P.cellsOf g1.type = 1) (u0 : P.underlying g0.type = some (.int .i64)) (u1 : P.underlying g1.type = some (.int .i64))
    (h : DataW.trod enc P W 0 spare held fuel e [v0, v1] = some x) : ∃ (r n : Int), v0 = .int .i64 r ∧ v1 = .int .i64 n := by
  obtain ⟨y0, y1, k, _, _, G0, G1⟩ := trod_struct2 hs h
  simp [o0, o1, c0, c1] at G0 G1
  obtain ⟨b, r0, _⟩ := DataW.trod_int u0 G0
  obtain ⟨q, r1, _, _⟩ := DataW.trod_int u1 G1
  simp at r0 r1
  exact ⟨b, q, r0, r1⟩
/-- Sets that were handed in. -/
theorem open_sets {H : Type} {enc : TypeId × Value → H} {P : Program} {W : World} {spare : Nat → Bool} {held : Bool} {t e : TypeId} {g0 g1 : Field} {fuel : Nat} {a : Option Addr} {len cap : Nat} {x : DataW H × List MemPlace}
    (ht : P.underlying t = some (.slice e)) (hs : P.underlying e = some (.struct #[g0, g1])) (ce : P.cellsOf e = 2) (o0 : g0.offset = 0) (o1 : g1.offset = 1) (c0 : P.cellsOf g0.type = 1) (c1 : P.cellsOf g1.type = 1) (u0 : P.underlying g0.type = some (.int .i64)) (u1 : P.underlying g1.type = some (.int .i64))
    (h : DataW.trod enc P W 0 spare held fuel t [.slice a len cap] = some x) : ∃ l : List (Int × Int), l.length = len ∧ SETS W a l := by
  by_cases h0 : len = 0
  · subst h0
    exact ⟨[], rfl, fun i x hi => by simp at hi⟩
  rcases open_slice ht h with ⟨hcs, _⟩ | ⟨a', len', cap', m, n, D, Pl, hcs, hb, hl, hm, hmm, rfl, hx⟩
  · simp at hcs; omega
  simp at hcs
  obtain ⟨rfl, rfl, rfl⟩ := hcs
  have hlm : len ≤ m := by rw [hmm]; split <;> omega
  have each : ∀ i, i < len → ∃ q : Int × Int, W.cell? (a'.add (i * 2)) = some (.int .i64 q.1) ∧ W.cell? (a'.add (i * 2 + 1)) = some (.int .i64 q.2) := by
    intro i hi
    obtain ⟨cs', h1, h2⟩ := hx i (by omega)
    rw [ce] at h1
    obtain ⟨_, hlen, hcell⟩ := World.cells?_some h1
    match cs', hlen with
    | [z0, z1], _ =>
      obtain ⟨b, q, rfl, rfl⟩ := open_two hs o0 o1 c0 c1 u0 u1 h2
      have cj := hcell 0 (by omega)
      have ck := hcell 1 (by omega)
      rw [add_add] at cj ck
      refine ⟨(b, q), ?_, ?_⟩
      · simpa using cj
      · simpa using ck
  obtain ⟨b, off, spot⟩ := a'
  obtain ⟨q0, z0, _⟩ := each 0 (by omega)
  have hspot : spot = none := by simpa [Addr.add] using World.cell?_spot z0
  subst hspot
  obtain ⟨V, hV⟩ := choose_lt each
  refine ⟨(List.range len).map V, by simp, fun i x hi => ?_⟩
  have hil : i < len := by have := (List.getElem?_eq_some_iff.1 hi).1; simpa using this
  have : x = V i := by simpa [hil] using hi.symm
  subst this
  obtain ⟨hv, hu⟩ := hV i hil
  rw [add_at] at hv hu
  exact ⟨b, off, rfl, hv, by rw [← Nat.add_assoc] at hu; exact hu⟩
end Go.Proofs.YtniogbghldkmjaaGreatDoor
namespace Go.Proofs.YtniogbghldkmjaaGreatDoor
open Go.RowKit Go.Deep Go.ChangeShapes Go.WideShapes Go.ChangeAt
/-- A list's room, and that of none. -/
theorem open_cap2 {H : Type} {enc : TypeId × Value → H} {P : Program} {W : World} {spare : Nat → Bool} {held : Bool} {t e : TypeId} {fuel : Nat} {a : Option Addr} {len cap : Nat} {x : DataW H × List MemPlace}
    (ht : P.underlying t = some (.slice e)) (h : DataW.trod enc P W 0 spare held fuel t [.slice a len cap] = some x) : len ≤ cap ∧ (a = none → cap = 0) := by
  rcases open_slice ht h with ⟨hcs, _⟩ | ⟨a', len', cap', m, n, D, Pl, hcs, hb, hl, hm, hmm, rfl, hx⟩
  · simp at hcs
    obtain ⟨rfl, rfl, rfl⟩ := hcs
    exact ⟨Nat.le_refl _, fun _ => rfl⟩
  · simp at hcs
    obtain ⟨rfl, rfl, rfl⟩ := hcs
    exact ⟨hl, fun e => by cases e⟩
/-- Where the puts stand behind the first k. -/
def ptk (n : Nat) (L : List (Int × Int)) (os : List Int) : Nat → List Int × Nat × Bool
  | 0 => (os, 0, false)
  | k + 1 => if (ptk n L os k).2.2 = true then ptk n L os k else if 0 ≤ (L.getD k (0, 0)).1 ∧ (L.getD k (0, 0)).1 < n then ((ptk n L os k).1.set (L.getD k (0, 0)).1.toNat (L.getD k (0, 0)).2, (ptk n L os k).2.1 + 1, false) else ((ptk n L os k).1, (ptk n L os k).2.1 + 1, true)
theorem ptk_pts {n : Nat} {L : List (Int × Int)} {os : List Int} : ∀ k, k ≤ L.length → ((ptk n L os k).2.2 = true → pts n L os 0 = ptk n L os k) ∧ ((ptk n L os k).2.2 = false → pts n L os 0 = pts n (L.drop k) (ptk n L os k).1 (ptk n L os k).2.1)
  | 0, _ => ⟨fun h => (by cases h), fun _ => rfl⟩
  | k + 1, hk => by
    obtain ⟨i1, i2⟩ := ptk_pts (n := n) (L := L) (os := os) k (by omega)
    have e : ptk n L os (k + 1) = if (ptk n L os k).2.2 = true then ptk n L os k else if 0 ≤ (L.getD k (0, 0)).1 ∧ (L.getD k (0, 0)).1 < n then ((ptk n L os k).1.set (L.getD k (0, 0)).1.toNat (L.getD k (0, 0)).2, (ptk n L os k).2.1 + 1, false) else ((ptk n L os k).1, (ptk n L os k).2.1 + 1, true) := rfl
    have hd : L.drop k = L.getD k (0, 0) :: L.drop (k + 1) := by
      rw [List.drop_eq_getElem_cons (by omega), List.getD_eq_getElem?_getD, List.getElem?_eq_getElem (by omega)]; rfl
    rw [e]
    by_cases hb : (ptk n L os k).2.2 = true
    · rw [if_pos hb]
      exact ⟨fun _ => i1 hb, fun h => by rw [hb] at h; cases h⟩
    · rw [if_neg hb]
      have hf : (ptk n L os k).2.2 = false := by simpa using hb
      have hp := i2 hf
      rw [hd] at hp
      by_cases hq : 0 ≤ (L.getD k (0, 0)).1 ∧ (L.getD k (0, 0)).1 < n
      · rw [if_pos hq]
        exact ⟨fun h => (by cases h), fun _ => hp.trans (if_pos hq)⟩
      · rw [if_neg hq]
        exact ⟨fun _ => hp.trans (if_neg hq), fun h => by cases h⟩
theorem ptk_end {n : Nat} {L : List (Int × Int)} {os : List Int} : pts n L os 0 = ptk n L os L.length := by
  obtain ⟨h1, h2⟩ := ptk_pts (n := n) (L := L) (os := os) L.length (Nat.le_refl _)
  cases hb : (ptk n L os L.length).2.2 with
  | true => exact h1 hb
  | false =>
    rw [h2 hb, List.drop_length]
    show ((ptk n L os L.length).1, (ptk n L os L.length).2.1, false) = _
    rw [← hb]
theorem ptk_len {n : Nat} {L : List (Int × Int)} {os : List Int} : ∀ k, (ptk n L os k).1.length = os.length ∧ (ptk n L os k).2.1 ≤ k
  | 0 => ⟨rfl, Nat.le_refl _⟩
  | k + 1 => by
    have i := ptk_len (n := n) (L := L) (os := os) k
    unfold ptk
    split
    · exact ⟨i.1, by omega⟩
    · split
      · exact ⟨by simp [i.1], by show _ + 1 ≤ _; omega⟩
      · exact ⟨i.1, by show _ + 1 ≤ _; omega⟩
/-- A copy of numbers. -/
theorem copy_n {W0 : World} {ao : Option Addr} {os : List Int} (co : Nat) (hO : NUM W0 ao os) (hz : ao = none → co = 0) (hn : os.length ≤ 16) :
    ∃ v' W', (Builtin.append_ #[23, 23] 23 #[.slice (some ⟨W0.heap.size, 0, none⟩) 0 0, .slice ao os.length co]).run Tryz.prog (W0.alloc (.cells #[] 2)) = .ok v' W' ∧ W'.ownsRow W0.heap.size 2 1 v' os.length (nvs os) ∧ Keeps (fun _ => False) W0 W' := by
  obtain ⟨i0, hi0, hz0, hz1, hz2⟩ := n64i
  have k0 : Keeps (fun _ => False) W0 (W0.alloc (.cells #[] 2)) := (Keeps.refl _ W0).alloc _
  have o0 : (W0.alloc (.cells #[] 2)).ownsRow W0.heap.size 2 1 (.slice (some ⟨W0.heap.size, 0, none⟩) 0 0) 0 [] := ⟨rfl, .inr ⟨W0.heap.size, 0, #[], rfl, Nat.le_refl _, heap_alloc_new W0 _, Nat.le_refl _, by unfold maxLen; omega, rfl, rfl⟩⟩
  cases ao with
  | none =>
    have hl : os = [] := by
      cases os with
      | nil => rfl
      | cons x r => obtain ⟨b, off, e, _⟩ := hO 0 x rfl; cases e
    subst hl
    rw [hz rfl]
    exact ⟨_, _, run_append_owned_none (P := Tryz.prog) (w := W0.alloc (.cells #[] 2)) W0.heap.size 23 23 2 i0 1 nI hi0 _ 0 [] o0, o0, k0⟩
  | some a =>
    have hsrc : ∀ j u, (nvs os)[j]? = some u → (W0.alloc (.cells #[] 2)).cell? (a.add j) = some u := fun j u e => by
      unfold nvs at e
      rw [List.getElem?_map] at e
      cases hx : os[j]? with
      | none => rw [hx] at e; cases e
      | some x =>
        rw [hx] at e
        cases e
        obtain ⟨b, off, e', hc⟩ := hO j x hx
        cases e'
        rw [add_at]
        exact k0.cell hc (fun e => e)
    obtain ⟨v', w', hr, ho, hgr, _, _⟩ := run_append_own_at (P := Tryz.prog) (w := W0.alloc (.cells #[] 2)) W0.heap.size 23 23 2 i0 _ 1 8 nI hi0 hz0 hz1 hz2 rfl (by decide) _ 0 [] o0 a os.length co (nvs os) (by simp [nvs]) hsrc (fun u hu => by
      unfold nvs at hu
      obtain ⟨x, _, rfl⟩ := List.mem_map.1 hu
      rfl) (by unfold maxLen; omega) (by omega) k0.size
    rw [Nat.zero_add, List.nil_append] at ho
    exact ⟨v', w', hr, ho, k0.trans' ((Keeps.refl _ _).grown hgr (S := fun i => i = W0.heap.size) (fun i _ e => by simp [Value.ownBlock] at e; exact e.symm)) (fun _ _ e => e) (fun i hi e => by omega)⟩
theorem cl_of_owns {W : World} {base n : Nat} {v : Value} {l : List Int} (h : W.ownsRow base 2 1 v n (nvs l)) (hn : l.length = n) : ∃ a cap g, v = .slice a n cap ∧ base ≤ g ∧ CL W g (nvs l) ∧ (0 < n → a = some ⟨g, 0, none⟩ ∧ g < W.heap.size) := by
  rcases h.2 with ⟨rfl, h0⟩ | ⟨g, cap, cur, rfl, hb, hgg, rest⟩
  · have hz : n = 0 := by first | exact h0.1 | omega
    subst hz
    have hl : l = [] := List.eq_nil_of_length_eq_zero hn
    subst hl
    exact ⟨none, 0, base, rfl, Nat.le_refl _, ⟨fun o v e => by simp [nvs] at e, fun o ho => absurd ho (Nat.not_lt_zero _)⟩, fun h => by omega⟩
  · refine ⟨_, cap, g, rfl, hb, ⟨fun o v e => ?_, fun o _ => by simp [World.frozen?, hgg]⟩, fun _ => ⟨rfl, owns_lt' h g rfl⟩⟩
    have hc := h.cells (g := g) rfl o v e
    rw [add_at, Nat.zero_add] at hc
    exact hc
end Go.Proofs.YtniogbghldkmjaaGreatDoor
