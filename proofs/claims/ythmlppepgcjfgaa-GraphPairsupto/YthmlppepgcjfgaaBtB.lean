import Derived.Test.YthmlppepgcjfgaaBdY
namespace Go.Proofs.Ythmlppepgcjfgaa
open Go.RowKit Go.Deep
/-- All but two have not committed, as far as k. -/
def offV (ts : List Tv) (I J k m : Nat) : Tv := if m < k ∧ m ≠ I ∧ m ≠ J then { (ts.getD m tv0) with out := 4 } else ts.getD m tv0
def offT (ts : List Tv) (I J : Nat) : List Tv := (List.range ts.length).map (offV ts I J ts.length)
theorem offT_len (ts : List Tv) (I J : Nat) : (offT ts I J).length = ts.length := by unfold offT; simp
theorem offT_at {ts : List Tv} {I J m : Nat} (h : m < ts.length) : (offT ts I J).getD m tv0 = offV ts I J ts.length m := by
  unfold offT
  rw [List.getD_eq_getElem?_getD, List.getElem?_map, List.getElem?_range h]
  rfl
theorem offV_in {ts : List Tv} {I J k m : Nat} (h : m = I ∨ m = J) : offV ts I J k m = ts.getD m tv0 := by
  unfold offV
  rw [if_neg (by omega)]
theorem offV_out {ts : List Tv} {I J k m : Nat} (h : ¬ (m = I ∨ m = J)) (hk : m < k) : offV ts I J k m = { (ts.getD m tv0) with out := 4 } := by
  unfold offV
  rw [if_pos (by omega)]
theorem offT_out {ts : List Tv} {I J m : Nat} (h : m < ts.length) : ((offT ts I J).getD m tv0).out = 1 ↔ (m = I ∨ m = J) ∧ (ts.getD m tv0).out = 1 := by
  rw [offT_at h]
  by_cases c : m = I ∨ m = J
  · rw [offV_in c]
    exact ⟨fun q => ⟨c, q⟩, fun q => q.2⟩
  · rw [offV_out c h]
    exact ⟨fun q => absurd (show (4 : Int) = 1 from q) (by decide), fun q => absurd q.1 c⟩
theorem offT_same {ts : List Tv} {I J m : Nat} (h : m < ts.length) (c : m = I ∨ m = J) : (offT ts I J).getD m tv0 = ts.getD m tv0 := by rw [offT_at h, offV_in c]
theorem offT_may {ts : List Tv} {I J : Nat} (h : MayT ts) : MayT (offT ts I J) := by
  refine ⟨by rw [offT_len]; exact h.1, fun i hi ho => ?_⟩
  rw [offT_len] at hi
  obtain ⟨c, o⟩ := (offT_out hi).1 ho
  rw [offT_same hi c]
  obtain ⟨h1, h2⟩ := h.2 i hi o
  refine ⟨h1, fun j hj hoj => ?_⟩
  obtain ⟨c2, o2⟩ := (offT_out (show j < ts.length by omega)).1 hoj
  rw [offT_same (by omega) c2]
  exact h2 j hj o2
/-- An edge between the two. -/
def inE (I J : Nat) (e : Ed) : Bool := (decide (e.f = (I : Int)) || decide (e.f = (J : Int))) && (decide (e.t = (I : Int)) || decide (e.t = (J : Int)))
theorem inE_iff {I J : Nat} {e : Ed} : inE I J e = true ↔ (e.f = (I : Int) ∨ e.f = (J : Int)) ∧ (e.t = (I : Int) ∨ e.t = (J : Int)) := by
  unfold inE
  simp
theorem EdT.ends {ts : List Tv} {t u : Nat} {x : Int} {e : Ed} (h : EdT ts t u x e) : (e.f = (u : Int) ∧ e.t = (t : Int)) ∨ (e.f = (t : Int) ∧ e.t = (u : Int)) := by
  rcases h with ⟨-, -, rfl⟩ | ⟨-, -, rfl⟩ | ⟨-, -, rfl⟩
  · exact .inl ⟨rfl, rfl⟩
  · exact .inl ⟨rfl, rfl⟩
  · exact .inr ⟨rfl, rfl⟩
theorem EdA.apart {ts : List Tv} {e : Ed} (h : EdA ts e) : e.f ≠ e.t := by
  obtain ⟨t, u, i, -, -, ⟨hn, -, -⟩, -, h⟩ := h
  rcases h.ends with ⟨e1, e2⟩ | ⟨e1, e2⟩ <;> omega
theorem offT_edge {ts : List Tv} {I J : Nat} {e : Ed} : EdA (offT ts I J) e ↔ EdA ts e ∧ inE I J e = true := by
  constructor
  · rintro ⟨t, u, i, ht, hu, ⟨hn, ot, ou⟩, hi, h⟩
    rw [offT_len] at ht hu
    obtain ⟨ct, ot⟩ := (offT_out ht).1 ot
    obtain ⟨cu, ou⟩ := (offT_out hu).1 ou
    unfold EdT at h
    rw [offT_same hu cu] at hi h
    rw [offT_same ht ct] at h
    have h : EdT ts t u ((ts.getD u tv0).wrs.getD i wo0).object e := h
    refine ⟨⟨t, u, i, ht, hu, ⟨hn, ot, ou⟩, hi, h⟩, inE_iff.2 ?_⟩
    rcases h.ends with ⟨e1, e2⟩ | ⟨e1, e2⟩ <;> omega
  · rintro ⟨⟨t, u, i, ht, hu, ⟨hn, ot, ou⟩, hi, h⟩, hin⟩
    have hin := inE_iff.1 hin
    have ct : t = I ∨ t = J := by rcases h.ends with ⟨e1, e2⟩ | ⟨e1, e2⟩ <;> omega
    have cu : u = I ∨ u = J := by rcases h.ends with ⟨e1, e2⟩ | ⟨e1, e2⟩ <;> omega
    refine ⟨t, u, i, by rw [offT_len]; exact ht, by rw [offT_len]; exact hu, ⟨hn, (offT_out ht).2 ⟨ct, ot⟩, (offT_out hu).2 ⟨cu, ou⟩⟩, ?_, ?_⟩
    · rw [offT_same hu cu]; exact hi
    · unfold EdT
      rw [offT_same hu cu, offT_same ht ct]
      exact h
/-- The edges of the two are those of all that lie between them. -/
theorem offT_list {ts : List Tv} {I J : Nat} {l m : List Ed} {ec : Int} (h : BuA ts l 0) (h' : BuA (offT ts I J) m ec) : ec = 0 ∧ m = l.filter (inE I J) := by
  rcases h with ⟨-, e, -⟩ | ⟨hm, -, hs, he⟩
  · exact absurd e (by decide)
  · rcases h' with ⟨hn, -, -⟩ | ⟨-, e0, hs', he'⟩
    · exact absurd (offT_may hm) hn
    · refine ⟨e0, hs'.ext (List.Pairwise.filter _ hs) (fun e => ?_)⟩
      rw [he' e, List.mem_filter, he e, offT_edge]
theorem fil_take {p : Ed → Bool} {l : List Ed} {k : Nat} (h : k < l.length) : (l.take (k + 1)).filter p = (l.take k).filter p ++ (if p (l.getD k ed0) = true then [l.getD k ed0] else []) := by
  rw [List.take_add_one, List.getElem?_eq_getElem h, List.getD_eq_getElem?_getD, List.getElem?_eq_getElem h, List.filter_append]
  simp [List.filter_cons]
theorem fil_at {p : Ed → Bool} {l : List Ed} {k : Nat} (h : k < l.length) (hp : p (l.getD k ed0) = true) : ((l.take k).filter p).length < (l.filter p).length ∧ (l.filter p).getD ((l.take k).filter p).length ed0 = l.getD k ed0 := by
  have e : l.filter p = (l.take k).filter p ++ (l.getD k ed0 :: (l.drop (k + 1)).filter p) := by
    conv => lhs; rw [← List.take_append_drop k l, List.filter_append, drop_ed h, List.filter_cons, if_pos hp]
  rw [e]
  refine ⟨by rw [List.length_append, List.length_cons]; omega, ?_⟩
  rw [List.getD_eq_getElem?_getD, List.getElem?_append_right (Nat.le_refl _), Nat.sub_self]
  rfl
theorem offT_i {ts : List Tv} {I J : Nat} (h : TsI ts) : TsI (offT ts I J) := by
  have hs : ∀ m, (offV ts I J ts.length m).saws = (ts.getD m tv0).saws ∧ (offV ts I J ts.length m).wrs = (ts.getD m tv0).wrs ∧ (offV ts I J ts.length m).end_ = (ts.getD m tv0).end_ := fun m => by
    unfold offV
    split <;> exact ⟨rfl, rfl, rfl⟩
  refine ⟨by rw [offT_len]; exact h.l, ?_, fun i hi => ?_, fun i hi => ?_⟩
  · have e : sumT (offT ts I J) = sumT ts := by
      have e1 : ∀ k, k ≤ ts.length → sumT ((offT ts I J).take k) = sumT (ts.take k) := by
        intro k
        induction k with
        | zero => intro _; rfl
        | succ k ih =>
          intro hk
          rw [sumT_next (by rw [offT_len]; omega), sumT_next (by omega), ih (by omega), offT_at (by omega), (hs k).1, (hs k).2.1]
      have e2 := e1 ts.length (Nat.le_refl _)
      rw [List.take_length] at e2
      rw [← e2, List.take_of_length_le (by rw [offT_len]; omega)]
    rw [e]
    exact h.s
  · rw [offT_len] at hi
    rw [offT_at hi, (hs i).2.2]
    exact h.e i hi
  · rw [offT_len] at hi
    rw [offT_at hi, (hs i).1, (hs i).2.1]
    exact h.i i hi
/-- A list of attempts of one's own, to be written. -/
structure TW (w W : World) (g : Nat) (Q : List (Tv × Lp)) : Prop where
  c : CL W g (tcl Q)
  s : ∀ q ∈ Q, SWM W q.2.sa q.1.saws ∧ WOM W q.2.wa q.1.wrs
  a : ∀ q ∈ Q, (∀ b off, q.2.sa = some ⟨b, off, none⟩ → b ≠ g) ∧ (∀ b off, q.2.wa = some ⟨b, off, none⟩ → b ≠ g)
  k : Keeps (fun _ => False) w W
  b : w.heap.size ≤ g
theorem TO.tw {w W : World} {v : Value} {Q : List (Tv × Lp)} (h : TO w W v Q) (h0 : 0 < Q.length) : ∃ g cap, v = .slice (some ⟨g, 0, none⟩) Q.length cap ∧ TW w W g Q := by
  have ho := h.o
  rcases ho.2 with ⟨-, e0⟩ | ⟨g, cap, cur, rfl, hb, -⟩
  · exact absurd e0 (by omega)
  · exact ⟨g, cap, rfl, own_clL ho, h.s, fun q hq => ⟨fun b off e c => ((h.a q hq).1 b off e).2 (by rw [c]; rfl), fun b off e c => ((h.a q hq).2 b off e).2 (by rw [c]; rfl)⟩, h.k, hb⟩
theorem tcl_set : ∀ (Q : List (Tv × Lp)) (m : Nat), m < Q.length → ∀ c : Int, (tcl Q).set (m * 11 + 8) (.int .i64 c) = tcl (Q.set m ({ (Q.getD m q0).1 with out := c }, (Q.getD m q0).2))
  | q :: Q, 0, _, c => by
    unfold tcl
    rw [List.flatMap_cons, List.set_append_left _ _ (by show 0 * 11 + 8 < 11; decide)]
    rfl
  | q :: Q, m + 1, h, c => by
    have ih := tcl_set Q m (by simpa using h) c
    unfold tcl at ih ⊢
    rw [List.flatMap_cons, List.set_append_right _ _ (by show 11 ≤ (m + 1) * 11 + 8; omega)]
    show q.1.clp q.2 ++ (Q.flatMap (fun q => q.1.clp q.2)).set ((m + 1) * 11 + 8 - 11) _ = _
    rw [show (m + 1) * 11 + 8 - 11 = m * 11 + 8 by omega, ih]
    rfl
theorem mem_set_or {α : Type} : ∀ {l : List α} {m : Nat} {x y : α}, y ∈ l.set m x → y ∈ l ∨ y = x
  | [], _, _, _, h => .inl h
  | _ :: _, 0, _, _, h => by
    rcases List.mem_cons.1 h with e | e
    · exact .inr e
    · exact .inl (List.mem_cons_of_mem _ e)
  | a :: l, m + 1, _, _, h => by
    rcases List.mem_cons.1 h with e | e
    · exact .inl (by rw [e]; exact List.mem_cons_self ..)
    · rcases mem_set_or e with q | q
      · exact .inl (List.mem_cons_of_mem _ q)
      · exact .inr q
theorem TW.set {w W W' : World} {g m : Nat} {Q : List (Tv × Lp)} (h : TW w W g Q) (hm : m < Q.length) {c : Int} (hc : CL W' g ((tcl Q).set (m * 11 + 8) (.int .i64 c))) (k : Keeps (fun i => i = g) W W') : TW w W' g (Q.set m ({ (Q.getD m q0).1 with out := c }, (Q.getD m q0).2)) := by
  have hmem := getD_mem q0 hm
  have hs : ∀ q ∈ Q, SWM W' q.2.sa q.1.saws ∧ WOM W' q.2.wa q.1.wrs := fun q hq => ⟨(h.s q hq).1.keepS k (fun b off e => (h.a q hq).1 b off e), (h.s q hq).2.keepS k (fun b off e => (h.a q hq).2 b off e)⟩
  have hb := h.b
  refine ⟨by rw [← tcl_set Q m hm c]; exact hc, fun q hq => ?_, fun q hq => ?_, h.k.trans' k (fun _ _ e => e) (fun i hi e => by have e : i = g := e; omega), h.b⟩
  · rcases mem_set_or hq with q1 | rfl
    · exact hs q q1
    · exact hs (Q.getD m q0) hmem
  · rcases mem_set_or hq with q1 | rfl
    · exact h.a q q1
    · exact h.a (Q.getD m q0) hmem
theorem TW.txm {w W : World} {g : Nat} {Q : List (Tv × Lp)} (h : TW w W g Q) : TXM W (some ⟨g, 0, none⟩) (Q.map (·.1)) (fun i => (Q.getD i q0).2) := fun i hi => by
  rw [List.length_map] at hi
  rw [getD_q hi]
  refine ⟨⟨g, 0, rfl, fun j v hv => ?_⟩, h.s _ (getD_mem q0 hi)⟩
  rw [Nat.zero_add]
  exact h.c.c _ v (tcl_get Q i hi j v hv)
/-- The loop that strikes out. -/
def OfS (w W : World) (g : Nat) (ts : List Tv) (I J k : Nat) : Prop := ∃ Q, TW w W g Q ∧ Q.length = ts.length ∧ ∀ m, m < ts.length → (Q.getD m q0).1 = offV ts I J k m
theorem OfS.start {w W : World} {g : Nat} {ts : List Tv} {Q : List (Tv × Lp)} (h : TW w W g Q) (hq : Q.map (·.1) = ts) (I J : Nat) : OfS w W g ts I J 0 := by
  have hl : Q.length = ts.length := by rw [← hq, List.length_map]
  refine ⟨Q, h, hl, fun m hm => ?_⟩
  unfold offV
  rw [if_neg (by omega), ← hq, getD_q (by omega)]
theorem OfS.stay {w W : World} {g : Nat} {ts : List Tv} {I J k : Nat} (h : OfS w W g ts I J k) (hk : k = I ∨ k = J) : OfS w W g ts I J (k + 1) := by
  obtain ⟨Q, h1, h2, h3⟩ := h
  refine ⟨Q, h1, h2, fun m hm => ?_⟩
  rw [h3 m hm]
  by_cases c : m = k
  · subst c
    rw [offV_in hk, offV_in hk]
  · unfold offV
    by_cases d : m < k ∧ m ≠ I ∧ m ≠ J
    · rw [if_pos d, if_pos (by omega)]
    · rw [if_neg d, if_neg (by omega)]
theorem OfS.next {w W W' : World} {g : Nat} {ts : List Tv} {I J k : Nat} {Q : List (Tv × Lp)} (h1 : TW w W g Q) (h2 : Q.length = ts.length) (h3 : ∀ m, m < ts.length → (Q.getD m q0).1 = offV ts I J k m) (hk : k < ts.length) (hn : ¬ (k = I ∨ k = J)) (hc : CL W' g ((tcl Q).set (k * 11 + 8) (.int .i64 4))) (kk : Keeps (fun i => i = g) W W') : OfS w W' g ts I J (k + 1) := by
  refine ⟨_, h1.set (by omega) hc kk, by rw [List.length_set]; exact h2, fun m hm => ?_⟩
  by_cases c : m = k
  · subst c
    rw [List.getD_eq_getElem?_getD, List.getElem?_set_self (by omega)]
    show ({ (Q.getD m q0).1 with out := 4 } : Tv) = _
    rw [h3 m hm, offV_out hn (Nat.lt_succ_self m)]
    unfold offV
    rw [if_neg (by omega)]
  · rw [List.getD_eq_getElem?_getD, List.getElem?_set_ne (fun e => c e.symm), ← List.getD_eq_getElem?_getD, h3 m hm]
    unfold offV
    by_cases d : m < k ∧ m ≠ I ∧ m ≠ J
    · rw [if_pos d, if_pos (by omega)]
    · rw [if_neg d, if_neg (by omega)]
theorem OfS.done {w W : World} {g : Nat} {ts : List Tv} {I J : Nat} (h : OfS w W g ts I J ts.length) : ∃ p, TXM W (some ⟨g, 0, none⟩) (offT ts I J) p ∧ Keeps (fun _ => False) w W := by
  obtain ⟨Q, h1, h2, h3⟩ := h
  refine ⟨fun i => (Q.getD i q0).2, ?_, h1.k⟩
  have e : offT ts I J = Q.map (·.1) := by
    apply List.ext_getElem?
    intro m
    by_cases hm : m < ts.length
    · have a1 := offT_at (I := I) (J := J) hm
      have a2 := getD_q (Q := Q) (i := m) (by omega)
      rw [h3 m hm] at a2
      rw [List.getD_eq_getElem?_getD, List.getElem?_eq_getElem (by rw [offT_len]; exact hm)] at a1
      rw [List.getD_eq_getElem?_getD, List.getElem?_eq_getElem (by rw [List.length_map]; omega)] at a2
      rw [List.getElem?_eq_getElem (by rw [offT_len]; exact hm), List.getElem?_eq_getElem (by rw [List.length_map]; omega)]
      exact congrArg some (Eq.trans a1 a2.symm)
    · rw [List.getElem?_eq_none (by rw [offT_len]; omega), List.getElem?_eq_none (by rw [List.length_map]; omega)]
  rw [e]
  exact h1.txm
end Go.Proofs.Ythmlppepgcjfgaa
