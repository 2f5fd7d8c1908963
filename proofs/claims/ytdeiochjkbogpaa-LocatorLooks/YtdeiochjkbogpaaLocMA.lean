import Derived.Test.YtdeiochjkbogpaaLocOM
namespace Go.Proofs.Ytdeiochjkbogpaa
open Go.RowKit
/-- A client: where it is, its attempt, the object that it looks at, what it saw. -/
structure Cl where
  at_ : Nat
  att : Nat
  obj : Nat
  loc : Nat
  own : Nat
  cur : Nat
  since : Nat
  held : List Nat
  put : List Int
/-- An attempt's status; the version that is current by it. -/
def Ws.stat (s : Ws) (m : Mm) (a : Nat) : Int := m.val (s.att a).status
def Ws.curV (s : Ws) (m : Mm) (k : Nat) : Nat := if s.stat m (s.lo k).owner = 2 then (s.lo k).new else (s.lo k).old
theorem now_cur {s : Ws} {m : Mm} {i : Nat} : s.now m i = s.curV m (s.at_ m i) := by
  unfold Ws.now Ws.curV
  by_cases h : s.stat m (s.lo (s.at_ m i)).owner = 2
  · rw [if_pos h, if_pos (isC_iff.2 h)]
  · rw [if_neg h, if_neg (by rw [isC_not.2 h]; decide)]
/-- The clients over a world, and all that was; z: the client that has just committed, if any. -/
structure Fl (s : Ws) (m : Mm) (c : Nat → Cl) (H : List (List Vl)) (z : Nat) : Prop where
  iv : Inv s m
  a1 : ∀ k, k < 4 → 1 ≤ (c k).att ∧ (c k).att < s.atts.length
  ad : ∀ k k', k < 4 → k' < 4 → (c k).att = (c k').att → k = k'
  st : ∀ a, a < s.atts.length → s.stat m a = 1 ∨ s.stat m a = 2 ∨ s.stat m a = 3
  sc : ∀ k, k < 4 → k ≠ z → s.stat m (c k).att ≠ 2
  hp : ∀ k, k < 4 → (c k).held.length = (c k).put.length ∧ (c k).held.Nodup ∧ ∀ o, o ∈ (c k).held → o < s.objs.length
  ho : ∀ k, k < 4 → s.stat m (c k).att = 1 → ∀ o, o < s.objs.length → ((s.lo (s.at_ m o)).owner = (c k).att ↔ o ∈ (c k).held)
  hv : ∀ k, k < 4 → s.stat m (c k).att = 1 → ∀ (j o : Nat) (p : Int), (c k).held[j]? = some o → (c k).put[j]? = some p → s.vl (s.lo (s.at_ m o)).new = ⟨p, 0, false⟩
  h0 : H[H.length - 1]? = some (s.com m)
  h1 : 1 ≤ H.length
  c1 : ∀ k, k < 4 → (c k).at_ = 1 → (c k).obj < s.objs.length ∧ (c k).loc < s.locs.length ∧ (c k).obj ∉ (c k).held ∧ (c k).since < H.length ∧ (s.at_ m (c k).obj = (c k).loc ∨ (s.stat m (s.lo (c k).loc).owner ≠ 1 ∧ ∃ i, (c k).since ≤ i ∧ i < H.length ∧ (H.getD i []).getD (c k).obj vl0 = s.vl (s.curV m (c k).loc)))
  c2 : ∀ k, k < 4 → (c k).at_ = 2 → 1 ≤ (c k).own ∧ (c k).own < s.atts.length
  c3 : ∀ k, k < 4 → (c k).at_ = 3 → (c k).obj < s.objs.length ∧ (c k).loc < s.locs.length ∧ (c k).obj ∉ (c k).held ∧ s.stat m (s.lo (c k).loc).owner ≠ 1 ∧ (c k).cur = s.curV m (c k).loc
section
variable {s s' : Ws} {m m' : Mm} {c : Nat → Cl} {H : List (List Vl)} {z : Nat}
theorem Fl.last (h : Fl s m c H z) : H.getD (H.length - 1) [] = s.com m := by
  have := h.h0
  simp only [List.getD_eq_getElem?_getD, this, Option.getD_some]
theorem com_at {i : Nat} (hi : i < s.objs.length) : (s.com m).getD i vl0 = s.value m i := by simp [Ws.com, List.getD_eq_getElem?_getD, hi]
/-- Two looks: what they say was current at a moment between them. -/
theorem Fl.looked (h : Fl s m c H z) {k : Nat} (hk : k < 4) (hat : (c k).at_ = 1) :
    (∃ i, (c k).since ≤ i ∧ i < H.length ∧ (H.getD i []).getD (c k).obj vl0 = s.vl (s.curV m (c k).loc)) ∧
    ((s.stat m (s.lo (c k).loc).owner = 1 ∨ s.at_ m (c k).obj = (c k).loc) → s.value m (c k).obj = s.vl (s.curV m (c k).loc)) := by
  obtain ⟨q1, q2, _, q4, q5⟩ := h.c1 k hk hat
  have key : s.at_ m (c k).obj = (c k).loc → s.value m (c k).obj = s.vl (s.curV m (c k).loc) := fun e => by
    unfold Ws.value
    rw [now_cur, e]
  refine ⟨?_, fun e => ?_⟩
  · rcases q5 with e | ⟨_, e⟩
    · exact ⟨H.length - 1, by omega, by omega, by rw [h.last, com_at q1]; exact key e⟩
    · exact e
  · rcases e with e | e
    · rcases q5 with e' | ⟨e', _⟩
      · exact key e'
      · exact absurd e e'
    · exact key e
/-- All stands but a client's own look, and the committed list is noted once more. -/
theorem Fl.push (h : Fl s m c H z) : Fl s m c (H ++ [s.com m]) z := by
  have hl : (H ++ [s.com m]).length = H.length + 1 := by simp
  have hg : ∀ i, i < H.length → (H ++ [s.com m]).getD i [] = H.getD i [] := fun i hi => by simp [List.getD_eq_getElem?_getD, List.getElem?_append_left hi]
  refine ⟨h.iv, h.a1, h.ad, h.st, h.sc, h.hp, h.ho, h.hv, by rw [hl]; simp, by omega, fun k hk hat => ?_, h.c2, h.c3⟩
  obtain ⟨q1, q2, q3, q4, q5⟩ := h.c1 k hk hat
  exact ⟨q1, q2, q3, by omega, q5.imp id (fun ⟨e, i, i1, i2, i3⟩ => ⟨e, i, i1, by omega, by rw [hg i i2]; exact i3⟩)⟩
/-- What the world's looks hang on stands. -/
theorem Fl.same (h : Fl s m c H z) (iv : Inv s m') (hv : ∀ x, m'.val x = m.val x) : Fl s m' c H z := by
  have e1 : ∀ a, s.stat m' a = s.stat m a := fun a => hv _
  have e2 : ∀ o, s.at_ m' o = s.at_ m o := fun o => by unfold Ws.at_; rw [show (ca m'.cells (s.ob o)).2 = (ca m.cells (s.ob o)).2 from hv _]
  have e3 : ∀ k, s.curV m' k = s.curV m k := fun k => by unfold Ws.curV; rw [e1]
  have e4 : s.com m' = s.com m := by
    unfold Ws.com
    apply List.map_congr_left
    intro i _
    unfold Ws.value
    rw [now_cur, now_cur, e2, e3]
  exact ⟨iv, h.a1, h.ad, fun a ha => by rw [e1]; exact h.st a ha, fun k hk => by rw [e1]; exact h.sc k hk, h.hp, fun k hk => by rw [e1]; intro q o ho; rw [e2]; exact h.ho k hk q o ho, fun k hk => by rw [e1]; intro q j o p hj hp; rw [e2]; exact h.hv k hk q j o p hj hp, by rw [e4]; exact h.h0, h.h1,
    fun k hk q => by rw [e1, e2, e3]; exact h.c1 k hk q, h.c2, fun k hk q => by rw [e1, e3]; exact h.c3 k hk q⟩
/-- One client's own words change. -/
def upd (c : Nat → Cl) (k : Nat) (x : Cl) : Nat → Cl := fun j => if j = k then x else c j
theorem upd_self {k : Nat} {x : Cl} : upd c k x k = x := if_pos rfl
theorem upd_other {k j : Nat} {x : Cl} (h : j ≠ k) : upd c k x j = c j := if_neg h
/-- A client turns to another place; its attempt and what it holds stand. -/
theorem Fl.turn (h : Fl s m c H z) {k : Nat} {x : Cl} (hk : k < 4) (e1 : x.att = (c k).att) (e2 : x.held = (c k).held) (e3 : x.put = (c k).put)
    (h1 : x.at_ = 1 → x.obj < s.objs.length ∧ x.loc < s.locs.length ∧ x.obj ∉ x.held ∧ x.since < H.length ∧ (s.at_ m x.obj = x.loc ∨ (s.stat m (s.lo x.loc).owner ≠ 1 ∧ ∃ i, x.since ≤ i ∧ i < H.length ∧ (H.getD i []).getD x.obj vl0 = s.vl (s.curV m x.loc))))
    (h2 : x.at_ = 2 → 1 ≤ x.own ∧ x.own < s.atts.length)
    (h3 : x.at_ = 3 → x.obj < s.objs.length ∧ x.loc < s.locs.length ∧ x.obj ∉ x.held ∧ s.stat m (s.lo x.loc).owner ≠ 1 ∧ x.cur = s.curV m x.loc) : Fl s m (upd c k x) H z := by
  have ea : ∀ j, (upd c k x j).att = (c j).att := fun j => by
    by_cases e : j = k
    · subst e; rw [upd_self]; exact e1
    · rw [upd_other e]
  have eh : ∀ j, (upd c k x j).held = (c j).held := fun j => by
    by_cases e : j = k
    · subst e; rw [upd_self]; exact e2
    · rw [upd_other e]
  have ep : ∀ j, (upd c k x j).put = (c j).put := fun j => by
    by_cases e : j = k
    · subst e; rw [upd_self]; exact e3
    · rw [upd_other e]
  refine ⟨h.iv, fun j hj => by rw [ea]; exact h.a1 j hj, fun j j' hj hj' => by rw [ea, ea]; exact h.ad j j' hj hj', h.st, fun j hj => by rw [ea]; exact h.sc j hj, fun j hj => by rw [eh, ep]; exact h.hp j hj, fun j hj => by rw [ea, eh]; exact h.ho j hj, fun j hj => by rw [ea, eh, ep]; exact h.hv j hj, h.h0, h.h1, fun j hj => ?_, fun j hj => ?_, fun j hj => ?_⟩
  · by_cases e : j = k
    · subst e; rw [upd_self]; exact h1
    · rw [upd_other e]; exact h.c1 j hj
  · by_cases e : j = k
    · subst e; rw [upd_self]; exact h2
    · rw [upd_other e]; exact h.c2 j hj
  · by_cases e : j = k
    · subst e; rw [upd_self]; exact h3
    · rw [upd_other e]; exact h.c3 j hj
/-- The first look. -/
theorem Fl.load (h : Fl s m c H z) {k o : Nat} (hk : k < 4) (ho : o < s.objs.length) (hm : o ∉ (c k).held) : Fl s (m.load (s.ob o)) (upd c k { c k with at_ := 1, obj := o, loc := s.at_ m o, since := H.length - 1 }) H z := by
  have hs := (h.same (h.iv.load (s.ob o)) (fun x => m.val_load (s.ob o) x)).turn (k := k) (x := { c k with at_ := 1, obj := o, loc := s.at_ m o, since := H.length - 1 }) hk rfl rfl rfl
  refine hs (fun _ => ⟨ho, (h.iv.stand ho).1, hm, ?_, .inl ?_⟩) (fun e => by cases e) (fun e => by cases e)
  · have := h.h1; show H.length - 1 < H.length; omega
  · show (ca (m.load (s.ob o)).cells (s.ob o)).2.toNat = s.at_ m o
    unfold Ws.at_
    rw [show (ca (m.load (s.ob o)).cells (s.ob o)).2 = (ca m.cells (s.ob o)).2 from m.val_load _ _]
end
end Go.Proofs.Ytdeiochjkbogpaa
namespace Go.Proofs.Ytdeiochjkbogpaa
open Go.RowKit
section
variable {s s' : Ws} {m m' : Mm} {c : Nat → Cl} {H H' : List (List Vl)} {z y : Nat}
theorem stat_swap (iv : Inv s m) {a b : Nat} (ha : a < s.atts.length) (hb : b < s.atts.length) (sv : Int) : s.stat (m.swap (s.att a).status 1 sv) b = if b = a ∧ s.stat m a = 1 then sv else s.stat m b := by
  obtain ⟨κ, k1, k2⟩ := iv.kap
  unfold Ws.stat
  rw [m.val_swap]
  by_cases e : b = a
  · subst e
    by_cases q : m.val (s.att b).status = 1
    · rw [if_pos ⟨rfl, (iv.ca_ b hb).1, q⟩, if_pos ⟨rfl, q⟩]
    · rw [if_neg (fun z => q z.2.2), if_neg (fun z => q z.2)]
  · rw [if_neg, if_neg (fun z => e z.1)]
    rintro ⟨e1, _, _⟩
    have := (k1 b hb).1
    rw [e1, (k1 a ha).1] at this
    omega
theorem at_swap (iv : Inv s m) {a o : Nat} (ha : a < s.atts.length) (ho : o < s.objs.length) (sv : Int) : s.at_ (m.swap (s.att a).status 1 sv) o = s.at_ m o := by
  obtain ⟨κ, k1, k2⟩ := iv.kap
  have e : (m.swap (s.att a).status 1 sv).val (s.ob o) = m.val (s.ob o) := by
    rw [m.val_swap, if_neg]
    rintro ⟨e1, _, _⟩
    have := k2 o ho
    rw [e1, (k1 a ha).1] at this
    omega
  unfold Ws.at_
  rw [show (ca (m.swap (s.att a).status 1 sv).cells (s.ob o)).2 = (ca m.cells (s.ob o)).2 from e]
/-- An attempt ends, or had ended. -/
theorem Fl.stop (h : Fl s m c H z) {a : Nat} (ha : a < s.atts.length) {sv : Int} (hsv : sv = 2 ∨ sv = 3) (hy : ∀ k, k < 4 → k ≠ y → k ≠ z ∧ (sv = 2 → (c k).att ≠ a)) (hl : H.length ≤ H'.length) (hg : ∀ i, i < H.length → H'.getD i [] = H.getD i []) (h0 : H'[H'.length - 1]? = some (s.com (m.swap (s.att a).status 1 sv))) :
    Fl s (m.swap (s.att a).status 1 sv) c H' y := by
  have on : ∀ b, b < s.atts.length → s.stat (m.swap (s.att a).status 1 sv) b = 1 → s.stat m b = 1 := fun b hb e => by
    rw [stat_swap h.iv ha hb] at e
    by_cases q : b = a ∧ s.stat m a = 1
    · rw [if_pos q] at e; rcases hsv with z | z <;> rw [z] at e <;> cases e
    · rw [if_neg q] at e; exact e
  have off : ∀ b, b < s.atts.length → s.stat m b ≠ 1 → s.stat (m.swap (s.att a).status 1 sv) b = s.stat m b := fun b hb e => by
    rw [stat_swap h.iv ha hb, if_neg]
    rintro ⟨rfl, q⟩
    exact e q
  have cv : ∀ l, l < s.locs.length → s.stat m (s.lo l).owner ≠ 1 → s.curV (m.swap (s.att a).status 1 sv) l = s.curV m l := fun l hl e => by
    unfold Ws.curV
    rw [off _ (h.iv.lo l hl).2.2 e]
  refine ⟨h.iv.stat ha sv, h.a1, h.ad, fun b hb => ?_, fun k hk q => ?_, h.hp, fun k hk q o ho => ?_, fun k hk q j o p hj hp => ?_, h0, by have := h.h1; omega, fun k hk q => ?_, h.c2, fun k hk q => ?_⟩
  · rw [stat_swap h.iv ha hb]
    split
    · rcases hsv with z | z <;> simp [z]
    · exact h.st b hb
  · rw [stat_swap h.iv ha (h.a1 k hk).2]
    split
    · next q' =>
      rcases hsv with e | e
      · exact absurd q'.1 ((hy k hk q).2 e)
      · rw [e]; decide
    · exact h.sc k hk (hy k hk q).1
  · rw [at_swap h.iv ha ho]
    exact h.ho k hk (on _ (h.a1 k hk).2 q) o ho
  · rw [at_swap h.iv ha ((h.hp k hk).2.2 o (List.mem_of_getElem? hj))]
    exact h.hv k hk (on _ (h.a1 k hk).2 q) j o p hj hp
  · obtain ⟨q1, q2, q3, q4, q5⟩ := h.c1 k hk q
    rw [at_swap h.iv ha q1]
    refine ⟨q1, q2, q3, by omega, q5.imp id ?_⟩
    rintro ⟨e, i, i1, i2, i3⟩
    exact ⟨by rw [off _ (h.iv.lo _ q2).2.2 e]; exact e, i, i1, by omega, by rw [hg i i2, cv _ q2 e]; exact i3⟩
  · obtain ⟨q1, q2, q3, q4, q5⟩ := h.c3 k hk q
    exact ⟨q1, q2, q3, by rw [off _ (h.iv.lo _ q2).2.2 q4]; exact q4, by rw [cv _ q2 q4]; exact q5⟩
/-- A kill leaves the committed list. -/
theorem com_kill (iv : Inv s m) {a : Nat} (ha : a < s.atts.length) : s.com (m.swap (s.att a).status 1 3) = s.com m := by
  unfold Ws.com
  apply List.map_congr_left
  intro i hi
  have hi : i < s.objs.length := by simpa using hi
  unfold Ws.value
  rw [now_cur, now_cur, at_swap iv ha hi]
  congr 1
  unfold Ws.curV
  rw [stat_swap iv ha (iv.stand hi).2.2.1]
  split
  · next q =>
    rw [if_neg (by decide), if_neg]
    rw [q.1, q.2]; decide
  · rfl
theorem Fl.kill (h : Fl s m c H z) {a : Nat} (ha : a < s.atts.length) : Fl s (m.swap (s.att a).status 1 3) c H z :=
  h.stop ha (.inr rfl) (fun k _ q => ⟨q, fun e => by cases e⟩) (Nat.le_refl _) (fun _ _ => rfl) (by rw [com_kill h.iv ha]; exact h.h0)
/-- A commit that took puts what the client put. -/
theorem Fl.commit (h : Fl s m c H 4) {k : Nat} (hk : k < 4) : Fl s (m.swap (s.att (c k).att).status 1 2) c (H ++ [s.com (m.swap (s.att (c k).att).status 1 2)]) k :=
  h.stop (h.a1 k hk).2 (.inl rfl) (fun j hj q => ⟨by omega, fun _ e => q (h.ad j k hj hk e)⟩) (by simp) (fun i hi => by simp [List.getD_eq_getElem?_getD, List.getElem?_append_left hi]) (by simp)
theorem Fl.put_commit (h : Fl s m c H z) {k : Nat} (hk : k < 4) (h1 : s.stat m (c k).att = 1) {i : Nat} (hi : i < s.objs.length) :
    (i ∉ (c k).held → s.value (m.swap (s.att (c k).att).status 1 2) i = s.value m i) ∧
    ∀ (j : Nat) (p : Int), (c k).held[j]? = some i → (c k).put[j]? = some p → s.value (m.swap (s.att (c k).att).status 1 2) i = ⟨p, 0, false⟩ := by
  have ha := (h.a1 k hk).2
  have hb := (h.iv.stand hi).2.2.1
  have ho := h.ho k hk h1 i hi
  refine ⟨fun q => ?_, fun j p q1 q2 => ?_⟩
  · unfold Ws.value
    rw [now_cur, now_cur, at_swap h.iv ha hi]
    congr 1
    unfold Ws.curV
    rw [show s.stat (m.swap (s.att (c k).att).status 1 2) (s.lo (s.at_ m i)).owner = s.stat m (s.lo (s.at_ m i)).owner from (stat_swap h.iv ha hb 2).trans (if_neg (fun z => q (ho.1 z.1)))]
  · have e := ho.2 (List.mem_of_getElem? q1)
    unfold Ws.value
    rw [now_cur, at_swap h.iv ha hi]
    unfold Ws.curV
    rw [show s.stat (m.swap (s.att (c k).att).status 1 2) (s.lo (s.at_ m i)).owner = 2 from (stat_swap h.iv ha hb 2).trans (if_pos ⟨e, h1⟩), if_pos rfl]
    exact h.hv k hk h1 j i p q1 q2
theorem Fl.lost_commit (h : Fl s m c H z) {k : Nat} (hk : k < 4) (h1 : s.stat m (c k).att ≠ 1) {i : Nat} (hi : i < s.objs.length) : s.value (m.swap (s.att (c k).att).status 1 2) i = s.value m i := by
  unfold Ws.value
  rw [now_cur, now_cur, at_swap h.iv (h.a1 k hk).2 hi]
  congr 1
  unfold Ws.curV
  rw [show s.stat (m.swap (s.att (c k).att).status 1 2) (s.lo (s.at_ m i)).owner = s.stat m (s.lo (s.at_ m i)).owner from (stat_swap h.iv (h.a1 k hk).2 (h.iv.stand hi).2.2.1 2).trans (if_neg (fun z => h1 z.2))]
end
end Go.Proofs.Ytdeiochjkbogpaa
namespace Go.Proofs.Ytdeiochjkbogpaa
open Go.RowKit
section
variable {s s' : Ws} {m m' : Mm} {c : Nat → Cl} {H H' : List (List Vl)} {z y : Nat}
theorem curV_lt (iv : Inv s m) {l : Nat} (hl : l < s.locs.length) : s.curV m l < s.locs.length := by
  unfold Ws.curV
  split
  · rw [(iv.lo l hl).1]; exact hl
  · exact (iv.lo l hl).2.1
/-- A world that has grown: what stood stands. -/
structure Gr (s : Ws) (m : Mm) (s' : Ws) (m' : Mm) : Prop where
  iv : Inv s' m'
  ob : s'.objs.length = s.objs.length
  al : s.atts.length ≤ s'.atts.length
  ll : s.locs.length ≤ s'.locs.length
  st : ∀ a, a < s.atts.length → s'.stat m' a = s.stat m a
  lo : ∀ l, l < s.locs.length → (s'.lo l).owner = (s.lo l).owner ∧ (s'.lo l).old = (s.lo l).old ∧ (s'.lo l).new = (s.lo l).new
  vl : ∀ l, l < s.locs.length → s'.vl l = s.vl l
theorem Gr.cur (g : Gr s m s' m') (iv : Inv s m) {l : Nat} (hl : l < s.locs.length) : s'.curV m' l = s.curV m l := by
  unfold Ws.curV
  rw [(g.lo l hl).1, (g.lo l hl).2.1, (g.lo l hl).2.2, g.st _ (iv.lo l hl).2.2]
theorem Gr.value (g : Gr s m s' m') (iv : Inv s m) {i : Nat} (hi : i < s.objs.length) (e : s'.at_ m' i = s.at_ m i) : s'.value m' i = s.value m i := by
  unfold Ws.value
  have hl := (iv.stand hi).1
  rw [now_cur, now_cur, e, g.cur iv hl, g.vl _ (curV_lt iv hl)]
theorem Gr.com (g : Gr s m s' m') (e : ∀ i, i < s.objs.length → s'.value m' i = s.value m i) : s'.com m' = s.com m := by
  unfold Ws.com
  rw [g.ob]
  apply List.map_congr_left
  intro i hi
  exact e i (by simpa using hi)
/-- It has grown, and no cell has turned; no attempt is new. -/
theorem Fl.grow (h : Fl s m c H z) (g : Gr s m s' m') (ea : s'.atts.length = s.atts.length) (e : ∀ i, i < s.objs.length → s'.at_ m' i = s.at_ m i) : Fl s' m' c H z := by
  refine ⟨g.iv, fun k hk => by rw [ea]; exact h.a1 k hk, h.ad, fun a ha => by rw [ea] at ha; rw [g.st a ha]; exact h.st a ha, fun k hk => by rw [g.st _ (h.a1 k hk).2]; exact h.sc k hk, fun k hk => by rw [g.ob]; exact h.hp k hk, fun k hk => ?_, fun k hk => ?_, by rw [g.com (fun i hi => g.value h.iv hi (e i hi))]; exact h.h0, h.h1, fun k hk q => ?_, fun k hk => by rw [ea]; exact h.c2 k hk, fun k hk q => ?_⟩
  · rw [g.st _ (h.a1 k hk).2, g.ob]
    intro q o ho
    rw [e o ho, (g.lo _ (h.iv.stand ho).1).1]
    exact h.ho k hk q o ho
  · rw [g.st _ (h.a1 k hk).2]
    intro q j o p hj hp
    have ho := (h.hp k hk).2.2 o (List.mem_of_getElem? hj)
    have hl := (h.iv.stand ho).1
    rw [e o ho, (g.lo _ hl).2.2, g.vl _ (by rw [(h.iv.lo _ hl).1]; exact hl)]
    exact h.hv k hk q j o p hj hp
  · obtain ⟨q1, q2, q3, q4, q5⟩ := h.c1 k hk q
    rw [g.ob, e _ q1, (g.lo _ q2).1, g.st _ (h.iv.lo _ q2).2.2, g.cur h.iv q2, g.vl _ (curV_lt h.iv q2)]
    exact ⟨q1, Nat.lt_of_lt_of_le q2 g.ll, q3, q4, q5⟩
  · obtain ⟨q1, q2, q3, q4, q5⟩ := h.c3 k hk q
    rw [g.ob, (g.lo _ q2).1, g.st _ (h.iv.lo _ q2).2.2, g.cur h.iv q2]
    exact ⟨q1, Nat.lt_of_lt_of_le q2 g.ll, q3, q4, q5⟩
/-- A fresh attempt of client k. -/
theorem Fl.beg (h : Fl s m c H z) (g : Gr s m s' m') {k : Nat} {x : Cl} (hk : k < 4) (hz : ∀ j, j < 4 → j ≠ k → j ≠ z) (ea : s'.atts.length = s.atts.length + 1) (e1 : s'.stat m' s.atts.length = 1) (e : ∀ i, i < s.objs.length → s'.at_ m' i = s.at_ m i)
    (x0 : x.at_ = 0) (x1 : x.att = s.atts.length) (x2 : x.held = []) (x3 : x.put = []) : Fl s' m' (upd c k x) H 4 := by
  have un : ∀ j, j < 4 → j ≠ k → upd c k x j = c j := fun j _ q => upd_other q
  refine ⟨g.iv, fun j hj => ?_, fun j j' hj hj' => ?_, fun a ha => ?_, fun j hj _ => ?_, fun j hj => ?_, fun j hj => ?_, fun j hj => ?_, by rw [g.com (fun i hi => g.value h.iv hi (e i hi))]; exact h.h0, h.h1, fun j hj => ?_, fun j hj => ?_, fun j hj => ?_⟩
  · by_cases q : j = k
    · subst q; rw [upd_self, x1, ea]; have := h.iv.a1; omega
    · rw [upd_other q, ea]; have := h.a1 j hj; omega
  · by_cases q : j = k
    · by_cases q' : j' = k
      · intro _; rw [q, q']
      · subst q; rw [upd_self, upd_other q', x1]; intro e; have := (h.a1 j' hj').2; omega
    · by_cases q' : j' = k
      · subst q'; rw [upd_self, upd_other q, x1]; intro e; have := (h.a1 j hj).2; omega
      · rw [upd_other q, upd_other q']; exact h.ad j j' hj hj'
  · by_cases q : a < s.atts.length
    · rw [g.st a q]; exact h.st a q
    · rw [show a = s.atts.length by omega]; exact .inl e1
  · by_cases q : j = k
    · subst q; rw [upd_self, x1, e1]; decide
    · rw [upd_other q, g.st _ (h.a1 j hj).2]; exact h.sc j hj (hz j hj q)
  · by_cases q : j = k
    · subst q; rw [upd_self, x2, x3]; simp
    · rw [upd_other q, g.ob]; exact h.hp j hj
  · by_cases q : j = k
    · subst q; rw [upd_self, x1, x2]
      intro _ o ho
      rw [g.ob] at ho
      have hs := h.iv.stand ho
      rw [e o ho, (g.lo _ hs.1).1]
      have := hs.2.2.1
      exact ⟨fun e => by omega, fun e => by cases e⟩
    · rw [upd_other q, g.st _ (h.a1 j hj).2, g.ob]
      intro q o ho
      rw [e o ho, (g.lo _ (h.iv.stand ho).1).1]
      exact h.ho j hj q o ho
  · by_cases q : j = k
    · subst q; rw [upd_self, x2]
      intro _ i o p e
      simp at e
    · rw [upd_other q, g.st _ (h.a1 j hj).2]
      intro q i o p hi hp
      have ho := (h.hp j hj).2.2 o (List.mem_of_getElem? hi)
      have hl := (h.iv.stand ho).1
      rw [e o ho, (g.lo _ hl).2.2, g.vl _ (by rw [(h.iv.lo _ hl).1]; exact hl)]
      exact h.hv j hj q i o p hi hp
  · by_cases q : j = k
    · subst q; rw [upd_self, x0]; intro e; cases e
    · rw [upd_other q]
      intro q
      obtain ⟨q1, q2, q3, q4, q5⟩ := h.c1 j hj q
      rw [g.ob, e _ q1, (g.lo _ q2).1, g.st _ (h.iv.lo _ q2).2.2, g.cur h.iv q2, g.vl _ (curV_lt h.iv q2)]
      exact ⟨q1, Nat.lt_of_lt_of_le q2 g.ll, q3, q4, q5⟩
  · by_cases q : j = k
    · subst q; rw [upd_self, x0]; intro e; cases e
    · rw [upd_other q, ea]
      intro q
      have := h.c2 j hj q
      omega
  · by_cases q : j = k
    · subst q; rw [upd_self, x0]; intro e; cases e
    · rw [upd_other q]
      intro q
      obtain ⟨q1, q2, q3, q4, q5⟩ := h.c3 j hj q
      rw [g.ob, (g.lo _ q2).1, g.st _ (h.iv.lo _ q2).2.2, g.cur h.iv q2]
      exact ⟨q1, Nat.lt_of_lt_of_le q2 g.ll, q3, q4, q5⟩
/-- Client k has laid a locator over what it found, and put a number. -/
theorem Fl.take (h : Fl s m c H 4) (g : Gr s m s' m') {k : Nat} {x : Cl} {p : Int} (hk : k < 4) (h3 : (c k).at_ = 3) (hc : s.at_ m (c k).obj = (c k).loc) (ea : s'.atts.length = s.atts.length)
    (en : (s'.lo s.locs.length).owner = (c k).att ∧ (s'.lo s.locs.length).old = (c k).cur ∧ (s'.lo s.locs.length).new = s.locs.length) (ev : s'.vl s.locs.length = ⟨p, 0, false⟩)
    (eo : s'.at_ m' (c k).obj = s.locs.length) (e : ∀ i, i < s.objs.length → i ≠ (c k).obj → s'.at_ m' i = s.at_ m i)
    (x0 : x.at_ = 4) (x1 : x.att = (c k).att) (x2 : x.held = (c k).held ++ [(c k).obj]) (x3 : x.put = (c k).put ++ [p]) : Fl s' m' (upd c k x) H 4 := by
  obtain ⟨t1, t2, t3, t4, t5⟩ := h.c3 k hk h3
  have hk2 : s.stat m (c k).att ≠ 2 := h.sc k hk (by omega)
  have hat := (h.a1 k hk).2
  have cv : s.curV m (c k).loc < s.locs.length := curV_lt h.iv t2
  have now : s.value m (c k).obj = s.vl (s.curV m (c k).loc) := by unfold Ws.value; rw [now_cur, hc]
  have com : s'.com m' = s.com m := g.com fun i hi => by
    by_cases q : i = (c k).obj
    · rw [q, now]
      unfold Ws.value
      rw [now_cur, eo]
      unfold Ws.curV
      rw [en.1, en.2.1, g.st _ hat, if_neg hk2, t5, g.vl _ cv]
      unfold Ws.curV
      rfl
    · exact g.value h.iv hi (e i hi q)
  have xa : ∀ j, (upd c k x j).att = (c j).att := fun j => by
    by_cases q : j = k
    · subst q; rw [upd_self]; exact x1
    · rw [upd_other q]
  have nob : ∀ j, j < 4 → s.stat m (c j).att = 1 → (c k).obj ∉ (c j).held := fun j hj q q' => by
    have := (h.ho j hj q _ t1).2 q'
    rw [hc] at this
    exact t4 (by rw [this]; exact q)
  refine ⟨g.iv, fun j hj => by rw [xa, ea]; exact h.a1 j hj, fun j j' hj hj' => by rw [xa, xa]; exact h.ad j j' hj hj', fun a ha => by rw [ea] at ha; rw [g.st a ha]; exact h.st a ha, fun j hj => by rw [xa, g.st _ (h.a1 j hj).2]; exact h.sc j hj, fun j hj => ?_, fun j hj => ?_, fun j hj => ?_, by rw [com]; exact h.h0, h.h1, fun j hj => ?_, fun j hj => ?_, fun j hj => ?_⟩
  · by_cases q : j = k
    · subst q; rw [upd_self, x2, x3, g.ob]
      obtain ⟨p1, p2, p3⟩ := h.hp j hj
      refine ⟨by simp [p1], ?_, fun o ho => ?_⟩
      · rw [List.nodup_append]
        exact ⟨p2, by simp, fun a ha b hb => by simp at hb; rw [hb]; intro e; exact t3 (e ▸ ha)⟩
      · rcases List.mem_append.1 ho with z | z
        · exact p3 o z
        · simp at z; rw [z]; exact t1
    · rw [upd_other q, g.ob]; exact h.hp j hj
  · rw [xa, g.st _ (h.a1 j hj).2, g.ob]
    intro q o ho
    by_cases eq : o = (c k).obj
    · rw [eq, eo, en.1]
      by_cases q' : j = k
      · subst q'; rw [upd_self, x2]; simp
      · rw [upd_other q']
        exact ⟨fun z => absurd (h.ad k j hk hj z).symm q', fun z => absurd z (nob j hj q)⟩
    · rw [e o ho eq, (g.lo _ (h.iv.stand ho).1).1]
      by_cases q' : j = k
      · subst q'; rw [upd_self, x2, h.ho j hj q o ho]; simp [eq]
      · rw [upd_other q']; exact h.ho j hj q o ho
  · rw [xa, g.st _ (h.a1 j hj).2]
    intro q i o pp hi hp
    have old : (c j).held[i]? = some o → (c j).put[i]? = some pp → s'.vl (s'.lo (s'.at_ m' o)).new = ⟨pp, 0, false⟩ := fun hi hp => by
      have hm := List.mem_of_getElem? hi
      have ho := (h.hp j hj).2.2 o hm
      have hl := (h.iv.stand ho).1
      rw [e o ho (fun z => nob j hj q (z ▸ hm)), (g.lo _ hl).2.2, g.vl _ (by rw [(h.iv.lo _ hl).1]; exact hl)]
      exact h.hv j hj q i o pp hi hp
    by_cases q' : j = k
    · subst q'
      rw [upd_self, x2] at hi
      rw [upd_self, x3] at hp
      have hlen := (h.hp j hj).1
      rcases Nat.lt_or_ge i (c j).held.length with z | z
      · rw [List.getElem?_append_left z] at hi
        rw [List.getElem?_append_left (by omega)] at hp
        exact old hi hp
      · rw [List.getElem?_append_right z] at hi
        rw [List.getElem?_append_right (by omega)] at hp
        have zi : i - (c j).held.length = 0 := by
          rcases Nat.eq_zero_or_pos (i - (c j).held.length) with e | e
          · exact e
          · rw [List.getElem?_eq_none (by simp; omega)] at hi; cases hi
        have zp : i - (c j).put.length = 0 := by omega
        rw [zi] at hi
        rw [zp] at hp
        simp at hi hp
        rw [← hi, eo, en.2.2, ev, hp]
    · rw [upd_other q'] at hi hp
      exact old hi hp
  · by_cases q : j = k
    · subst q; rw [upd_self, x0]; intro e; cases e
    · rw [upd_other q]
      intro q
      obtain ⟨q1, q2, q3, q4, q5⟩ := h.c1 j hj q
      rw [g.ob, (g.lo _ q2).1, g.st _ (h.iv.lo _ q2).2.2, g.cur h.iv q2, g.vl _ (curV_lt h.iv q2)]
      refine ⟨q1, Nat.lt_of_lt_of_le q2 g.ll, q3, q4, ?_⟩
      rcases q5 with q5 | q5
      · by_cases eq : (c j).obj = (c k).obj
        · have el : (c j).loc = (c k).loc := by rw [← q5, eq]; exact hc
          refine .inr ⟨by rw [el]; exact t4, H.length - 1, by omega, by have := h.h1; omega, ?_⟩
          rw [h.last, com_at q1, eq, el]
          exact now
        · exact .inl (by rw [e _ q1 eq]; exact q5)
      · exact .inr q5
  · by_cases q : j = k
    · subst q; rw [upd_self, x0]; intro e; cases e
    · rw [upd_other q, ea]; exact h.c2 j hj
  · by_cases q : j = k
    · subst q; rw [upd_self, x0]; intro e; cases e
    · rw [upd_other q]
      intro q
      obtain ⟨q1, q2, q3, q4, q5⟩ := h.c3 j hj q
      rw [g.ob, (g.lo _ q2).1, g.st _ (h.iv.lo _ q2).2.2, g.cur h.iv q2]
      exact ⟨q1, Nat.lt_of_lt_of_le q2 g.ll, q3, q4, q5⟩
end
end Go.Proofs.Ytdeiochjkbogpaa
namespace Go.Proofs.Ytdeiochjkbogpaa
open Go.RowKit
section
variable {s s' : Ws} {m m' : Mm} {c : Nat → Cl} {H H' : List (List Vl)} {z y : Nat}
/-- Begin. -/
theorem gr_beg (iv : Inv s m) (hr : s.atts.length < 16384) (th st pr : Int) :
    Gr s m (s.beg th st pr m.cells.length) ((m.make 1).make 0) ∧ (s.beg th st pr m.cells.length).stat ((m.make 1).make 0) s.atts.length = 1 ∧ ∀ i, i < s.objs.length → (s.beg th st pr m.cells.length).at_ ((m.make 1).make 0) i = s.at_ m i := by
  have ea : ∀ i, (s.beg th st pr m.cells.length).att i = if i < s.atts.length then s.att i else if i = s.atts.length then ⟨th, st, pr, m.cells.length, m.cells.length + 1⟩ else at0 := fun i => att_app
  have ev : ∀ d, d < m.cells.length → ((m.make 1).make 0).val d = m.val d := fun d hd => by
    rw [Mm.val_make, if_neg (by rw [Mm.len_make]; omega), Mm.val_make, if_neg (by omega)]
  refine ⟨⟨iv.beg hr th st pr 1, rfl, by simp [Ws.beg], Nat.le_refl _, fun a ha => ?_, fun _ _ => ⟨rfl, rfl, rfl⟩, fun _ _ => rfl⟩, ?_, fun i hi => ?_⟩
  · unfold Ws.stat
    rw [ea, if_pos ha]
    exact ev _ (iv.ca_ a ha).1
  · unfold Ws.stat
    rw [ea, if_neg (by omega), if_pos rfl, Mm.val_make, if_neg (by rw [Mm.len_make]; simp), Mm.val_make, if_pos rfl]
  · exact at_of ((ev _ (iv.co i hi)).trans (iv.stand hi).2.1)
/-- Make. -/
theorem gr_lay (iv : Inv s m) {x o : Nat} (hx : x < s.atts.length) (ho : o < s.locs.length) (hC : s.isC m (s.lo o).owner = true) (hr : s.locs.length < 16384) (v : Vl) : Gr s m (s.lay x o v) m := by
  refine ⟨iv.lay hx ho hC hr v, rfl, Nat.le_refl _, by simp [Ws.lay], fun _ _ => rfl, fun l hl => ?_, fun l hl => ?_⟩
  · have e : (s.lay x o v).lo l = if l < s.locs.length then s.lo l else if l = s.locs.length then ⟨x, o, s.vals.length, false⟩ else lo0 := lo_app
    rw [e, if_pos hl]
    exact ⟨rfl, rfl, rfl⟩
  · exact vl_app (by rw [iv.vl]; exact hl)
/-- A swap of an object's cell. -/
theorem stat_obj (iv : Inv s m) {o a : Nat} (ho : o < s.objs.length) (ha : a < s.atts.length) (x y : Int) : s.stat (m.swap (s.ob o) x y) a = s.stat m a := by
  obtain ⟨κ, k1, k2⟩ := iv.kap
  unfold Ws.stat
  rw [m.val_swap, if_neg]
  rintro ⟨e, _, _⟩
  have := (k1 a ha).1
  rw [e, k2 o ho] at this
  omega
theorem at_obj (iv : Inv s m) {o i : Nat} (ho : o < s.objs.length) (hi : i < s.objs.length) (x y : Nat) : s.at_ (m.swap (s.ob o) (x : Int) (y : Int)) i = if i = o ∧ s.at_ m o = x then y else s.at_ m i := by
  obtain ⟨κ, k1, k2⟩ := iv.kap
  have hs := (iv.stand ho).2.1
  by_cases q : i = o ∧ s.at_ m o = x
  · rw [if_pos q]
    apply at_of
    rw [m.val_swap, if_pos ⟨by rw [q.1], iv.co o ho, by rw [hs, q.2]⟩]
  · rw [if_neg q]
    apply at_of
    rw [m.val_swap, if_neg]
    · exact (iv.stand hi).2.1
    · rintro ⟨e1, _, e3⟩
      have a1 := k2 i hi
      rw [e1, k2 o ho] at a1
      rw [hs] at e3
      exact q ⟨by omega, by omega⟩
/-- An Acquire that is lost. -/
theorem Fl.lose (h : Fl s m c H z) {o x y : Nat} (ho : o < s.objs.length) (hx : s.at_ m o ≠ x) (iv : Inv s (m.swap (s.ob o) (x : Int) (y : Int))) : Fl s (m.swap (s.ob o) (x : Int) (y : Int)) c H z :=
  h.same iv fun i => by
    rw [m.val_swap, if_neg]
    rintro ⟨_, _, e3⟩
    rw [(h.iv.stand ho).2.1] at e3
    exact hx (by omega)
/-- Make, an Acquire that took, and Put. -/
theorem Fl.lays (h : Fl s m c H 4) {k : Nat} {x : Cl} {p : Int} (hk : k < 4) (h3 : (c k).at_ = 3) (hc : s.at_ m (c k).obj = (c k).loc)
    (iv : Inv (((s.lay (c k).att (c k).cur (s.vl (c k).cur)).use s.locs.length true).put s.locs.length ⟨p, 0, false⟩) (m.swap (s.ob (c k).obj) ((c k).loc : Int) (s.locs.length : Int)))
    (x0 : x.at_ = 4) (x1 : x.att = (c k).att) (x2 : x.held = (c k).held ++ [(c k).obj]) (x3 : x.put = (c k).put ++ [p]) :
    Fl (((s.lay (c k).att (c k).cur (s.vl (c k).cur)).use s.locs.length true).put s.locs.length ⟨p, 0, false⟩) (m.swap (s.ob (c k).obj) ((c k).loc : Int) (s.locs.length : Int)) (upd c k x) H 4 := by
  obtain ⟨t1, t2, t3, t4, t5⟩ := h.c3 k hk h3
  have ell : (s.lay (c k).att (c k).cur (s.vl (c k).cur)).locs.length = s.locs.length + 1 := by simp [Ws.lay]
  have e : ∀ l, (s.lay (c k).att (c k).cur (s.vl (c k).cur)).lo l = if l < s.locs.length then s.lo l else if l = s.locs.length then ⟨(c k).att, (c k).cur, s.vals.length, false⟩ else lo0 := fun l => lo_app
  have eu : ∀ l, (((s.lay (c k).att (c k).cur (s.vl (c k).cur)).use s.locs.length true).put s.locs.length ⟨p, 0, false⟩).lo l = if l = s.locs.length ∧ s.locs.length < s.locs.length + 1 then { (s.lay (c k).att (c k).cur (s.vl (c k).cur)).lo s.locs.length with used := true } else (s.lay (c k).att (c k).cur (s.vl (c k).cur)).lo l := fun l => by
    rw [← ell]; exact lo_use
  have g : Gr s m (((s.lay (c k).att (c k).cur (s.vl (c k).cur)).use s.locs.length true).put s.locs.length ⟨p, 0, false⟩) (m.swap (s.ob (c k).obj) ((c k).loc : Int) (s.locs.length : Int)) := by
    refine ⟨iv, rfl, Nat.le_refl _, by simp [Ws.put, Ws.use, Ws.lay], fun a ha => stat_obj h.iv t1 ha _ _, fun l hl => ?_, fun l hl => ?_⟩
    · rw [eu, if_neg (by omega), e, if_pos hl]
      exact ⟨rfl, rfl, rfl⟩
    · rw [vl_put (by omega)]
      exact vl_app (by rw [h.iv.vl]; exact hl)
  refine h.take g hk h3 hc rfl ?_ ?_ ?_ (fun i hi q => ?_) x0 x1 x2 x3
  · rw [eu, if_pos ⟨rfl, Nat.lt_succ_self _⟩, e, if_neg (Nat.lt_irrefl _), if_pos rfl]
    exact ⟨rfl, rfl, h.iv.vl⟩
  · show ((s.vals ++ [s.vl (c k).cur]).set s.locs.length ⟨p, 0, false⟩).getD s.locs.length vl0 = _
    rw [← h.iv.vl]
    simp [List.getD_eq_getElem?_getD]
  · exact (at_obj h.iv t1 t1 (c k).loc s.locs.length).trans (if_pos ⟨rfl, hc⟩)
  · exact (at_obj h.iv t1 hi (c k).loc s.locs.length).trans (if_neg (fun z => q z.1))
end
end Go.Proofs.Ytdeiochjkbogpaa
namespace Go.Proofs.Ytdeiochjkbogpaa
open Go.RowKit
section
variable {s s' : Ws} {m m' : Mm} {c : Nat → Cl} {H H' : List (List Vl)} {z y : Nat}
/-- Ahead of the first step: so many attempts have begun. -/
structure Fb (s : Ws) (m : Mm) (n : Nat) : Prop where
  iv : Inv s m
  al : s.atts.length = n + 1
  st : ∀ a, 1 ≤ a → a < n + 1 → s.stat m a = 1
  ow : ∀ o, o < s.objs.length → (s.lo (s.at_ m o)).owner = 0
theorem Fb.beg {n : Nat} (h : Fb s m n) (hn : n < 4) (th st pr : Int) : Fb (s.beg th st pr m.cells.length) ((m.make 1).make 0) (n + 1) ∧ (s.beg th st pr m.cells.length).com ((m.make 1).make 0) = s.com m := by
  obtain ⟨g, g1, g2⟩ := gr_beg h.iv (by rw [h.al]; omega) th st pr
  refine ⟨⟨g.iv, ?_, fun a h1 h2 => ?_, fun o ho => ?_⟩, g.com fun i hi => g.value h.iv hi (g2 i hi)⟩
  · have : (s.beg th st pr m.cells.length).atts.length = s.atts.length + 1 := by simp [Ws.beg]
    rw [this, h.al]
  · by_cases q : a < n + 1
    · rw [g.st a (by rw [h.al]; exact q)]; exact h.st a h1 q
    · rw [show a = s.atts.length by rw [h.al]; omega]; exact g1
  · rw [g.ob] at ho
    rw [g2 o ho, (g.lo _ (h.iv.stand ho).1).1]
    exact h.ow o ho
theorem Fl.start (h : Fb s m 4) (hc : ∀ k, k < 4 → (c k).at_ = 0 ∧ (c k).att = k + 1 ∧ (c k).held = [] ∧ (c k).put = []) : Fl s m c [s.com m] 4 := by
  refine ⟨h.iv, fun k hk => ?_, fun k k' hk hk' e => ?_, fun a ha => ?_, fun k hk _ => ?_, fun k hk => ?_, fun k hk _ o ho => ?_, fun k hk _ j o p e => ?_, by simp, by simp, fun k hk e => ?_, fun k hk e => ?_, fun k hk e => ?_⟩
  · rw [(hc k hk).2.1, h.al]; omega
  · rw [(hc k hk).2.1, (hc k' hk').2.1] at e; omega
  · rw [h.al] at ha
    rcases Nat.eq_zero_or_pos a with q | q
    · rw [q]; exact .inr (.inl h.iv.gen)
    · exact .inl (h.st a q ha)
  · rw [(hc k hk).2.1, h.st _ (by omega) (by omega)]; decide
  · rw [(hc k hk).2.2.1, (hc k hk).2.2.2]; simp
  · rw [h.ow o ho, (hc k hk).2.1, (hc k hk).2.2.1]
    exact ⟨fun e => by omega, fun e => by cases e⟩
  · rw [(hc k hk).2.2.1] at e; simp at e
  · rw [(hc k hk).1] at e; cases e
  · rw [(hc k hk).1] at e; cases e
  · rw [(hc k hk).1] at e; cases e
/-- What no step of the floor meets: a refusal. -/
theorem Fl.owner (h : Fl s m c H z) {k : Nat} (hk : k < 4) (hat : (c k).at_ = 1) : (s.lo (c k).loc).owner < s.atts.length := (h.iv.lo _ (h.c1 k hk hat).2.1).2.2
theorem Fl.active (h : Fl s m c H z) {a : Nat} (e : s.stat m a = 1) : 1 ≤ a := by
  rcases Nat.eq_zero_or_pos a with q | q
  · have := h.iv.gen
    rw [q] at e
    exact absurd (e.symm.trans this) (by decide)
  · exact q
/-- The second look: the client knows which version is current, and whether its owner lives. -/
theorem Fl.status (h : Fl s m c H z) {k : Nat} {x : Cl} (hk : k < 4) (hat : (c k).at_ = 1) (x1 : x.att = (c k).att) (x2 : x.held = (c k).held) (x3 : x.put = (c k).put) (xo : x.obj = (c k).obj) (xl : x.loc = (c k).loc)
    (xw : x.own = (s.lo (c k).loc).owner) (xc : x.cur = s.curV m (c k).loc) (xa : (x.at_ = 4 ∧ (s.lo (c k).loc).owner = (c k).att) ∨ (x.at_ = 2 ∧ s.stat m (s.lo (c k).loc).owner = 1) ∨ (x.at_ = 3 ∧ s.stat m (s.lo (c k).loc).owner ≠ 1)) : Fl s m (upd c k x) H z := by
  obtain ⟨q1, q2, q3, q4, q5⟩ := h.c1 k hk hat
  refine h.turn hk x1 x2 x3 (fun e => ?_) (fun e => ?_) (fun e => ?_)
  · omega
  · rcases xa with ⟨a, _⟩ | ⟨_, a⟩ | ⟨a, _⟩
    · omega
    · rw [xw]; exact ⟨h.active a, (h.iv.lo _ q2).2.2⟩
    · omega
  · rcases xa with ⟨a, _⟩ | ⟨a, _⟩ | ⟨_, a⟩
    · omega
    · omega
    · rw [xo, xl, x2, xc]; exact ⟨q1, q2, q3, a, rfl⟩
/-- A client gives up, or goes on. -/
theorem Fl.rest (h : Fl s m c H z) {k : Nat} {x : Cl} (hk : k < 4) (x0 : x.at_ = 0) (x1 : x.att = (c k).att) (x2 : x.held = (c k).held) (x3 : x.put = (c k).put) : Fl s m (upd c k x) H z :=
  h.turn hk x1 x2 x3 (fun e => by omega) (fun e => by omega) (fun e => by omega)
/-- What the client lays its locator over has committed. -/
theorem Fl.laid (h : Fl s m c H z) {k : Nat} (hk : k < 4) (hat : (c k).at_ = 3) : (c k).cur < s.locs.length ∧ s.isC m (s.lo (c k).cur).owner = true := by
  obtain ⟨q1, q2, q3, q4, q5⟩ := h.c3 k hk hat
  rw [q5]
  refine ⟨curV_lt h.iv q2, isC_iff.2 ?_⟩
  unfold Ws.curV
  split
  · next e => rw [(h.iv.lo _ q2).1]; exact e
  · exact h.iv.old _ q2
end
end Go.Proofs.Ytdeiochjkbogpaa
namespace Go.Proofs.Ytdeiochjkbogpaa
open Go.RowKit
section
variable {s s' : Ws} {m m1 m' : Mm} {c : Nat → Cl} {H H' : List (List Vl)} {z y n n' : Nat} {er r : Int} {d : Bool} {v : Vl} {k : Nat} {b e : Int}
theorem Fl.opn {o : Oq} (h : Fl s m c H z) (ho : Opn m n o m1 n') : Fl s m1 c H z := by
  rcases ho with ⟨_, e, _⟩ | ⟨_, e, _⟩
  · rw [e]; exact h.same (h.iv.mem _ _) (fun _ => rfl)
  · rw [e]; exact h
theorem opn_free {o : Oq} (ho : Opn m n o m1 n') (h : acc o = true) : m1.free = true := by
  rcases ho with ⟨_, e, _⟩ | ⟨e, _, _⟩
  · rw [e]; rfl
  · rw [h] at e; cases e
theorem opn_at {o : Oq} (ho : Opn m n o m1 n') (i : Nat) : s.at_ m1 i = s.at_ m i := by
  rcases ho with ⟨_, e, _⟩ | ⟨_, e, _⟩ <;> rw [e] <;> rfl
theorem opn_stat {o : Oq} (ho : Opn m n o m1 n') (i : Nat) : s.stat m1 i = s.stat m i := by
  rcases ho with ⟨_, e, _⟩ | ⟨_, e, _⟩ <;> rw [e] <;> rfl
theorem opn_com {o : Oq} (ho : Opn m n o m1 n') : s.com m1 = s.com m := by
  rcases ho with ⟨_, e, _⟩ | ⟨_, e, _⟩ <;> rw [e] <;> rfl
/-- A Load of an object that is there. -/
theorem do_load {x : Nat} (hf : m.free = true) (hx : x < s.objs.length) (hd : Do s m ⟨8, (x : Int), b, e, v, false⟩ s' m' er d r) : er = 0 ∧ s' = s ∧ m' = m.load (s.ob x) ∧ r = m.val (s.ob x) := by
  cases hd with
  | idle h => exact (h (by simp only []; omega)).elim
  | no _ he _ _ he' =>
    refine absurd (he'.trans ?_) he
    simp only [err]
    rw [if_neg (by decide), if_neg (by decide), if_neg (by decide), if_pos trivial, if_neg (by omega), if_pos hf]
  | load _ x' ex _ _ =>
    have : x' = x := by simp only [] at ex; omega
    subst this
    exact ⟨rfl, rfl, rfl, rfl⟩
  | att h => simp at h
  | mk h => simp at h
  | put h => simp at h
  | acq h => simp at h
  | stat h => simp at h
  | fin _ h => simp at h
  | flag h => simp at h
  | mark h => simp at h
/-- A Status of an attempt that is there. -/
theorem do_stat {x : Nat} (hf : m.free = true) (hx : x < s.atts.length) (hd : Do s m ⟨10, (x : Int), b, e, v, false⟩ s' m' er d r) : er = 0 ∧ s' = s ∧ m' = m.load (s.att x).status ∧ r = s.stat m x := by
  cases hd with
  | idle h => exact (h (by simp only []; omega)).elim
  | no _ he _ _ he' =>
    refine absurd (he'.trans ?_) he
    simp only [err]
    rw [if_neg (by decide), if_neg (by decide), if_neg (by decide), if_neg (by decide), if_neg (by decide), if_pos (by simp), if_neg (by omega), if_pos hf]
  | stat _ x' ex _ _ =>
    have : x' = x := by simp only [] at ex; omega
    subst this
    exact ⟨rfl, rfl, rfl, rfl⟩
  | att h => simp at h
  | mk h => simp at h
  | put h => simp at h
  | acq h => simp at h
  | load h => simp at h
  | fin _ h => simp at h
  | flag h => simp at h
  | mark h => simp at h
/-- Kill and Commit of an attempt that is there. -/
theorem do_fin {x : Nat} {kd sv : Int} (hk : kd = 11 ∧ sv = 3 ∨ kd = 12 ∧ sv = 2) (hf : m.free = true) (h1 : 1 ≤ x) (hx : x < s.atts.length) (hd : Do s m ⟨kd, (x : Int), b, e, v, false⟩ s' m' er d r) : er = 0 ∧ s' = s ∧ m' = m.swap (s.att x).status 1 sv ∧ (d = true ↔ s.stat m x = 1) := by
  cases hd with
  | idle h => exact (h (by simp only []; omega)).elim
  | no _ he _ _ he' =>
    refine absurd (he'.trans ?_) he
    simp only [err]
    rw [if_neg (by omega), if_neg (by omega), if_neg (by omega), if_neg (by omega), if_neg (by omega), if_neg (by omega), if_pos (by omega), if_neg (by omega), if_pos hf]
  | fin sv' h x' ex _ _ _ =>
    have : x' = x := by simp only [] at ex; omega
    subst this
    have : sv' = sv := by simp only [] at h; omega
    subst this
    exact ⟨rfl, rfl, rfl, by simp [Ws.stat]⟩
  | att h => simp only [] at h; omega
  | mk h => simp only [] at h; omega
  | put h => simp only [] at h; omega
  | acq h => simp only [] at h; omega
  | load h => simp only [] at h; omega
  | stat h => simp only [] at h; omega
  | flag h => simp only [] at h; omega
  | mark h => simp only [] at h; omega
/-- A fresh attempt where there is room. -/
theorem do_att {a : Int} (hr : s.roomA m = true) (hd : Do s m ⟨1, a, b, e, v, false⟩ s' m' er d r) : er = 0 ∧ s' = s.beg a b e m.cells.length ∧ m' = (m.make 1).make 0 ∧ r = s.atts.length := by
  cases hd with
  | idle h => exact (h (.inl rfl)).elim
  | no _ he _ _ he' =>
    refine absurd (he'.trans ?_) he
    simp only [err]
    rw [if_pos trivial, if_pos hr]
  | att _ _ => exact ⟨rfl, rfl, rfl, rfl⟩
  | mk h => simp at h
  | put h => simp at h
  | acq h => simp at h
  | load h => simp at h
  | stat h => simp at h
  | fin _ h => simp at h
  | flag h => simp at h
  | mark h => simp at h
/-- A fresh locator over a version that has committed. -/
theorem do_mk {x y : Nat} (h1 : 1 ≤ x) (hx : x < s.atts.length) (hy : y < s.locs.length) (hC : s.isC m (s.lo y).owner = true) (hr : s.locs.length < 16384) (hd : Do s m ⟨3, (x : Int), (y : Int), e, v, false⟩ s' m' er d r) : er = 0 ∧ s' = s.lay x y (s.vl y) ∧ m' = m ∧ r = s.locs.length := by
  cases hd with
  | idle h => exact (h (.inr (.inl rfl))).elim
  | no _ he _ _ he' =>
    refine absurd (he'.trans ?_) he
    simp only [err]
    rw [if_neg (by decide), if_pos trivial, if_neg (by omega), if_neg (by omega), if_neg (by simp [hC]), if_neg (by omega)]
  | mk _ x' y' ex ey _ _ _ _ _ =>
    have q1 : x' = x := by simp only [] at ex; omega
    have q2 : y' = y := by simp only [] at ey; omega
    subst q1
    subst q2
    exact ⟨rfl, rfl, rfl, rfl⟩
  | att h => simp at h
  | put h => simp at h
  | acq h => simp at h
  | load h => simp at h
  | stat h => simp at h
  | fin _ h => simp at h
  | flag h => simp at h
  | mark h => simp at h
/-- A Put into a locator of an attempt that has not committed. -/
theorem do_put {x : Nat} (hx : x < s.locs.length) (ho : (s.lo x).owner ≠ 0) (hC : s.isC m (s.lo x).owner = false) (hd : Do s m ⟨6, (x : Int), b, e, v, false⟩ s' m' er d r) : er = 0 ∧ s' = s.put x v ∧ m' = m := by
  cases hd with
  | idle h => exact (h (.inr (.inr (.inl rfl)))).elim
  | no _ he _ _ he' =>
    refine absurd (he'.trans ?_) he
    simp only [err]
    rw [if_neg (by decide), if_neg (by decide), if_pos trivial, if_neg (by omega), if_neg (by simpa using ho), if_neg (by simp [hC])]
  | put _ x' ex _ _ _ =>
    have q1 : x' = x := by simp only [] at ex; omega
    subst q1
    exact ⟨rfl, rfl, rfl⟩
  | att h => simp at h
  | mk h => simp at h
  | acq h => simp at h
  | load h => simp at h
  | stat h => simp at h
  | fin _ h => simp at h
  | flag h => simp at h
  | mark h => simp at h
/-- An Acquire with a locator that was never used. -/
theorem do_acq {x y z : Nat} (hf : m.free = true) (hx : x < s.objs.length) (hy : y < s.locs.length) (hz : z < s.locs.length) (hU : (s.lo z).used = false) (hC : s.isC m (s.lo z).owner = false) (hd : Do s m ⟨9, (x : Int), (y : Int), (z : Int), v, false⟩ s' m' er d r) :
    er = 0 ∧ s' = s.use z (decide (m.val (s.ob x) = (y : Int))) ∧ m' = m.swap (s.ob x) (y : Int) (z : Int) ∧ d = decide (m.val (s.ob x) = (y : Int)) := by
  cases hd with
  | idle h => exact (h (by simp only []; omega)).elim
  | no _ he _ _ he' =>
    refine absurd (he'.trans ?_) he
    simp only [err]
    rw [if_neg (by decide), if_neg (by decide), if_neg (by decide), if_neg (by decide), if_pos trivial, if_neg (by omega), if_neg (by omega), if_neg (by simp [hU]), if_neg (by simp [hC]), if_pos hf]
  | acq _ x' y' z' ex ey ez _ _ _ _ _ _ =>
    have q1 : x' = x := by simp only [] at ex; omega
    have q2 : y' = y := by simp only [] at ey; omega
    have q3 : z' = z := by simp only [] at ez; omega
    subst q1
    subst q2
    subst q3
    exact ⟨rfl, rfl, rfl, rfl⟩
  | att h => simp at h
  | mk h => simp at h
  | put h => simp at h
  | load h => simp at h
  | stat h => simp at h
  | fin _ h => simp at h
  | flag h => simp at h
  | mark h => simp at h
end
end Go.Proofs.Ytdeiochjkbogpaa
namespace Go.Proofs.Ytdeiochjkbogpaa
open Go.RowKit
/-- One call of the raw's. -/
def StA (s : Ws) (m : Mm) (n : Nat) (o : Oq) (s' : Ws) (m' : Mm) (n' : Nat) (er : Int) (d : Bool) (nn : Int) : Prop := ∃ m1, Opn m n o m1 n' ∧ Do s m1 o s' m' er d nn
theorem opn_le {m m1 : Mm} {n n' : Nat} {o : Oq} (h : Opn m n o m1 n') : n' ≤ n + 1 := by
  rcases h with ⟨_, _, h⟩ | ⟨_, _, h⟩ <;> omega
/-- How far a play has come. -/
structure Bg (s : Ws) (m : Mm) (n : Nat) (mk : Int) (t : Nat) : Prop where
  a_ : s.atts.length ≤ 5 + t
  l_ : s.locs.length ≤ 80 + t
  c_ : m.cells.length ≤ 1000 + 2 * t
  n_ : n ≤ 4 * t
  m0 : 0 ≤ mk
  m1 : mk ≤ (t : Int)
theorem nodup_lt : ∀ {N : Nat} {l : List Nat}, l.Nodup → (∀ o, o ∈ l → o < N) → l.length ≤ N
  | 0, l, _, h => by
    cases l with
    | nil => simp
    | cons a t => exact absurd (h a (by simp)) (by omega)
  | N + 1, l, nd, h => by
    have ih := nodup_lt (N := N) (l := l.erase N) (nd.erase N) (fun o ho => by
      have h1 := nd.mem_erase_iff.1 ho
      have := h o h1.2
      omega)
    rw [List.length_erase] at ih
    split at ih <;> omega
/-- What a commit puts, one after another. -/
def putAll (w : List Vl) (hd : List Nat) (pt : List Int) : Nat → List Vl
  | 0 => w
  | i + 1 => (putAll w hd pt i).set (hd.getD i 0) ⟨pt.getD i 0, 0, false⟩
theorem putAll_len {w : List Vl} {hd : List Nat} {pt : List Int} (i : Nat) : (putAll w hd pt i).length = w.length := by
  induction i with
  | zero => rfl
  | succ i ih => simp [putAll, ih]
theorem putAll_at {w : List Vl} {hd : List Nat} {pt : List Int} (nd : hd.Nodup) (i : Nat) (hi : i ≤ hd.length) {o : Nat} (ho : o < w.length) :
    ((∀ j, j < i → hd[j]? ≠ some o) → (putAll w hd pt i).getD o vl0 = w.getD o vl0) ∧ ∀ j, j < i → hd[j]? = some o → (putAll w hd pt i).getD o vl0 = ⟨pt.getD j 0, 0, false⟩ := by
  induction i with
  | zero => exact ⟨fun _ => rfl, fun j hj => by omega⟩
  | succ i ih =>
    obtain ⟨i1, i2⟩ := ih (by omega)
    have hl := putAll_len (w := w) (hd := hd) (pt := pt) i
    have hg : hd[i]? = some (hd.getD i 0) := by
      rw [List.getD_eq_getElem?_getD, List.getElem?_eq_getElem (show i < hd.length by omega)]
      rfl
    have hs : (putAll w hd pt (i + 1)).getD o vl0 = if hd.getD i 0 = o then ⟨pt.getD i 0, 0, false⟩ else (putAll w hd pt i).getD o vl0 := by
      show ((putAll w hd pt i).set (hd.getD i 0) ⟨pt.getD i 0, 0, false⟩).getD o vl0 = _
      generalize hd.getD i 0 = q
      generalize pt.getD i 0 = p
      rw [List.getD_eq_getElem?_getD, List.getD_eq_getElem?_getD, List.getElem?_set]
      by_cases e : q = o
      · rw [if_pos e, if_pos e, if_pos (by rw [e, hl]; exact ho)]
        rfl
      · rw [if_neg e, if_neg e]
    refine ⟨fun h => ?_, fun j hj h => ?_⟩
    · rw [hs, if_neg (fun e => h i (by omega) (by rw [hg, e]))]
      exact i1 (fun j hj => h j (by omega))
    · by_cases e : j = i
      · subst e
        rw [hg] at h
        rw [hs, if_pos (Option.some.inj h)]
      · have hne : hd.getD i 0 ≠ o := fun q => by
          have hji : j < hd.length := by omega
          have h1 := List.pairwise_iff_getElem.1 nd j i hji (by omega) (by omega)
          rw [List.getElem?_eq_getElem hji] at h
          have h2 := Option.some.inj h
          rw [List.getElem?_eq_getElem (show i < hd.length by omega)] at hg
          exact h1 (by rw [h2, Option.some.inj hg, q])
        rw [hs, if_neg hne]
        exact i2 j (by omega) h
section
variable {s s' : Ws} {m m1 m' : Mm} {c c' : Nat → Cl} {H : List (List Vl)} {n n' k t z z' : Nat} {er nn : Int} {d : Bool} {mk : Int} {want : List Vl}
theorem opn_cells {o : Oq} (h : Opn m n o m1 n') : m1.cells.length = m.cells.length := by
  rcases h with ⟨_, e, _⟩ | ⟨_, e, _⟩ <;> rw [e] <;> rfl
theorem com_len : (s.com m).length = s.objs.length := by simp [Ws.com]
theorem Fl.com_eq (h : Fl s m c H z) (h' : Fl s' m' c' H z') : s'.com m' = s.com m := (Option.some.inj (h.h0.symm.trans h'.h0)).symm
/-- The first look. -/
theorem rk_load (h : Fl s m c H 4) (b : Bg s m n mk t) (hk : k < 4) {x : Nat} (hx : x < s.objs.length) (hm : x ∉ (c k).held) (ho : Opn m n ⟨8, (x : Int), 0, 0, ⟨0, 0, false⟩, false⟩ m1 n') (hd : Do s m1 ⟨8, (x : Int), 0, 0, ⟨0, 0, false⟩, false⟩ s' m' er d nn) :
    er = 0 ∧ nn = (s.at_ m x : Int) ∧ Fl s' m' (upd c k { c k with at_ := 1, obj := x, loc := s.at_ m x, since := H.length - 1 }) H 4 ∧ Bg s' m' n' mk (t + 1) ∧ s'.objs.length = s.objs.length := by
  obtain ⟨e1, e2, e3, e4⟩ := do_load (opn_free ho rfl) hx hd
  subst e2
  have h1 := (h.opn ho).load hk hx hm
  rw [opn_at ho] at h1
  refine ⟨e1, ?_, by rw [e3]; exact h1, ⟨by have := b.a_; omega, by have := b.l_; omega, by rw [e3, Mm.len_load, opn_cells ho]; have := b.c_; omega, by have := opn_le ho; have := b.n_; omega, b.m0, by have := b.m1; omega⟩, rfl⟩
  rw [e4, ((h.opn ho).iv.stand hx).2.1, opn_at ho]
/-- The second look. -/
theorem rk_stat (h : Fl s m c H 4) (hk : k < 4) (hat : (c k).at_ = 1) (ho : Opn m n ⟨10, ((s.lo (c k).loc).owner : Int), 0, 0, ⟨0, 0, false⟩, false⟩ m1 n') (hd : Do s m1 ⟨10, ((s.lo (c k).loc).owner : Int), 0, 0, ⟨0, 0, false⟩, false⟩ s' m' er d nn) :
    er = 0 ∧ s' = s ∧ nn = s.stat m' (s.lo (c k).loc).owner ∧ Fl s m' c H 4 ∧ m'.cells.length = m.cells.length := by
  obtain ⟨e1, e2, e3, e4⟩ := do_stat (opn_free ho rfl) (h.owner hk hat) hd
  have hv : ∀ x, m'.val x = m1.val x := fun x => by rw [e3]; exact m1.val_load _ x
  refine ⟨e1, e2, ?_, (h.opn ho).same (by rw [e3]; exact (h.opn ho).iv.load _) hv, by rw [e3, Mm.len_load, opn_cells ho]⟩
  rw [e4]
  exact (hv _).symm
theorem rk_seen (h : Fl s m c H 4) (hk : k < 4) (hat : (c k).at_ = 1) (hw : want = s.com m) :
    (s.stat m (s.lo (c k).loc).owner = 1 ∨ s.stat m (s.lo (c k).loc).owner = 2 ∨ s.stat m (s.lo (c k).loc).owner = 3) ∧ s.curV m (c k).loc < s.vals.length ∧ (∃ i, (c k).since ≤ i ∧ i < H.length ∧ (H.getD i []).getD (c k).obj vl0 = s.vl (s.curV m (c k).loc)) ∧
    ((s.stat m (s.lo (c k).loc).owner = 1 ∨ s.stat m (s.lo (c k).loc).owner = 2 ∧ m.val (s.ob (c k).obj) = ((c k).loc : Int)) → want.getD (c k).obj vl0 = s.vl (s.curV m (c k).loc)) := by
  obtain ⟨q1, q2, _, _, _⟩ := h.c1 k hk hat
  obtain ⟨l1, l2⟩ := h.looked hk hat
  refine ⟨h.st _ (h.owner hk hat), by rw [h.iv.vl]; exact curV_lt h.iv q2, l1, fun e => ?_⟩
  rw [hw, com_at q1]
  refine l2 (e.imp id (fun e => ?_))
  have := (h.iv.stand q1).2.1
  rw [e.2] at this
  omega
theorem rk_kill (h : Fl s m c H 4) (b : Bg s m n mk t) {x : Nat} (h1 : 1 ≤ x) (hx : x < s.atts.length) (ho : Opn m n ⟨11, (x : Int), 0, 0, ⟨0, 0, false⟩, false⟩ m1 n') (hd : Do s m1 ⟨11, (x : Int), 0, 0, ⟨0, 0, false⟩, false⟩ s' m' er d nn) :
    er = 0 ∧ s' = s ∧ Fl s m' c H 4 ∧ Bg s m' n' mk (t + 1) ∧ m'.cells.length = m.cells.length := by
  obtain ⟨e1, e2, e3, _⟩ := do_fin (.inl ⟨rfl, rfl⟩) (opn_free ho rfl) h1 hx hd
  refine ⟨e1, e2, by rw [e3]; exact (h.opn ho).kill hx, ⟨by have := b.a_; omega, by have := b.l_; omega, by rw [e3, Mm.len_swap, opn_cells ho]; have := b.c_; omega, by have := opn_le ho; have := b.n_; omega, b.m0, by have := b.m1; omega⟩, by rw [e3, Mm.len_swap, opn_cells ho]⟩
/-- What a commit makes of the committed list. -/
theorem rk_put (h : Fl s m c H z) (hk : k < 4) (h1 : s.stat m (c k).att = 1) : putAll (s.com m) (c k).held (c k).put (c k).held.length = s.com (m.swap (s.att (c k).att).status 1 2) := by
  obtain ⟨p1, p2, p3⟩ := h.hp k hk
  apply List.ext_getElem
  · rw [putAll_len, com_len, com_len]
  · intro o q1 q2
    have ho : o < s.objs.length := by rw [com_len] at q2; exact q2
    obtain ⟨a1, a2⟩ := putAll_at (w := s.com m) (pt := (c k).put) p2 _ (Nat.le_refl _) (o := o) (by rw [com_len]; exact ho)
    obtain ⟨b1, b2⟩ := h.put_commit hk h1 ho
    have e1 : (putAll (s.com m) (c k).held (c k).put (c k).held.length)[o] = (putAll (s.com m) (c k).held (c k).put (c k).held.length).getD o vl0 := by simp [List.getD_eq_getElem?_getD, List.getElem?_eq_getElem q1]
    have e2 : (s.com (m.swap (s.att (c k).att).status 1 2))[o] = (s.com (m.swap (s.att (c k).att).status 1 2)).getD o vl0 := by simp [List.getD_eq_getElem?_getD, List.getElem?_eq_getElem q2]
    rw [e1, e2, com_at ho]
    by_cases e : o ∈ (c k).held
    · obtain ⟨j, hj⟩ := List.getElem?_of_mem e
      have hjl : j < (c k).held.length := (List.getElem?_eq_some_iff.1 hj).1
      rw [a2 j hjl hj, b2 j ((c k).put.getD j 0) hj (by rw [List.getD_eq_getElem?_getD, List.getElem?_eq_getElem (by omega)]; rfl)]
    · rw [a1 (fun j _ q => e (List.mem_of_getElem? q)), com_at ho, b1 e]
theorem com_lost (h : Fl s m c H z) (hk : k < 4) (h1 : s.stat m (c k).att ≠ 1) : s.com (m.swap (s.att (c k).att).status 1 2) = s.com m := by
  unfold Ws.com
  apply List.map_congr_left
  intro i hi
  exact h.lost_commit hk h1 (by simpa using hi)
/-- What ends leaves of what is wanted. -/
def wantE (kd : Int) (d : Bool) (want : List Vl) (x : Cl) : List Vl := if kd = 12 ∧ d = true then putAll want x.held x.put x.held.length else want
/-- A client ends, by its own kill or by a commit. -/
theorem rk_fin (h : Fl s m c H 4) (b : Bg s m n mk t) (ht : t < 12000) (hk : k < 4) {kd : Int} (hkd : kd = 11 ∨ kd = 12) (hw : want = s.com m) (ha : StA s m n ⟨kd, ((c k).att : Int), 0, 0, ⟨0, 0, false⟩, false⟩ s' m' n' er d nn) :
    er = 0 ∧ s' = s ∧ s.roomA m' = true ∧ n' ≤ n + 1 ∧ Fl (s.beg (k : Int) (k : Int) (-1) m'.cells.length) ((m'.make 1).make 0) (upd c k { c k with at_ := 0, att := s.atts.length, held := [], put := [] }) (H ++ [wantE kd d want (c k)]) 4 ∧ Bg (s.beg (k : Int) (k : Int) (-1) m'.cells.length) ((m'.make 1).make 0) n' mk (t + 1) ∧ wantE kd d want (c k) = (s.beg (k : Int) (k : Int) (-1) m'.cells.length).com ((m'.make 1).make 0) := by
  obtain ⟨m1, ho, hd⟩ := ha
  have hc : acc ⟨kd, ((c k).att : Int), 0, 0, ⟨0, 0, false⟩, false⟩ = true := by rcases hkd with e | e <;> rw [e] <;> rfl
  have hf := opn_free ho hc
  have h1 := h.opn ho
  have hcom : s.com m1 = s.com m := opn_com ho
  obtain ⟨sv, hsv⟩ : ∃ sv : Int, kd = 11 ∧ sv = 3 ∨ kd = 12 ∧ sv = 2 := by
    rcases hkd with e | e
    · exact ⟨3, .inl ⟨e, rfl⟩⟩
    · exact ⟨2, .inr ⟨e, rfl⟩⟩
  obtain ⟨e1, e2, e3, e4⟩ := do_fin hsv hf (h.a1 k hk).1 (h.a1 k hk).2 hd
  have hl : m'.cells.length = m.cells.length := by rw [e3, Mm.len_swap, opn_cells ho]
  have b1 := b.a_
  have b2 := b.l_
  have b3 := b.c_
  have b4 := b.n_
  have hroom : s.roomA m' = true := by simp [Ws.roomA]; omega
  have hle := opn_le ho
  have key : Fl s m' c (H ++ [wantE kd d want (c k)]) (if kd = 12 then k else 4) ∧ wantE kd d want (c k) = s.com m' := by
    rcases hsv with ⟨q1, q2⟩ | ⟨q1, q2⟩
    · have hK := h1.kill (h.a1 k hk).2
      rw [q2] at e3
      rw [← e3] at hK
      have hx : wantE kd d want (c k) = s.com m' := by
        unfold wantE
        rw [if_neg (by omega), hw]
        exact (h.com_eq hK).symm
      rw [if_neg (by omega), hx]
      exact ⟨hK.push, rfl⟩
    · have hK := h1.commit hk
      rw [q2] at e3
      rw [← e3] at hK
      have hx : wantE kd d want (c k) = s.com m' := by
        unfold wantE
        by_cases q : d = true
        · rw [if_pos ⟨q1, q⟩, hw, ← hcom, e3]
          exact rk_put h1 hk (e4.1 q)
        · rw [if_neg (fun e => q e.2), hw, ← hcom, e3]
          exact (com_lost h1 hk (fun e => q (e4.2 e))).symm
      rw [if_pos q1, hx]
      exact ⟨hK, rfl⟩
  have ha16 : s.atts.length < 16384 := by omega
  obtain ⟨g, g1, g2⟩ := gr_beg key.1.iv ha16 (k : Int) (k : Int) (-1)
  have hF := key.1.beg (x := { c k with at_ := 0, att := s.atts.length, held := [], put := [] }) g hk (fun j hj q => by split <;> omega) (by simp [Ws.beg]) g1 g2 rfl rfl rfl rfl
  refine ⟨e1, e2, hroom, hle, hF, ⟨by simp [Ws.beg]; omega, by simp [Ws.beg]; omega, by rw [Mm.len_make, Mm.len_make, hl]; omega, by omega, b.m0, by have := b.m1; omega⟩, ?_⟩
  rw [key.2]
  exact (g.com fun i hi => g.value key.1.iv hi (g2 i hi)).symm
/-- Make. -/
theorem rk_mk (h : Fl s m c H 4) (b : Bg s m n mk t) (ht : t < 12000) (hk : k < 4) (hat : (c k).at_ = 3) (ha : StA s m n ⟨3, ((c k).att : Int), ((c k).cur : Int), 0, ⟨0, 0, false⟩, false⟩ s' m' n' er d nn) : er = 0 ∧ nn = (s.locs.length : Int) ∧ s' = (s.lay (c k).att (c k).cur (s.vl (c k).cur)) ∧ m' = m ∧ n' = n := by
  obtain ⟨m1, ho, hd⟩ := ha
  rcases ho with ⟨q, _, _⟩ | ⟨_, q1, q2⟩
  · cases q
  subst q1
  subst q2
  obtain ⟨l1, l2⟩ := h.laid hk hat
  obtain ⟨e1, e2, e3, e4⟩ := do_mk (h.a1 k hk).1 (h.a1 k hk).2 l1 l2 (by have := b.l_; omega) hd
  exact ⟨e1, e4, e2, e3, rfl⟩
theorem lay_lo {att old : Nat} {v : Vl} : (s.lay att old v).lo s.locs.length = ⟨att, old, s.vals.length, false⟩ := by
  have e : (s.lay att old v).lo s.locs.length = if s.locs.length < s.locs.length then s.lo s.locs.length else if s.locs.length = s.locs.length then ⟨att, old, s.vals.length, false⟩ else lo0 := lo_app
  rw [e, if_neg (Nat.lt_irrefl _), if_pos rfl]
theorem lay_len {att old : Nat} {v : Vl} : (s.lay att old v).locs.length = s.locs.length + 1 := by simp [Ws.lay]
/-- Acquire. -/
theorem rk_acq (h : Fl s m c H 4) (hk : k < 4) (hat : (c k).at_ = 3) (ha : StA (s.lay (c k).att (c k).cur (s.vl (c k).cur)) m n ⟨9, ((c k).obj : Int), ((c k).loc : Int), (s.locs.length : Int), ⟨0, 0, false⟩, false⟩ s' m' n' er d nn) :
    er = 0 ∧ ∃ m1, Opn m n ⟨9, ((c k).obj : Int), ((c k).loc : Int), (s.locs.length : Int), ⟨0, 0, false⟩, false⟩ m1 n' ∧ Do (s.lay (c k).att (c k).cur (s.vl (c k).cur)) m1 ⟨9, ((c k).obj : Int), ((c k).loc : Int), (s.locs.length : Int), ⟨0, 0, false⟩, false⟩ s' m' er d nn ∧ s' = (s.lay (c k).att (c k).cur (s.vl (c k).cur)).use s.locs.length (decide (m1.val (s.ob (c k).obj) = ((c k).loc : Int))) ∧ m' = m1.swap (s.ob (c k).obj) ((c k).loc : Int) (s.locs.length : Int) ∧ d = decide (m1.val (s.ob (c k).obj) = ((c k).loc : Int)) := by
  obtain ⟨m1, ho, hd⟩ := ha
  obtain ⟨t1, t2, t3, t4, t5⟩ := h.c3 k hk hat
  have h1 := h.opn ho
  have hs := h1.sc k hk (by omega)
  obtain ⟨e1, e2, e3, e4⟩ := do_acq (s := (s.lay (c k).att (c k).cur (s.vl (c k).cur))) (opn_free ho rfl) t1 (by rw [lay_len]; omega) (by rw [lay_len]; omega) (by rw [lay_lo]) (by rw [lay_lo]; exact isC_not.2 hs) hd
  exact ⟨e1, m1, ho, hd, e2, e3, e4⟩
/-- What acquire leaves. -/
theorem rk_lost (h : Fl s m c H 4) (b : Bg s m n mk t) (ht : t < 12000) (hk : k < 4) (hat : (c k).at_ = 3) (ha : StA (s.lay (c k).att (c k).cur (s.vl (c k).cur)) m n ⟨9, ((c k).obj : Int), ((c k).loc : Int), (s.locs.length : Int), ⟨0, 0, false⟩, false⟩ s' m' n' er false nn) :
    Fl s' m' (upd c k { c k with at_ := 0 }) H 4 ∧ Bg s' m' n' mk (t + 1) ∧ s'.objs.length = s.objs.length := by
  obtain ⟨_, m1, ho, hd, e2, e3, e4⟩ := rk_acq h hk hat ha
  obtain ⟨t1, t2, t3, t4, t5⟩ := h.c3 k hk hat
  obtain ⟨l1, l2⟩ := h.laid hk hat
  have hL : s.locs.length < 16384 := by have := b.l_; omega
  have g := gr_lay h.iv (h.a1 k hk).2 l1 l2 hL (s.vl (c k).cur)
  have h1 : Fl (s.lay (c k).att (c k).cur (s.vl (c k).cur)) m1 c H 4 := (h.grow g rfl (fun _ _ => rfl)).opn ho
  have hne : ¬ m1.val (s.ob (c k).obj) = ((c k).loc : Int) := fun e => by rw [decide_eq_true e] at e4; cases e4
  rw [decide_eq_false hne, use_false (by rw [lay_lo])] at e2
  have iv := hd.inv h1.iv
  rw [e2, e3] at iv
  have hx : (s.lay (c k).att (c k).cur (s.vl (c k).cur)).at_ m1 (c k).obj ≠ (c k).loc := fun e => hne (by have := (h1.iv.stand (i := (c k).obj) t1).2.1; rw [e] at this; exact this)
  have h2 := h1.lose (o := (c k).obj) t1 hx iv
  rw [e2, e3]
  refine ⟨h2.rest hk rfl rfl rfl rfl, ⟨?_, ?_, ?_, ?_, b.m0, ?_⟩, rfl⟩
  · have := b.a_; show s.atts.length ≤ _; omega
  · rw [lay_len]; have := b.l_; omega
  · rw [Mm.len_swap, opn_cells ho]; have := b.c_; omega
  · have := b.n_; have := opn_le ho; omega
  · have := b.m1; omega
theorem rk_took (h : Fl s m c H 4) (b : Bg s m n mk t) (ht : t < 12000) (hk : k < 4) (hat : (c k).at_ = 3) {m2 : Mm} {s2 : Ws} {n2 : Nat} {er2 nn2 : Int} {d2 : Bool} (ha : StA (s.lay (c k).att (c k).cur (s.vl (c k).cur)) m n ⟨9, ((c k).obj : Int), ((c k).loc : Int), (s.locs.length : Int), ⟨0, 0, false⟩, false⟩ s2 m2 n2 er true nn) (hc : StA s2 m2 n2 ⟨6, (s.locs.length : Int), 0, 0, ⟨1000 + (mk + 1), 0, false⟩, false⟩ s' m' n' er2 d2 nn2) :
    er2 = 0 ∧ Fl s' m' (upd c k { c k with at_ := 4, held := (c k).held ++ [(c k).obj], put := (c k).put ++ [1000 + (mk + 1)] }) H 4 ∧ Bg s' m' n' (mk + 1) (t + 1) ∧ s'.objs.length = s.objs.length := by
  obtain ⟨_, m1, ho, hd, e2, e3, e4⟩ := rk_acq h hk hat ha
  obtain ⟨t1, t2, t3, t4, t5⟩ := h.c3 k hk hat
  obtain ⟨l1, l2⟩ := h.laid hk hat
  have hL : s.locs.length < 16384 := by have := b.l_; omega
  have g := gr_lay h.iv (h.a1 k hk).2 l1 l2 hL (s.vl (c k).cur)
  have h1 : Fl (s.lay (c k).att (c k).cur (s.vl (c k).cur)) m1 c H 4 := (h.grow g rfl (fun _ _ => rfl)).opn ho
  have h0 := h.opn ho
  have heq : m1.val (s.ob (c k).obj) = ((c k).loc : Int) := of_decide_eq_true e4.symm
  rw [decide_eq_true heq] at e2
  have iv := hd.inv h1.iv
  obtain ⟨m3, hoc, hdc⟩ := hc
  rcases hoc with ⟨q, _, _⟩ | ⟨_, q1, q2⟩
  · cases q
  subst q1
  subst q2
  subst e2
  subst e3
  have elo : ((s.lay (c k).att (c k).cur (s.vl (c k).cur)).use s.locs.length true).lo s.locs.length = { (s.lay (c k).att (c k).cur (s.vl (c k).cur)).lo s.locs.length with used := true } := by
    have e : ((s.lay (c k).att (c k).cur (s.vl (c k).cur)).use s.locs.length true).lo s.locs.length = if s.locs.length = s.locs.length ∧ s.locs.length < (s.lay (c k).att (c k).cur (s.vl (c k).cur)).locs.length then { (s.lay (c k).att (c k).cur (s.vl (c k).cur)).lo s.locs.length with used := true } else (s.lay (c k).att (c k).cur (s.vl (c k).cur)).lo s.locs.length := lo_use
    rw [e, if_pos ⟨rfl, by rw [lay_len]; omega⟩]
  have eow : (((s.lay (c k).att (c k).cur (s.vl (c k).cur)).use s.locs.length true).lo s.locs.length).owner = (c k).att := by rw [elo, lay_lo]
  have hll : ((s.lay (c k).att (c k).cur (s.vl (c k).cur)).use s.locs.length true).locs.length = s.locs.length + 1 := by simp [Ws.use, Ws.lay]
  have hst : s.stat (m1.swap (s.ob (c k).obj) ((c k).loc : Int) (s.locs.length : Int)) (c k).att ≠ 2 := by
    rw [stat_obj h0.iv t1 (h.a1 k hk).2]
    exact h0.sc k hk (by omega)
  obtain ⟨f1, f2, f3⟩ := do_put (by rw [hll]; omega) (by rw [eow]; have := (h.a1 k hk).1; omega) (by rw [eow]; exact isC_not.2 hst) hdc
  have hatc : s.at_ m1 (c k).obj = (c k).loc := by
    have := (h0.iv.stand t1).2.1
    rw [heq] at this
    omega
  have hF := h0.lays (p := 1000 + (mk + 1)) (x := { c k with at_ := 4, held := (c k).held ++ [(c k).obj], put := (c k).put ++ [1000 + (mk + 1)] }) hk hat hatc (iv.put _ _) rfl rfl rfl rfl
  rw [f2, f3]
  refine ⟨f1, hF, ⟨?_, ?_, ?_, ?_, ?_, ?_⟩, rfl⟩
  · have := b.a_; show s.atts.length ≤ _; omega
  · have e : (((s.lay (c k).att (c k).cur (s.vl (c k).cur)).use s.locs.length true).put s.locs.length ⟨1000 + (mk + 1), 0, false⟩).locs.length = s.locs.length + 1 := hll
    rw [e]; have := b.l_; omega
  · rw [Mm.len_swap, opn_cells ho]; have := b.c_; omega
  · have := b.n_; have := opn_le ho; omega
  · have := b.m0; omega
  · have := b.m1; omega
end
end Go.Proofs.Ytdeiochjkbogpaa
