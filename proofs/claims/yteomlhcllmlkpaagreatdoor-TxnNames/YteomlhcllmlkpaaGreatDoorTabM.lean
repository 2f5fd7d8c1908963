import Derived.Test.YteomlhcllmlkpaaGreatDoorKeepSt
namespace Go.Proofs.YteomlhcllmlkpaaGreatDoor

/-- A hidden fact. -/
def Hid (p : Prop) : Prop := p
theorem Hid.out {p : Prop} (h : Hid p) : p := h

/-- A read that was told: the object, the version, its fate. -/
structure Rd where
  ob : Int
  ver : Int
  fate : Nat
/-- An entry. -/
structure En where
  ob : Int
  ver : Int
  ord : Nat
def ents : Nat → List Rd → List En
  | _, [] => []
  | i, r :: rs => if r.fate = 1 then ⟨r.ob, r.ver, i⟩ :: ents (i + 1) rs else ents (i + 1) rs
theorem ents_append : ∀ (rs ss : List Rd) (i : Nat), ents i (rs ++ ss) = ents i rs ++ ents (i + rs.length) ss
  | [], ss, i => by simp [ents]
  | r :: rs, ss, i => by
    have := ents_append rs ss (i + 1)
    rw [List.cons_append]
    simp only [ents]
    rw [this, show i + 1 + rs.length = i + (r :: rs).length by simp; omega]
    split <;> simp
theorem ents_mem : ∀ (rs : List Rd) (i : Nat) (e : En), e ∈ ents i rs ↔ ∃ (j : Nat) (r : Rd), rs[j]? = some r ∧ r.fate = 1 ∧ e = ⟨r.ob, r.ver, i + j⟩
  | [], i, e => by simp [ents]
  | r :: rs, i, e => by
    have ih := ents_mem rs (i + 1) e
    have hs : (∃ (j : Nat) (r' : Rd), (r :: rs)[j]? = some r' ∧ r'.fate = 1 ∧ e = ⟨r'.ob, r'.ver, i + j⟩) ↔ (r.fate = 1 ∧ e = ⟨r.ob, r.ver, i⟩) ∨ ∃ (j : Nat) (r' : Rd), rs[j]? = some r' ∧ r'.fate = 1 ∧ e = ⟨r'.ob, r'.ver, i + 1 + j⟩ := by
      constructor
      · rintro ⟨j, r', h1, h2, h3⟩
        cases j with
        | zero => simp at h1; subst h1; exact .inl ⟨h2, by simpa using h3⟩
        | succ j => exact .inr ⟨j, r', by simpa using h1, h2, by rw [h3, show i + (j + 1) = i + 1 + j by omega]⟩
      · rintro (⟨h1, h2⟩ | ⟨j, r', h1, h2, h3⟩)
        · exact ⟨0, r, by simp, h1, by simpa using h2⟩
        · exact ⟨j + 1, r', by simpa using h1, h2, by rw [h3, show i + (j + 1) = i + 1 + j by omega]⟩
    rw [hs, ← ih]
    simp only [ents]
    split
    · rename_i hf; simp [hf]
    · rename_i hf; simp [hf]
theorem ents_sorted : ∀ (rs : List Rd) (i : Nat), (ents i rs).Pairwise (fun a b => a.ord < b.ord)
  | [], _ => by simp [ents]
  | r :: rs, i => by
    simp only [ents]
    split
    · refine List.Pairwise.cons (fun e he => ?_) (ents_sorted rs (i + 1))
      obtain ⟨j, r', _, _, rfl⟩ := (ents_mem rs (i + 1) e).1 he
      simp; omega
    · exact ents_sorted rs (i + 1)
theorem ents_len : ∀ (rs : List Rd) (i : Nat), (ents i rs).length ≤ rs.length
  | [], _ => by simp [ents]
  | r :: rs, i => by
    have := ents_len rs (i + 1)
    simp only [ents]
    split <;> simp <;> omega
/-- How many have the fate 1. -/
theorem ents_count : ∀ (rs : List Rd) (i : Nat), (ents i rs).length = (rs.filter fun r => r.fate = 1).length
  | [], _ => by simp [ents]
  | r :: rs, i => by
    have := ents_count rs (i + 1)
    simp only [ents]
    split
    · rename_i hf; simp [hf, this]
    · rename_i hf; simp [hf, this]

/-- No object is held twice; the fates are fates; the numbers are numbers. -/
structure Gd (rs : List Rd) : Prop where
  one : ∀ (j k : Nat) (r s : Rd), rs[j]? = some r → rs[k]? = some s → r.fate = 1 → s.fate = 1 → r.ob = s.ob → j = k
  num : ∀ r ∈ rs, I64 r.ob ∧ I64 r.ver ∧ 1 ≤ r.fate ∧ r.fate ≤ 3
theorem Gd.nil : Gd [] := ⟨fun j k r s h => by simp at h, fun r h => by cases h⟩
/-- Where the object is held. -/
def hld (rs : List Rd) (k : Int) : Prop := ∃ (j : Nat) (r : Rd), rs[j]? = some r ∧ r.fate = 1 ∧ r.ob = k
def es (rs : List Rd) : List En := ents 0 rs
def Rd.en (r : Rd) (j : Nat) : En := ⟨r.ob, r.ver, j⟩
def add (rs : List Rd) (ob ver : Int) : List Rd := rs ++ [⟨ob, ver, 1⟩]
def Rd.to (r : Rd) (f : Nat) : Rd := { r with fate := f }
theorem es_add (rs : List Rd) (ob ver : Int) : es (add rs ob ver) = es rs ++ [⟨ob, ver, rs.length⟩] := by
  unfold es add
  rw [ents_append]
  simp [ents]
theorem add_len (rs : List Rd) (ob ver : Int) : (add rs ob ver).length = rs.length + 1 := by simp [add]
theorem Gd.add {rs : List Rd} (h : Gd rs) {ob ver : Int} (h1 : I64 ob) (h2 : I64 ver) (hn : ¬ hld rs ob) : Gd (add rs ob ver) := by
  have hg : ∀ (j : Nat) (r : Rd), (rs ++ [(⟨ob, ver, 1⟩ : Rd)])[j]? = some r → rs[j]? = some r ∨ (j = rs.length ∧ r = ⟨ob, ver, 1⟩) := fun j r hj => by
    by_cases e : j < rs.length
    · rw [List.getElem?_append_left e] at hj; exact .inl hj
    · rw [List.getElem?_append_right (by omega)] at hj
      have h0 : j - rs.length = 0 := by have := (List.getElem?_eq_some_iff.1 hj).1; simp at this; omega
      rw [h0] at hj
      simp at hj
      exact .inr ⟨by omega, hj.symm⟩
  refine ⟨fun j k r s hj hk f1 f2 e => ?_, fun r hr => ?_⟩
  · rcases hg j r hj with a | ⟨a, rfl⟩ <;> rcases hg k s hk with b | ⟨b, rfl⟩
    · exact h.one j k r s a b f1 f2 e
    · exact absurd ⟨j, r, a, f1, e⟩ hn
    · exact absurd ⟨k, s, b, f2, e.symm⟩ hn
    · omega
  · rcases List.mem_append.1 hr with a | a
    · exact h.num r a
    · simp at a; subst a; exact ⟨h1, h2, by simp, by simp⟩
theorem Gd.to {rs : List Rd} (h : Gd rs) {j : Nat} {r : Rd} (hj : rs[j]? = some r) {f : Nat} (hf : f = 2 ∨ f = 3) : Gd (rs.set j (r.to f)) := by
  have hl : j < rs.length := (List.getElem?_eq_some_iff.1 hj).1
  have hg : ∀ (i : Nat) (s : Rd), (rs.set j (r.to f))[i]? = some s → s.fate = 1 → rs[i]? = some s := fun i s hi h1 => by
    rw [List.getElem?_set] at hi
    split at hi
    · cases hi
      simp [Rd.to] at h1
      omega
    · exact hi
  refine ⟨fun a b s t ha hb f1 f2 e => h.one a b s t (hg a s ha f1) (hg b t hb f2) f1 f2 e, fun s hs => ?_⟩
  rcases List.mem_or_eq_of_mem_set hs with a | a
  · exact h.num s a
  · subst a
    have := h.num r (List.mem_of_getElem? hj)
    refine ⟨this.1, this.2.1, ?_⟩
    simp [Rd.to]
    omega

/-- No object stands twice. -/
def Dis (l : List En) : Prop := ∀ (p q : Nat) (a b : En), l[p]? = some a → l[q]? = some b → a.ob = b.ob → p = q
theorem es_get {rs : List Rd} {e : En} (h : e ∈ es rs) : ∃ r, rs[e.ord]? = some r ∧ r.fate = 1 ∧ e = r.en e.ord := by
  obtain ⟨j, r, h1, h2, h3⟩ := (ents_mem rs 0 e).1 h
  have : e.ord = j := by rw [h3]; simp
  exact ⟨r, by rw [this]; exact h1, h2, by rw [this, h3]; simp [Rd.en]⟩
theorem es_of {rs : List Rd} {j : Nat} {r : Rd} (h : rs[j]? = some r) (h1 : r.fate = 1) : r.en j ∈ es rs := (ents_mem rs 0 _).2 ⟨j, r, h, h1, by simp [Rd.en]⟩
theorem Gd.dis {rs : List Rd} (h : Gd rs) : Dis (es rs) := fun p q a b ha hb e => by
  obtain ⟨r, h1, h2, h3⟩ := es_get (List.mem_of_getElem? ha)
  obtain ⟨s, g1, g2, g3⟩ := es_get (List.mem_of_getElem? hb)
  have eo : a.ord = b.ord := h.one _ _ r s h1 g1 h2 g2 (by
    have x1 : a.ob = r.ob := by rw [h3]; rfl
    have x2 : b.ob = s.ob := by rw [g3]; rfl
    omega)
  have hs : (es rs).Pairwise (fun a b => a.ord < b.ord) := ents_sorted rs 0
  rw [List.pairwise_iff_getElem] at hs
  obtain ⟨lp, ep⟩ := List.getElem?_eq_some_iff.1 ha
  obtain ⟨lq, eq⟩ := List.getElem?_eq_some_iff.1 hb
  rcases Nat.lt_trichotomy p q with c | c | c
  · have := hs p q lp lq c
    rw [ep, eq] at this
    omega
  · exact c
  · have := hs q p lq lp c
    rw [ep, eq] at this
    omega

/-- Where an object stands. -/
def pl (l : List En) (k : Int) : Option Nat := l.findIdx? (fun e => e.ob == k)
theorem pl_some {l : List En} {k : Int} {p : Nat} (h : pl l k = some p) : ∃ e, l[p]? = some e ∧ e.ob = k := by
  obtain ⟨hp, h1, _⟩ := List.findIdx?_eq_some_iff_getElem.1 h
  exact ⟨l[p], by simp [hp], by simpa using h1⟩
theorem pl_none {l : List En} {k : Int} (h : pl l k = none) : ∀ (p : Nat) (e : En), l[p]? = some e → e.ob ≠ k := fun p e he hk => by
  have := List.findIdx?_eq_none_iff.1 h e (List.mem_of_getElem? he)
  simp [hk] at this
theorem pl_of {l : List En} (hd : Dis l) {p : Nat} {e : En} (he : l[p]? = some e) : pl l e.ob = some p := by
  cases h : pl l e.ob with
  | none => exact absurd rfl (pl_none h p e he)
  | some q =>
    obtain ⟨b, hb, hk⟩ := pl_some h
    rw [hd q p b e hb he hk]
theorem pl_eq {l : List En} {f : Int → Option Nat} (h1 : ∀ (p : Nat) (e : En), l[p]? = some e → f e.ob = some p) (h2 : ∀ k, (∀ (p : Nat) (e : En), l[p]? = some e → e.ob ≠ k) → f k = none) : f = pl l := by
  funext k
  cases h : pl l k with
  | none => exact h2 k (pl_none h)
  | some p =>
    obtain ⟨e, he, rfl⟩ := pl_some h
    exact h1 p e he
def upd (f : Int → Option Nat) (k : Int) (v : Option Nat) : Int → Option Nat := fun x => if x = k then v else f x
theorem pl_nil : pl [] = fun _ => none := rfl
theorem dis_nil : Dis [] := fun p q a b h => by simp at h
theorem pl_snoc {l : List En} {e : En} (hd : Dis (l ++ [e])) : upd (pl l) e.ob (some l.length) = pl (l ++ [e]) := by
  have hl : Dis l := fun p q a b ha hb h => hd p q a b (by rw [List.getElem?_append_left (List.getElem?_eq_some_iff.1 ha).1]; exact ha) (by rw [List.getElem?_append_left (List.getElem?_eq_some_iff.1 hb).1]; exact hb) h
  refine pl_eq (fun p x hx => ?_) (fun k hk => ?_)
  · by_cases c : p < l.length
    · rw [List.getElem?_append_left c] at hx
      have ne : x.ob ≠ e.ob := fun h => by
        have := hd p l.length x e (by rw [List.getElem?_append_left c]; exact hx) (by simp) h
        omega
      simp only [upd]
      rw [if_neg ne]
      exact pl_of hl hx
    · rw [List.getElem?_append_right (by omega)] at hx
      have h0 : p - l.length = 0 := by have := (List.getElem?_eq_some_iff.1 hx).1; simp at this; omega
      rw [h0] at hx
      simp at hx
      subst hx
      simp only [upd]
      rw [if_pos True.intro, show p = l.length by omega]
  · have ne : k ≠ e.ob := fun h => hk l.length e (by simp) h.symm
    simp only [upd]
    rw [if_neg ne]
    cases h : pl l k with
    | none => rfl
    | some p =>
      obtain ⟨x, hx, hxk⟩ := pl_some h
      exact absurd hxk (hk p x (by rw [List.getElem?_append_left (List.getElem?_eq_some_iff.1 hx).1]; exact hx))

/-- While those behind a place move up: the places so far are the new ones. -/
def mv (l : List En) (i : Nat) (k : Int) : Option Nat := (pl l k).map fun q => if q < i then q else q + 1
theorem mv_start {A B : List En} {e : En} (hd : Dis (A ++ e :: B)) : upd (pl (A ++ e :: B)) e.ob none = mv (A ++ B) A.length := by
  funext k
  have ge : (A ++ e :: B)[A.length]? = some e := by simp
  by_cases c : k = e.ob
  · simp only [upd, mv]
    rw [if_pos c]
    cases h : pl (A ++ B) k with
    | none => rfl
    | some q =>
      exfalso
      obtain ⟨x, hx, hxk⟩ := pl_some h
      by_cases cq : q < A.length
      · rw [List.getElem?_append_left cq] at hx
        have := hd q A.length x e (by rw [List.getElem?_append_left cq]; exact hx) ge (by omega)
        omega
      · rw [List.getElem?_append_right (by omega)] at hx
        have := hd (q + 1) A.length x e (by rw [List.getElem?_append_right (by omega), show q + 1 - A.length = q - A.length + 1 by omega, List.getElem?_cons_succ]; exact hx) ge (by omega)
        omega
  · simp only [upd, mv]
    rw [if_neg c]
    cases h : pl (A ++ B) k with
    | none =>
      cases h' : pl (A ++ e :: B) k with
      | none => rfl
      | some q =>
        exfalso
        obtain ⟨x, hx, hxk⟩ := pl_some h'
        by_cases cq : q < A.length
        · rw [List.getElem?_append_left cq] at hx
          exact pl_none h q x (by rw [List.getElem?_append_left cq]; exact hx) hxk
        · rw [List.getElem?_append_right (by omega)] at hx
          by_cases c0 : q = A.length
          · rw [show q - A.length = 0 by omega] at hx
            simp at hx
            subst hx
            exact c hxk.symm
          · rw [show q - A.length = q - 1 - A.length + 1 by omega, List.getElem?_cons_succ] at hx
            exact pl_none h (q - 1) x (by rw [List.getElem?_append_right (by omega)]; exact hx) hxk
    | some q =>
      obtain ⟨x, hx, rfl⟩ := pl_some h
      simp only [Option.map_some]
      by_cases cq : q < A.length
      · rw [List.getElem?_append_left cq] at hx
        rw [if_pos cq]
        exact pl_of hd (by rw [List.getElem?_append_left cq]; exact hx)
      · rw [List.getElem?_append_right (by omega)] at hx
        rw [if_neg cq]
        exact pl_of hd (by rw [List.getElem?_append_right (by omega), show q + 1 - A.length = q - A.length + 1 by omega, List.getElem?_cons_succ]; exact hx)
theorem mv_step {l : List En} (hd : Dis l) {i : Nat} {e : En} (he : l[i]? = some e) : upd (mv l i) e.ob (some i) = mv l (i + 1) := by
  funext k
  simp only [upd, mv]
  by_cases c : k = e.ob
  · subst c
    rw [if_pos rfl, pl_of hd he]
    simp
  · rw [if_neg c]
    cases h : pl l k with
    | none => rfl
    | some q =>
      obtain ⟨x, hx, hxk⟩ := pl_some h
      have : q ≠ i := fun h => by subst h; rw [hx] at he; cases he; exact c hxk.symm
      simp only [Option.map_some]
      by_cases c1 : q < i
      · rw [if_pos c1, if_pos (by omega)]
      · rw [if_neg c1, if_neg (by omega)]
theorem mv_end (l : List En) : mv l l.length = pl l := by
  funext k
  simp only [mv]
  cases h : pl l k with
  | none => rfl
  | some q =>
    obtain ⟨x, hx, _⟩ := pl_some h
    have := (List.getElem?_eq_some_iff.1 hx).1
    simp only [Option.map_some]
    rw [if_pos this]
theorem mv_has {l : List En} (hd : Dis l) {i j : Nat} {e : En} (he : l[j]? = some e) : (mv l i e.ob).isSome = true := by
  simp [mv, pl_of hd he]

/-- A read is taken out. -/
theorem out_split {rs : List Rd} {j : Nat} {r : Rd} (hj : rs[j]? = some r) (h1 : r.fate = 1) {f : Nat} (hf : f = 2 ∨ f = 3) :
    ∃ A B, es rs = A ++ r.en j :: B ∧ es (rs.set j (r.to f)) = A ++ B := by
  have hl : j < rs.length := (List.getElem?_eq_some_iff.1 hj).1
  have hr : rs[j] = r := (List.getElem?_eq_some_iff.1 hj).2
  have e1 : rs = rs.take j ++ r :: rs.drop (j + 1) := by
    rw [← hr]; simp
  have e2 : rs.set j (r.to f) = rs.take j ++ (r.to f) :: rs.drop (j + 1) := by
    rw [List.set_eq_take_append_cons_drop, if_pos hl]
  have el : (rs.take j).length = j := by simp; omega
  refine ⟨ents 0 (rs.take j), ents (j + 1) (rs.drop (j + 1)), ?_, ?_⟩
  · unfold es
    rw [show ents 0 rs = ents 0 (rs.take j ++ r :: rs.drop (j + 1)) by rw [← e1], ents_append, el]
    simp [ents, h1, Rd.en]
  · unfold es
    rw [e2, ents_append, el]
    have : ¬ (r.to f).fate = 1 := by simp [Rd.to]; omega
    simp [ents, this]
theorem hld_pl {rs : List Rd} (h : Gd rs) (k : Int) : hld rs k ↔ (pl (es rs) k).isSome = true := by
  constructor
  · rintro ⟨j, r, h1, h2, rfl⟩
    obtain ⟨p, hp⟩ := List.getElem?_of_mem (es_of h1 h2)
    have := pl_of h.dis hp
    rw [show (r.en j).ob = r.ob from rfl] at this
    rw [this]; rfl
  · intro e
    cases hp : pl (es rs) k with
    | none => rw [hp] at e; cases e
    | some p =>
      obtain ⟨x, hx, hk⟩ := pl_some hp
      obtain ⟨r, h1, h2, h3⟩ := es_get (List.mem_of_getElem? hx)
      exact ⟨_, r, h1, h2, by rw [← hk, h3]; rfl⟩
end Go.Proofs.YteomlhcllmlkpaaGreatDoor
