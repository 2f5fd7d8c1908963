import Derived.Test.YtkebpelpjkgdkabNilQ
import Derived.Test.YtkebpelpjkgdkabRefQ2
namespace Go.Proofs.Ytkebpelpjkgdkab
open Go.RowKit Go.Maps

/-- A queue, or the nil pointer, and the document's beside it. -/
def Pair (w : World) (qo : Option Nat) (rb : Nat) (F : List Nat) : Prop :=
  match qo with
  | some qb => ∃ xs L Fq Fr, QI w qb xs Fq ∧ RI w rb 4096 L Fr ∧ Dj Fq Fr ∧ xs.Perm L ∧ F = Fq ++ Fr
  | none => RI w rb 0 [] F
/-- Its pointer. -/
def qp (qo : Option Nat) : Value := match qo with | some q => .pointer (some ⟨q, 0, none⟩) | none => .pointer none

theorem Pair.keep {w w' : World} {qo : Option Nat} {rb : Nat} {F : List Nat} (h : Pair w qo rb F) {S : Nat → Prop} (hk : Keeps S w w') (hF : ∀ k ∈ F, ¬ S k) : Pair w' qo rb F := by
  cases qo with
  | none => exact RI.keep h hk hF
  | some qb =>
    obtain ⟨xs, L, Fq, Fr, hq, hr, hd, hp, rfl⟩ := h
    exact ⟨xs, L, Fq, Fr, hq.keep hk (fun k h => hF k (by simp [h])), hr.keep hk (fun k h => hF k (by simp [h])), hd, hp, rfl⟩
theorem Pair.lt {w : World} {qo : Option Nat} {rb : Nat} {F : List Nat} (h : Pair w qo rb F) : ∀ k ∈ F, k < w.heap.size := by
  cases qo with
  | none => exact RI.lt h
  | some qb =>
    obtain ⟨xs, L, Fq, Fr, hq, hr, hd, hp, rfl⟩ := h
    intro k hk
    rcases List.mem_append.1 hk with h | h
    · exact hq.lt k h
    · exact hr.lt k h

/-- What the document's call does behind the program's. -/
def After (w w1 : World) (qo : Option Nat) (rb : Nat) (F : List Nat) (f : FuncId) (args : Array Value) (ans : Value) : Prop :=
  Keeps (fun k => k ∈ F) w w1 ∧ ∀ w1', Keeps (fun _ => False) w1 w1' → Calls Try.prog f args w1' fun e w2 => e = .returned ans ∧ (∃ F', Pair w2 qo rb F' ∧ Left w w2 F F') ∧ ∀ k o v, w1.heap.size ≤ k → w1'.cell? ⟨k, o, none⟩ = some v → w2.cell? ⟨k, o, none⟩ = some v

section
variable {w w1 w1' w2 : World} {qb rb : Nat} {xs ys L M : List It} {Fq Fq' Fr Fr' : List Nat}

/-- The document's queue stands while the program's works. -/
theorem mid (_ : QI w qb xs Fq) (hr : RI w rb 4096 L Fr) (hd : Dj Fq Fr) (l1 : Left w w1 Fq Fq') (k : Keeps (fun _ => False) w1 w1') : RI w1' rb 4096 L Fr ∧ Dj Fq' Fr ∧ (∀ k ∈ Fr, k < w1.heap.size) :=
  have hr1 : RI w1 rb 4096 L Fr := hr.keep l1.keeps (fun k hk e => hd k e hk)
  ⟨hr1.keep k (fun _ _ e => e), l1.dj hd hr.lt, hr1.lt⟩
theorem both (q1 : QI w1 qb ys Fq') (hd : Dj Fq' Fr) (hF : ∀ k ∈ Fr, k < w1.heap.size) (_ : ∀ k ∈ Fr, k < w.heap.size) (l1 : Left w w1 Fq Fq') (k : Keeps (fun _ => False) w1 w1') (r2 : RI w2 rb 4096 M Fr') (l2 : Left w1' w2 Fr Fr') (hp : ys.Perm M) :
    (∃ F', Pair w2 (some qb) rb F' ∧ Left w w2 (Fq ++ Fr) F') ∧ ∀ k o v, w1.heap.size ≤ k → w1'.cell? ⟨k, o, none⟩ = some v → w2.cell? ⟨k, o, none⟩ = some v := by
  have q1' := q1.keep k (fun _ _ e => e)
  have hs := k.size
  refine ⟨⟨Fq' ++ Fr', ⟨ys, M, Fq', Fr', q1'.keep l2.keeps (fun k hk e => hd k hk e), r2, (fun i hi hm => ?_), hp, rfl⟩, ⟨?_, fun i hi => ?_⟩⟩, fun i o v hi hc => ?_⟩
  · rcases l2.old i hm with h | h
    · exact hd i hi h
    · have := q1.lt i hi; omega
  · refine ((l1.keeps.mono (T := fun k => k ∈ Fq ++ Fr) (fun i _ e => by simp [e])).trans' k (fun _ _ e => e) (fun _ _ e => e.elim)).trans' l2.keeps (fun _ _ e => e) (fun i _ e => by simp [e])
  · have h1 := l1.keeps.size
    rcases List.mem_append.1 hi with h | h
    · exact (l1.old i h).imp (fun e => by simp [e]) id
    · exact (l2.old i h).imp (fun e => by simp [e]) (fun e => by omega)
  · exact l2.keeps.cell hc (fun e => by have := hF i e; omega)
end

/-- One of an id. -/
theorem ids_one {L : List It} (hn : (ids L).Nodup) {x y : It} (hx : x ∈ L) (hy : y ∈ L) (e : x.2 = y.2) : x = y := by
  obtain ⟨i1, hi1, rfl⟩ := List.getElem_of_mem hx
  obtain ⟨i2, hi2, rfl⟩ := List.getElem_of_mem hy
  by_cases h : i1 = i2
  · subst h; rfl
  · have := ids_ne hn hi1 hi2 h
    rw [ia_get hi1, ia_get hi2] at this
    exact absurd e this
theorem perm_erase {L : List It} {i : Nat} (hi : i < L.length) : (ia L i :: L.eraseIdx i).Perm L := by
  rw [ia_get hi, List.eraseIdx_eq_take_drop_succ]
  refine List.perm_middle.symm.trans ?_
  rw [List.getElem_cons_drop hi, List.take_append_drop]
theorem min_one {xs L : List It} (hp : xs.Perm L) {x y : It} (hx : x ∈ xs) (hxl : ∀ z ∈ xs, bef z x = false) (hy : y ∈ L) (hyl : ∀ z ∈ L, bef z y = false) : x = y :=
  bef_lin.eq (hyl x (hp.mem_iff.1 hx)) (hxl y (hp.mem_iff.2 hy))

section
variable {w : World} {qo : Option Nat} {rb : Nat} {F : List Nat}

theorem p_add (h : Pair w qo rb F) (x : It) (hx : I64 x.1 ∧ I64 x.2) :
    Calls Try.prog 14 #[qp qo, .agg #[.int .i64 x.1, .int .i64 x.2]] w fun e w1 => ∃ n : Int, e = .returned (.int .i64 n) ∧ After w w1 qo rb F 37 #[.pointer (some ⟨rb, 0, none⟩), .agg #[.int .i64 x.1, .int .i64 x.2]] (.int .i64 n) := by
  cases qo with
  | none =>
    refine (nil_add w x).mono ?_
    rintro e w1 ⟨rfl, k⟩
    refine ⟨22, rfl, by first | exact Keeps.refl _ _ | exact k1.mono (fun _ _ e => e.elim) | exact l1.keeps.mono (fun i _ e => by simp [e]) | exact k.mono (fun _ _ e => e.elim), fun w1' k' => ?_⟩
    have h1 : RI w1' rb 0 [] F := (RI.keep h k (fun _ _ e => e)).keep k' (fun _ _ e => e)
    have hF := (RI.keep h k (fun _ _ e => e)).lt
    refine (radd_any h1 (by decide) x).mono ?_
    rintro e w2 ⟨F', l, (⟨hm, _⟩ | ⟨_, _, rfl, r⟩ | ⟨_, hm, _⟩)⟩
    · cases hm
    · exact ⟨rfl, ⟨F', r, (Left.new (k.trans k')).trans l⟩, fun i o v hi hc => l.keeps.cell hc (fun e => by have := hF i e; omega)⟩
    · simp at hm
  | some qb =>
    obtain ⟨xs, L, Fq, Fr, hq, hr, hd, hp, rfl⟩ := h
    have hip := ids_perm hp
    refine (add_any hq x hx).mono ?_
    rintro e w1 (⟨hi, rfl, q1, k1⟩ | ⟨hi, hl, rfl, q1, k1⟩ | ⟨hi, hl, rfl, ys, F', q1, p1, l1⟩)
    · refine ⟨21, rfl, by first | exact Keeps.refl _ _ | exact k1.mono (fun _ _ e => e.elim) | exact l1.keeps.mono (fun i _ e => by simp [e]) | exact k.mono (fun _ _ e => e.elim), fun w1' k' => ?_⟩
      obtain ⟨m1, m2, m3⟩ := mid hq hr hd (Left.new k1) k'
      refine (radd_any m1 (by decide) x).mono ?_
      rintro e w2 ⟨F', l, (⟨hm, rfl, r⟩ | ⟨hm, _⟩ | ⟨hm, _⟩)⟩
      · exact ⟨rfl, both q1 m2 m3 hr.lt (Left.new k1) k' r l hp⟩
      · exact absurd (hip.mem_iff.1 hi) hm
      · exact absurd (hip.mem_iff.1 hi) hm
    · refine ⟨22, rfl, by first | exact Keeps.refl _ _ | exact k1.mono (fun _ _ e => e.elim) | exact l1.keeps.mono (fun i _ e => by simp [e]) | exact k.mono (fun _ _ e => e.elim), fun w1' k' => ?_⟩
      obtain ⟨m1, m2, m3⟩ := mid hq hr hd (Left.new k1) k'
      have hpl := hp.length_eq
      refine (radd_any m1 (by decide) x).mono ?_
      rintro e w2 ⟨F', l, (⟨hm, _⟩ | ⟨_, _, rfl, r⟩ | ⟨_, hm, _⟩)⟩
      · exact absurd (hip.mem_iff.2 hm) hi
      · exact ⟨rfl, both q1 m2 m3 hr.lt (Left.new k1) k' r l hp⟩
      · omega
    · refine ⟨0, rfl, by first | exact Keeps.refl _ _ | exact k1.mono (fun _ _ e => e.elim) | exact l1.keeps.mono (fun i _ e => by simp [e]) | exact k.mono (fun _ _ e => e.elim), fun w1' k' => ?_⟩
      obtain ⟨m1, m2, m3⟩ := mid hq hr hd l1 k'
      have hpl := hp.length_eq
      refine (radd_any m1 (by decide) x).mono ?_
      rintro e w2 ⟨F', l, (⟨hm, _⟩ | ⟨_, hm, _⟩ | ⟨_, _, rfl, r⟩)⟩
      · exact absurd (hip.mem_iff.2 hm) hi
      · omega
      · exact ⟨rfl, both q1 m2 m3 hr.lt l1 k' r l (p1.trans (hp.append_right _))⟩

theorem p_take (h : Pair w qo rb F) :
    Calls Try.prog 15 #[qp qo] w fun e w1 => ∃ (x : It) (n : Int), e = .returned (.tuple #[.agg #[.int .i64 x.1, .int .i64 x.2], .int .i64 n]) ∧ After w w1 qo rb F 38 #[.pointer (some ⟨rb, 0, none⟩)] (.tuple #[.agg #[.int .i64 x.1, .int .i64 x.2], .int .i64 n]) := by
  cases qo with
  | none =>
    refine (nil_take w).mono ?_
    rintro e w1 ⟨rfl, k⟩
    refine ⟨(0, 0), 20, rfl, by first | exact Keeps.refl _ _ | exact k1.mono (fun _ _ e => e.elim) | exact l1.keeps.mono (fun i _ e => by simp [e]) | exact k.mono (fun _ _ e => e.elim), fun w1' k' => ?_⟩
    have h1 : RI w1' rb 0 [] F := (RI.keep h k (fun _ _ e => e)).keep k' (fun _ _ e => e)
    have hF := (RI.keep h k (fun _ _ e => e)).lt
    refine (rtake_any h1).mono ?_
    rintro e w2 ⟨F', l, (⟨_, rfl, r⟩ | ⟨i, hi, _⟩)⟩
    · exact ⟨rfl, ⟨F', r, (Left.new (k.trans k')).trans l⟩, fun i o v hi hc => l.keeps.cell hc (fun e => by have := hF i e; omega)⟩
    · simp at hi
  | some qb =>
    obtain ⟨xs, L, Fq, Fr, hq, hr, hd, hp, rfl⟩ := h
    have hpl := hp.length_eq
    refine (take_any hq).mono ?_
    rintro e w1 (⟨hnil, rfl, q1, k1⟩ | ⟨hl, x, ys, F', rfl, q1, p1, hmin, l1⟩)
    · refine ⟨(0, 0), 20, rfl, by first | exact Keeps.refl _ _ | exact k1.mono (fun _ _ e => e.elim) | exact l1.keeps.mono (fun i _ e => by simp [e]) | exact k.mono (fun _ _ e => e.elim), fun w1' k' => ?_⟩
      obtain ⟨m1, m2, m3⟩ := mid hq hr hd (Left.new k1) k'
      refine (rtake_any m1).mono ?_
      rintro e w2 ⟨F', l, (⟨_, rfl, r⟩ | ⟨i, hi, _⟩)⟩
      · exact ⟨rfl, both q1 m2 m3 hr.lt (Left.new k1) k' r l hp⟩
      · rw [hnil, List.length_nil] at hpl; omega
    · refine ⟨x, 0, rfl, by first | exact Keeps.refl _ _ | exact k1.mono (fun _ _ e => e.elim) | exact l1.keeps.mono (fun i _ e => by simp [e]) | exact k.mono (fun _ _ e => e.elim), fun w1' k' => ?_⟩
      obtain ⟨m1, m2, m3⟩ := mid hq hr hd l1 k'
      refine (rtake_any m1).mono ?_
      rintro e w2 ⟨F', l, (⟨hnil, _⟩ | ⟨i, hi, hm, rfl, r⟩)⟩
      · rw [hnil, List.length_nil] at hpl; omega
      · have hx := min_one hp (p1.mem_iff.1 (by simp)) hmin (ia_mem hi) hm
        subst hx
        exact ⟨rfl, both q1 m2 m3 hr.lt l1 k' r l ((p1.trans (hp.trans (perm_erase hi).symm)).cons_inv)⟩

theorem p_drop (h : Pair w qo rb F) {k : Int} (hk : I64 k) :
    Calls Try.prog 12 #[qp qo, .int .i64 k] w fun e w1 => ∃ n : Int, e = .returned (.int .i64 n) ∧ After w w1 qo rb F 40 #[.pointer (some ⟨rb, 0, none⟩), .int .i64 k] (.int .i64 n) := by
  cases qo with
  | none =>
    refine (nil_drop w k).mono ?_
    rintro e w1 ⟨rfl, rfl⟩
    refine ⟨23, rfl, by first | exact Keeps.refl _ _ | exact k1.mono (fun _ _ e => e.elim) | exact l1.keeps.mono (fun i _ e => by simp [e]) | exact k.mono (fun _ _ e => e.elim), fun w1' k' => ?_⟩
    have h1 : RI w1' rb 0 [] F := RI.keep h k' (fun _ _ e => e)
    have hF := RI.lt h
    refine (rdrop_any h1 k).mono ?_
    rintro e w2 ⟨F', l, (⟨_, rfl, r⟩ | ⟨i, hi, _⟩)⟩
    · exact ⟨rfl, ⟨F', r, (Left.new k').trans l⟩, fun i o v hi hc => l.keeps.cell hc (fun e => by have := hF i e; omega)⟩
    · simp at hi
  | some qb =>
    obtain ⟨xs, L, Fq, Fr, hq, hr, hd, hp, rfl⟩ := h
    have hip := ids_perm hp
    have hn : (ids L).Nodup := hip.nodup_iff.1 hq.nodup
    refine (drop_any hq hk).mono ?_
    rintro e w1 (⟨hi, rfl, rfl⟩ | ⟨x, hx, hxk, rfl, ys, q1, p1, l1⟩)
    · refine ⟨23, rfl, by first | exact Keeps.refl _ _ | exact k1.mono (fun _ _ e => e.elim) | exact l1.keeps.mono (fun i _ e => by simp [e]) | exact k.mono (fun _ _ e => e.elim), fun w1' k' => ?_⟩
      obtain ⟨m1, m2, m3⟩ := mid hq hr hd (Left.refl w1 Fq) k'
      refine (rdrop_any m1 k).mono ?_
      rintro e w2 ⟨F', l, (⟨_, rfl, r⟩ | ⟨i, hi', hik, _⟩)⟩
      · exact ⟨rfl, both hq m2 m3 hr.lt (Left.refl w1 Fq) k' r l hp⟩
      · exact absurd (hip.mem_iff.2 (hik ▸ List.mem_map.2 ⟨_, ia_mem hi', rfl⟩)) hi
    · refine ⟨0, rfl, by first | exact Keeps.refl _ _ | exact k1.mono (fun _ _ e => e.elim) | exact l1.keeps.mono (fun i _ e => by simp [e]) | exact k.mono (fun _ _ e => e.elim), fun w1' k' => ?_⟩
      obtain ⟨m1, m2, m3⟩ := mid hq hr hd l1 k'
      refine (rdrop_any m1 k).mono ?_
      rintro e w2 ⟨F', l, (⟨hno, _⟩ | ⟨i, hi', hik, rfl, r⟩)⟩
      · exact absurd (hip.mem_iff.1 (hxk ▸ List.mem_map.2 ⟨_, hx, rfl⟩)) hno
      · have he := ids_one hn (hp.mem_iff.1 hx) (ia_mem hi') (hxk.trans hik.symm)
        subst he
        exact ⟨rfl, both q1 m2 m3 hr.lt l1 k' r l ((p1.trans (hp.trans (perm_erase hi').symm)).cons_inv)⟩

theorem set_perm {xs L : List It} (hp : xs.Perm L) (hn : (ids L).Nodup) {p i : Nat} (hpl : p < xs.length) (hi : i < L.length) (he : (ia xs p).2 = (ia L i).2) (y : It) : (xs.set p y).Perm (L.set i y) := by
  have hx : ia xs p = ia L i := ids_one hn (hp.mem_iff.1 (ia_mem hpl)) (ia_mem hi) he
  have h1 : (xs.eraseIdx p).Perm (L.eraseIdx i) := by
    have := ((perm_erase hpl).trans hp).trans (perm_erase hi).symm
    rw [hx] at this
    exact this.cons_inv
  have s : ∀ (l : List It) (j : Nat), j < l.length → (l.set j y).Perm (y :: l.eraseIdx j) := fun l j hj => by
    have h2 := perm_erase (L := l.set j y) (i := j) (by simpa using hj)
    rw [ia_get (by simpa using hj)] at h2
    simp only [List.getElem_set_self, List.eraseIdx_set_eq] at h2
    exact h2.symm
  exact (s xs p hpl).trans ((h1.cons y).trans (s L i hi).symm)

theorem p_change (h : Pair w qo rb F) {k key : Int} (hk : I64 k) (hkey : I64 key) :
    Calls Try.prog 11 #[qp qo, .int .i64 k, .int .i64 key] w fun e w1 => ∃ n : Int, e = .returned (.int .i64 n) ∧ After w w1 qo rb F 39 #[.pointer (some ⟨rb, 0, none⟩), .int .i64 k, .int .i64 key] (.int .i64 n) := by
  cases qo with
  | none =>
    refine (nil_change w k key).mono ?_
    rintro e w1 ⟨rfl, rfl⟩
    refine ⟨23, rfl, by first | exact Keeps.refl _ _ | exact k1.mono (fun _ _ e => e.elim) | exact l1.keeps.mono (fun i _ e => by simp [e]) | exact k.mono (fun _ _ e => e.elim), fun w1' k' => ?_⟩
    have h1 : RI w1' rb 0 [] F := RI.keep h k' (fun _ _ e => e)
    have hF := RI.lt h
    refine (rchange_any h1 k key).mono ?_
    rintro e w2 ⟨l, (⟨_, rfl, r⟩ | ⟨i, hi, _⟩)⟩
    · exact ⟨rfl, ⟨F, r, (Left.new k').trans l⟩, fun i o v hi hc => l.keeps.cell hc (fun e => by have := hF i e; omega)⟩
    · simp at hi
  | some qb =>
    obtain ⟨xs, L, Fq, Fr, hq, hr, hd, hp, rfl⟩ := h
    have hip := ids_perm hp
    have hn : (ids L).Nodup := hip.nodup_iff.1 hq.nodup
    refine (qchange_any hq hk hkey).mono ?_
    rintro e w1 (⟨hi, rfl, rfl⟩ | ⟨p, hpl, hpk, rfl, ys, q1, p1, l1⟩)
    · refine ⟨23, rfl, by first | exact Keeps.refl _ _ | exact k1.mono (fun _ _ e => e.elim) | exact l1.keeps.mono (fun i _ e => by simp [e]) | exact k.mono (fun _ _ e => e.elim), fun w1' k' => ?_⟩
      obtain ⟨m1, m2, m3⟩ := mid hq hr hd (Left.refl w1 Fq) k'
      refine (rchange_any m1 k key).mono ?_
      rintro e w2 ⟨l, (⟨_, rfl, r⟩ | ⟨i, hi', hik, _⟩)⟩
      · exact ⟨rfl, both hq m2 m3 hr.lt (Left.refl w1 Fq) k' r l hp⟩
      · exact absurd (hip.mem_iff.2 (hik ▸ List.mem_map.2 ⟨_, ia_mem hi', rfl⟩)) hi
    · refine ⟨0, rfl, by first | exact Keeps.refl _ _ | exact k1.mono (fun _ _ e => e.elim) | exact l1.keeps.mono (fun i _ e => by simp [e]) | exact k.mono (fun _ _ e => e.elim), fun w1' k' => ?_⟩
      obtain ⟨m1, m2, m3⟩ := mid hq hr hd l1 k'
      refine (rchange_any m1 k key).mono ?_
      rintro e w2 ⟨l, (⟨hno, _⟩ | ⟨i, hi', hik, rfl, r⟩)⟩
      · exact absurd (hip.mem_iff.1 (hpk ▸ List.mem_map.2 ⟨_, ia_mem hpl, rfl⟩)) hno
      · exact ⟨rfl, both q1 m2 m3 hr.lt l1 k' r l (p1.trans (set_perm hp hn hpl hi' (hpk.trans hik.symm) _))⟩

theorem p_least (h : Pair w qo rb F) :
    Calls Try.prog 19 #[qp qo] w fun e w1 => ∃ (x : It) (n : Int), e = .returned (.tuple #[.agg #[.int .i64 x.1, .int .i64 x.2], .int .i64 n]) ∧ After w w1 qo rb F 54 #[.pointer (some ⟨rb, 0, none⟩)] (.tuple #[.agg #[.int .i64 x.1, .int .i64 x.2], .int .i64 n]) := by
  cases qo with
  | none =>
    refine (nil_least w).mono ?_
    rintro e w1 ⟨rfl, k⟩
    refine ⟨(0, 0), 20, rfl, by first | exact Keeps.refl _ _ | exact k1.mono (fun _ _ e => e.elim) | exact l1.keeps.mono (fun i _ e => by simp [e]) | exact k.mono (fun _ _ e => e.elim), fun w1' k' => ?_⟩
    have h1 : RI w1' rb 0 [] F := (RI.keep h k (fun _ _ e => e)).keep k' (fun _ _ e => e)
    refine (rleastq_any h1).mono ?_
    rintro e w2 ⟨l, (⟨_, rfl⟩ | ⟨x, hx, _⟩)⟩
    · exact ⟨rfl, ⟨F, h1.keep l (fun _ _ e => e), Left.new ((k.trans k').trans l)⟩, fun i o v hi hc => l.cell hc (fun e => e)⟩
    · cases hx
  | some qb =>
    obtain ⟨xs, L, Fq, Fr, hq, hr, hd, hp, rfl⟩ := h
    have hpl := hp.length_eq
    refine (least_any hq).mono ?_
    rintro e w1 ⟨k1, (⟨hnil, rfl⟩ | ⟨x, hx, hmin, rfl⟩)⟩
    · refine ⟨(0, 0), 20, rfl, by first | exact Keeps.refl _ _ | exact k1.mono (fun _ _ e => e.elim) | exact l1.keeps.mono (fun i _ e => by simp [e]) | exact k.mono (fun _ _ e => e.elim), fun w1' k' => ?_⟩
      obtain ⟨m1, m2, m3⟩ := mid hq hr hd (Left.new k1) k'
      refine (rleastq_any m1).mono ?_
      rintro e w2 ⟨l, (⟨_, rfl⟩ | ⟨x, hx, _⟩)⟩
      · exact ⟨rfl, both (hq.keep k1 (fun _ _ e => e)) m2 m3 hr.lt (Left.new k1) k' (m1.keep l (fun _ _ e => e)) (Left.new l) hp⟩
      · have := hp.mem_iff.2 hx; rw [hnil] at this; cases this
    · refine ⟨x, 0, rfl, by first | exact Keeps.refl _ _ | exact k1.mono (fun _ _ e => e.elim) | exact l1.keeps.mono (fun i _ e => by simp [e]) | exact k.mono (fun _ _ e => e.elim), fun w1' k' => ?_⟩
      obtain ⟨m1, m2, m3⟩ := mid hq hr hd (Left.new k1) k'
      refine (rleastq_any m1).mono ?_
      rintro e w2 ⟨l, (⟨hnil, _⟩ | ⟨y, hy, hm, rfl⟩)⟩
      · have := hp.mem_iff.1 hx; rw [hnil] at this; cases this
      · have he := min_one hp hx hmin hy hm
        subst he
        exact ⟨rfl, both (hq.keep k1 (fun _ _ e => e)) m2 m3 hr.lt (Left.new k1) k' (m1.keep l (fun _ _ e => e)) (Left.new l) hp⟩

theorem p_key (h : Pair w qo rb F) {k : Int} (hk : I64 k) :
    Calls Try.prog 10 #[qp qo, .int .i64 k] w fun e w1 => ∃ (x n : Int), e = .returned (.tuple #[.int .i64 x, .int .i64 n]) ∧ After w w1 qo rb F 55 #[.pointer (some ⟨rb, 0, none⟩), .int .i64 k] (.tuple #[.int .i64 x, .int .i64 n]) := by
  cases qo with
  | none =>
    refine (nil_key w k).mono ?_
    rintro e w1 ⟨rfl, rfl⟩
    refine ⟨0, 23, rfl, by first | exact Keeps.refl _ _ | exact k1.mono (fun _ _ e => e.elim) | exact l1.keeps.mono (fun i _ e => by simp [e]) | exact k.mono (fun _ _ e => e.elim), fun w1' k' => ?_⟩
    have h1 : RI w1' rb 0 [] F := RI.keep h k' (fun _ _ e => e)
    refine (rkey_any h1 k).mono ?_
    rintro e w2 ⟨l, (⟨_, rfl⟩ | ⟨x, hx, _⟩)⟩
    · exact ⟨rfl, ⟨F, h1.keep l (fun _ _ e => e), Left.new (k'.trans l)⟩, fun i o v hi hc => l.cell hc (fun e => e)⟩
    · cases hx
  | some qb =>
    obtain ⟨xs, L, Fq, Fr, hq, hr, hd, hp, rfl⟩ := h
    have hip := ids_perm hp
    have hn : (ids L).Nodup := hip.nodup_iff.1 hq.nodup
    refine (key_any hq hk).mono ?_
    rintro e w1 ⟨rfl, (⟨hi, rfl⟩ | ⟨x, hx, hxk, rfl⟩)⟩
    · refine ⟨0, 23, rfl, by first | exact Keeps.refl _ _ | exact k1.mono (fun _ _ e => e.elim) | exact l1.keeps.mono (fun i _ e => by simp [e]) | exact k.mono (fun _ _ e => e.elim), fun w1' k' => ?_⟩
      obtain ⟨m1, m2, m3⟩ := mid hq hr hd (Left.refl w1 Fq) k'
      refine (rkey_any m1 k).mono ?_
      rintro e w2 ⟨l, (⟨_, rfl⟩ | ⟨y, hy, hyk, _⟩)⟩
      · exact ⟨rfl, both hq m2 m3 hr.lt (Left.refl w1 Fq) k' (m1.keep l (fun _ _ e => e)) (Left.new l) hp⟩
      · exact absurd (hip.mem_iff.2 (hyk ▸ List.mem_map.2 ⟨_, hy, rfl⟩)) hi
    · refine ⟨x.1, 0, rfl, by first | exact Keeps.refl _ _ | exact k1.mono (fun _ _ e => e.elim) | exact l1.keeps.mono (fun i _ e => by simp [e]) | exact k.mono (fun _ _ e => e.elim), fun w1' k' => ?_⟩
      obtain ⟨m1, m2, m3⟩ := mid hq hr hd (Left.refl w1 Fq) k'
      refine (rkey_any m1 k).mono ?_
      rintro e w2 ⟨l, (⟨hno, _⟩ | ⟨y, hy, hyk, rfl⟩)⟩
      · exact absurd (hip.mem_iff.1 (hxk ▸ List.mem_map.2 ⟨_, hx, rfl⟩)) hno
      · have he := ids_one hn (hp.mem_iff.1 hx) hy (hxk.trans hyk.symm)
        subst he
        exact ⟨rfl, both hq m2 m3 hr.lt (Left.refl w1 Fq) k' (m1.keep l (fun _ _ e => e)) (Left.new l) hp⟩
end

end Go.Proofs.Ytkebpelpjkgdkab
