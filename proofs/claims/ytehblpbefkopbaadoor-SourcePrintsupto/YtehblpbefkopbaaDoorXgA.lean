import Derived.Test.YtehblpbefkopbaaDoorXaC
namespace Go.Proofs.YtehblpbefkopbaaDoor
open Go.RowKit
/-- Cells that can be read from a place on. -/
def Rd (w : World) (p : Option Addr) (xs : List Value) : Prop := ∀ j u, xs[j]? = some u → ∃ b o, p = some ⟨b, o, none⟩ ∧ w.cell? ⟨b, o + j, none⟩ = some u
mutual
/-- The cells of an expression that can be read, wherever its parts lie. -/
def IE (w : World) : Tr → List Value → Prop
  | .mk k n wd ps, l => I64 k ∧ I64 n ∧ wd.length ≤ 140737488355328 ∧ ∃ p c xs, l = [.int .i64 k, .int .i64 n, .string (bs wd), .slice p ps.length c] ∧ Rd w p xs ∧ IL w ps xs
def IL (w : World) : List Tr → List Value → Prop
  | [], xs => xs = []
  | t :: r, xs => ∃ ys zs, xs = ys ++ zs ∧ IE w t ys ∧ IL w r zs
end
mutual
def IS (w : World) : St → List Value → Prop
  | .mk k wd a b th el, l => I64 k ∧ wd.length ≤ 140737488355328 ∧ ∃ la lb pt ct pe ce xs ys, l = .int .i64 k :: .string (bs wd) :: (la ++ (lb ++ [.slice pt th.length ct, .slice pe el.length ce])) ∧ IE w a la ∧ IE w b lb ∧ Rd w pt xs ∧ ISL w th xs ∧ Rd w pe ys ∧ ISL w el ys
def ISL (w : World) : List St → List Value → Prop
  | [], xs => xs = []
  | t :: r, xs => ∃ ys zs, xs = ys ++ zs ∧ IS w t ys ∧ ISL w r zs
end
mutual
/-- Each list of a tree has room in memory. -/
def FtE : Tr → Prop
  | .mk _ _ _ ps => ps.length * 56 ≤ 140737488355327 ∧ FtL ps
def FtL : List Tr → Prop
  | [] => True
  | t :: r => FtE t ∧ FtL r
end
mutual
def FtS : St → Prop
  | .mk _ _ a b th el => FtE a ∧ FtE b ∧ th.length * 184 ≤ 140737488355327 ∧ FtSL th ∧ el.length * 184 ≤ 140737488355327 ∧ FtSL el
def FtSL : List St → Prop
  | [] => True
  | t :: r => FtS t ∧ FtSL r
end
theorem Rd.keep {w w' : World} {p : Option Addr} {xs : List Value} (h : Rd w p xs) (k : Keeps (fun _ => False) w w') : Rd w' p xs := fun j u e => by
  obtain ⟨b, o, h1, h2⟩ := h j u e
  exact ⟨b, o, h1, k.cell h2 (fun e => e)⟩
mutual
theorem IE.keep {w w' : World} (k : Keeps (fun _ => False) w w') : ∀ {t : Tr} {l : List Value}, IE w t l → IE w' t l
  | .mk kd n wd ps, l, h => by
    unfold IE at h ⊢
    obtain ⟨h1, h2, h3, p, c, xs, h4, h5, h6⟩ := h
    exact ⟨h1, h2, h3, p, c, xs, h4, h5.keep k, IL.keep k h6⟩
theorem IL.keep {w w' : World} (k : Keeps (fun _ => False) w w') : ∀ {t : List Tr} {l : List Value}, IL w t l → IL w' t l
  | [], l, h => by unfold IL at h ⊢; exact h
  | t :: r, l, h => by
    unfold IL at h ⊢
    obtain ⟨ys, zs, h1, h2, h3⟩ := h
    exact ⟨ys, zs, h1, IE.keep k h2, IL.keep k h3⟩
end
mutual
theorem IS.keep {w w' : World} (k : Keeps (fun _ => False) w w') : ∀ {t : St} {l : List Value}, IS w t l → IS w' t l
  | .mk kd wd a b th el, l, h => by
    unfold IS at h ⊢
    obtain ⟨h1, h2, la, lb, pt, ct, pe, ce, xs, ys, h3, h4, h5, h6, h7, h8, h9⟩ := h
    exact ⟨h1, h2, la, lb, pt, ct, pe, ce, xs, ys, h3, h4.keep k, h5.keep k, h6.keep k, ISL.keep k h7, h8.keep k, ISL.keep k h9⟩
theorem ISL.keep {w w' : World} (k : Keeps (fun _ => False) w w') : ∀ {t : List St} {l : List Value}, ISL w t l → ISL w' t l
  | [], l, h => by unfold ISL at h ⊢; exact h
  | t :: r, l, h => by
    unfold ISL at h ⊢
    obtain ⟨ys, zs, h1, h2, h3⟩ := h
    exact ⟨ys, zs, h1, IS.keep k h2, ISL.keep k h3⟩
end
theorem OwnP.rd {w : World} {P : Nat → Prop} {e : TypeId} {size : Nat} {p : Option Addr} {m c n : Nat} {xs : List Value} (h : OwnP w P e size (.slice p m c) n xs) : Rd w p xs := fun j u e => by
  obtain ⟨a, cap, e1, h1, -, -⟩ := own_slice h.1
  injection e1 with e1 _ _
  subst e1
  obtain ⟨g, h2, h3⟩ := h1 j u e
  exact ⟨g, 0, h2, by rw [Nat.zero_add]; exact h3⟩
mutual
theorem TC.toI {w : World} {P : Nat → Prop} {e : TypeId} : ∀ {t : Tr} {l : List Value}, TC w P e t l → IE w t l
  | .mk kd n wd ps, l, h => by
    unfold TC at h
    unfold IE
    obtain ⟨h1, h2, h3, a, xs, h4, h5, h6⟩ := h
    obtain ⟨p, c, rfl, -⟩ := own_slice h5.1
    exact ⟨h1, h2, h3, p, c, xs, h4, h5.rd, TL.toI h6⟩
theorem TL.toI {w : World} {P : Nat → Prop} {e : TypeId} : ∀ {t : List Tr} {l : List Value}, TL w P e t l → IL w t l
  | [], l, h => by unfold TL at h; unfold IL; exact h
  | t :: r, l, h => by
    unfold TL at h
    unfold IL
    obtain ⟨ys, zs, h1, h2, h3⟩ := h
    exact ⟨ys, zs, h1, TC.toI h2, TL.toI h3⟩
end
mutual
theorem SC.toI {w : World} {P : Nat → Prop} {e s : TypeId} : ∀ {t : St} {l : List Value}, SC w P e s t l → IS w t l
  | .mk kd wd a b th el, l, h => by
    unfold SC at h
    unfold IS
    obtain ⟨h1, h2, la, lb, tv, ev, xs, ys, h3, h4, h5, h6, h7, h8, h9⟩ := h
    obtain ⟨pt, ct, rfl, -⟩ := own_slice h6.1
    obtain ⟨pe, ce, rfl, -⟩ := own_slice h8.1
    exact ⟨h1, h2, la, lb, pt, ct, pe, ce, xs, ys, h3, h4.toI, h5.toI, h6.rd, SL.toI h7, h8.rd, SL.toI h9⟩
theorem SL.toI {w : World} {P : Nat → Prop} {e s : TypeId} : ∀ {t : List St} {l : List Value}, SL w P e s t l → ISL w t l
  | [], l, h => by unfold SL at h; unfold ISL; exact h
  | t :: r, l, h => by
    unfold SL at h
    unfold ISL
    obtain ⟨ys, zs, h1, h2, h3⟩ := h
    exact ⟨ys, zs, h1, SC.toI h2, SL.toI h3⟩
end
theorem IE.shapeR {w : World} {t : Tr} {l : List Value} (h : IE w t l) : ∃ k n s p m c, l = [.int .i64 k, .int .i64 n, .string s, .slice p m c] := by
  cases t
  unfold IE at h
  obtain ⟨_, _, _, p, c, xs, h4, _⟩ := h
  exact ⟨_, _, _, _, _, _, h4⟩
theorem IE.len {w : World} {t : Tr} {l : List Value} (h : IE w t l) : l.length = 4 := by
  obtain ⟨_, _, _, _, _, _, rfl⟩ := h.shapeR
  rfl
theorem IS.len {w : World} {t : St} {l : List Value} (h : IS w t l) : l.length = 12 := by
  cases t
  unfold IS at h
  obtain ⟨_, _, la, lb, _, _, _, _, xs, ys, h3, h4, h5, _⟩ := h
  rw [h3]; simp [h4.len, h5.len]
theorem IL.at {w : World} : ∀ {l : List Tr} {xs : List Value}, IL w l xs → ∀ (i : Nat) (t : Tr), l[i]? = some t → ∃ ys, IE w t ys ∧ ∀ j v, ys[j]? = some v → xs[i * 4 + j]? = some v
  | [], xs, h, i, t, hi => by cases hi
  | a :: r, xs, h, i, t, hi => by
    unfold IL at h
    obtain ⟨ys, zs, h1, h2, h3⟩ := h
    subst h1
    have hl := h2.len
    cases i with
    | zero =>
      injection hi with hi; subst hi
      refine ⟨ys, h2, fun j v e => ?_⟩
      have := (List.getElem?_eq_some_iff.1 e).1
      rw [Nat.zero_mul, Nat.zero_add, List.getElem?_append_left this, e]
    | succ i =>
      obtain ⟨us, h4, h5⟩ := IL.at h3 i t hi
      refine ⟨us, h4, fun j v e => ?_⟩
      rw [List.getElem?_append_right (by omega), ← h5 j v e]
      congr 1; omega
theorem ISL.at {w : World} : ∀ {l : List St} {xs : List Value}, ISL w l xs → ∀ (i : Nat) (t : St), l[i]? = some t → ∃ ys, IS w t ys ∧ ∀ j v, ys[j]? = some v → xs[i * 12 + j]? = some v
  | [], xs, h, i, t, hi => by cases hi
  | a :: r, xs, h, i, t, hi => by
    unfold ISL at h
    obtain ⟨ys, zs, h1, h2, h3⟩ := h
    subst h1
    have hl := h2.len
    cases i with
    | zero =>
      injection hi with hi; subst hi
      refine ⟨ys, h2, fun j v e => ?_⟩
      have := (List.getElem?_eq_some_iff.1 e).1
      rw [Nat.zero_mul, Nat.zero_add, List.getElem?_append_left this, e]
    | succ i =>
      obtain ⟨us, h4, h5⟩ := ISL.at h3 i t hi
      refine ⟨us, h4, fun j v e => ?_⟩
      rw [List.getElem?_append_right (by omega), ← h5 j v e]
      congr 1; omega
theorem IS.parts {w : World} {k : Int} {wd : Bs} {a b : Tr} {th el : List St} {L : List Value} (h : IS w (.mk k wd a b th el) L) : I64 k ∧ wd.length ≤ 140737488355328 ∧ ∃ (ka na : Int) (sa : ByteArray) (pa : Option Addr) (ma ca : Nat) (kb nb : Int) (sb : ByteArray) (pb : Option Addr) (mb cb : Nat) (pt : Option Addr) (ct : Nat) (pe : Option Addr) (ce : Nat) (xt xe : List Value),
    L = [.int .i64 k, .string (bs wd), .int .i64 ka, .int .i64 na, .string sa, .slice pa ma ca, .int .i64 kb, .int .i64 nb, .string sb, .slice pb mb cb, .slice pt th.length ct, .slice pe el.length ce] ∧ IE w a [.int .i64 ka, .int .i64 na, .string sa, .slice pa ma ca] ∧ IE w b [.int .i64 kb, .int .i64 nb, .string sb, .slice pb mb cb] ∧ Rd w pt xt ∧ ISL w th xt ∧ Rd w pe xe ∧ ISL w el xe := by
  unfold IS at h
  obtain ⟨h1, h2, la, lb, pt, ct, pe, ce, xs, ys, h3, h4, h5, h6, h7, h8, h9⟩ := h
  obtain ⟨ka, na, sa, pa, ma, ca, rfl⟩ := h4.shapeR
  obtain ⟨kb, nb, sb, pb, mb, cb, rfl⟩ := h5.shapeR
  exact ⟨h1, h2, ka, na, sa, pa, ma, ca, kb, nb, sb, pb, mb, cb, pt, ct, pe, ce, xs, ys, h3, h4, h5, h6, h7, h8, h9⟩
theorem FtL.at : ∀ {l : List Tr} {i : Nat} {t : Tr}, FtL l → l[i]? = some t → FtE t
  | [], i, t, _, hi => by cases hi
  | a :: r, 0, t, h, hi => by injection hi with hi; subst hi; unfold FtL at h; exact h.1
  | a :: r, i + 1, t, h, hi => by unfold FtL at h; exact FtL.at h.2 hi
theorem FtSL.at : ∀ {l : List St} {i : Nat} {t : St}, FtSL l → l[i]? = some t → FtS t
  | [], i, t, _, hi => by cases hi
  | a :: r, 0, t, h, hi => by injection hi with hi; subst hi; unfold FtSL at h; exact h.1
  | a :: r, i + 1, t, h, hi => by unfold FtSL at h; exact FtSL.at h.2 hi
theorem IL.snoc {w : World} {t : Tr} {q : List Value} (hq : IE w t q) : ∀ {l : List Tr} {xs : List Value}, IL w l xs → IL w (l ++ [t]) (xs ++ q)
  | [], xs, h => by
    unfold IL at h; subst h
    rw [List.nil_append, List.nil_append]; unfold IL
    exact ⟨q, [], by simp, hq, by unfold IL; rfl⟩
  | a :: r, xs, h => by
    unfold IL at h
    obtain ⟨ys, zs, h1, h2, h3⟩ := h
    rw [List.cons_append]; unfold IL
    exact ⟨ys, zs ++ q, by rw [h1, List.append_assoc], h2, IL.snoc hq h3⟩
theorem ISL.snoc {w : World} {t : St} {q : List Value} (hq : IS w t q) : ∀ {l : List St} {xs : List Value}, ISL w l xs → ISL w (l ++ [t]) (xs ++ q)
  | [], xs, h => by
    unfold ISL at h; subst h
    rw [List.nil_append, List.nil_append]; unfold ISL
    exact ⟨q, [], by simp, hq, by unfold ISL; rfl⟩
  | a :: r, xs, h => by
    unfold ISL at h
    obtain ⟨ys, zs, h1, h2, h3⟩ := h
    rw [List.cons_append]; unfold ISL
    exact ⟨ys, zs ++ q, by rw [h1, List.append_assoc], h2, ISL.snoc hq h3⟩
theorem FtL.snoc : ∀ {l : List Tr} {t : Tr}, FtL l → FtE t → FtL (l ++ [t])
  | [], t, _, h => by rw [List.nil_append]; unfold FtL; exact ⟨h, by unfold FtL; trivial⟩
  | a :: r, t, k, h => by unfold FtL at k; rw [List.cons_append]; unfold FtL; exact ⟨k.1, FtL.snoc k.2 h⟩
theorem FtSL.snoc : ∀ {l : List St} {t : St}, FtSL l → FtS t → FtSL (l ++ [t])
  | [], t, _, h => by rw [List.nil_append]; unfold FtSL; exact ⟨h, by unfold FtSL; trivial⟩
  | a :: r, t, k, h => by unfold FtSL at k; rw [List.cons_append]; unfold FtSL; exact ⟨k.1, FtSL.snoc k.2 h⟩
theorem Rd.app {w : World} {b o : Nat} {xs ys : List Value} (h : Rd w (some ⟨b, o, none⟩) xs) (k : ∀ j v, ys[j]? = some v → w.cell? ⟨b, o + xs.length + j, none⟩ = some v) : Rd w (some ⟨b, o, none⟩) (xs ++ ys) := fun j u e => by
  refine ⟨b, o, rfl, ?_⟩
  by_cases hj : j < xs.length
  · rw [List.getElem?_append_left hj] at e
    obtain ⟨b', o', h1, h2⟩ := h j u e
    injection h1 with h1; injection h1 with h3 h4 _
    rw [h3, h4]
    exact h2
  · rw [List.getElem?_append_right (by omega)] at e
    have := k _ _ e
    rw [show o + j = o + xs.length + (j - xs.length) from by omega]
    exact this
/-- A list of expressions, gathered from its places. -/
theorem il_gather {w : World} {b o : Nat} : ∀ (m : Nat), (∀ i, i < m → ∃ t cs, IE w t cs ∧ FtE t ∧ ∀ j v, cs[j]? = some v → w.cell? ⟨b, o + i * 4 + j, none⟩ = some v) → ∃ ts xs, ts.length = m ∧ xs.length = m * 4 ∧ IL w ts xs ∧ FtL ts ∧ Rd w (some ⟨b, o, none⟩) xs
  | 0, _ => ⟨[], [], rfl, rfl, by unfold IL; rfl, by unfold FtL; trivial, fun j u e => by cases e⟩
  | m + 1, h => by
    obtain ⟨ts, xs, h1, h2, h3, h4, h5⟩ := il_gather m (fun i hi => h i (by omega))
    obtain ⟨t, cs, k1, k2, k3⟩ := h m (by omega)
    exact ⟨ts ++ [t], xs ++ cs, by simp [h1], by rw [List.length_append, h2, k1.len]; omega, h3.snoc k1, h4.snoc k2, h5.app (by rw [h2]; exact k3)⟩
theorem isl_gather {w : World} {b o : Nat} : ∀ (m : Nat), (∀ i, i < m → ∃ t cs, IS w t cs ∧ FtS t ∧ ∀ j v, cs[j]? = some v → w.cell? ⟨b, o + i * 12 + j, none⟩ = some v) → ∃ ts xs, ts.length = m ∧ xs.length = m * 12 ∧ ISL w ts xs ∧ FtSL ts ∧ Rd w (some ⟨b, o, none⟩) xs
  | 0, _ => ⟨[], [], rfl, rfl, by unfold ISL; rfl, by unfold FtSL; trivial, fun j u e => by cases e⟩
  | m + 1, h => by
    obtain ⟨ts, xs, h1, h2, h3, h4, h5⟩ := isl_gather m (fun i hi => h i (by omega))
    obtain ⟨t, cs, k1, k2, k3⟩ := h m (by omega)
    exact ⟨ts ++ [t], xs ++ cs, by simp [h1], by rw [List.length_append, h2, k1.len]; omega, h3.snoc k1, h4.snoc k2, h5.app (by rw [h2]; exact k3)⟩
end Go.Proofs.YtehblpbefkopbaaDoor
