import Derived.Test.YtpjobehlbkckgaaTxSt
import Derived.Deep.Slices
namespace Go.Proofs.Ytpjobehlbkckgaa
open Go.RowKit Go.Deep
/-- A value of an object: number, next, dead. -/
structure V3 where
  num : Int
  next : Int
  dead : Bool
def v30 : V3 := ⟨0, 0, false⟩
def V3.cells (v : V3) : List Value := [.int .i64 v.num, .int .i64 v.next, .bool v.dead]
def vcl (l : List V3) : List Value := l.flatMap V3.cells
def nvs (l : List Int) : List Value := l.map fun x => .int .i64 x
/-- Values in memory. -/
def VL (w : World) (a : Option Addr) (l : List V3) : Prop := ∀ i v, l[i]? = some v → ∃ b off, a = some ⟨b, off, none⟩ ∧ w.cell? ⟨b, off + i * 3, none⟩ = some (.int .i64 v.num) ∧ w.cell? ⟨b, off + i * 3 + 1, none⟩ = some (.int .i64 v.next) ∧ w.cell? ⟨b, off + i * 3 + 2, none⟩ = some (.bool v.dead)
theorem VL.keep {w w' : World} {a : Option Addr} {l : List V3} (h : VL w a l) (k : Keeps (fun _ => False) w w') : VL w' a l := fun i v hv => by
  obtain ⟨b, off, e, c1, c2, c3⟩ := h i v hv
  exact ⟨b, off, e, k.cell c1 (fun e => e), k.cell c2 (fun e => e), k.cell c3 (fun e => e)⟩
/-- Numbers in memory. -/
def NUM (w : World) (a : Option Addr) (os : List Int) : Prop := ∀ i x, os[i]? = some x → ∃ b off, a = some ⟨b, off, none⟩ ∧ w.cell? ⟨b, off + i, none⟩ = some (.int .i64 x)
theorem NUM.keep {w w' : World} {a : Option Addr} {os : List Int} (h : NUM w a os) {S : Nat → Prop} (k : Keeps S w w') (hS : ∀ b off, a = some ⟨b, off, none⟩ → ¬ S b) : NUM w' a os := fun i x hx => by
  obtain ⟨b, off, e, c⟩ := h i x hx
  exact ⟨b, off, e, k.cell c (hS b off e)⟩
def rise (l : List Int) (x : Int) : Bool := match l.getLast? with
  | none => true
  | some y => decide (y < x)
/-- The way along the list, as far as there is fuel. -/
def kgo (vs : List V3) (h : Int) : Nat → Int → List Int → Option (List Int)
  | 0, _, _ => none
  | n + 1, p, l => if p = -1 then some l else if p = h ∨ p < 0 ∨ (vs.length : Int) ≤ p then none else
      if (vs.getD p.toNat v30).dead = true ∨ rise l (vs.getD p.toNat v30).num = false then none else kgo vs h n (vs.getD p.toNat v30).next (l ++ [(vs.getD p.toNat v30).num])
def keysOf (vs : List V3) (h : Int) : Option (List Int) := if 0 ≤ h ∧ h < (vs.length : Int) then kgo vs h (vs.length + 1) (vs.getD h.toNat v30).next [] else none
/-- How many may still come. -/
def cnt (vs : List V3) (l : List Int) : Nat := match l.getLast? with
  | none => vs.length
  | some y => (vs.filter fun v => decide (y < v.num)).length
theorem cnt_step {vs : List V3} {l : List Int} {v : V3} (hv : v ∈ vs) (hr : rise l v.num = true) : cnt vs (l ++ [v.num]) < cnt vs l := by
  unfold cnt rise at *
  rw [List.getLast?_append]
  simp only [List.getLast?_singleton, Option.some_or]
  cases hl : l.getLast? with
  | none =>
    simp only
    refine List.length_filter_lt_length_iff_exists.2 ⟨v, hv, ?_⟩
    simp
  | some y =>
    rw [hl] at hr
    simp only at hr ⊢
    have hy : y < v.num := of_decide_eq_true hr
    have e : (vs.filter fun u => decide (v.num < u.num)) = (vs.filter fun u => decide (y < u.num)).filter fun u => decide (v.num < u.num) := by
      rw [List.filter_filter]
      congr 1
      funext u
      by_cases h : v.num < u.num
      · have : y < u.num := by omega
        simp [h, this]
      · simp [h]
    rw [e]
    refine List.length_filter_lt_length_iff_exists.2 ⟨v, ?_, by simp⟩
    rw [List.mem_filter]
    exact ⟨hv, hr⟩
theorem kgo_len {vs : List V3} {h : Int} : ∀ (n : Nat) {p : Int} {l r : List Int}, kgo vs h n p l = some r → l.length + cnt vs l ≤ vs.length → r.length ≤ vs.length
  | 0, _, _, _, e, _ => by cases e
  | n + 1, p, l, r, e, hc => by
    unfold kgo at e
    split at e
    · cases e; omega
    · split at e
      · cases e
      · rename_i h1 h2
        split at e
        · cases e
        · rename_i h3
          have hp : p.toNat < vs.length := by omega
          have hm : vs.getD p.toNat v30 ∈ vs := by rw [List.getD_eq_getElem?_getD, List.getElem?_eq_getElem hp]; exact List.getElem_mem _
          have := cnt_step (l := l) hm (by cases hx : rise l (vs.getD p.toNat v30).num <;> simp_all)
          exact kgo_len n e (by rw [List.length_append]; simp only [List.length_singleton]; omega)
theorem keysOf_len {vs : List V3} {h : Int} {r : List Int} (e : keysOf vs h = some r) : r.length ≤ vs.length := by
  unfold keysOf at e
  split at e
  · exact kgo_len _ e (by simp [cnt])
  · cases e
theorem n640 : (Try.prog.info? 2).map (fun i => (i.zero, i.size, i.bytes)) = some (some (.int .i64 0), 1, 8) := by kernel_rfl
theorem n64i : ∃ i, Try.prog.info? 2 = some i ∧ i.zero = some (.int .i64 0) ∧ i.size = 1 ∧ i.bytes = 8 := by
  have h := n640
  cases hq : Try.prog.info? 2 with
  | none => rw [hq] at h; cases h
  | some i =>
    rw [hq] at h
    injection h with h
    injection h with h1 h2
    injection h2 with h2 h3
    exact ⟨i, rfl, h1, h2, h3⟩
theorem val0 : (Try.prog.info? 24).map (fun i => (i.zero, i.size, i.bytes)) = some (some (.agg #[.int .i64 0, .int .i64 0, .bool false]), 3, 24) := by kernel_rfl
theorem vali : ∃ i, Try.prog.info? 24 = some i ∧ i.zero = some (.agg #[.int .i64 0, .int .i64 0, .bool false]) ∧ i.size = 3 ∧ i.bytes = 24 := by
  have h := val0
  cases hq : Try.prog.info? 24 with
  | none => rw [hq] at h; cases h
  | some i =>
    rw [hq] at h
    injection h with h
    injection h with h1 h2
    injection h2 with h2 h3
    exact ⟨i, rfl, h1, h2, h3⟩
theorem nI : Try.prog.underlying 25 = some (.slice 2) := by kernel_rfl
theorem vI : Try.prog.underlying 22 = some (.slice 24) := by kernel_rfl
theorem add_at (b o j : Nat) : (⟨b, o, none⟩ : Addr).add j = ⟨b, o + j, none⟩ := by
  unfold Addr.add; split <;> simp_all
theorem append_n {W : World} {base k : Nat} {v : Value} {xs : List Int} (hown : W.ownsRow base 2 1 v k (nvs xs)) (hb : base ≤ W.heap.size) (hk : (k + 1) * 8 ≤ 140737488355328) (x : Int) :
    ∃ v' w', (Builtin.append_ #[25, 25] 25 #[v, .slice (some ⟨W.heap.size, 0, none⟩) 1 1]).run Try.prog (W.alloc (.cells #[.int .i64 x] 2)) = .ok v' w' ∧ w'.ownsRow base 2 1 v' (k + 1) (nvs (xs ++ [x])) ∧ Keeps (fun i => v.ownBlock = some i) W w' := by
  obtain ⟨i0, hi0, hz0, hz1, hz2⟩ := n64i
  obtain ⟨v', w', hr, ho, hg, _, hbl⟩ := run_append_own_at (P := Try.prog) (w := W.alloc (.cells (nvs [x]).toArray 2)) base 25 25 2 i0 _ 1 8 nI hi0 hz0 hz1 hz2 rfl (by decide) v k (nvs xs) (((Keeps.refl (fun _ => False) W).alloc _).owns hown (fun _ _ e => e)) ⟨W.heap.size, 0, none⟩ 1 1 (nvs [x]) rfl (fun j u hu => by
      rw [add_at]
      have := (CL.made W (nvs [x]) 2).c j u hu
      simpa using this) (fun u hu => by
      simp [nvs] at hu
      rcases hu with rfl
      rfl) (by unfold maxLen; omega) (by omega) (Nat.le_trans hb (by simp))
  refine ⟨v', w', hr, ?_, ((Keeps.refl _ W).alloc _).grown hg (fun i _ e => e)⟩
  unfold nvs
  rw [List.map_append]
  simpa [nvs] using ho
theorem owns_base {w : World} {base : Nat} {e : TypeId} {size : Nat} {v : Value} {n : Nat} {xs : List Value} (h : w.ownsRow base e size v n xs) (k : Nat) (hk : v.ownBlock = some k) : base ≤ k := by
  rcases h.2 with ⟨rfl, _⟩ | ⟨g, cap, cur, rfl, hb, _⟩
  · cases hk
  · simp [Value.ownBlock] at hk; omega
theorem cl_of_owns {W : World} {base n : Nat} {v : Value} {l : List Int} (h : W.ownsRow base 2 1 v n (nvs l)) (hn : l.length = n) : ∃ a cap g, v = .slice a n cap ∧ base ≤ g ∧ CL W g (nvs l) ∧ (0 < n → a = some ⟨g, 0, none⟩ ∧ g < W.heap.size) := by
  rcases h.2 with ⟨rfl, h0⟩ | ⟨g, cap, cur, rfl, hb, hgg, rest⟩
  · have hz : n = 0 := by first | exact h0.1 | omega
    subst hz
    have hl : l = [] := List.eq_nil_of_length_eq_zero hn
    subst hl
    exact ⟨none, 0, base, rfl, Nat.le_refl _, ⟨fun o v e => by simp [nvs] at e, fun o ho => absurd ho (Nat.not_lt_zero _)⟩, fun h => by omega⟩
  · refine ⟨_, cap, g, rfl, hb, ⟨fun o v e => ?_, fun o _ => by simp [World.frozen?, hgg]⟩, fun _ => ⟨rfl, owns_lt' h g rfl⟩⟩
    have hc := h.cells (g := g) rfl o v e
    rw [add_at, Nat.zero_add] at hc
    exact hc
theorem num_of_cl {w : World} {g : Nat} {l : List Int} (h : CL w g (nvs l)) : NUM w (some ⟨g, 0, none⟩) l := fun i x hx => ⟨g, 0, rfl, by
  rw [Nat.zero_add]
  exact h.c i _ (by simp [nvs, hx])⟩
theorem num_of_owns {W : World} {base n : Nat} {v : Value} {l : List Int} (h : W.ownsRow base 2 1 v n (nvs l)) (hn : l.length = n) : ∃ a cap, v = .slice a n cap ∧ NUM W a l ∧ (∀ b off, a = some ⟨b, off, none⟩ → base ≤ b ∧ off = 0 ∧ v.ownBlock = some b) := by
  rcases h.2 with ⟨rfl, h0⟩ | ⟨g, cap, cur, rfl, hb, hgg, rest⟩
  · have hz : n = 0 := by first | exact h0.1 | omega
    subst hz
    have hl : l = [] := List.eq_nil_of_length_eq_zero hn
    subst hl
    exact ⟨none, 0, rfl, fun i x hx => by simp at hx, fun b off e => by cases e⟩
  · refine ⟨_, cap, rfl, fun i x hx => ⟨g, 0, rfl, ?_⟩, fun b off e => ?_⟩
    · have hc := h.cells (g := g) rfl i (.int .i64 x) (by simp [nvs, hx])
      rw [add_at] at hc
      exact hc
    · cases e; exact ⟨hb, rfl, rfl⟩
end Go.Proofs.Ytpjobehlbkckgaa
