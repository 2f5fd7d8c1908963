import Derived.Test.YtgfjhogogajbjabSchOpen
import Derived.Test.YtgfjhogogajbjabRoundKs
import Derived.Maps.AppendAt
import Derived.Deep.AppendSrc
import Derived.IntWalk
namespace Go.Proofs.Ytgfjhogogajbjab
open Go.RowKit

/-- A hidden fact. -/
def Hid (p : Prop) : Prop := p
theorem Hid.out {p : Prop} (h : Hid p) : p := h

set_option maxHeartbeats 1600000 in
set_option maxRecDepth 1000000 in
theorem named_any (w : World) (n : Nat) (p : Int) : Calls Try.prog 35 #[.int .i64 (n : Int), .int .i64 p] w fun e w' => e = .returned (.int .i64 (nmz n p)) ∧ w' = w := by
  go_enter Try.func35, Try.ntmps35
  by_cases h1 : p < 0
  · have e : nmz n p = -1 := if_pos (.inl h1)
    go_wp2
    go_ret
    first | exact ⟨rfl, rfl⟩ | exact ⟨by rw [e]; rfl, rfl⟩
  · by_cases h2 : (n : Int) ≤ p
    · have e : nmz n p = -1 := if_pos (.inr h2)
      go_wp2
      go_ret
      first | exact ⟨rfl, rfl⟩ | exact ⟨by rw [e]; rfl, rfl⟩
    · have e : nmz n p = p := if_neg (by omega)
      go_wp2
      go_ret
      first | exact ⟨rfl, rfl⟩ | exact ⟨by rw [e]; rfl, rfl⟩

/-- Why there is no schedule. -/
def rfz (n : Int) (m : Nat) : Int := if n < 1 ∨ 6 < n then 40 else if 4096 < m then 41 else 0
set_option maxHeartbeats 1600000 in
set_option maxRecDepth 1000000 in
theorem refuse_any (w : World) (n : Int) (a : Option Addr) (m cap : Nat) : Calls Try.prog 21 #[.int .i64 n, .slice a m cap] w fun e w' => e = .returned (.int .i64 (rfz n m)) ∧ w' = w := by
  go_enter Try.func21, Try.ntmps21
  by_cases h1 : n < 1
  · have e : rfz n m = 40 := if_pos (.inl h1)
    go_wp2
    go_ret
    first | exact ⟨rfl, rfl⟩ | exact ⟨by rw [e]; rfl, rfl⟩
  · by_cases h2 : 6 < n
    · have e : rfz n m = 40 := if_pos (.inr h2)
      go_wp2
      go_ret
      first | exact ⟨rfl, rfl⟩ | exact ⟨by rw [e]; rfl, rfl⟩
    · by_cases h3 : 4096 < m
      · have e : rfz n m = 41 := by unfold rfz; rw [if_neg (by omega), if_pos h3]
        have h3' : (4096 : Int) < (m : Int) := by omega
        go_wp2
        go_ret
        first | exact ⟨rfl, rfl⟩ | exact ⟨by rw [e]; rfl, rfl⟩
      · have e : rfz n m = 0 := by unfold rfz; rw [if_neg (by omega), if_neg h3]
        have h3' : ¬ (4096 : Int) < (m : Int) := by omega
        go_wp2
        go_ret
        first | exact ⟨rfl, rfl⟩ | exact ⟨by rw [e]; rfl, rfl⟩

theorem i64Info : (Try.prog.info? 2).map (fun i => (i.zero, i.size, i.bytes)) = some (some (.int .i64 0), 1, 8) := by kernel_rfl
theorem under64s : Try.prog.underlying 22 = some (.slice 2) := by kernel_rfl
/-- An append whose run is known. -/
theorem wpList_append_run {P : Program} {w : World} {ops : Array Oper} {rest : List Oper} {o : Oper} {a : Act} {Q : Exit → Act → World → Prop} (hgd : o.guard = none) (s x : Operand) (t : TypeId)
    (ho : o.op = .call { callee := .builtin .append, args := #[s, x], argTypes := #[t, t] }) (v src v' : Value) (w' : World) (hs : a.eval s = v) (hx : a.eval x = src)
    (hr : (Builtin.append_ #[t, t] o.type #[v, src]).run P w = .ok v' w') (h : wpList P ops Q rest (a.put o.dst v') w') : wpList P ops Q (o :: rest) a w :=
  wpList_plain hgd fun K hK => by
    unfold Oper.wp execOp
    simp only [ho, resolve, invoke, builtin, Sem.run_bind, Sem.run_pure, Result.andThen_ok, List.map_toArray, List.map_cons, List.map_nil, hs, hx, hr]
    exact hK _ _ h

/-- Numbers as cells. -/
def nums (z : Nat → Int) (n : Nat) : List Value := (List.range n).map fun i => .int .i64 (z i)
theorem nums_len (z : Nat → Int) (n : Nat) : (nums z n).length = n := by simp [nums]
theorem nums_get {z : Nat → Int} {n j : Nat} {u : Value} (h : (nums z n)[j]? = some u) : j < n ∧ u = .int .i64 (z j) := by
  have hj : j < n := by have := (List.getElem?_eq_some_iff.1 h).1; simpa [nums] using this
  simp [nums, hj] at h
  exact ⟨hj, h.symm⟩

theorem owns_nl {w : World} {base e : Nat} {v : Value} {n : Nat} {z : Nat → Int} (h : w.ownsRow base e 1 v n (nums z n)) : ∃ a cap, v = .slice a n cap ∧ NL w a n z ∧ (∀ b off, a = some ⟨b, off, none⟩ → base ≤ b ∧ off = 0 ∧ v.ownBlock = some b) := by
  have hlen := h.1
  rcases h.2 with ⟨rfl, h0⟩ | ⟨g, cap, cur, rfl, hb, hg, rest⟩
  · exact ⟨none, 0, by rw [h0], .inl h0, fun b off e => by cases e⟩
  · refine ⟨_, cap, rfl, ?_, fun b off e => by cases e; exact ⟨hb, rfl, rfl⟩⟩
    by_cases h0 : n = 0
    · exact .inl h0
    · refine .inr ⟨g, 0, rfl, ?_, fun i hi => ?_⟩
      · rcases Nat.lt_or_ge g w.heap.size with hlt | hge
        · exact hlt
        · rw [Array.getElem?_eq_none hge] at hg; cases hg
      · have := h.cells rfl i (.int .i64 (z i)) (by simp [nums, hi])
        rwa [add_none] at this

set_option maxHeartbeats 1600000 in
set_option maxRecDepth 1000000 in
theorem clone_any {w : World} {a : Option Addr} {n cap : Nat} {z : Nat → Int} (h : NL w a n z) (hn : n ≤ 4096) :
    Calls Try.prog 33 #[.slice a n cap] w fun e w' => ∃ v, e = .returned v ∧ w'.ownsRow w.heap.size 2 1 v n (nums z n) ∧ Keeps (fun _ => False) w w' := by
  obtain ⟨i0, hi0, hz0, hz1, hz2⟩ := info_parts i64Info
  cases a with
  | none =>
    obtain rfl : n = 0 := by
      rcases h with h | ⟨b, off, e, _⟩
      · exact h
      · cases e
    have hnn : ∀ W, (binOp .eql 22 (.slice none 0 cap) (.slice none 0 0)).run Try.prog W = .ok (.bool true) W := fun W => rfl
    go_enter Try.func33, Try.ntmps33
    go_wp2
    go_ret
    exact ⟨_, rfl, World.ownsRow_nil _ _ _ _, Keeps.refl _ _⟩
  | some a =>
    have K0 : Keeps (fun _ => False) w (w.alloc (.cells #[] 2)) := (Keeps.refl _ w).alloc _
    have own : (w.alloc (.cells #[] 2)).ownsRow w.heap.size 2 1 (.slice (some ⟨w.heap.size, 0, none⟩) 0 0) 0 [] := World.ownsRow_made w #[] 0 (Nat.le_refl _) (by unfold maxLen; omega) rfl
    have hnews : ∀ j u, (nums z n)[j]? = some u → (w.alloc (.cells #[] 2)).cell? (a.add j) = some u := by
      intro j u hu
      obtain ⟨hj, rfl⟩ := nums_get hu
      obtain ⟨b, off, e, hb, hc⟩ := h.resolve_left (by omega)
      cases e
      rw [add_none]
      exact K0.cell (hc j hj) (fun e => e)
    obtain ⟨v', w', hr, ho, hg, _, _⟩ := run_append_own_at (P := Try.prog) (w := w.alloc (.cells #[] 2)) w.heap.size 22 22 2 i0 _ 1 8 under64s hi0 hz0 hz1 hz2 rfl (by decide) _ 0 [] own a n cap (nums z n) (by rw [nums_len]; omega) hnews (fun u hu => by
      obtain ⟨i, _, rfl⟩ := List.mem_map.1 hu
      rfl) (by unfold maxLen; omega) (by omega) (by simp)
    have kw : Keeps (fun _ => False) w w' := K0.trans' ((Keeps.refl _ _).grown hg (S := fun k => k = w.heap.size) (fun _ _ e => by cases e; rfl)) (fun _ _ e => e) (fun i hi e => by omega)
    rw [Nat.zero_add, List.nil_append] at ho
    have hnn : ∀ W, (binOp .eql 22 (.slice (some a) n cap) (.slice none 0 0)).run Try.prog W = .ok (.bool false) W := fun W => rfl
    clear own hg hnews K0 h
    go_enter Try.func33, Try.ntmps33
    go_wp2_with ((at_builtin; refine wpList_append_run rfl _ _ _ rfl _ _ v' w' rfl rfl hr ?_))
    go_ret
    exact ⟨v', rfl, ho, kw⟩
end Go.Proofs.Ytgfjhogogajbjab
