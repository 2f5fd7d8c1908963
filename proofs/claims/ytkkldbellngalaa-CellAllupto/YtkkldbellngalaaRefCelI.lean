import Derived.Test.YtkkldbellngalaaRefCelH
namespace Go.Proofs.Ytkkldbellngalaa
open Go.RowKit

/-- What holds of a memory at every time. -/
structure Mm.good (s : Mm) : Prop where
  fine : s.fine
  rise : s.rise
  had : s.had
  sane : s.sane
  live : s.free = true → s.begun = true

/-- Both memories, the program's (a call ahead) and the document's; P: their blocks. -/
def Half (w : World) (mb rb : Nat) (s s' : Mm) (P : Nat → Prop) : Prop := ∃ F B, MI w mb s' F ∧ RI w rb s B ∧ (∀ k, k ∈ F → ¬ B k) ∧ P = fun k => k ∈ F ∨ B k
abbrev PR (w : World) (mb rb : Nat) (s : Mm) (P : Nat → Prop) : Prop := Half w mb rb s s P

section
variable {w : World} {mb rb : Nat} {s s' : Mm} {P : Nat → Prop}
theorem Half.keep {w' : World} (h : Half w mb rb s s' P) {S : Nat → Prop} (k : Keeps S w w') (hS : ∀ i, P i → ¬ S i) : Half w' mb rb s s' P := by
  obtain ⟨F, B, h1, h2, h3, rfl⟩ := h
  exact ⟨F, B, h1.keep k (fun i hi => hS i (.inl hi)), h2.keep k (fun i hi => hS i (.inr hi)), h3, rfl⟩
theorem Half.new {w' : World} (h : Half w mb rb s s' P) (k : Keeps (fun _ => False) w w') : Half w' mb rb s s' P := h.keep k (fun _ _ e => e)
theorem Half.lt (h : Half w mb rb s s' P) {k : Nat} (hk : P k) : k < w.heap.size := by
  obtain ⟨F, B, h1, h2, h3, rfl⟩ := h
  exact hk.elim (h1.lt k) h2.lt
/-- A call of the program's. -/
theorem PR.m (h : PR w mb rb s P) {f : Nat} {args : Array Value} {v : Value} (hc : ∀ F, MI w mb s F → Calls Try.prog f args w fun e w' => e = .returned v ∧ ∃ F', MI w' mb s' F' ∧ Left w w' F F') :
    Calls Try.prog f args w fun e w' => e = .returned v ∧ ∃ P', Half w' mb rb s s' P' ∧ LeftP w w' P P' := by
  obtain ⟨F, B, h1, h2, h3, rfl⟩ := h
  refine (hc F h1).mono ?_
  rintro e w' ⟨rfl, F', h4, l⟩
  refine ⟨rfl, _, ⟨F', B, h4, h2.keep l.keeps (fun i hi e => h3 i e hi), fun k hk hb => ?_, rfl⟩, l.keeps.mono (fun _ _ e => .inl e), fun k hk => ?_⟩
  · have := h2.lt hb
    exact (l.old k hk).elim (fun e => h3 k e hb) (fun e => by omega)
  · exact hk.elim (fun e => (l.old k e).imp .inl id) (fun e => .inl (.inr e))
theorem PR.m0 (h : PR w mb rb s P) {f : Nat} {args : Array Value} {v : Value} (hc : ∀ F, MI w mb s F → Calls Try.prog f args w fun e w' => e = .returned v ∧ Keeps (fun _ => False) w w') :
    Calls Try.prog f args w fun e w' => e = .returned v ∧ ∃ P', Half w' mb rb s s P' ∧ LeftP w w' P P' :=
  h.m fun F hF => (hc F hF).mono fun _ _ ⟨e, k⟩ => ⟨e, F, hF.new k, Left.new k⟩
/-- The document's behind it. -/
theorem Half.r (h : Half w mb rb s s' P) {f : Nat} {args : Array Value} {v : Value} (hc : ∀ B, RI w rb s B → Calls Try.prog f args w fun e w' => e = .returned v ∧ ∃ B', RI w' rb s' B' ∧ LeftP w w' B B') :
    Calls Try.prog f args w fun e w' => e = .returned v ∧ ∃ P', PR w' mb rb s' P' ∧ LeftP w w' P P' := by
  obtain ⟨F, B, h1, h2, h3, rfl⟩ := h
  refine (hc B h2).mono ?_
  rintro e w' ⟨rfl, B', h4, l⟩
  refine ⟨rfl, _, ⟨F, B', h1.keep l.keeps h3, h4, fun k hk hb => ?_, rfl⟩, l.keeps.mono (fun _ _ e => .inr e), fun k hk => ?_⟩
  · have := h1.lt k hk
    exact (l.old k hb).elim (fun e => h3 k hk e) (fun e => by omega)
  · exact hk.elim (fun e => .inl (.inl e)) (fun e => (l.old k e).imp .inr id)
theorem Half.r0 (h : PR w mb rb s P) {f : Nat} {args : Array Value} {v : Value} (hc : ∀ B, RI w rb s B → Calls Try.prog f args w fun e w' => e = .returned v ∧ Keeps (fun _ => False) w w') :
    Calls Try.prog f args w fun e w' => e = .returned v ∧ ∃ P', PR w' mb rb s P' ∧ LeftP w w' P P' :=
  h.r fun B hB => (hc B hB).mono fun _ _ ⟨e, k⟩ => ⟨e, B, hB.new k, LeftP.new k⟩
end

/-- A call of each, with one answer. -/
def Twin (mb rb : Nat) (s : Mm) (f g : Nat) (xs : Value → Array Value) (v : Value) (s' : Mm) : Prop :=
  (∀ w P, PR w mb rb s P → Calls Try.prog f (xs (.pointer (some ⟨mb, 0, none⟩))) w fun e w' => e = .returned v ∧ ∃ P', Half w' mb rb s s' P' ∧ LeftP w w' P P') ∧
  (∀ w P, Half w mb rb s s' P → Calls Try.prog g (xs (.pointer (some ⟨rb, 0, none⟩))) w fun e w' => e = .returned v ∧ ∃ P', PR w' mb rb s' P' ∧ LeftP w w' P P')

section
variable {s : Mm} {mb rb : Nat}
theorem Mm.good.take (h : s.good) {c : Nat} (hc : c < s.cells.length) (hf : s.free = true) (k wrote : Int) (d : Bool) : (s.take k c wrote d).good :=
  ⟨fine_take h.fine hc k wrote d, Mm.rise_take h.rise hf (h.live hf) k c wrote d, Mm.took_had k c wrote d, h.sane, fun e => by simp [Mm.take] at e⟩
theorem take_log (k : Int) (c : Nat) (wrote : Int) (d : Bool) : (s.take k c wrote d).log.length = s.log.length + 1 := by simp [Mm.take]

theorem twin_load (h : s.good) (hl : (s.log.length + 1) * 56 ≤ 140737488355328) (c : Int) :
    ∃ (v : Int) (er : Int) (s' : Mm), s'.good ∧ s'.log.length ≤ s.log.length + 1 ∧ Twin mb rb s 27 28 (fun p => #[p, .int .i64 c]) (.tuple #[.int .i64 v, .int .i64 er]) s' := by
  by_cases ht : s.there c = true
  · by_cases hf : s.free = true
    · obtain ⟨n, rfl, hn⟩ := there_nat ht
      have hv := h.fine n hn
      refine ⟨(ca s.cells n).2, 0, s.take 1 n (ca s.cells n).2 true, h.take hn hf _ _ _, by rw [take_log]; exact Nat.le_refl _, fun w P hp => hp.m fun F hF => load_ok hF hn hf hl, fun w P hp => hp.r fun B hB => ?_⟩
      refine (rload_ok hB hn hf (h.live hf) hl).mono ?_
      rw [← hv]
      rintro e w' ⟨rfl, B', h1, l⟩
      exact ⟨rfl, B', h1.took' rfl, l⟩
    · have hf' : s.free = false := by simpa using hf
      exact ⟨0, 31, s, h, by omega, fun w P hp => hp.m0 fun F hF => load_closed hF ht hf', fun w P hp => Half.r0 hp fun B hB => rload_closed hB ht hf'⟩
  · have ht' : s.there c = false := by simpa using ht
    exact ⟨0, 30, s, h, by omega, fun w P hp => hp.m0 fun F hF => load_cell hF ht', fun w P hp => Half.r0 hp fun B hB => rload_not hB ht'⟩

theorem twin_add (h : s.good) (hl : (s.log.length + 1) * 56 ≤ 140737488355328) (c u : Int) :
    ∃ (v : Int) (er : Int) (s' : Mm), s'.good ∧ s'.log.length ≤ s.log.length + 1 ∧ Twin mb rb s 31 32 (fun p => #[p, .int .i64 c, .int .i64 u]) (.tuple #[.int .i64 v, .int .i64 er]) s' := by
  by_cases ht : s.there c = true
  · by_cases hf : s.free = true
    · obtain ⟨n, rfl, hn⟩ := there_nat ht
      have hv := h.fine n hn
      refine ⟨(ca s.cells n).2, 0, s.take 3 n (wrap64 ((ca s.cells n).2 + u)) true, h.take hn hf _ _ _, by rw [take_log]; exact Nat.le_refl _, fun w P hp => hp.m fun F hF => add_ok hF hn hf hl u, fun w P hp => hp.r fun B hB => ?_⟩
      refine (radd_ok hB hn hf (h.live hf) hl u).mono ?_
      rw [← hv]
      rintro e w' ⟨rfl, B', h1, l⟩
      have ew : IntKind.i64.wrap ((ca s.cells n).2 + u) = wrap64 ((ca s.cells n).2 + u) := by unfold wrap64; exact IntKind.wrap_i64 _
      rw [ew] at h1
      exact ⟨rfl, B', h1.took' rfl, l⟩
    · have hf' : s.free = false := by simpa using hf
      exact ⟨0, 31, s, h, by omega, fun w P hp => hp.m0 fun F hF => add_closed hF ht hf' u, fun w P hp => Half.r0 hp fun B hB => radd_closed hB ht hf' u⟩
  · have ht' : s.there c = false := by simpa using ht
    exact ⟨0, 30, s, h, by omega, fun w P hp => hp.m0 fun F hF => add_cell hF ht' u, fun w P hp => Half.r0 hp fun B hB => radd_not hB ht' u⟩

theorem twin_swap (h : s.good) (hl : (s.log.length + 1) * 56 ≤ 140737488355328) (c old next : Int) :
    ∃ (d : Bool) (er : Int) (s' : Mm), s'.good ∧ s'.log.length ≤ s.log.length + 1 ∧ Twin mb rb s 29 30 (fun p => #[p, .int .i64 c, .int .i64 old, .int .i64 next]) (.tuple #[.bool d, .int .i64 er]) s' := by
  by_cases ht : s.there c = true
  · by_cases hf : s.free = true
    · obtain ⟨n, rfl, hn⟩ := there_nat ht
      have hv := h.fine n hn
      refine ⟨_, 0, _, h.take hn hf _ _ _, by rw [take_log]; exact Nat.le_refl _, fun w P hp => hp.m fun F hF => swap_ok hF hn hf hl old next, fun w P hp => hp.r fun B hB => ?_⟩
      by_cases eo : (ca s.cells n).2 = old
      · rw [if_pos eo, decide_eq_true eo]
        rw [hv] at eo
        subst eo
        refine (rswap_ok hB hn hf (h.live hf) hl next).mono ?_
        rintro e w' ⟨rfl, B', h1, l⟩
        exact ⟨rfl, B', h1.took' hv, l⟩
      · rw [if_neg eo, decide_eq_false eo]
        rw [hv] at eo ⊢
        refine (rswap_no hB hn hf (h.live hf) hl old next eo).mono ?_
        rintro e w' ⟨rfl, B', h1, l⟩
        exact ⟨rfl, B', h1.took' hv, l⟩
    · have hf' : s.free = false := by simpa using hf
      exact ⟨false, 31, s, h, by omega, fun w P hp => hp.m0 fun F hF => swap_closed hF ht hf' old next, fun w P hp => Half.r0 hp fun B hB => rswap_closed hB ht hf' old next⟩
  · have ht' : s.there c = false := by simpa using ht
    exact ⟨false, 30, s, h, by omega, fun w P hp => hp.m0 fun F hF => swap_cell hF ht' old next, fun w P hp => Half.r0 hp fun B hB => rswap_not hB ht' old next⟩

theorem twin_begin (h : s.good) (st th : Int) :
    ∃ (er : Int) (s' : Mm), s'.good ∧ s'.log.length ≤ s.log.length + 1 ∧ Twin mb rb s 19 20 (fun p => #[p, .int .i64 st, .int .i64 th]) (.int .i64 er) s' := by
  by_cases hm : s.may st th = true
  · refine ⟨0, s.begin st th, ⟨fine_begin h.fine st th, Mm.rise_begin h.rise hm, Mm.begin_had st th, Mm.begin_sane hm, fun _ => rfl⟩, Nat.le_succ _, fun w P hp => hp.m fun F hF => (begin_ok hF st th hm).mono fun _ _ ⟨e, a, b⟩ => ⟨e, F, a, b⟩, fun w P hp => hp.r fun B hB => (rbegin_ok hB st th hm).mono fun _ _ ⟨e, a, b⟩ => ⟨e, B, a, b⟩⟩
  · have hm' : s.may st th = false := by simpa using hm
    exact ⟨32, s, h, by omega, fun w P hp => hp.m0 fun F hF => (begin_not hF st th hm').mono fun _ _ ⟨e, a⟩ => ⟨e, a ▸ Keeps.refl _ _⟩, fun w P hp => Half.r0 hp fun B hB => (rbegin_not hB st th hm').mono fun _ _ ⟨e, a⟩ => ⟨e, a ▸ Keeps.refl _ _⟩⟩

theorem twin_make (h : s.good) (hi : ∀ c, s.cells.length ≤ c → ix s.log c = []) (x : Int) :
    ∃ (c er : Int) (s' : Mm), s'.good ∧ s'.log = s.log ∧ (∀ c, s'.cells.length ≤ c → ix s'.log c = []) ∧ Twin mb rb s 12 13 (fun p => #[p, .int .i64 x]) (.tuple #[.int .i64 c, .int .i64 er]) s' := by
  by_cases hm : s.cells.length < 65536
  · refine ⟨s.cells.length, 0, s.make x, ⟨fine_make h.fine hi x, Mm.rise_make h.rise x, h.had, h.sane, h.live⟩, rfl, fun c hc => hi c (by simp [Mm.make] at hc; omega), fun w P hp => hp.m fun F hF => make_any hF x hm, fun w P hp => hp.r fun B hB => rmake_any hB x hm⟩
  · exact ⟨0, 33, s, h, rfl, hi, fun w P hp => hp.m0 fun F hF => (make_full hF x (by omega)).mono fun _ _ ⟨e, a⟩ => ⟨e, a ▸ Keeps.refl _ _⟩, fun w P hp => Half.r0 hp fun B hB => (rmake_full hB x (by omega)).mono fun _ _ ⟨e, a⟩ => ⟨e, a ▸ Keeps.refl _ _⟩⟩

theorem twin_size : Twin mb rb s 16 17 (fun p => #[p]) (.int .i64 s.cells.length) s :=
  ⟨fun _ _ hp => hp.m0 fun _ hF => (size_any hF).mono fun _ _ ⟨e, a⟩ => ⟨e, a ▸ Keeps.refl _ _⟩, fun _ _ hp => Half.r0 hp fun _ hB => (rsize_any hB).mono fun _ _ ⟨e, a⟩ => ⟨e, a ▸ Keeps.refl _ _⟩⟩

theorem twin_took (h : s.good) (hl : s.log.length ≤ 4611686018427387903) : Twin mb rb s 34 35 (fun p => #[p]) (.agg #[.int .i64 s.took.step, .int .i64 s.took.thread, .int .i64 s.took.kind, .int .i64 s.took.cell, .int .i64 s.took.seen, .int .i64 s.took.wrote, .bool s.took.done]) s :=
  ⟨fun _ _ hp => hp.m0 fun _ hF => took_any hF h.had hl, fun _ _ hp => Half.r0 hp fun _ hB => rtook_any hB h.sane h.had hl⟩

theorem twin_peek (h : s.good) (hl : s.log.length ≤ 4611686018427387903) (c : Int) : ∃ v er : Int, Twin mb rb s 36 37 (fun p => #[p, .int .i64 c]) (.tuple #[.int .i64 v, .int .i64 er]) s := by
  by_cases ht : s.there c = true
  · obtain ⟨n, rfl, hn⟩ := there_nat ht
    exact ⟨(ca s.cells n).2, 0, fun w P hp => hp.m0 fun F hF => (peek_any hF hn).mono fun _ _ ⟨e, a⟩ => ⟨e, a ▸ Keeps.refl _ _⟩, fun w P hp => Half.r0 hp fun B hB => rpeek_any hB h.fine hn hl⟩
  · have ht' : s.there c = false := by simpa using ht
    exact ⟨0, 30, fun w P hp => hp.m0 fun F hF => (peek_not hF ht').mono fun _ _ ⟨e, a⟩ => ⟨e, a ▸ Keeps.refl _ _⟩, fun w P hp => Half.r0 hp fun B hB => (rpeek_not hB ht').mono fun _ _ ⟨e, a⟩ => ⟨e, a ▸ Keeps.refl _ _⟩⟩
end
end Go.Proofs.Ytkkldbellngalaa
