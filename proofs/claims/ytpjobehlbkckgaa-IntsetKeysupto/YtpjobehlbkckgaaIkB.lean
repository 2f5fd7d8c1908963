import Derived.Test.YtpjobehlbkckgaaIkA
namespace Go.Proofs.Ytpjobehlbkckgaa
open Go.RowKit Go.Deep
attribute [local go_sem] Oper.semAt_some run_store_nf run_store_f
theorem wpList_append_run {P : Program} {w : World} {ops : Array Oper} {rest : List Oper} {o : Oper} {a : Act} {Q : Exit → Act → World → Prop} (hgd : o.guard = none) (s x : Operand) (t : TypeId)
    (ho : o.op = .call { callee := .builtin .append, args := #[s, x], argTypes := #[t, t] }) (v src v' : Value) (w' : World) (hs : a.eval s = v) (hx : a.eval x = src)
    (hr : (Builtin.append_ #[t, t] o.type #[v, src]).run P w = .ok v' w') (h : wpList P ops Q rest (a.put o.dst v') w') : wpList P ops Q (o :: rest) a w :=
  wpList_plain hgd fun K hK => by
    unfold Oper.wp execOp
    simp only [ho, resolve, invoke, builtin, Sem.run_bind, Sem.run_pure, Result.andThen_ok, List.map_toArray, List.map_cons, List.map_nil, hs, hx, hr]
    exact hK _ _ h
theorem isPlace_any {w : World} {a : Option Addr} {n cap : Nat} (p : Int) : Calls Try.prog 6 #[.slice a n cap, .int .i64 p] w fun e w' => e = .returned (.bool (decide (0 ≤ p ∧ p < (n : Int)))) ∧ w' = w := by
  go_enter Try.func6, Try.ntmps6
  by_cases h1 : 0 ≤ p
  · have x1 : decide (0 ≤ p) = true := decide_eq_true h1
    by_cases h2 : p < (n : Int)
    · have x2 : decide (p < (n : Int)) = true := decide_eq_true h2
      go_wp2_with fail
      go_ret
      exact ⟨by rw [decide_eq_true (show 0 ≤ p ∧ p < (n : Int) from ⟨h1, h2⟩)]; rfl, rfl⟩
    · have x2 : decide (p < (n : Int)) = false := decide_eq_false h2
      go_wp2_with fail
      go_ret
      exact ⟨rfl, rfl⟩
  · have x1 : decide (0 ≤ p) = false := decide_eq_false h1
    go_wp2_with fail
    go_ret
    exact ⟨rfl, rfl⟩
theorem rises_any {w : World} {a : Option Addr} {k cap : Nat} {l : List Int} (hl : l.length = k) (hk : k ≤ 1048578) (hN : NUM w a l) (x : Int) : Calls Try.prog 7 #[.slice a k cap, .int .i64 x] w fun e w' => e = .returned (.bool (rise l x)) ∧ w' = w := by
  go_enter Try.func7, Try.ntmps7
  by_cases h0 : k = 0
  · subst h0
    have hr : rise l x = true := by
      rw [List.eq_nil_of_length_eq_zero hl]; rfl
    go_wp2_with fail
    go_ret
    exact ⟨by rw [hr]; rfl, rfl⟩
  · obtain ⟨y, hy⟩ : ∃ y, l[k - 1]? = some y := ⟨_, List.getElem?_eq_getElem (by omega)⟩
    obtain ⟨b, off, rfl, hc⟩ := hN _ _ hy
    have hr : rise l x = decide (y < x) := by
      unfold rise
      rw [List.getLast?_eq_getElem?, hl, hy]
    have x1 : ((k : Int) == 0) = false := beq_eq_false_iff_ne.2 (by omega)
    have x2 : IntKind.i64.wrap ((k : Int) - 1) = ((k - 1 : Nat) : Int) := by rw [IntKind.wrap_i64]; omega
    have x3 : (0 : Int) ≤ ((k - 1 : Nat) : Int) := by omega
    have x4 : ((k - 1 : Nat) : Int) < (k : Int) := by omega
    generalize k - 1 = k1 at *
    go_wp2_with fail
    go_ret
    exact ⟨by rw [hr]; rfl, rfl⟩
end Go.Proofs.Ytpjobehlbkckgaa
