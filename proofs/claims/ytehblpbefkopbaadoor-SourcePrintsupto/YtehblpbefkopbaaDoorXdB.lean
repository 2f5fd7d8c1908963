import Derived.Test.YtehblpbefkopbaaDoorXaF
import Derived.OpenShut
import Derived.HandedShaped
import Derived.Shelf.Vars
import Derived.FnData
import Derived.Test.YtehblpbefkopbaaDoorTie
import Derived.Test.YtehblpbefkopbaaDoorCards
import Derived.ProofKit
import Derived.LaidMore
import Derived.ChangeArms
import Derived.ChangeSlices
import Derived.DataReads
import Derived.SizedLaws
import Derived.Deep.Slices
import Derived.Stop.Joined
namespace Go.Proofs.YtehblpbefkopbaaDoor
open Go.ChangeShapes Go.WideShapes Go.ChangeAt Go.RowKit Go.Deep Go.Shelf
/-- A datum of literals alone, as cells in a row. -/
def flD {H : Type} : Nat → DataW H → Option (List Value)
  | 0, _ => none
  | _ + 1, .lit (.bool b) => some [.bool b]
  | _ + 1, .lit (.int k n) => some [.int k n]
  | _ + 1, .lit (.string b) => some [.string ⟨b.toArray⟩]
  | k + 1, .agg ds => (ds.mapM (flD k)).map List.flatten
  | _ + 1, _ => none
/-- Parts that stand one behind the other. -/
def ctg : Nat → List (Nat × Nat) → Nat → Bool
  | o, [], t => o == t
  | o, (a, c) :: r, t => a == o && ctg (o + c) r t
/-- A type of texts, numbers and truths alone. -/
def flT (P : Program) : Nat → TypeId → Bool
  | 0, _ => false
  | k + 1, t => match P.underlying t with
    | some .bool => true
    | some (.int _) => true
    | some .string => true
    | some (.struct fs) => ctg 0 (fs.toList.map fun f => (f.offset, P.cellsOf f.type)) (P.cellsOf t) && fs.toList.all fun f => flT P k f.type
    | some (.array n e) => n * P.cellsOf e == P.cellsOf t && flT P k e
    | _ => false
theorem ctg_range (c : Nat) : ∀ n m : Nat, ctg (m * c) ((List.range' m n).map fun i => (i * c, c)) ((m + n) * c) = true
  | 0, m => by simp [ctg]
  | n + 1, m => by
    rw [List.range'_succ, List.map_cons, ctg]
    have := ctg_range c n (m + 1)
    rw [show (m + 1 + n) * c = (m + (n + 1)) * c by rw [show m + 1 + n = m + (n + 1) by omega], show (m + 1) * c = m * c + c by rw [Nat.add_mul, Nat.one_mul]] at this
    simp [this]
theorem ctg_le : ∀ (L : List (Nat × Nat)) (o t : Nat), ctg o L t = true → o ≤ t
  | [], o, t, h => by simp [ctg] at h; omega
  | (a, c) :: r, o, t, h => by
    simp [ctg] at h
    have := ctg_le r _ _ h.2
    omega
theorem fl_parts {H : Type} {k : Nat} {cs : List Value} : ∀ (L : List (Nat × Nat)) (o : Nat) (xs : List (DataW H)), ctg o L cs.length = true → xs.length = L.length → (∀ (i : Nat) (p : Nat × Nat) (x : DataW H), L[i]? = some p → xs[i]? = some x → flD k x = some ((cs.drop p.1).take p.2)) → (xs.mapM (flD k)).map List.flatten = some (cs.drop o)
  | [], o, xs, h, hl, hx => by
    obtain rfl := List.eq_nil_of_length_eq_zero hl
    simp [ctg] at h
    rw [h]; simp
  | (a, c) :: r, o, xs, h, hl, hx => by
    cases xs with
    | nil => simp at hl
    | cons x ys =>
      simp [ctg] at h
      obtain ⟨rfl, h⟩ := h
      have h0 := hx 0 (a, c) x rfl rfl
      have ih := fl_parts (k := k) r (a + c) ys h (by simpa using hl) (fun i p y e1 e2 => hx (i + 1) p y e1 e2)
      rw [List.mapM_cons, h0]
      cases hm : ys.mapM (flD k) with
      | none => rw [hm] at ih; simp at ih
      | some zs =>
        rw [hm] at ih
        simp at ih
        show some (List.flatten ((cs.drop a).take c :: zs)) = _
        rw [List.flatten_cons, ih, ← List.drop_drop, List.take_append_drop]
theorem trod_flat {H : Type} {enc : TypeId × Value → H} {P : Program} {W : World} {base : Nat} {spare : Nat → Bool} {held : Bool} : ∀ (k : Nat) (t : TypeId) (fuel : Nat) (cs : List Value) (d : DataW H) (q : List MemPlace), flT P k t = true → DataW.trod enc P W base spare held fuel t cs = some (d, q) → flD k d = some cs
  | 0, t, fuel, cs, d, q, h, _ => by simp [flT] at h
  | k + 1, t, fuel, cs, d, q, h, ht => by
    unfold flT at h
    split at h
    · rename_i hu
      obtain ⟨b, rfl, e⟩ := DataW.trod_bool hu ht
      injection e with e _; subst e; rfl
    · rename_i hu
      obtain ⟨b, rfl, e, _⟩ := DataW.trod_int hu ht
      injection e with e _; subst e; rfl
    · rename_i hu
      obtain ⟨b, rfl, e, _⟩ := DataW.trod_string hu ht
      injection e with e _; subst e
      obtain ⟨⟨l⟩⟩ := b
      rfl
    · rename_i fs hu
      obtain ⟨xs, m, _, e, hl, hn, hel⟩ := DataW.trod_struct hu ht
      injection e with e _; subst e
      simp only [Bool.and_eq_true, List.all_eq_true] at h
      rw [← hl] at h
      have := fl_parts (k := k) _ 0 (xs.map (·.1)) h.1 (by simp [hn]) (fun i p x e1 e2 => by
        rw [List.getElem?_map] at e1 e2
        cases hf : fs.toList[i]? with
        | none => rw [hf] at e1; cases e1
        | some f =>
          rw [hf] at e1
          injection e1 with e1
          cases hy : xs[i]? with
          | none => rw [hy] at e2; cases e2
          | some y =>
            rw [hy] at e2
            injection e2 with e2
            have h3 := hel i f (by simpa using hf)
            rw [hy] at h3
            rw [← e1, ← e2]
            exact trod_flat k _ _ _ _ _ (h.2 f (List.mem_of_getElem? hf)) h3)
      rw [flD, this]; rfl
    · rename_i n e hu
      obtain ⟨xs, m, _, e', hl, hn, hel⟩ := DataW.trod_array hu ht
      injection e' with e' _; subst e'
      simp only [Bool.and_eq_true, beq_iff_eq] at h
      have hc := ctg_range (P.cellsOf e) n 0
      rw [Nat.zero_mul, Nat.zero_add, h.1, ← hl] at hc
      have := fl_parts (k := k) _ 0 (xs.map (·.1)) hc (by simp [hn]) (fun i p x e1 e2 => by
        rw [List.getElem?_map] at e1 e2
        cases hf : (List.range' 0 n)[i]? with
        | none => rw [hf] at e1; cases e1
        | some f =>
          obtain ⟨h6, h7⟩ := List.getElem?_eq_some_iff.1 hf
          rw [List.length_range'] at h6
          have h8 : f = i := by rw [← h7, List.getElem_range']; omega
          subst h8
          rw [hf] at e1
          injection e1 with e1
          cases hy : xs[f]? with
          | none => rw [hy] at e2; cases e2
          | some y =>
            rw [hy] at e2
            injection e2 with e2
            have h3 := hel f h6
            rw [hy] at h3
            rw [← e1, ← e2]
            exact trod_flat k _ _ _ _ _ h.2 h3)
      rw [flD, this]; rfl
    · cases h
/-- The cells of a laid variable of literals alone. -/
theorem laid_cells {H : Type} {enc : TypeId × Value → H} {P : Program} {W : World} {spare : Nat → Bool} {held : Bool} {fuel : Nat} {t : TypeId} {g : Nat} {cs : Array Value} {name : String} {d : DataW H} {q : List MemPlace} {xs : List Value} (k : Nat) (hf : flT P k t = true) (hx : flD k d = some xs)
    (hg : P.globalNamed name = some g) (hv : W.var? P name = some cs) (hd : DataW.trod enc P W 0 spare held fuel t cs.toList = some (d, q)) (i : Nat) (v : Value) (h : xs[i]? = some v) : W.cell? ⟨g, i, none⟩ = some v := by
  have := trod_flat k t fuel _ _ _ hf hd
  rw [hx] at this
  injection this with this
  subst this
  rw [World.var?_cell hg hv i]
  simpa using h
/-- The wrap with laid variables and the world's shape. -/
theorem wrap_both {H : Type} {enc : TypeId × Value → H} {a : Assume} {C : Checked} {os : Os} {f : FuncId} {fn : Func} {s : ChangeSpec} {conds : List PathCond} {apart fresh handsOn again : Bool} {X : World → Array Value → Prop}
    (hX : ∀ (w w' : World) (args : Array Value), w.heap = w'.heap → X w args → X w' args)
    (own : ownKnob C.prog.godebug = none) (started : os.Started) (noInit : C.prog.inits.idxOf? f = none) (hfn : C.prog.funcs[f]? = some fn)
    (witness : ∃ (w : World) (tape : Tape) (i : Input), w.os = os ∧ (w.forCall tape i).Shaped C.prog ∧ i.vars = [] ∧ Input.okWide C.prog (w.forCall tape i) .any w.heap.size f i ∧
      ((s.pre enc C.prog fn conds apart (w.forCall tape i).memory i.args ∧ X (w.forCall tape i).memory i.args) ∧ sizedMet enc C.prog fn (OpenSpec.ofChange s) apart (w.forCall tape i).memory i.args) ∧ a.holds C.prog (lone (Frame.enter C.prog f i.args .normal) [] (w.forCall tape i)))
    (contract : ∀ (W : World) (base : Nat) (args : Array Value) (ds gs : List (DataW H)) (before : List MemPlace),
      (∀ (j : Nat) t v, fn.params[j]? = some t → args[j]? = some v → Value.okWide C.prog W .any base t v) →
      DataW.Whole enc C.prog fn.params.toList s.vars apart W args.toList ds gs before →
      (DataW.weightsEach C.prog (fn.params.toList ++ s.plain.varTypes C.prog) (ds ++ gs)).all (· ≤ reachBytes) = true → X W args → W.ShapedOpen C.prog →
      Calls C.prog f args W fun e W' => ∃ v, e = .returned v ∧ s.post enc C.prog fn apart fresh handsOn again W args v W') :
    ReturnsInHanded a C os f .any (fun w args => (s.pre enc C.prog fn conds apart w args ∧ X w args) ∧ sizedMet enc C.prog fn (OpenSpec.ofChange s) apart w args) (s.post enc C.prog fn apart fresh handsOn again) := by
  refine returnsInHanded_of_calls own started noInit witness ?_
  intro w tape i _ hsh _ hok hpre _
  obtain ⟨_, _, _, fn', hfn', _, _, _, _, hval⟩ := hok
  obtain rfl : fn' = fn := Option.some.inj (hfn'.symm.trans hfn)
  obtain ⟨⟨⟨ds, gs, before, hw, _⟩, hx⟩, hz⟩ := hpre
  refine (contract (w.forCall tape i) w.heap.size i.args ds gs before hval (DataW.Whole.of_heap (by rfl) hw) (hz.weights hw) (hX _ _ _ (by rfl) hx) hsh).mono fun e W' ⟨v, he, hp⟩ => ?_
  subst he
  exact ChangeSpec.post_blind hp
theorem own : ownKnob Tryd.prog.godebug = none := by kernel_rfl
end Go.Proofs.YtehblpbefkopbaaDoor
