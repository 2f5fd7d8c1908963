import Derived.Test.YteomlhcllmlkpaaGreatDoorTabM
import Derived.Test.YteomlhcllmlkpaaGreatDoorLocW
import Derived.Maps.OwnSet
namespace Go.Proofs.YteomlhcllmlkpaaGreatDoor
open Go.RowKit Go.Maps Go.ChangeMaps Go.MapKept Go.WideShapes

theorem underI : Tryz.prog.underlying 3 = some (.int .i64) := by kernel_rfl
theorem underM : Tryz.prog.underlying 63 = some (.map 3 3) := by kernel_rfl
theorem keyed : Keyed Tryz.prog 3 := int_keyed underI
theorem zeroI (w : World) : (zeroValue 3).run Tryz.prog w = .ok (.int .i64 0) w := by kernel_rfl

theorem tight {H : Type} {P : Program} {k : TypeId} {R : Value → Option (DataW H × List MemPlace)} {w : World} {b n : Nat} {D : DataW H} (h : w.ownsMap P k R b n D) : w.ownsMap P k R b (Maps.size D) D := by
  obtain ⟨es, clock, hb, F, hs, rfl⟩ := h
  exact ⟨es, clock, hb, F, by simp [Maps.size, length_sorted], rfl⟩

/-- A map from objects to places, in memory. -/
def OM (w : World) (mb n : Nat) (f : Int → Option Nat) : Prop :=
  ∃ D : DataW Unit, w.ownsMap Tryz.prog 3 (plainElem Tryz.prog 3) mb n D ∧ Maps.size D = n ∧
    ∀ k, I64 k → Maps.has D (.int .i64 k) = (f k).isSome ∧ D.atKey (.int .i64 k) (.lit (.int .i64 0)) = .lit (.int .i64 (((f k).getD 0 : Nat) : Int))
theorem OM.lt {w : World} {mb n : Nat} {f : Int → Option Nat} (h : OM w mb n f) : mb < w.heap.size := by
  obtain ⟨D, h, _⟩ := h
  exact h.lt
theorem OM.isMap {w : World} {mb n : Nat} {f : Int → Option Nat} (h : OM w mb n f) : ∃ es c, w.heap[mb]? = some (.map es c) := by
  obtain ⟨D, ⟨es, c, hb, _⟩, _⟩ := h
  exact ⟨es, c, hb⟩
theorem OM.same {w w' : World} {mb n : Nat} {f : Int → Option Nat} (h : OM w mb n f) (hb : w'.heap[mb]? = w.heap[mb]?) : OM w' mb n f := by
  obtain ⟨D, ⟨es, c, hb', r⟩, r'⟩ := h
  exact ⟨D, ⟨es, c, hb.trans hb', r⟩, r'⟩
theorem OM.keep {w w' : World} {mb n : Nat} {f : Int → Option Nat} {S : Nat → Prop} (h : OM w mb n f) (k : Keeps S w w') (hS : ¬ S mb) : OM w' mb n f := h.same (k.block mb h.lt hS)
theorem key_int {k : Int} (h : I64 k) : keyOf Tryz.prog 3 (.int .i64 k) = some (.int .i64 k) := keyOf_int_mk underI (wf_of_i64 h)
theorem wf0 : (Lit.int .i64 0).wf = true := by decide
theorem wfN {n : Nat} (h : n ≤ 9223372036854775807) : (Lit.int .i64 (n : Int)).wf = true := wf_of_i64 ⟨by omega, by omega⟩
theorem OM.look {w : World} {mb n : Nat} {f : Int → Option Nat} (h : OM w mb n f) {k : Int} (hk : I64 k) :
    (Instr.lookup 63 (.map (some mb)) (.int .i64 k) true).run Tryz.prog w = .ok (.tuple #[.int .i64 (((f k).getD 0 : Nat) : Int), .bool (f k).isSome]) w := by
  obtain ⟨D, h1, h2, h3⟩ := h
  obtain ⟨v, ps, hrun, hv⟩ := h1.look_ok keyed underM (zeroI w) (plainElem_int underI wf0) (key_int hk)
  obtain ⟨a, rfl, e, _⟩ := plainElem_int_inv underI hv
  have e' := congrArg Prod.fst e
  simp only [(h3 k hk).2] at e'
  cases e'
  rw [hrun, (h3 k hk).1]
theorem look_nil {w : World} {k : Int} (hk : I64 k) :
    (Instr.lookup 63 (.map none) (.int .i64 k) true).run Tryz.prog w = .ok (.tuple #[.int .i64 0, .bool false]) w := by
  have := Maps.look_nil (P := Tryz.prog) (w := w) true keyed underM (zeroI w) (key_int hk)
  simpa using this
theorem keeps_turned {w w' : World} {b : Nat} (h : w.mapTurned w' b) : Keeps (fun k => k = b) w w' := (Keeps.refl _ w).grown h.grown (fun _ _ e => by cases e; rfl)
theorem ne_key {a b : Int} (h : a ≠ b) : (Lit.int .i64 a) ≠ (Lit.int .i64 b) := fun e => h (by cases e; rfl)
theorem OM.put {w : World} {mb n : Nat} {f : Int → Option Nat} (h : OM w mb n f) {k : Int} (hk : I64 k) {v : Nat} (hv : v ≤ 9223372036854775807) (hn : n < 9223372036854775807) :
    ∃ w', (Instr.mapUpdate 63 (.map (some mb)) (.int .i64 k) (.int .i64 (v : Int))).run Tryz.prog w = .ok () w' ∧ OM w' mb (if (f k).isSome then n else n + 1) (upd f k (some v)) ∧ Keeps (fun i => i = mb) w w' := by
  obtain ⟨D, h1, h2, h3⟩ := h
  obtain ⟨w', hrun, hown, ht⟩ := h1.store keyed underM (by unfold maxLen; omega) (key_int hk) (plainElem_int underI (wfN hv))
  have hT := h1.tidy keyed
  refine ⟨w', hrun, ⟨D.put (.int .i64 k) (.lit (.int .i64 (v : Int))), ?_, ?_, fun x hx => ?_⟩, keeps_turned ht⟩
  · have e := size_put (k := .int .i64 k) hT (.lit (.int .i64 (v : Int)))
    rw [(h3 k hk).1, h2] at e
    rw [← e]
    exact tight hown
  · have e := size_put (k := .int .i64 k) hT (.lit (.int .i64 (v : Int)))
    rw [(h3 k hk).1, h2] at e
    exact e
  · by_cases c : x = k
    · subst c
      have hkl : WideAt.IsKeyLit (.int .i64 x) := trivial
      rw [has_put_same h1.isMap hkl, atKey_put_same h1.isMap hkl]
      simp [upd]
    · rw [has_put_other (ne_key c), atKey_put_other (ne_key c)]
      simp only [upd]
      rw [if_neg c]
      exact h3 x hx
theorem OM.del {w : World} {mb n : Nat} {f : Int → Option Nat} (h : OM w mb n f) {k : Int} (hk : I64 k) (hh : (f k).isSome = true) (ty : TypeId) :
    ∃ w', (Builtin.delete_ #[63, 3] ty #[.map (some mb), .int .i64 k]).run Tryz.prog w = .ok (.tuple #[]) w' ∧ OM w' mb (n - 1) (upd f k none) ∧ Keeps (fun i => i = mb) w w' := by
  obtain ⟨D, h1, h2, h3⟩ := h
  obtain ⟨w', hrun, hown, ht⟩ := h1.drop keyed underM (key_int hk) ty
  have hT := h1.tidy keyed
  have e := size_del (k := .int .i64 k) hT
  rw [(h3 k hk).1, hh, h2] at e
  simp at e
  refine ⟨w', hrun, ⟨D.del (.int .i64 k), ?_, ?_, fun x hx => ?_⟩, keeps_turned ht⟩
  · rw [show n - 1 = Maps.size (D.del (.int .i64 k)) by omega]
    exact tight hown
  · omega
  · by_cases c : x = k
    · subst c
      rw [has_del_same, atKey_del_same]
      simp [upd]
    · rw [has_del_other (ne_key c), atKey_del_other (ne_key c)]
      simp only [upd]
      rw [if_neg c]
      exact h3 x hx
theorem OM.made (w : World) : OM (w.alloc (.map #[] 0)) w.heap.size 0 (fun _ => none) :=
  ⟨.map [], World.ownsMap_made w _ _ _, rfl, fun _ _ => ⟨rfl, rfl⟩⟩
theorem OM.clone {w : World} {mb n : Nat} {f : Int → Option Nat} (h : OM w mb n f) {es : Array MapEntry} {c : Nat} (hb : w.heap[mb]? = some (.map es c)) : OM (w.alloc (.map es c)) w.heap.size n f := by
  obtain ⟨D, ⟨es', c', hb', r⟩, r'⟩ := h
  have e : some (Obj.map es' c') = some (Obj.map es c) := hb'.symm.trans hb
  injection e with e
  injection e with e1 e2
  subst e1 e2
  exact ⟨D, ⟨_, _, (MapKept.heap_alloc w _).1, r⟩, r'⟩
end Go.Proofs.YteomlhcllmlkpaaGreatDoor
