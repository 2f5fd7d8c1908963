import Derived.Test.YtdmfkepnopppaaaGreatDoorPjB
import Derived.Maps.OwnSet
namespace Go.Proofs.YtdmfkepnopppaaaGreatDoor
open Go.RowKit Go.Maps Go.ChangeMaps Go.MapKept Go.WideShapes

theorem underI : Tryz.prog.underlying 3 = some (.int .i64) := by kernel_rfl
theorem underM : Tryz.prog.underlying 47 = some (.map 9 3) := by kernel_rfl
theorem underS : Tryz.prog.underlying 9 = some .string := by kernel_rfl
theorem keyed : Keyed Tryz.prog 9 := string_keyed underS
theorem zeroI (w : World) : (zeroValue 3).run Tryz.prog w = .ok (.int .i64 0) w := by kernel_rfl

theorem tight {H : Type} {P : Program} {k : TypeId} {R : Value → Option (DataW H × List MemPlace)} {w : World} {b n : Nat} {D : DataW H} (h : w.ownsMap P k R b n D) : w.ownsMap P k R b (Maps.size D) D := by
  obtain ⟨es, clock, hb, F, hs, rfl⟩ := h
  exact ⟨es, clock, hb, F, by simp [Maps.size, length_sorted], rfl⟩

/-- A text of a bearable length. -/
def Sz (s : ByteArray) : Prop := s.size ≤ 9223372036854775807
def upd (f : ByteArray → Option Nat) (k : ByteArray) (v : Option Nat) : ByteArray → Option Nat := fun x => if x = k then v else f x
/-- The labels, in memory. -/
def SM (w : World) (mb n : Nat) (f : ByteArray → Option Nat) : Prop :=
  ∃ D : DataW Unit, w.ownsMap Tryz.prog 9 (plainElem Tryz.prog 3) mb n D ∧ Maps.size D = n ∧
    ∀ k, Sz k → Maps.has D (.string k.data.toList) = (f k).isSome ∧ D.atKey (.string k.data.toList) (.lit (.int .i64 0)) = .lit (.int .i64 (((f k).getD 0 : Nat) : Int))
theorem SM.lt {w : World} {mb n : Nat} {f : ByteArray → Option Nat} (h : SM w mb n f) : mb < w.heap.size := by
  obtain ⟨D, h, _⟩ := h
  exact h.lt
theorem SM.isMap {w : World} {mb n : Nat} {f : ByteArray → Option Nat} (h : SM w mb n f) : ∃ es c, w.heap[mb]? = some (.map es c) := by
  obtain ⟨D, ⟨es, c, hb, _⟩, _⟩ := h
  exact ⟨es, c, hb⟩
theorem SM.same {w w' : World} {mb n : Nat} {f : ByteArray → Option Nat} (h : SM w mb n f) (hb : w'.heap[mb]? = w.heap[mb]?) : SM w' mb n f := by
  obtain ⟨D, ⟨es, c, hb', r⟩, r'⟩ := h
  exact ⟨D, ⟨es, c, hb.trans hb', r⟩, r'⟩
theorem SM.keep {w w' : World} {mb n : Nat} {f : ByteArray → Option Nat} {S : Nat → Prop} (h : SM w mb n f) (k : Keeps S w w') (hS : ¬ S mb) : SM w' mb n f := h.same (k.block mb h.lt hS)
theorem key_int {k : ByteArray} (h : Sz k) : keyOf Tryz.prog 9 (.string k) = some (.string k.data.toList) := Go.WideMaps.keyOf_string_mk underS (by unfold Sz at h; unfold maxLen; omega)
theorem wf0 : (Lit.int .i64 0).wf = true := by decide
theorem wfN {n : Nat} (h : n ≤ 9223372036854775807) : (Lit.int .i64 (n : Int)).wf = true := wf_of_i64 ⟨by omega, by omega⟩
theorem SM.look {w : World} {mb n : Nat} {f : ByteArray → Option Nat} (h : SM w mb n f) {k : ByteArray} (hk : Sz k) :
    (Instr.lookup 47 (.map (some mb)) (.string k) true).run Tryz.prog w = .ok (.tuple #[.int .i64 (((f k).getD 0 : Nat) : Int), .bool (f k).isSome]) w := by
  obtain ⟨D, h1, h2, h3⟩ := h
  obtain ⟨v, ps, hrun, hv⟩ := h1.look_ok keyed underM (zeroI w) (plainElem_int underI wf0) (key_int hk)
  obtain ⟨a, rfl, e, _⟩ := plainElem_int_inv underI hv
  have e' := congrArg Prod.fst e
  simp only [(h3 k hk).2] at e'
  cases e'
  rw [hrun, (h3 k hk).1]
theorem keeps_turned {w w' : World} {b : Nat} (h : w.mapTurned w' b) : Keeps (fun k => k = b) w w' := (Keeps.refl _ w).grown h.grown (fun _ _ e => by cases e; rfl)
theorem ne_key {a b : ByteArray} (h : a ≠ b) : (Lit.string a.data.toList) ≠ (Lit.string b.data.toList) := fun e => h (by injection e with e; cases a; cases b; simp only [ByteArray.mk.injEq]; exact Array.ext' e)
theorem SM.put {w : World} {mb n : Nat} {f : ByteArray → Option Nat} (h : SM w mb n f) {k : ByteArray} (hk : Sz k) {v : Nat} (hv : v ≤ 9223372036854775807) (hn : n < 9223372036854775807) :
    ∃ w', (Instr.mapUpdate 47 (.map (some mb)) (.string k) (.int .i64 (v : Int))).run Tryz.prog w = .ok () w' ∧ SM w' mb (if (f k).isSome then n else n + 1) (upd f k (some v)) ∧ Keeps (fun i => i = mb) w w' := by
  obtain ⟨D, h1, h2, h3⟩ := h
  obtain ⟨w', hrun, hown, ht⟩ := h1.store keyed underM (by unfold maxLen; omega) (key_int hk) (plainElem_int underI (wfN hv))
  have hT := h1.tidy keyed
  refine ⟨w', hrun, ⟨D.put (.string k.data.toList) (.lit (.int .i64 (v : Int))), ?_, ?_, fun x hx => ?_⟩, keeps_turned ht⟩
  · have e := size_put (k := .string k.data.toList) hT (.lit (.int .i64 (v : Int)))
    rw [(h3 k hk).1, h2] at e
    rw [← e]
    exact tight hown
  · have e := size_put (k := .string k.data.toList) hT (.lit (.int .i64 (v : Int)))
    rw [(h3 k hk).1, h2] at e
    exact e
  · by_cases c : x = k
    · subst c
      have hkl : WideAt.IsKeyLit (.string x.data.toList) := trivial
      rw [has_put_same h1.isMap hkl, atKey_put_same h1.isMap hkl]
      simp [upd]
    · rw [has_put_other (ne_key c), atKey_put_other (ne_key c)]
      simp only [upd]
      rw [if_neg c]
      exact h3 x hx
theorem SM.made (w : World) : SM (w.alloc (.map #[] 0)) w.heap.size 0 (fun _ => none) :=
  ⟨.map [], World.ownsMap_made w _ _ _, rfl, fun _ _ => ⟨rfl, rfl⟩⟩
end Go.Proofs.YtdmfkepnopppaaaGreatDoor
