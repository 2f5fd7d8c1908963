import Derived.Test.YthmlppepgcjfgaaGrI
import Derived.Deep.Slices
import Derived.ChangeArms
import Derived.ChangeSlices
import Derived.DataReads
import Derived.OpenShut
import Derived.SizedLaws
namespace Go.Proofs.Ythmlppepgcjfgaa
open Go.RowKit Go.Deep Go.ChangeShapes Go.WideShapes Go.ChangeAt
theorem open_capZ {H : Type} {enc : TypeId × Value → H} {P : Program} {W : World} {spare : Nat → Bool} {held : Bool} {t e : TypeId} {fuel : Nat} {a : Option Addr} {len cap : Nat} {x : DataW H × List MemPlace}
    (ht : P.underlying t = some (.slice e)) (h : DataW.trod enc P W 0 spare held fuel t [.slice a len cap] = some x) : a = none → cap = 0 := by
  rcases open_slice ht h with ⟨hcs, _⟩ | ⟨a', len', cap', m, n, D, Pl, hcs, hb, hl, hm, hmm, rfl, hx⟩
  · simp at hcs
    obtain ⟨rfl, rfl, rfl⟩ := hcs
    exact fun _ => rfl
  · simp at hcs
    obtain ⟨rfl, rfl, rfl⟩ := hcs
    exact fun e => by cases e
theorem open_capL {H : Type} {enc : TypeId × Value → H} {P : Program} {W : World} {spare : Nat → Bool} {held : Bool} {t e : TypeId} {fuel : Nat} {a : Option Addr} {len cap : Nat} {x : DataW H × List MemPlace}
    (ht : P.underlying t = some (.slice e)) (h : DataW.trod enc P W 0 spare held fuel t [.slice a len cap] = some x) : len ≤ cap := by
  rcases open_slice ht h with ⟨hcs, _⟩ | ⟨a', len', cap', m, n, D, Pl, hcs, hb, hl, hm, hmm, rfl, hx⟩
  · simp at hcs
    obtain ⟨rfl, rfl, rfl⟩ := hcs
    exact Nat.le_refl _
  · simp at hcs
    obtain ⟨rfl, rfl, rfl⟩ := hcs
    exact hl
set_option maxHeartbeats 4000000 in
set_option maxRecDepth 100000 in
theorem open_edges {H : Type} {enc : TypeId × Value → H} {P : Program} {W : World} {spare : Nat → Bool} {held : Bool} {t e : TypeId} {f0 f1 f2 f3 : Field} {fuel : Nat} {a : Option Addr} {len cap : Nat} {x : DataW H × List MemPlace}
    (ht : P.underlying t = some (.slice e)) (hs : P.underlying e = some (.struct #[f0, f1, f2, f3])) (ce : P.cellsOf e = 4)
    (o0 : f0.offset = 0) (o1 : f1.offset = 1) (o2 : f2.offset = 2) (o3 : f3.offset = 3) (c0 : P.cellsOf f0.type = 1) (c1 : P.cellsOf f1.type = 1) (c2 : P.cellsOf f2.type = 1) (c3 : P.cellsOf f3.type = 1) (u0 : P.underlying f0.type = some (.int .i64)) (u1 : P.underlying f1.type = some (.int .i64)) (u2 : P.underlying f2.type = some (.int .i64)) (u3 : P.underlying f3.type = some (.int .i64))
    (h : DataW.trod enc P W 0 spare held fuel t [.slice a len cap] = some x) : ∃ l : List Ed, l.length = len ∧ EL W a l ∧ (len = 0 ∨ ∃ es ss, x.1 = .slice es ss ∧ len ≤ es.length + ss.length) := by
  by_cases h0 : len = 0
  · subst h0
    exact ⟨[], rfl, fun i hi => (by simp at hi), .inl rfl⟩
  rcases open_slice ht h with ⟨hcs, _⟩ | ⟨a', len', cap', m, n, D, Pl, hcs, hb, hl, hm, hmm, rfl, hx⟩
  · simp at hcs; omega
  simp at hcs
  obtain ⟨rfl, rfl, rfl⟩ := hcs
  have hlm : len ≤ m := by rw [hmm]; split <;> omega
  have each : ∀ i, i < len → ∃ q : Ed, ∀ j v, q.cells[j]? = some v → W.cell? (a'.add (i * 4 + j)) = some v := by
    intro i hi
    obtain ⟨cs', h1, h2⟩ := hx i (by omega)
    rw [ce] at h1
    obtain ⟨_, hlen, hcell⟩ := World.cells?_some h1
    obtain ⟨xs, k, hk, hxy, _, hxl, hf⟩ := DataW.trod_struct hs h2
    match xs, hxl, cs', hlen with
    | [y0, y1, y2, y3], _, [z0, z1, z2, z3], _ =>
      have G := hf 0 f0 rfl
      simp [o0, c0] at G
      obtain ⟨q0, r0, _, _⟩ := DataW.trod_int u0 G
      simp at r0
      clear G
      have G := hf 1 f1 rfl
      simp [o1, c1] at G
      obtain ⟨q1, r1, _, _⟩ := DataW.trod_int u1 G
      simp at r1
      clear G
      have G := hf 2 f2 rfl
      simp [o2, c2] at G
      obtain ⟨q2, r2, _, _⟩ := DataW.trod_int u2 G
      simp at r2
      clear G
      have G := hf 3 f3 rfl
      simp [o3, c3] at G
      obtain ⟨q3, r3, _, _⟩ := DataW.trod_int u3 G
      simp at r3
      clear G
      refine ⟨⟨q0, q1, q2, q3⟩, fun j v hv => ?_⟩
      have hj : j < 4 := (List.getElem?_eq_some_iff.1 hv).1
      have cj := hcell j (by omega)
      rw [add_add] at cj
      rw [cj]
      clear hf hcell cj h2 h1 hx hxl
      have hjj : j = 0 ∨ j = 1 ∨ j = 2 ∨ j = 3 := by omega
      rcases hjj with rfl | rfl | rfl | rfl <;> (simp [Ed.cells] at hv; subst hv; first | (rw [r0]; rfl) | (rw [r1]; rfl) | (rw [r2]; rfl) | (rw [r3]; rfl))
  obtain ⟨b, off, spot⟩ := a'
  obtain ⟨q00, z00⟩ := each 0 (by omega)
  have z0' := z00 0 _ rfl
  have hspot : spot = none := by simpa [Addr.add] using World.cell?_spot z0'
  subst hspot
  obtain ⟨V, hV⟩ := choose_lt each
  have ha : ∀ i, i < len → ((List.range len).map V).getD i ed0 = V i := fun i hi => by simp [List.getD_eq_getElem?_getD, hi]
  refine ⟨(List.range len).map V, by simp, fun i hi => ⟨b, off, rfl, fun j v hv => ?_⟩, .inr ⟨_, _, rfl, by simp⟩⟩
  simp at hi
  rw [ha i hi] at hv
  have := hV i hi j v hv
  rw [add_atT] at this
  rw [Nat.add_assoc]
  exact this
/-- A Way, opened. -/
theorem open_way {H : Type} {enc : TypeId × Value → H} {P : Program} {W : World} {spare : Nat → Bool} {held : Bool} {t e : TypeId} {f0 f1 f2 f3 : Field} {fuel : Nat} {cs : List Value} {x : DataW H × List MemPlace}
    (hs : P.underlying t = some (.struct #[f0, f1, f2, f3])) (ce : P.cellsOf t = 4) (o0 : f0.offset = 0) (o1 : f1.offset = 1) (o2 : f2.offset = 2) (o3 : f3.offset = 3) (c0 : P.cellsOf f0.type = 1) (c1 : P.cellsOf f1.type = 1) (c2 : P.cellsOf f2.type = 1) (c3 : P.cellsOf f3.type = 1)
    (u0 : P.underlying f0.type = some (.int .i64)) (u1 : P.underlying f1.type = some (.slice e)) (u2 : P.underlying f2.type = some (.int .i64)) (u3 : P.underlying f3.type = some (.int .i64))
    (h : DataW.trod enc P W 0 spare held fuel t cs = some x) : ∃ (n fr to_ : Int) (a : Option Addr) (len cap k : Nat) (y : DataW H × List MemPlace) (x0 x2 x3 : DataW H), cs = [.int .i64 n, .slice a len cap, .int .i64 fr, .int .i64 to_] ∧ DataW.trod enc P W 0 spare held k f1.type [.slice a len cap] = some y ∧ x.1 = .agg [x0, y.1, x2, x3] := by
  obtain ⟨xs, k, hk, hxy, hcl, hxl, hf⟩ := DataW.trod_struct hs h
  rw [ce] at hcl
  match xs, hxl, cs, hcl with
  | [y0, y1, y2, y3], _, [z0, z1, z2, z3], _ =>
    have G := hf 0 f0 rfl
    simp [o0, c0] at G
    obtain ⟨q0, r0, _, _⟩ := DataW.trod_int u0 G
    simp at r0
    clear G
    have G := hf 2 f2 rfl
    simp [o2, c2] at G
    obtain ⟨q2, r2, _, _⟩ := DataW.trod_int u2 G
    simp at r2
    clear G
    have G := hf 3 f3 rfl
    simp [o3, c3] at G
    obtain ⟨q3, r3, _, _⟩ := DataW.trod_int u3 G
    simp at r3
    clear G
    have G := hf 1 f1 rfl
    simp [o1, c1] at G
    subst r0 r2 r3
    rcases DataW.trod_slice u1 G with ⟨r1, -⟩ | ⟨a, len, cap, _, _, _, _, r1, _⟩
    · simp at r1
      subst r1
      exact ⟨q0, q2, q3, none, 0, 0, k, y1, y0.1, y2.1, y3.1, rfl, G, by rw [hxy]; rfl⟩
    · simp at r1
      subst r1
      exact ⟨q0, q2, q3, some a, len, cap, k, y1, y0.1, y2.1, y3.1, rfl, G, by rw [hxy]; rfl⟩
theorem sized_way {H : Type} {P : Program} {t e : TypeId} {f0 f1 f2 f3 : Field} {x0 x2 x3 : DataW H} {es ss : List (DataW H)} (hs : P.underlying t = some (.struct #[f0, f1, f2, f3])) (u1 : P.underlying f1.type = some (.slice e))
    (h : (DataW.weightsEach P [t] [.agg [x0, .slice es ss, x2, x3]]).all (· ≤ reachBytes) = true) : (es.length + ss.length) * P.bytesOf e ≤ reachBytes := by
  have := List.all_eq_true.1 h _ (DataW.weights_mem_each (j := 0) rfl rfl ((es.length + ss.length) * P.bytesOf e) (by
    simp only [DataW.weights, hs]
    exact DataW.weights_mem_each (ts := [f0.type, f1.type, f2.type, f3.type]) (j := 1) rfl rfl _ (by simp [DataW.weights, u1])))
  simpa using this
end Go.Proofs.Ythmlppepgcjfgaa
