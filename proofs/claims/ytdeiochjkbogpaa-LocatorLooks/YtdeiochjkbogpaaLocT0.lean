import Derived.Test.YtdeiochjkbogpaaLocR
namespace Go.Proofs.Ytdeiochjkbogpaa
open Go.RowKit

def opv (o : Oq) : Value := .agg #[.int .i64 o.kind, .int .i64 o.a, .int .i64 o.b, .int .i64 o.c, .int .i64 o.v.num, .int .i64 o.v.next, .bool o.v.dead, .bool o.shut]
def acc (o : Oq) : Bool := decide (8 ≤ o.kind) && decide (o.kind ≤ 14) && !o.shut
/-- Whether a step is opened ahead of it. -/
def Opn (m : Mm) (k : Nat) (o : Oq) (m1 : Mm) (k' : Nat) : Prop := (acc o = true ∧ m1 = m.begin (k : Int) 0 ∧ k' = k + 1) ∨ (acc o = false ∧ m1 = m ∧ k' = k)
def Done (w : World) (ρ : Nat → Nat) (u j q rb wb mb : Nat) (s : Ws) (m : Mm) (k : Nat) (o : Oq) (w' : World) (er : Int) (d : Bool) (n : Int) : Prop :=
  ∃ ρ' s' m1 m' k', Opn m k o m1 k' ∧ Do s m1 o s' m' er d n ∧ Rs w' ρ' u j q rb wb mb s' m' k' ∧ Ext (Sq u j q) w w' ρ ρ'
structure B8 (w : World) (ρ : Nat → Nat) (B : Nat) (o : Oq) : Prop where
  r : ρ B = 0
  c0 : w.cell? ⟨B, 0, none⟩ = some (.int .i64 o.kind)
  c1 : w.cell? ⟨B, 1, none⟩ = some (.int .i64 o.a)
  c2 : w.cell? ⟨B, 2, none⟩ = some (.int .i64 o.b)
  c3 : w.cell? ⟨B, 3, none⟩ = some (.int .i64 o.c)
  c4 : w.cell? ⟨B, 4, none⟩ = some (.int .i64 o.v.num)
  c5 : w.cell? ⟨B, 5, none⟩ = some (.int .i64 o.v.next)
  c6 : w.cell? ⟨B, 6, none⟩ = some (.bool o.v.dead)
  c7 : w.cell? ⟨B, 7, none⟩ = some (.bool o.shut)
structure R3 (w : World) (ρ : Nat → Nat) (B : Nat) : Prop where
  r : ρ B = 0
  c0 : w.cell? ⟨B, 0, none⟩ = some (.int .i64 0)
  c1 : w.cell? ⟨B, 1, none⟩ = some (.bool false)
  c2 : w.cell? ⟨B, 2, none⟩ = some (.int .i64 0)
  z : ∀ o, w.frozen? ⟨B, o, none⟩ = false
section
variable {w w' : World} {ρ ρ' : Nat → Nat} {u j q rb wb mb : Nat} {s : Ws} {m : Mm} {k : Nat} {S : Nat → Prop} {B : Nat} {o : Oq}
theorem B8.lt (h : B8 w ρ B o) : B < w.heap.size := World.block_lt_of_cell? _ _ h.c0
theorem R3.lt (h : R3 w ρ B) : B < w.heap.size := World.block_lt_of_cell? _ _ h.c0
theorem B8.ext (h : B8 w ρ B o) (x : Ext S w w' ρ ρ') (hS : ¬ S 0) : B8 w' ρ' B o :=
  have n : ¬ S (ρ B) := by rw [h.r]; exact hS
  ⟨(x.old B h.lt).trans h.r, x.cell h.c0 n, x.cell h.c1 n, x.cell h.c2 n, x.cell h.c3 n, x.cell h.c4 n, x.cell h.c5 n, x.cell h.c6 n, x.cell h.c7 n⟩
theorem R3.ext (h : R3 w ρ B) (x : Ext S w w' ρ ρ') (hS : ¬ S 0) : R3 w' ρ' B :=
  have n : ¬ S (ρ B) := by rw [h.r]; exact hS
  ⟨(x.old B h.lt).trans h.r, x.cell h.c0 n, x.cell h.c1 n, x.cell h.c2 n, fun o => (x.keeps.frozen (p := ⟨B, o, none⟩) h.lt n).trans (h.z o)⟩
theorem keeps_r3 (w : World) (b : Nat) (x y z : Value) : Keeps (fun k => k = b) w (((w.setCell ⟨b, 0, none⟩ x).setCell ⟨b, 1, none⟩ y).setCell ⟨b, 2, none⟩ z) := keeps_set3 w b x y z
/-- The end of a step that was done. -/
theorem done_end {w1 w2 : World} {ρ1 : Nat → Nat} {m1 : Mm} {k1 : Nat} {er n : Int} {d : Bool} (hop : Opn m k o m1 k1) (X : Ext (Sq u j q) w w1 ρ ρ1) (h1 : Rs w1 ρ1 u j q rb wb mb s m1 k1) (hd : Did w1 ρ1 u j wb mb s m1 o w2 er d n) (hB : w.heap.size ≤ B) (hBl : B < w1.heap.size) (hB0 : ρ1 B = 0) (x y z : Value) :
    Done w ρ u j q rb wb mb s m k o (((w2.setCell ⟨B, 0, none⟩ x).setCell ⟨B, 1, none⟩ y).setCell ⟨B, 2, none⟩ z) er d n := by
  obtain ⟨ρ2, s2, m2, hdo, hs, x2⟩ := hd
  obtain ⟨e1, e2, e3⟩ := hdo.bs
  have h2 := h1.step hs x2 (hdo.inv h1.iv) (fun e => by rw [e2]; exact h1.bs (by rw [← e1]; exact e)) (by rw [e3]; exact h1.lg)
  have K := keeps_r3 w2 B x y z
  exact ⟨ρ2, s2, m1, m2, k1, hop, hdo, h2.1.wr K ((x2.old B hBl).trans hB0), (X.trans h2.2).wr K hB⟩
end
end Go.Proofs.Ytdeiochjkbogpaa
