import Derived.Test.YteomlhcllmlkpaaGreatDoorTxK
import Derived.Test.YteomlhcllmlkpaaGreatDoorTxInv
namespace Go.Proofs.YteomlhcllmlkpaaGreatDoor
open Go.RowKit
/-- What stands through head: an attempt, its scene's variable, the manager, the table of kinds. -/
structure Hd (w : World) (ρ : Nat → Nat) (c : Sc) (ab sb : Nat) (x : Tx) (n : Nat) (f : Int → Option Nat) (s : Ws) (m : Mm) (W : World) : Prop where
  ax : AX W ρ 1 2 c ab x n f s m
  sv : CL W sb [.pointer (some ⟨c.mb, 0, none⟩), .pointer (some ⟨c.wb, 0, none⟩), .pointer (some ⟨c.gb, 0, none⟩), .pointer (some ⟨c.db, 0, none⟩)]
  mg : Mg W c.gb 0 9
  tr : TR W
  k : Keeps (fun _ => False) w W
  z : ∀ q, q < w.heap.size → ρ q = 0
  h0 : 0 < w.heap.size
  la : w.heap.size ≤ ab
  lo : w.heap.size ≤ c.om
  rs : ρ sb = 0 ∧ sb ≠ ab ∧ sb ≠ c.om
  rg : ρ c.gb = 0 ∧ c.gb ≠ ab ∧ c.gb ≠ c.om
section
variable {w W W' : World} {ρ ρ' : Nat → Nat} {c : Sc} {ab sb n n' : Nat} {x x' : Tx} {f f' : Int → Option Nat} {s s' : Ws} {m m' : Mm}
theorem Hd.next (h : Hd w ρ c ab sb x n f s m W) (ha : AX W' ρ' 1 2 c ab x' n' f' s' m') (fr : Fr (Own c ab) 1 2 W W' ρ ρ') : Hd w ρ' c ab sb x' n' f' s' m' W' := by
  have S0 : ¬ Sr 1 2 0 := by unfold Sr; omega
  have far : ∀ q, ρ q = 0 ∧ q ≠ ab ∧ q ≠ c.om → ¬ (Sr 1 2 (ρ q) ∨ Own c ab q) := fun q hq e => e.elim (fun e => S0 (by rw [hq.1] at e; exact e)) (fun e => e.elim (fun e => hq.2.1 e) (fun e => hq.2.2 e))
  have f0 : ρ 0 = 0 ∧ 0 ≠ ab ∧ 0 ≠ c.om := by
    have := h.h0; have := h.la; have := h.lo
    exact ⟨h.z 0 h.h0, by omega, by omega⟩
  have lW := h.k.size
  have lg : c.gb < W.heap.size := World.block_lt_of_cell? _ _ h.mg.2.2
  refine ⟨ha, h.sv.keep (by show 0 < 4; decide) fr.keeps (far _ h.rs), ⟨h.mg.1, h.mg.2.1, fr.keeps.cell h.mg.2.2 (far _ h.rg)⟩, fun i hi => ⟨fr.keeps.cell (h.tr i hi).1 (far _ f0), fr.keeps.cell (h.tr i hi).2.1 (far _ f0), fr.keeps.cell (h.tr i hi).2.2.1 (far _ f0), fr.keeps.cell (h.tr i hi).2.2.2 (far _ f0)⟩,
    h.k.trans' fr.keeps (fun _ _ e => e) (fun i hi e => far i ⟨h.z i hi, by have := h.la; omega, by have := h.lo; omega⟩ e), fun q hq => (fr.old q (by omega)).trans (h.z q hq), h.h0, h.la, h.lo, ⟨(fr.old _ (h.sv.lt (by show 0 < 4; decide))).trans h.rs.1, h.rs.2⟩, ⟨(fr.old _ lg).trans h.rg.1, h.rg.2⟩⟩
theorem Hd.new (h : Hd w ρ c ab sb x n f s m W) (k : Keeps (fun _ => False) W W') : Hd w ρ c ab sb x n f s m W' := h.next (h.ax.new k) (Fr.of_keeps k (fun _ _ e => e.elim))
theorem Hd.self (h : Hd w ρ c ab sb x n f s m W) (ha : AX W' ρ 1 2 c ab x' n f s m) (k : Keeps (fun i => i = ab) W W') : Hd w ρ c ab sb x' n f s m W' := h.next ha (Fr.of_keeps k (fun _ _ e => .inl e))
theorem Hd.ext (h : Hd w ρ c ab sb x n f s m W) (ha : AX W' ρ' 1 2 c ab x' n f s' m') (k : Ext (Sr 1 2) W W' ρ ρ') : Hd w ρ' c ab sb x' n f s' m' W' := h.next ha (Fr.of_ext k)
theorem Hd.mem (h : Hd w ρ c ab sb x n f s m W) (st th : Int) (hm : m.may st th = true) : Calls Tryz.prog 9 #[.pointer (some ⟨c.mb, 0, none⟩), .int .i64 st, .int .i64 th] W fun e W' => e = .returned (.int .i64 0) ∧ ∃ ρ', Hd w ρ' c ab sb x n f s (m.begin st th) W' := by
  refine (sbegin h.ax.st st th hm).mono ?_
  rintro e W' ⟨rfl, ρ', st', x'⟩
  exact ⟨rfl, ρ', h.ext (h.ax.run st' x') x'⟩
theorem Hd.step (h : Hd w ρ c ab sb x n f s m W) (ha : x.alive = true) {k : Nat} (hn : x.nx = some k) (hcf : ∀ (args : Array Value) (w : World), (callFunc k args).run Tryz.prog w = .ok (.enter k args) w) {r' : Ro} (hg : GoesK W k 1 2 c ab ρ x x' n n' f f' s s' m m' r') :
    Calls Tryz.prog 10 #[.pointer (some ⟨ab, 0, none⟩)] W fun e W' => e = .returned (.tuple #[.agg r'.cells.toArray, .int .i64 0]) ∧ ∃ ρ', Hd w ρ' c ab sb x' n' f' s' m' W' := by
  refine (step_goes h.ax ha hn hcf hg).mono ?_
  rintro e W' ⟨rfl, ρ', ha', fr⟩
  exact ⟨rfl, ρ', h.next ha' fr⟩
end
def hs0 : Ws := (nw [⟨7, 0, false⟩] 0 1).beg 1 1 (-1) 3
def hm0 : Mm := ((nm Mm.new 1).make 1).make 0
def hm1 : Mm := hm0.begin 0 1
def hm2 : Mm := hm1.load 2
def hm3 : Mm := hm2.begin 1 1
def hm4 : Mm := hm3.load 0
def hm5 : Mm := hm4.begin 2 1
def hm6 : Mm := hm5.swap 2 0 1
def hs1 : Ws := (hs0.lay 1 0 (hs0.vl 0)).use 1 true
def hm7 : Mm := hm6.begin 3 1
def hm8 : Mm := hm7.load 3
def hs2 : Ws := hs1.put 1 ⟨9, 0, false⟩
def hm9 : Mm := hm8.begin 4 1
def hm10 : Mm := hm9.swap 3 1 2
theorem HI0 : Inv hs0 hm0 := (inv_nw [⟨7, 0, false⟩] Mm.new (by decide) (by decide)).beg (by decide) 1 1 (-1) 1
theorem HI2 : Inv hs0 hm2 := (HI0.mem 0 1).load 2
theorem HI4 : Inv hs0 hm4 := (HI2.mem 1 1).load 0
theorem HI5 : Inv hs0 hm5 := HI4.mem 2 1
theorem HIL : Inv (hs0.lay 1 0 (hs0.vl 0)) hm5 := HI5.lay (att := 1) (old := 0) (by decide) (by decide) (by decide) (by decide) _
theorem HI6 : Inv hs1 hm6 := HIL.acq (o := 0) (x := 0) (y := 1) (by decide) (by decide) (by decide)
theorem HI8 : Inv hs1 hm8 := (HI6.mem 3 1).load 3
theorem HI9 : Inv hs2 hm9 := (HI8.put 1 _).mem 4 1
theorem HI10 : Inv hs2 hm10 := HI9.stat (i := 1) (by decide) 2
theorem Hcom : hs2.com hm10 = [⟨9, 0, false⟩] := by decide
def hx0 : Tx := Tx.fresh 1 1 (-1) 1 0
def hx1 : Tx := (hx0.op 2 0).opn 27
def hx2 : Tx := hx1.pointed 0
def hx3 : Tx := ({ hx2 with holder := 0, status := 2, current := 0 } : Tx).toAcq
def hx4 : Tx := { hx3 with made := 1, nx := some 119 }
def hx5 : Tx := hx4.thru
def hx6 : Tx := { hx5.op 3 (-1) with nx := some 61 }
def hx7 : Tx := hx6.over
def hf1 : Int → Option Nat := upd (fun _ => none) 0 (some 1)
end Go.Proofs.YteomlhcllmlkpaaGreatDoor
