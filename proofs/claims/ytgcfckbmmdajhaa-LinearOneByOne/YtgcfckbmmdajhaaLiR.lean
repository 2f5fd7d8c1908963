import Derived.Test.YtgcfckbmmdajhaaLiN
import Derived.WalkMore
import Derived.Scope
import Derived.Deep.LoopGhost
namespace Go.Proofs.Ytgcfckbmmdajhaa
open Go.RowKit
attribute [local go_sem] Oper.semAt_some run_store_nf run_store_f
/-- What the closure stands on. -/
structure FE (l : List Cl) (a : Option Addr) (cap bc : Nat) (W : World) : Prop where
  c : W.cell? ⟨bc, 0, none⟩ = some (.slice a l.length cap)
  s : W.cell? ⟨bc + 2, 0, none⟩ = some (.func (.func 27) #[] #[.pointer (some ⟨bc, 0, none⟩), .pointer (some ⟨bc + 1, 0, none⟩), .pointer (some ⟨bc + 2, 0, none⟩)])
  cs : CSL W a l
  b : 0 < l.length → ∀ b off, a = some ⟨b, off, none⟩ → b < bc
theorem FE.keep {l : List Cl} {a : Option Addr} {cap bc : Nat} {W W' : World} {S : Nat → Prop} (h : FE l a cap bc W) (k : Keeps S W W') (hS : ∀ i, S i → i = bc + 1 ∨ bc + 3 ≤ i) : FE l a cap bc W' := by
  have n1 : ¬ S bc := fun e => by rcases hS _ e with e | e <;> omega
  have n2 : ¬ S (bc + 2) := fun e => by rcases hS _ e with e | e <;> omega
  refine ⟨k.cell h.c n1, k.cell h.s n2, fun i hi => ?_, h.b⟩
  obtain ⟨b, off, e, hc⟩ := h.cs i hi
  have hb := h.b (by omega) b off e
  have n3 : ¬ S b := fun e => by rcases hS _ e with e | e <;> omega
  exact ⟨b, off, e, fun j v hv => k.cell (hc j v hv) n3⟩
/-- The line in memory. -/
structure LS (bc : Nat) (W : World) (lv : Value) (L : List Nat) : Prop where
  c : CL W (bc + 1) [lv]
  o : W.ownsRow (bc + 3) 3 1 lv L.length (pvs L)
theorem LS.keep {bc : Nat} {W W' : World} {lv : Value} {L : List Nat} (h : LS bc W lv L) (k : Keeps (fun _ => False) W W') : LS bc W' lv L := ⟨h.c.keep (by show 0 < 1; decide) k (fun e => e), k.owns h.o (fun _ _ e => e)⟩
/-- What may turn: the line. -/
def LT (bc : Nat) (lv : Value) : Nat → Prop := fun i => i = bc + 1 ∨ lv.ownBlock = some i
theorem LS.lt {bc : Nat} {W : World} {lv : Value} {L : List Nat} (h : LS bc W lv L) : ∀ i, LT bc lv i → i = bc + 1 ∨ bc + 3 ≤ i := fun i e => e.imp id (fun e => owns_baseT h.o i e)
/-- Where a line of the call's own may lie. -/
def OB (w : World) (lv lv' : Value) : Prop := ∀ g, lv'.ownBlock = some g → lv.ownBlock = some g ∨ w.heap.size ≤ g
/-- The closure's promise, so many calls deep. -/
def FLd (l : List Cl) (a : Option Addr) (cap bc d : Nat) : Prop := ∀ (w : World) (L : List Nat) (S : List Int) (lv : Value) (mb n : Nat) (f : Int → Bool), FE l a cap bc w → LS bc w lv L → L.Nodup → (∀ x ∈ L, x < l.length) → l.length ≤ d + L.length → SV w mb n f → FS S n f → n ≤ L.length → bc + 3 ≤ mb → lv.ownBlock ≠ some mb →
  Calls Try.prog 27 #[.map (some mb), .pointer (some ⟨bc, 0, none⟩), .pointer (some ⟨bc + 1, 0, none⟩), .pointer (some ⟨bc + 2, 0, none⟩)] w fun e w' => ∃ lv', e = .returned (.bool (srch l d L S).isSome) ∧ LS bc w' lv' ((srch l d L S).getD L) ∧ Keeps (LT bc lv) w w' ∧ OB w lv lv'
theorem ls_form {bc : Nat} {W : World} {lv : Value} {L : List Nat} (h : LS bc W lv L) : ∃ la lc, lv = .slice la L.length lc ∧ PM W la L := by
  obtain ⟨la, lc, rfl, -⟩ := own_slice h.o
  exact ⟨la, lc, rfl, PM.of h.o⟩
/-- A place of the walk. -/
structure OI (l : List Cl) (d : Nat) (L : List Nat) (S : List Int) (bc : Nat) (w : World) (lv : Value) (Wr : World) (k : Nat) (lv2 : Value) : Prop where
  s : LS bc Wr lv2 L
  g : ∀ p, p < k → gN l d L S p = none
  k : Keeps (LT bc lv) w Wr
  o : OB w lv lv2
theorem OI.next {l : List Cl} {d : Nat} {L : List Nat} {S : List Int} {bc : Nat} {w : World} {lv : Value} {Wr W' : World} {k : Nat} {lv2 : Value} (h : OI l d L S bc w lv Wr k lv2) (hk : Keeps (fun _ => False) Wr W') (hg : gN l d L S k = none) : OI l d L S bc w lv W' (k + 1) lv2 :=
  ⟨h.s.keep hk, fun p hp => by
    by_cases e : p = k
    · rw [e]; exact hg
    · exact h.g p (by omega), h.k.trans' hk (fun _ _ e => e) (fun _ _ e => e.elim), h.o⟩
theorem gN_no {l : List Cl} {d : Nat} {L : List Nat} {S : List Int} {p : Nat} (h : okN l L S p = false) : gN l d L S p = none := by
  cases d with
  | zero => rfl
  | succ d => rw [gN_succ, if_neg (by rw [h]; decide)]
/-- A list is cut back by one. -/
theorem own_cut {W : World} {base m c : Nat} {a : Option Addr} {L : List Nat} {k : Nat} (h : W.ownsRow base 3 1 (.slice a (m + 1) c) (m + 1) (pvs (L ++ [k]))) (hm : L.length = m) : W.ownsRow base 3 1 (.slice a m c) m (pvs L) ∧ m + 1 ≤ c ∧ ∃ g, a = some ⟨g, 0, none⟩ := by
  rcases h.2 with ⟨e, _⟩ | ⟨g, cap, cur, e, hb, hc, h1, h2, h3, h4⟩
  · injection e with _ e _
    omega
  · injection e with e1 _ e3
    subst e1 e3
    refine ⟨⟨by rw [pvs_len]; omega, .inr ⟨g, c, cur, rfl, hb, hc, by omega, h2, h3, ?_⟩⟩, h1, g, rfl⟩
    have : (cur.toList.take ((m + 1) * 1)).take (m * 1) = (pvs (L ++ [k])).take (m * 1) := by rw [h4]
    rw [List.take_take, show min (m * 1) ((m + 1) * 1) = m * 1 by omega] at this
    rw [this]
    unfold pvs
    rw [List.map_append, List.take_append_of_le_length (by rw [List.length_map]; omega), List.take_of_length_le (by rw [List.length_map]; omega)]
theorem run_store_slL {W : World} {b off : Nat} (h : (W.cell? ⟨b, off, none⟩).isSome = true) (hz : W.frozen? ⟨b, off, none⟩ = false) (sa : Option Addr) (sn sc : Nat) : (storeVar 29 ⟨b, off, none⟩ (.slice sa sn sc)).run Try.prog W = .ok () (W.setCell ⟨b, off, none⟩ (.slice sa sn sc)) := by
  obtain ⟨u, hu⟩ := Option.isSome_iff_exists.1 h
  go_simp
theorem wpList_store_sL {w : World} {ops : Array Oper} {rest : List Oper} {o : Oper} {a : Act} {Q : Exit → Act → World → Prop} (hgd : o.guard = none) (hd : o.dst = none) (x y : Operand) (ho : o.op = .store 29 x y) (b : Nat) (hx : a.eval x = .pointer (some ⟨b, 0, none⟩)) (sa : Option Addr) (sn sc : Nat) (hy : a.eval y = .slice sa sn sc)
    {v : Value} (hB : CL w b [v]) (h : ∀ w1, CL w1 b [.slice sa sn sc] → Keeps (fun k => k = b) w w1 → w1.heap.size = w.heap.size → wpList Try.prog ops Q rest a w1) : wpList Try.prog ops Q (o :: rest) a w :=
  wpList_plain hgd fun _ hK => by
    unfold Oper.wp execOp
    simp only [ho, hx, hy, Instr.storeAt, Instr.sureAddr, Sem.run_bind, Sem.run_pure, Result.andThen_ok, run_store_slL (by rw [hB.c 0 _ rfl]; rfl) (hB.z 0 (by show 0 < 1; decide)) sa sn sc]
    refine hK _ _ ?_
    rw [hd]
    exact (h _ (hB.set (o := 0) (by show 0 < 1; decide) _) ((Keeps.refl (fun k => k = b) w).setCell (p := ⟨b, 0, none⟩) (fun _ => rfl) _) (by simp))
end Go.Proofs.Ytgcfckbmmdajhaa
