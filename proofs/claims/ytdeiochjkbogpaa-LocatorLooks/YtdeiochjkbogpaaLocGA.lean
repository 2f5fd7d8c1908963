import Derived.Test.YtdeiochjkbogpaaLocLY
import Derived.Test.YtdeiochjkbogpaaLocMA
namespace Go.Proofs.Ytdeiochjkbogpaa
open Go.RowKit
/-- A region's end is said ahead, where an append gave a block and its room; G: the frame behind it. -/
theorem wp_cut5 {P : Program} {c : Code} {a : Act} {w : World} {Q' : Exit → Act → World → Prop} (S : World → Prop) (G : Act → Nat → Nat → Act) (h : ∀ (F : Nat → Nat → Act) (K2 : Act → World → Prop), Hid (∀ x y, F x y = G a x y) → Hid (∀ x y w', S w' → K2 (F x y) w') → c.wp P (Exit.then K2 (fun _ _ _ => False)) a w) (hq : ∀ x y w', S w' → Q' .normal (G a x y) w') : c.wp P Q' a w := by
  refine wp_mono (h (G a) (fun a' w' => ∃ x y, a' = G a x y ∧ S w') (fun _ _ => rfl) (fun x y w' hs => ⟨x, y, rfl, hs⟩)) ?_
  intro e a' w' hh
  cases e with
  | normal =>
    obtain ⟨x, y, rfl, hs⟩ := hh
    exact hq x y w' hs
  | _ => exact hh.elim
theorem underI64 : Try.prog.underlying 34 = some (.slice 2) := by kernel_rfl
theorem infoI64 : (Try.prog.info? 2).map (fun i => (i.zero, i.size, i.bytes)) = some (some (.int .i64 0), 1, 8) := by kernel_rfl
section
variable {Wb W W0 w4 : World} {Q : Nat → Prop} {fb rb wb mb n k gg cap : Nat} {s : Ws} {m : Mm} {c : Nat → Cl} {want : List Vl} {was : List (List Vl)} {mk : Int} {v : Value}
/-- Something is put behind what a client holds. -/
theorem GX.app7 (h : GX Wb Q fb rb wb mb s m n c want was mk W) (hk : k < 4) (K0 : Keeps (fun _ => False) W W0) (hv : W.cell? ⟨fb, 1 + k * 9 + 7, none⟩ = some v) (hg : W0.grownBy w4 v.ownBlock) {xs : List Nat} (own : w4.ownsRow 0 3 1 (.slice (some ⟨gg, 0, none⟩) xs.length cap) xs.length (nis xs)) (hat : v.ownBlock = some gg ∨ W0.heap.size ≤ gg) :
    GX Wb Q fb rb wb mb s m n (upd c k { c k with held := xs }) want was mk (w4.setCell ⟨fb, 1 + k * 9 + 7, none⟩ (.slice (some ⟨gg, 0, none⟩) xs.length cap)) := by
  have hw := h.cells.2.2.2.2.1
  obtain ⟨ρ, fv, ws, R, F, q, kk, z⟩ := h
  obtain rfl : v = fv (1 + k * 9 + 7) := Option.some.inj (hv.symm.trans (F.ff.cs _ (by omega)))
  have K1 : Keeps (fun i => (fv (1 + k * 9 + 7)).ownBlock = some i) W w4 := K0.trans' ((Keeps.refl (fun i => (fv (1 + k * 9 + 7)).ownBlock = some i) W0).grown hg (fun _ _ e => e)) (fun _ _ e => e.elim) (fun _ _ e => e)
  have x : Ext (fun r => r = 9 + k) W w4 ρ (ro ρ W w4 (fun i => i = gg) (9 + k)) := ro_ext (K1.mono (fun i _ e => F.hr k i hk e)) rfl
  have s0 := K0.size
  have lg := owns_lt' own gg rfl
  have hg' : ∀ g, (Value.slice (some ⟨gg, 0, none⟩) xs.length cap).ownBlock = some g → ro ρ W w4 (fun i => i = gg) (9 + k) g = 9 + k := fun g e => by
    cases e
    rcases hat with e | e
    · rw [ro_old (owns_lt' (F.hh k hk) gg e)]; exact F.hr k gg hk e
    · exact ro_new (show W.heap.size ≤ gg by omega) rfl lg
  have R1 := R.beside (x.mono (fun _ e => by omega)) (ro_bnd K1.size)
  obtain ⟨R2, x2⟩ := floor_set (o := 1 + k * 9 + 7) R1 (F.ff.ext x (by omega)) (.slice (some ⟨gg, 0, none⟩) xs.length cap)
  refine ⟨_, _, ws, R2, F.re7 hk x own hg', fun i hi => ⟨Nat.lt_of_lt_of_le (q i hi).1 (Nat.le_trans K1.size x2.keeps.size), (q i hi).2.1, (x.old i (q i hi).1).trans (q i hi).2.2⟩, ?_, fun i hi => (x.old i (Nat.lt_of_lt_of_le hi kk.size)).trans (z i hi)⟩
  refine (kk.trans' K1 (fun _ _ e => e) (fun i hi e => ?_)).trans' (keeps_set w4 fb (1 + k * 9 + 7) _) (fun _ _ e => e) (fun i hi e => by omega)
  have h1 := F.hr k i hk e
  have h2 := z i hi
  omega
/-- Something is put behind what a client put. -/
theorem GX.app8 (h : GX Wb Q fb rb wb mb s m n c want was mk W) (hk : k < 4) (K0 : Keeps (fun _ => False) W W0) (hv : W.cell? ⟨fb, 1 + k * 9 + 8, none⟩ = some v) (hg : W0.grownBy w4 v.ownBlock) {xs : List Int} (own : w4.ownsRow 0 2 1 (.slice (some ⟨gg, 0, none⟩) xs.length cap) xs.length (iis xs)) (hat : v.ownBlock = some gg ∨ W0.heap.size ≤ gg) :
    GX Wb Q fb rb wb mb s m n (upd c k { c k with put := xs }) want was mk (w4.setCell ⟨fb, 1 + k * 9 + 8, none⟩ (.slice (some ⟨gg, 0, none⟩) xs.length cap)) := by
  have hw := h.cells.2.2.2.2.1
  obtain ⟨ρ, fv, ws, R, F, q, kk, z⟩ := h
  obtain rfl : v = fv (1 + k * 9 + 8) := Option.some.inj (hv.symm.trans (F.ff.cs _ (by omega)))
  have K1 : Keeps (fun i => (fv (1 + k * 9 + 8)).ownBlock = some i) W w4 := K0.trans' ((Keeps.refl (fun i => (fv (1 + k * 9 + 8)).ownBlock = some i) W0).grown hg (fun _ _ e => e)) (fun _ _ e => e.elim) (fun _ _ e => e)
  have x : Ext (fun r => r = 13 + k) W w4 ρ (ro ρ W w4 (fun i => i = gg) (13 + k)) := ro_ext (K1.mono (fun i _ e => F.pr k i hk e)) rfl
  have s0 := K0.size
  have lg := owns_lt' own gg rfl
  have hg' : ∀ g, (Value.slice (some ⟨gg, 0, none⟩) xs.length cap).ownBlock = some g → ro ρ W w4 (fun i => i = gg) (13 + k) g = 13 + k := fun g e => by
    cases e
    rcases hat with e | e
    · rw [ro_old (owns_lt' (F.ph k hk) gg e)]; exact F.pr k gg hk e
    · exact ro_new (show W.heap.size ≤ gg by omega) rfl lg
  have R1 := R.beside (x.mono (fun _ e => by omega)) (ro_bnd K1.size)
  obtain ⟨R2, x2⟩ := floor_set (o := 1 + k * 9 + 8) R1 (F.ff.ext x (by omega)) (.slice (some ⟨gg, 0, none⟩) xs.length cap)
  refine ⟨_, _, ws, R2, F.re8 hk x own hg', fun i hi => ⟨Nat.lt_of_lt_of_le (q i hi).1 (Nat.le_trans K1.size x2.keeps.size), (q i hi).2.1, (x.old i (q i hi).1).trans (q i hi).2.2⟩, ?_, fun i hi => (x.old i (Nat.lt_of_lt_of_le hi kk.size)).trans (z i hi)⟩
  refine (kk.trans' K1 (fun _ _ e => e) (fun i hi e => ?_)).trans' (keeps_set w4 fb (1 + k * 9 + 8) _) (fun _ _ e => e) (fun i hi e => by omega)
  have h1 := F.pr k i hk e
  have h2 := z i hi
  omega
/-- The lists of a client, as they lie. -/
theorem GX.own7 (h : GX Wb Q fb rb wb mb s m n c want was mk W) (hk : k < 4) : ∃ a cp, W.cell? ⟨fb, 1 + k * 9 + 7, none⟩ = some (.slice a (c k).held.length cp) ∧ W.ownsRow 0 3 1 (.slice a (c k).held.length cp) (c k).held.length (nis (c k).held) ∧ (∀ g, (Value.slice a (c k).held.length cp).ownBlock = some g → g ≠ fb ∧ ¬ Q g) := by
  obtain ⟨ρ, fv, ws, R, F, q, kk, z⟩ := h
  obtain ⟨a, cp, e, _⟩ := F.held hk
  refine ⟨a, cp, by rw [← e]; exact F.ff.cs _ (by omega), by rw [← e]; exact F.hh k hk, fun g hg => ?_⟩
  have h1 := F.hr k g hk (by rw [e]; exact hg)
  refine ⟨fun e' => ?_, fun e' => ?_⟩
  · rw [e', F.ff.rf] at h1; omega
  · have := (q g e').2.2; omega
theorem GX.own8 (h : GX Wb Q fb rb wb mb s m n c want was mk W) (hk : k < 4) : ∃ a cp, W.cell? ⟨fb, 1 + k * 9 + 8, none⟩ = some (.slice a (c k).put.length cp) ∧ W.ownsRow 0 2 1 (.slice a (c k).put.length cp) (c k).put.length (iis (c k).put) ∧ (∀ g, (Value.slice a (c k).put.length cp).ownBlock = some g → g ≠ fb ∧ ¬ Q g) := by
  obtain ⟨ρ, fv, ws, R, F, q, kk, z⟩ := h
  obtain ⟨a, cp, e, _⟩ := F.puts hk
  refine ⟨a, cp, by rw [← e]; exact F.ff.cs _ (by omega), by rw [← e]; exact F.ph k hk, fun g hg => ?_⟩
  have h1 := F.pr k g hk (by rw [e]; exact hg)
  refine ⟨fun e' => ?_, fun e' => ?_⟩
  · rw [e', F.ff.rf] at h1; omega
  · have := (q g e').2.2; omega
end
end Go.Proofs.Ytdeiochjkbogpaa
