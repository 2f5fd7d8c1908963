import Derived.Test.YtbnbalpdlgkhdaaDoorLgX
import Derived.Test.YtbnbalpdlgkhdaaDoorLgI
import Derived.Test.YtbnbalpdlgkhdaaDoorLgP
namespace Go.Proofs.YtbnbalpdlgkhdaaDoor
open Go.RowKit
attribute [local go_sem] Oper.semAt_some run_store_nf run_store_f
theorem isl_of_owns_r {W : World} {base n : Nat} {v : Value} {l : List Ins} (h : W.ownsRow base 46 11 v n (icl l)) (hn : l.length = n) : ∃ a cap, v = .slice a n cap ∧ ISL W a l := by
  rcases h.2 with ⟨rfl, h0⟩ | ⟨g, cap, cur, rfl, _⟩
  · have hz : n = 0 := by first | exact h0.1 | omega
    subst hz
    exact ⟨none, 0, rfl, fun i hi => by omega⟩
  · refine ⟨_, cap, rfl, fun i hi => ⟨g, 0, rfl, fun j v hv => ?_⟩⟩
    have e := icl_get l i j v hi hv
    have hc := h.cells (g := g) rfl (i * 11 + j) v e
    rw [add_at] at hc
    rw [Nat.zero_add] at hc ⊢
    exact hc
theorem owns_blk {W : World} {base n : Nat} {e : TypeId} {size : Nat} {a : Option Addr} {cap : Nat} {xs : List Value} (h : W.ownsRow base e size (.slice a n cap) n xs) : ∀ b off, a = some ⟨b, off, none⟩ → b < W.heap.size := fun b off ea => by
  rcases h.2 with ⟨h1, _⟩ | ⟨g, cap, cur, h1, _⟩
  · injection h1 with h1 _ _
    rw [h1] at ea; cases ea
  · have hb := owns_lt' h
    injection h1 with h1 _ _
    subst h1
    injection ea with ea
    injection ea with ea _ _
    subst ea
    exact hb _ rfl
theorem can_let (n : Int) : (⟨5, 0, false, 0, false, 0, false, 0, 0, 0, 0⟩ : Ins).can n = true := rfl
/-- Two lets: the longest walk goes through both. -/
def l2 : List Ins := [⟨5, 0, false, 0, false, 0, false, 0, 0, 0, 0⟩, ⟨5, 0, false, 0, false, 0, false, 0, 0, 0, 0⟩]
theorem lgp2 {x y : Int} (h : LgP l2 x y) : x = 2 ∧ y = 0 := by
  have H2 : Ht 2 (nx l2) 0 2 := .mk (m := 1) (by omega) (fun q hq => by
      obtain rfl : q = 1 := by simpa using (show q ∈ [1] from hq)
      exact ⟨1, .mk (m := 0) (by omega) (fun q hq => by
        obtain rfl : q = 2 := by simpa using (show q ∈ [2] from hq)
        exact ⟨0, .fin, Nat.le_refl _⟩) (.inl rfl), Nat.le_refl _⟩) (.inr ⟨1, (by show 1 ∈ [1]; simp), .mk (m := 0) (by omega) (fun q hq => by
        obtain rfl : q = 2 := by simpa using (show q ∈ [2] from hq)
        exact ⟨0, .fin, Nat.le_refl _⟩) (.inl rfl)⟩)
  have H : LgP l2 2 0 := .inr ⟨rfl, .inl ⟨2, H2, rfl, rfl⟩⟩
  exact h.uniq H
set_option maxHeartbeats 500000 in
set_option maxRecDepth 1000000 in
theorem walks_any {w : World} {a : Option Addr} {cap : Nat} {l : List Ins} (hT : LT w) (hl : ISL w a l) (hlen : l.length * 88 ≤ 140737488355328) : Calls Tryd.prog 3 #[.slice a l.length cap] w fun e w' => e = .returned (.bool true) ∧ Below w.heap.size w w' := by
  have hP := prog_any (cap := cap) hl hlen
  have hFw := fun W a cap (hT : LT W) (hl : ISL W a l) => forward_any (w := W) (cap := cap) (a := a) hT hl (by omega)
  have hRf := fun W (hl : ISL W a l) => rforward_any (w := W) (cap := cap) hl (by omega)
  have hLg := fun W a cap (hT : LT W) (hl : ISL W a l) (hA : ∀ b off, a = some ⟨b, off, none⟩ → b < W.heap.size) => longest_any (w := W) (cap := cap) (a := a) hT hl hA (by omega)
  have hRg := fun W (hl : ISL W a l) => rlongest_any (w := W) (cap := cap) hl (by omega)
  have hBk := fun W a cap (hl : ISL W a l) => backs_any (w := W) (cap := cap) (a := a) hl hlen
  have hSm := fun W a1 c1 (h1 : ISL W a1 l) (h2 : ISL W a l) => same_any (w := W) (a1 := a1) (c1 := c1) (a2 := a) (c2 := cap) h1 h2 (by omega)
  have hFix : ∀ W, LT W → Calls Tryd.prog 7 #[.slice (some ⟨W.heap.size, 0, none⟩) 2 2] (W.alloc (.cells #[.int .i64 5, .int .i64 0, .bool false, .int .i64 0, .bool false, .int .i64 0, .bool false, .int .i64 0, .int .i64 0, .int .i64 0, .int .i64 0, .int .i64 5, .int .i64 0, .bool false, .int .i64 0, .bool false, .int .i64 0, .bool false, .int .i64 0, .int .i64 0, .int .i64 0, .int .i64 0] 42)) fun e w' => e = .returned (.tuple #[.int .i64 2, .int .i64 0]) ∧ Keeps (fun _ => False) W w' := fun W hW => by
    have k1 : Keeps (fun _ => False) W (W.alloc (.cells (icl l2).toArray 42)) := (Keeps.refl _ W).alloc _
    have hI : ISL (W.alloc (.cells (icl l2).toArray 42)) (some ⟨W.heap.size, 0, none⟩) l2 := fun i hi => ⟨_, 0, rfl, fun j v hv => by
      rw [Nat.zero_add]
      exact (CL.made W (icl l2) 42).c _ v (icl_get _ i j v hi hv)⟩
    refine (longest_any (cap := 2) (hW.keep k1) hI (fun b off e => by injection e with e; injection e with e _ _; subst e; simp) (by decide)).mono (fun e w' h => ?_)
    obtain ⟨x, y, rfl, hg, k⟩ := h
    obtain ⟨rfl, rfl⟩ := lgp2 hg
    exact ⟨rfl, k1.trans k⟩
  go_enter Tryd.func3, Tryd.ntmps3
  go_wp2_with fail
  refine hP.mono ?_
  rintro e w1 ⟨v, rfl, ho, k1⟩
  obtain ⟨a1, cap1, rfl, h1⟩ := isl_of_owns ho rfl
  have A1 := owns_blk ho
  have c1 := hFw w1 a1 cap1 (hT.keep k1) h1
  generalize chk l = ck at c1 hRf
  generalize fwB l = fb at c1 hRf
  obtain ⟨ce, ci⟩ := ck
  simp only at c1 hRf
  clear hP ho hFw
  go_wp2_with fail
  refine c1.mono ?_
  rintro e w2 ⟨rfl, k2⟩
  have K2 := k1.trans k2
  have r2 := hRf w2 (hl.keep K2)
  clear c1 hRf
  go_wp2_with fail
  refine r2.mono ?_
  rintro e w3 ⟨rfl, k3⟩
  have K3 := K2.trans k3
  have h3 := (h1.keep k2).keep k3
  have g3 := hLg w3 a1 cap1 (hT.keep K3) h3 (fun b off e => by have := A1 b off e; have := k2.size; have := k3.size; omega)
  clear r2 hLg h1 A1 K2 k1 k2 k3
  go_wp2_with fail
  refine g3.mono ?_
  rintro e w4 ⟨x, y, rfl, hg, k4⟩
  have K4 := K3.trans k4
  have g4 := hRg w4 (hl.keep K4)
  clear g3 hRg K3
  go_wp2_with fail
  refine g4.mono ?_
  rintro e w5 ⟨x', y', rfl, hg', k5⟩
  obtain ⟨rfl, rfl⟩ := hg.same hg'
  have K5 := K4.trans k5
  have h5 := (h3.keep k4).keep k5
  have b5 := hBk w5 a1 cap1 h5
  clear g4 K4 h3 k4 k5 hg hg' hBk
  go_wp2_with fail
  refine b5.mono ?_
  rintro e w6 ⟨v, rfl, ho, k6⟩
  obtain ⟨a2, cap2, rfl, h6⟩ := isl_of_owns_r ho rfl
  have K6 := K5.trans k6
  have s6 := hSm w6 a2 cap2 h6 (hl.keep K6)
  clear b5 ho K5 h5 h6 hSm k6
  go_wp2_with fail
  refine s6.mono ?_
  rintro e w7 ⟨rfl, k7⟩
  have K7 := K6.trans k7
  have f7 := hFix w7 (hT.keep K7)
  clear s6 hFix K6 k7
  go_wp2_with fail
  refine f7.mono ?_
  rintro e w8 ⟨rfl, k8⟩
  clear f7
  go_wp2_with fail
  go_ret
  exact ⟨rfl, (K7.trans k8).below (Nat.le_refl _) (fun _ _ e => e)⟩
end Go.Proofs.YtbnbalpdlgkhdaaDoor
