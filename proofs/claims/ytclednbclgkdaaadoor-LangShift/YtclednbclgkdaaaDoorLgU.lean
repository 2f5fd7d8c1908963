import Derived.Test.YtclednbclgkdaaaDoorLgT
namespace Go.Proofs.YtclednbclgkdaaaDoor
open Go.RowKit
attribute [local go_sem] Oper.semAt_some run_store_nf run_store_f
/-- What Longest answers. -/
def LgP (l : List Ins) (x y : Int) : Prop := ((chk l).1 ≠ 0 ∧ x = 0 ∧ y = (chk l).1) ∨ ((chk l).1 = 0 ∧ ((∃ h : Nat, Ht l.length (nx l) 0 h ∧ x = (h : Int) ∧ y = 0) ∨ (Circ l.length (nx l) ∧ x = 0 ∧ y = 109)))
theorem Circ.no {n : Nat} {nx : Nat → List Nat} {h : Nat} (c : Circ n nx) (H : Ht n nx 0 h) : False := by
  obtain ⟨i, p, k, hp, h1, h2⟩ := c
  obtain ⟨q, hq, hw⟩ := h1.ever hp h2 h
  exact H.no h q (Nat.le_refl _) hq hw
theorem LgP.uniq {l : List Ins} {x y x' y' : Int} (h : LgP l x y) (h' : LgP l x' y') : x = x' ∧ y = y' := by
  rcases h with ⟨n, rfl, rfl⟩ | ⟨z, h⟩
  · rcases h' with ⟨_, rfl, rfl⟩ | ⟨z, _⟩
    · exact ⟨rfl, rfl⟩
    · exact absurd z n
  · rcases h' with ⟨n, _, _⟩ | ⟨_, h'⟩
    · exact absurd z n
    · rcases h with ⟨a, H, rfl, rfl⟩ | ⟨c, rfl, rfl⟩ <;> rcases h' with ⟨a', H', rfl, rfl⟩ | ⟨c', rfl, rfl⟩
      · exact ⟨by rw [H.uniq H'], rfl⟩
      · exact (c'.no H).elim
      · exact (c.no H').elim
      · exact ⟨rfl, rfl⟩
theorem WB.of {w : World} {B : Nat} {v : Value} (h : CL w B (v :: List.replicate 64 (.int .i64 0))) : WB w B v (fun _ => 0) :=
  ⟨h.c 0 _ rfl, fun i hi => h.c (1 + i) _ (by rw [show 1 + i = i + 1 by omega, List.getElem?_cons_succ, List.getElem?_replicate, if_pos hi]), fun i hi => h.z (1 + i) (by simp; omega)⟩
theorem zero_wk : ∃ Z0 : Array Value, (∀ W : World, Sem.run Tryd.prog (zeroValue 65) W = .ok (.agg Z0) W) ∧ ¬ Z0 = #[] ∧ Z0.size = 65 ∧ (Z0.toList = .slice none 0 0 :: List.replicate 64 (.int .i64 0)) := ⟨#[.slice none 0 0, .int .i64 0, .int .i64 0, .int .i64 0, .int .i64 0, .int .i64 0, .int .i64 0, .int .i64 0, .int .i64 0, .int .i64 0, .int .i64 0, .int .i64 0, .int .i64 0, .int .i64 0, .int .i64 0, .int .i64 0, .int .i64 0, .int .i64 0, .int .i64 0, .int .i64 0, .int .i64 0, .int .i64 0, .int .i64 0, .int .i64 0, .int .i64 0, .int .i64 0, .int .i64 0, .int .i64 0, .int .i64 0, .int .i64 0, .int .i64 0, .int .i64 0, .int .i64 0, .int .i64 0, .int .i64 0, .int .i64 0, .int .i64 0, .int .i64 0, .int .i64 0, .int .i64 0, .int .i64 0, .int .i64 0, .int .i64 0, .int .i64 0, .int .i64 0, .int .i64 0, .int .i64 0, .int .i64 0, .int .i64 0, .int .i64 0, .int .i64 0, .int .i64 0, .int .i64 0, .int .i64 0, .int .i64 0, .int .i64 0, .int .i64 0, .int .i64 0, .int .i64 0, .int .i64 0, .int .i64 0, .int .i64 0, .int .i64 0, .int .i64 0, .int .i64 0], fun W => by kernel_rfl, by simp, rfl, rfl⟩
theorem one_wk {Z0 : Array Value} {v : Value} (h : Z0.toList = .slice none 0 0 :: List.replicate 64 (.int .i64 0)) : (Z0.setIfInBounds 0 v).toList = v :: List.replicate 64 (.int .i64 0) := by
  rw [Array.toList_setIfInBounds, h]; rfl
theorem wk_one {x : Value} {a : Option Addr} {n c : Nat} (hx : x ∈ Value.slice a n c :: List.replicate 64 (.int .i64 0)) : x.oneCell' = true := by
  rcases List.mem_cons.1 hx with rfl | hx
  · rfl
  · rw [(List.mem_replicate.1 hx).2]; rfl
theorem iWk : (Tryd.prog.info? 65).map (·.size) = some 65 := by kernel_rfl
set_option maxHeartbeats 500000 in
set_option maxRecDepth 100000 in
theorem longest_any {w : World} {a : Option Addr} {cap : Nat} {l : List Ins} (hT : LT w) (hl : ISL w a l) (hA : ∀ b off, a = some ⟨b, off, none⟩ → b < w.heap.size) (hlen : l.length ≤ 9223372036854775807) : Calls Tryd.prog 15 #[.slice a l.length cap] w fun e w' => ∃ x y : Int, e = .returned (.tuple #[.int .i64 x, .int .i64 y]) ∧ LgP l x y ∧ Keeps (fun _ => False) w w' := by
  have hC := check_any (cap := cap) hT hl hlen
  have hok := chk_ok (l := l)
  have hLg : Hid (LgP l = LgP l) := rfl
  generalize hce : (chk l).1 = ce at *
  generalize (chk l).2 = ci at *
  have HCE : Hid (_ = _) := hce
  clear hce
  by_cases h0 : ce = 0
  · subst h0
    obtain ⟨h64, hcan⟩ := hok rfl
    clear hok
    obtain ⟨Z0, hz0, zn, zs, zl⟩ := zero_wk
    have ZL : Hid (_ = _) := zl
    have ZS : Hid (_ = _) := zs
    clear zl zs
    go_enter Tryd.func15, Tryd.ntmps15
    go_wp2_with (first | (go_at_call 12; refine hC.mono ?_; clear hC; rintro e w1 ⟨rfl, k1⟩; obtain ⟨W4, hW4⟩ : ∃ W4, W4 = w1.alloc (.cells Z0 65) := ⟨_, rfl⟩; have HW4 : Hid (_ = _) := hW4; clear hW4; have k4 : Keeps (fun _ => False) w1 W4 := (by rw [HW4.out]; exact (Keeps.refl _ w1).alloc _); have hU4 : CL W4 w1.heap.size (.slice none 0 0 :: List.replicate 64 (.int .i64 0)) := (by rw [HW4.out, ← ZL.out]; have := CL.made w1 Z0.toList 65; rw [Array.toArray_toList] at this; exact this)) | (rw [← HW4.out]; clear HW4; refine wpList_store_cl rfl 65 _ _ rfl w1.heap.size 0 65 _ rfl rfl (by rw [Array.size_setIfInBounds]; exact ZS.out) hU4 (by show 65 ≤ 65; decide) iWk (by simp only [Array.all_eq_true']; intro x hx; rw [← Array.mem_toList_iff, one_wk ZL.out] at hx; exact wk_one hx) ?_; intro w5 hc5 k5 hsz5; clear hsz5))
    have hb5 := WB.of (v := .slice a l.length cap) (w := w5) (B := w1.heap.size) (by have := hc5; rw [one_wk ZL.out] at this; exact this)
    have hB5 : ∀ b off, a = some ⟨b, off, none⟩ → b ≠ w1.heap.size := fun b off e => by have := hA b off e; have := k1.size; omega
    have hl5 : ISL w5 a l := fun i hi => by
      obtain ⟨b, off, e, hc⟩ := (hl.keep (k1.trans k4)) i hi
      exact ⟨b, off, e, fun j v hv => k5.cell (hc j v hv) (hB5 b off e)⟩
    have K5 : Keeps (fun _ => False) w w5 := (k1.trans k4).trans' k5 (fun _ _ e => e) (fun i hi e => by have := k1.size; have e : i = w1.heap.size := e; omega)
    have hrec := from_any h64 hcan hB5 l.length (w := w5) (p := 0) (L := fun _ => 0) (cap := cap) (List.range l.length) (by simp) (fun q hq _ => by simpa using hq) hl5 hb5 (fun p hp => .inl rfl) (Nat.zero_le _) (fun q hq e => by simp at e) ⟨0, rfl⟩
    have s1 := k1.size
    clear hl5 hb5 hB5 k4 k5 hc5 hU4
    generalize w1.heap.size = B1 at *
    refine (show Calls Tryd.prog 24 #[.pointer (some ⟨B1, 0, none⟩), .int .i64 0] w5 _ from hrec).mono ?_
    clear hrec
    intro e w6 hP
    rcases hP with ⟨h, rfl, hH, L4, hf4⟩ | ⟨x, rfl, hC, k4⟩
    · have K6 := K5.trans' hf4.k (fun _ _ e => e) (fun i hi e => by have e : i = B1 := e; omega)
      go_wp2_with fail
      go_ret2
      exact ⟨_, _, rfl, .inr ⟨HCE.out, .inl ⟨h, hH, rfl, rfl⟩⟩, K6⟩
    · have K6 := K5.trans' k4 (fun _ _ e => e) (fun i hi e => by have e : i = B1 := e; omega)
      go_wp2_with fail
      go_ret2
      exact ⟨_, _, rfl, .inr ⟨HCE.out, .inr ⟨hC, rfl, rfl⟩⟩, K6⟩
  · have hb : (ce == 0) = false := by simpa using h0
    go_enter Tryd.func15, Tryd.ntmps15
    go_wp2_with (go_at_call 12; refine hC.mono ?_; clear hC; rintro e w1 ⟨rfl, k1⟩)
    go_ret2
    exact ⟨0, ce, rfl, .inl ⟨by rw [HCE.out]; exact h0, rfl, HCE.out.symm⟩, k1⟩
end Go.Proofs.YtclednbclgkdaaaDoor
