import Derived.Test.YtgfjhogogajbjaaSchF
namespace Go.Proofs.Ytgfjhogogajbjaa
open Go.RowKit

/-- Numbers that were written out. -/
theorem lit_nl (w : World) (L : List Int) : NL (w.alloc (.cells (L.map (Value.int .i64)).toArray 2)) (some ⟨w.heap.size, 0, none⟩) L.length (fun i => L.getD i 0) := by
  refine .inr ⟨w.heap.size, 0, rfl, by simp, fun i hi => ?_⟩
  rw [Nat.zero_add, cell_of_row _ w.heap.size i _ 2 (0, 0) (World.alloc_heap_new w _)]
  simp [hi, List.getD_eq_getElem?_getD]
theorem least_lit {n : Int} {m : Nat} {z : Nat → Int} {v er : Int} (h : LeastIs n m z v er) (R : Nat) (hg : gapB (nmf n.toNat z) m n.toNat R = true) (hz : rfz n m = 0) : v = (R : Int) + 1 ∧ er = 0 := by
  rcases h with ⟨_, rfl, R', hR, rfl⟩ | ⟨h0, _⟩
  · rw [(gap_of hg).uniq hR]; exact ⟨rfl, rfl⟩
  · exact absurd hz h0

set_option maxHeartbeats 1600000 in
set_option maxRecDepth 1000000 in
theorem schedNames_walk (W : World) : Calls Try.prog 3 #[] W fun e w' => e = .returned (.bool true) ∧ Below W.heap.size W w' := by
  have l1 := least_gen (lit_nl W [0, 1, 0, 0, 1]) 5 2
  have l2 := fun w => least_no w 7 none 0 0 (by decide)
  rw [show rfz 7 0 = 40 from rfl] at l2
  go_enter Try.func3, Try.ntmps3
  go_wp2_with (first | (go_at_call 9; refine l1.mono ?_; clear l1; rintro e w1 ⟨v, er, rfl, k1, hv⟩; obtain ⟨rfl, rfl⟩ := least_lit hv 2 (by decide) (by decide)) | (go_at_call 9; refine (l2 _).mono ?_; rintro e w2 ⟨rfl, rfl⟩))
  go_ret
  exact ⟨rfl, (((Keeps.refl _ W).alloc _).trans k1).below (Nat.le_refl _) (fun _ _ e => e)⟩

/-- One list behind the other. -/
def cat (z : Nat → Int) (k : Nat) (z' : Nat → Int) (i : Nat) : Int := if i < k then z i else z' (i - k)
theorem nums_cat (z : Nat → Int) (k : Nat) (z' : Nat → Int) (m : Nat) : nums z k ++ nums z' m = nums (cat z k z') (k + m) := by
  apply List.ext_getElem
  · simp [nums]
  · intro i h1 h2
    simp [nums] at h1 h2
    by_cases e : i < k
    · rw [List.getElem_append_left (by simpa [nums] using e)]; simp [nums, cat, e]
    · rw [List.getElem_append_right (by simp [nums]; omega)]; simp [nums, cat, e]
theorem append_nl {w : World} {base k : Nat} {v : Value} {z : Nat → Int} (hown : w.ownsRow base 2 1 v k (nums z k)) (hv : v ≠ .slice none 0 0) {a : Option Addr} {m cap : Nat} {z' : Nat → Int} (h : NL w a m z') (hroom : (k + m) * 8 ≤ 140737488355328) (hbase : base ≤ w.heap.size) :
    ∃ v' w', (Builtin.append_ #[25, 25] 25 #[v, .slice a m cap]).run Try.prog w = .ok v' w' ∧ w'.ownsRow base 2 1 v' (k + m) (nums (cat z k z') (k + m)) ∧ Keeps (fun i => v.ownBlock = some i) w w' ∧ v' ≠ .slice none 0 0 := by
  obtain ⟨i0, hi0, hz0, hz1, hz2⟩ := info_parts i64Info
  cases a with
  | none =>
    obtain rfl : m = 0 := by
      rcases h with h | ⟨b, off, e, _⟩
      · exact h
      · cases e
    rcases hown.2 with ⟨rfl, _⟩ | ⟨g, cap', cur, rfl, _, _, hkc, _⟩
    · exact absurd rfl hv
    · have := run_append_room_src (P := Try.prog) w 25 25 25 2 i0 under64s hi0 g 0 k cap' (.slice none 0 cap) 0 [] (by rw [hz1]; exact Src.ofNil w under64s cap) (by omega) (fun j hj => by simp at hj) (fun j hj => by simp at hj)
      refine ⟨_, w, by simpa [World.setCells] using this, ?_, Keeps.refl _ _, hv⟩
      rw [← nums_cat]
      simpa [nums] using hown
  | some a =>
    obtain ⟨v', w', hr, ho, hg, hiff, _⟩ := run_append_own_at (P := Try.prog) (w := w) base 25 25 2 i0 _ 1 8 under64s hi0 hz0 hz1 hz2 rfl (by decide) v k (nums z k) hown a m cap (nums z' m) (by rw [nums_len]; omega) (fun j u hu => by
      obtain ⟨hj, rfl⟩ := nums_get hu
      obtain ⟨b, off, e, hb, hc⟩ := h.resolve_left (by omega)
      cases e
      rw [add_none]
      exact hc j hj) (fun u hu => by
      obtain ⟨i, _, rfl⟩ := List.mem_map.1 hu
      rfl) (by unfold maxLen; omega) (by omega) hbase
    rw [nums_cat] at ho
    exact ⟨v', w', hr, ho, (Keeps.refl _ w).grown hg (fun i _ e => e), fun e => hv (hiff.1 e).1⟩

theorem rfz_cat {n : Int} {m k : Nat} (h : rfz n (m + k) = 0) : rfz n m = 0 ∧ rfz n k = 0 := by
  have := rfz_zero h
  constructor <;> (unfold rfz; rw [if_neg (by omega), if_neg (by omega)])
theorem owns_base {w : World} {base : Nat} {e : TypeId} {size : Nat} {v : Value} {n : Nat} {xs : List Value} (h : w.ownsRow base e size v n xs) (k : Nat) (hk : v.ownBlock = some k) : base ≤ k := by
  rcases h.2 with ⟨rfl, _⟩ | ⟨g, cap, cur, rfl, hb, hg, rest⟩
  · cases hk
  · cases hk; exact hb

set_option maxHeartbeats 3200000 in
set_option maxRecDepth 1000000 in
theorem schedJoined_walk {w : World} (n : Int) (_ : I64 n) {a1 : Option Addr} {m1 : Nat} {z1 : Nat → Int} (h1 : NL w a1 m1 z1) (_ : ∀ i, i < m1 → I64 (z1 i)) (b1 : m1 ≤ 1048576) (cap1 : Nat) {a2 : Option Addr} {m2 : Nat} {z2 : Nat → Int} (h2 : NL w a2 m2 z2) (_ : ∀ i, i < m2 → I64 (z2 i)) (b2 : m2 ≤ 1048576) (cap2 : Nat) :
    Calls Try.prog 5 #[.int .i64 n, .slice a1 m1 cap1, .slice a2 m2 cap2] w fun e w' => e = .returned (.bool true) ∧ Below w.heap.size w w' := by
  have K0 : Keeps (fun _ => False) w (w.alloc (.cells #[] 2)) := (Keeps.refl _ w).alloc _
  have own : (w.alloc (.cells #[] 2)).ownsRow w.heap.size 2 1 (.slice (some ⟨w.heap.size, 0, none⟩) 0 0) 0 (nums z1 0) := World.ownsRow_made w #[] 0 (Nat.le_refl _) (by unfold maxLen; omega) rfl
  obtain ⟨v3, w3, r3, o3, k3, n3⟩ := append_nl (cap := cap1) own (by simp) (h1.new K0) (by omega) (by simp)
  have K3 : Keeps (fun _ => False) w w3 := K0.trans' k3 (fun _ _ e => e) (fun i hi e => by simp [Value.ownBlock] at e; omega)
  have z3 := K3.size
  obtain ⟨v4, w4, r4, o4, k4, n4⟩ := append_nl (cap := cap2) o3 n3 (h2.new K3) (by omega) (by omega)
  have K4 : Keeps (fun _ => False) w w4 := K3.trans' k4 (fun _ _ e => e) (fun i hi e => by have := owns_base o3 i e; omega)
  obtain ⟨a5, cap5, rfl, hnl, _⟩ := owns_nl o4
  have HJ : ∀ A B C, Gap (nmf n.toNat z1) m1 n.toNat A → Gap (nmf n.toNat z2) m2 n.toNat B → Gap (nmf n.toNat (cat (cat z1 0 z1) (0 + m1) z2)) (0 + m1 + m2) n.toNat C → A ≤ C ∧ B ≤ C ∧ C ≤ A + B := fun A B C hA hB hC => by
    have e : 0 + m1 + m2 = m1 + m2 := by omega
    rw [e] at hC
    refine hA.join hB hC (fun i hi => ?_) (fun i hi => ?_)
    · simp [nmf, cat, hi]
    · simp [nmf, cat, show ¬ m1 + i < m1 by omega]
  have H3 : Hid (0 + m1 + m2 = m1 + m2) := (by omega : 0 + m1 + m2 = m1 + m2)
  generalize 0 + m1 + m2 = m3 at *
  generalize cat (cat z1 0 z1) (0 + m1) z2 = zc at *
  have l1 := least_gen (h1.new K4) cap1 n
  have l2 := fun (W : World) (k : Keeps (fun _ => False) w4 W) => least_gen ((h2.new K4).new k) cap2 n
  have l3 := fun (W : World) (k : Keeps (fun _ => False) w4 W) => least_gen (hnl.new k) cap5 n
  have l4 := fun (W : World) => least_gen (lit_nl W [0, 9, 9, 0]) 4 1
  have ht := fun (W : World) => taken_any W n a5 m3 cap5
  clear h1 h2 own o3 o4 k3 k4 n3 n4 K3 K0 z3 hnl
  by_cases hz : rfz n m3 = 0
  · have hz1 := hz
    rw [H3.out] at hz1
    have hz2 := rfz_cat hz1
    have hzm := rfz_zero hz
    have hzb : decide (rfz n m3 = 0) = true := decide_eq_true hz
    rw [hzb] at ht
    clear hzb hz1
    go_enter Try.func5, Try.ntmps5
    go_wp2_with (first | (at_builtin; refine wpList_append_run rfl _ _ _ rfl _ _ v3 w3 rfl rfl r3 ?_; clear r3) | (at_builtin; refine wpList_append_run rfl _ _ _ rfl _ _ (.slice a5 m3 cap5) w4 rfl rfl r4 ?_; clear r4) | (go_at_call 9; refine l1.mono ?_; clear l1; rintro e w5 ⟨va, ea, rfl, k5, hva⟩; obtain ⟨_, rfl, Ra, gA, hva⟩ := hva.resolve_right (fun h => h.1 hz2.1); have A1 : decide (va < 1) = false := decide_eq_false (by omega); have HA := (show Hid _ from hva); clear hva) | (go_at_call 9; refine (l2 _ k5).mono ?_; clear l2; rintro e w6 ⟨vb, eb, rfl, k6, hvb⟩; obtain ⟨_, rfl, Rb, gB, hvb⟩ := hvb.resolve_right (fun h => h.1 hz2.2); have A2 : decide (vb < 1) = false := decide_eq_false (by omega); have HB := (show Hid _ from hvb); clear hvb) | (go_at_call 9; refine (l3 _ (k5.trans k6)).mono ?_; clear l3; rintro e w7 ⟨vc, ec, rfl, k7, hvc⟩; obtain ⟨_, rfl, Rc, gC, hvc⟩ := hvc.resolve_right (fun h => h.1 hz); have A3 := HJ Ra Rb Rc gA gB gC; have A4 := gC.le; have hva := HA.out; have hvb := HB.out; have A5 : decide (va ≤ vc) = true := decide_eq_true (by omega); have A6 : decide (vb ≤ vc) = true := decide_eq_true (by omega); have A7 : IntKind.i64.wrap (va + vb) = va + vb := (by rw [IntKind.wrap_i64]; omega); have A8 : IntKind.i64.wrap (va + vb - 1) = va + vb - 1 := (by rw [IntKind.wrap_i64]; omega); have A9 : decide (vc ≤ va + vb - 1) = true := decide_eq_true (by omega); clear hva hvb hvc A3 A4) | (go_at_call 10; refine (ht _).mono ?_; clear ht; rintro e w8 ⟨rfl, rfl⟩) | (go_at_call 9; refine (l4 _).mono ?_; clear l4; rintro e w9 ⟨v9, e9, rfl, k9, hv9⟩; obtain ⟨rfl, rfl⟩ := least_lit hv9 2 (by decide) (by decide)))
    go_ret
    exact ⟨rfl, ((((K4.trans k5).trans k6).trans k7).trans (((Keeps.refl _ _).alloc _).trans k9)).below (Nat.le_refl _) (fun _ _ e => e)⟩
  · have hzb : decide (rfz n m3 = 0) = false := decide_eq_false hz
    have hzn : (rfz n m3 != 0) = true := by simpa using hz
    rw [hzb] at ht
    clear hzb
    go_enter Try.func5, Try.ntmps5
    go_wp2_with (first | (at_builtin; refine wpList_append_run rfl _ _ _ rfl _ _ v3 w3 rfl rfl r3 ?_; clear r3) | (at_builtin; refine wpList_append_run rfl _ _ _ rfl _ _ (.slice a5 m3 cap5) w4 rfl rfl r4 ?_; clear r4) | (go_at_call 9; refine l1.mono ?_; clear l1; rintro e w5 ⟨va, ea, rfl, k5, hva⟩) | (go_at_call 9; refine (l2 _ k5).mono ?_; clear l2; rintro e w6 ⟨vb, eb, rfl, k6, hvb⟩) | (go_at_call 9; refine (l3 _ (k5.trans k6)).mono ?_; clear l3; rintro e w7 ⟨vc, ec, rfl, k7, hvc⟩; obtain ⟨_, rfl, rfl⟩ := hvc.resolve_left (fun h => hz h.1)) | (go_at_call 10; refine (ht _).mono ?_; clear ht; rintro e w8 ⟨rfl, rfl⟩))
    go_ret
    exact ⟨rfl, (((K4.trans k5).trans k6).trans k7).below (Nat.le_refl _) (fun _ _ e => e)⟩
end Go.Proofs.Ytgfjhogogajbjaa
