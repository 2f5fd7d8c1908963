import Derived.Test.YtgfjhogogajbjabSchA
import Derived.Shelf.Abstract
import Derived.Shelf.RegionOpen
import Derived.WalkKit
import Derived.OwnWalkIn
import Derived.TacticsInMore
import Derived.LoopNIn
import Derived.LoopIn
namespace Go.Proofs.Ytgfjhogogajbjab
open Go.RowKit Go.Shelf
attribute [local go_sem] Oper.semAt_some

/-- A stretch. -/
structure Cu where
  th : Int
  fr : Nat
  len : Nat
def cut (f : Nat → Int) (m k : Nat) : Cu := ⟨f (pos f m k), pos f m k, pos f m (k + 1) - pos f m k⟩
def encu (c : Cu) : Array Value := #[.agg #[.int .i64 c.th, .int .i64 (c.fr : Int), .int .i64 (c.len : Int)]]
/-- Whom each pick names. -/
def nmf (n : Nat) (z : Nat → Int) (i : Nat) : Int := nmz n (z i)

/-- Some blocks lie as they lay. -/
def Sv (D : Nat → Prop) (W W' : World) : Prop := W.heap.size ≤ W'.heap.size ∧ ∀ k, D k → k < W.heap.size → W'.heap[k]? = W.heap[k]?
theorem Sv.refl (D : Nat → Prop) (W : World) : Sv D W W := ⟨Nat.le_refl _, fun _ _ _ => rfl⟩
theorem Sv.trans {D : Nat → Prop} {A B C : World} (h : Sv D A B) (k : Sv D B C) : Sv D A C := ⟨Nat.le_trans h.1 k.1, fun i hi hl => (k.2 i hi (Nat.lt_of_lt_of_le hl h.1)).trans (h.2 i hi hl)⟩
theorem Sv.of {D : Nat → Prop} {A B : World} (h : Keeps (fun _ => False) A B) : Sv D A B := ⟨h.size, fun i _ hl => h.block i hl (fun e => e)⟩
theorem Sv.cell {D : Nat → Prop} {A B : World} (h : Sv D A B) {p : Addr} {v : Value} (hc : A.cell? p = some v) (hp : D p.block) : B.cell? p = some v :=
  (World.cell?_of_block (h.2 p.block hp (World.block_lt_of_cell? A p hc))).trans hc
/-- The blocks of Stretches' value. -/
def Dz (B1 B2 : Nat) (a : Option Addr) (k : Nat) : Prop := k = B1 ∨ k = B2 ∨ ∃ o, a = some ⟨k, o, none⟩

set_option maxRecDepth 100000 in
set_option maxHeartbeats 6400000 in
/-- Stretches' iterator. -/
theorem cut1_k (n : Nat) (hn : 1 ≤ n) (l B1 B2 nt : Nat) (a : Option Addr) (m cap : Nat) (z : Nat → Int) (hm : m ≤ 4096) (M : Nat) (hM : Many (nmf nt z) m M) (Kp : World → World → Prop) (hKp : ∀ W W', Kp W W' → Sv (Dz B1 B2 a) W W') (J Jx : Nat → World → Prop)
    (hY : ∀ k W, k < M → J k W → YieldAt Fence.wide (n - 1) Try.prog l (encu (cut (nmf nt z) m k)) W fun e W' =>
      (e = .returned (.bool true) ∧ J (k + 1) W' ∧ Kp W W') ∨ (e = .returned (.bool false) ∧ Jx (k + 1) W'))
    (W : World) (hJ : ∀ k A B, J k A → Keeps (fun _ => False) A B → J k B) (hB1 : W.cell? ⟨B1, 0, none⟩ = some (.slice a m cap)) (hB2 : W.cell? ⟨B2, 0, none⟩ = some (.int .i64 (nt : Int))) (hr : NL W a m z) (h0 : J 0 W) :
    CallsIn Fence.wide n Try.prog 34 #[.func (.yield l) #[] #[], .pointer (some ⟨B1, 0, none⟩), .pointer (some ⟨B2, 0, none⟩)] W fun e W' => (∃ v, e = .returned v) ∧
      (J M W' ∨ ∃ k, 0 < k ∧ k ≤ M ∧ Jx k W') := by
  have hn' := named_any
  refine callsIn_of_wp Try.func34 rfl trivial ?_
  simp only [Try.ntmps34, List.size_toArray, List.length_cons, List.length_nil, Nat.reduceAdd, Nat.reduceSub, Array.replicate_succ, Array.replicate_zero, List.push_toArray, List.append_toArray, List.nil_append, List.cons_append]
  gi_wp2
  gi_loopw [4] (fun i wr => ∃ k : Nat, k ≤ M ∧ i = .int .i64 ((pos (nmf nt z) m k : Nat) : Int) ∧ J k wr ∧ Sv (Dz B1 B2 a) W wr)
    (fun i _ => m - (intOf i).toNat)
  case atStart => exact ⟨0, Nat.zero_le _, rfl, h0, Sv.refl _ _⟩
  case round =>
    obtain ⟨k, hk, rfl, hJs, hS⟩ := hrel
    have c1 := hS.cell hB1 (.inl rfl)
    have c2 := hS.cell hB2 (.inr (.inl rfl))
    by_cases hlt : k < M
    · have hp := hM.2.2 k hlt
      have hpI : ((pos (nmf nt z) m k : Nat) : Int) < (m : Int) := by omega
      obtain ⟨g, off, rfl, hg, hc⟩ := hr.resolve_left (by omega)
      have hcs : ∀ i, i < m → wr.cell? ⟨g, off + i, none⟩ = some (.int .i64 (z i)) := fun i hi => hS.cell (hc i hi) (.inr (.inr ⟨off, rfl⟩))
      have c3 := hcs _ hp
      have HP := (show Hid _ from hp)
      obtain ⟨p, hpe⟩ : ∃ p, Hid (p = pos (nmf nt z) m k) := ⟨_, rfl⟩
      rw [← hpe.out] at c3 hpI hp ⊢
      gi_wp2
      refine wpIn_wide.2 ?_
      go_region_held3 (fun w' => w'.cell? ⟨B1, 0, none⟩ = some (.slice (some ⟨g, off, none⟩) m cap) ∧ w'.cell? ⟨B2, 0, none⟩ = some (.int .i64 (nt : Int)) ∧ w'.cell? ⟨g, off + p, none⟩ = some (.int .i64 (z p))) (go_keep) ((go_at_call 35; refine (hn' _ _ _).mono ?_; rintro e w4 ⟨rfl, rfl⟩))
      all_goals
        have W3e : ∃ W3, W3 = (wr.alloc (.cells #[.int .i64 (nmz nt (z p)), .int .i64 (p : Int), .int .i64 0] 48)).drew := ⟨_, rfl⟩
        obtain ⟨W3, hW3⟩ := W3e
        have K3 : Keeps (fun _ => False) wr W3 := by rw [hW3]; exact ((Keeps.refl _ wr).alloc _).drew
        have s0 : W3.cell? ⟨wr.heap.size, 0, none⟩ = some (.int .i64 (nmz nt (z p))) := by rw [hW3]; simp
        have s1 : W3.cell? ⟨wr.heap.size, 1, none⟩ = some (.int .i64 (p : Int)) := by rw [hW3]; simp
        have s2 : W3.cell? ⟨wr.heap.size, 2, none⟩ = some (.int .i64 0) := by rw [hW3]; simp
        have sz : W3.frozen? ⟨wr.heap.size, 2, none⟩ = false := by rw [hW3]; simp
        rw [← hW3]
        clear hW3
        have c1' := K3.cell c1 (fun e => e)
        have c2' := K3.cell c2 (fun e => e)
        have hcs' : ∀ i, i < m → W3.cell? ⟨g, off + i, none⟩ = some (.int .i64 (z i)) := fun i hi => K3.cell (hcs i hi) (fun e => e)
        (try simp only [Exit.then])
        obtain ⟨t, ht⟩ : ∃ t, Hid (t = nmz nt (z p)) := ⟨_, rfl⟩
        rw [← ht.out] at s0 ⊢
        clear c1 c2 c3 hcs hc
        obtain ⟨A, hA⟩ : ∃ A, A = wr := ⟨_, rfl⟩
        subst hA
        obtain ⟨sb, hsb⟩ : ∃ sb, Hid (sb = A.heap.size) := ⟨_, rfl⟩
        rw [← hsb.out] at s0 s1 s2 sz ⊢
        gi_wp2
        gi_loopw [4] (fun i w' => ∃ j : Nat, p ≤ j ∧ j ≤ m ∧ i = .int .i64 (j : Int) ∧ (∀ x, p ≤ x → x < j → nmf nt z x = t) ∧ Keeps (fun _ => False) W3 w') (fun i _ => m - (intOf i).toNat)
        case atStart => exact ⟨p, Nat.le_refl _, Nat.le_of_lt hp, rfl, fun x h1 h2 => by omega, Keeps.refl _ _⟩
        case round =>
          obtain ⟨j, hj1, hj2, rfl, hjs, K5⟩ := hrel
          have hNE : Nonempty (KS wr) := ⟨⟨wr, Keeps.refl _ wr⟩⟩
          have C1 := ks_cell (K5.cell c1' (fun e => e))
          have C2 := ks_cell (K5.cell c2' (fun e => e))
          have S0 := ks_cell (K5.cell s0 (fun e => e))
          by_cases hjm : j < m
          · have hjI : (j : Int) < (m : Int) := by omega
            have C3 := ks_cell (K5.cell (hcs' j hjm) (fun e => e))
            by_cases he : nmz nt (z j) = t
            · have heb : (nmz nt (z j) == t) = true := by simp [he]
              have HEE := (show Hid _ from he)
              clear he
              gi_wp2
              refine wpIn_wide.2 ?_
              refine wp_region_ks (by kernel_rfl) (by kernel_rfl) ?_
              repeat (go_big_quiet_step ((go_at_call 35; refine (hn' _ _ _).mono ?_; rintro e w2 ⟨rfl, rfl⟩; exact ⟨rfl, ⟨_, KS.property _⟩, rfl⟩)))
              refine wpQuiet_nil ?_
              rintro _ ⟨u, rfl⟩
              have K6 := u.property
              clear C1 C2 C3 S0 hNE
              generalize u.val = W6 at K6 ⊢
              (try simp only [Exit.then])
              gi_wp2
              go_roundw
              case rel => exact ⟨j + 1, by omega, by omega, by go_num, fun x h1 h2 => (by
                by_cases ex : x = j
                · rw [ex]; exact HEE.out
                · exact hjs x h1 (by omega)), K5.trans K6⟩
              case measure => simp [intOf]; omega
            · have heb : (nmz nt (z j) == t) = false := by simp [he]
              have HE : Hid (j = m ∨ nmf nt z j ≠ nmf nt z (pos (nmf nt z) m k)) := .inr (by rw [← hpe.out]; show nmz nt (z j) ≠ nmz nt (z p); rw [← ht.out]; exact he)
              clear he
              gi_wp2
              refine wpIn_wide.2 ?_
              refine wp_region_ks (by kernel_rfl) (by kernel_rfl) ?_
              repeat (go_big_quiet_step ((go_at_call 35; refine (hn' _ _ _).mono ?_; rintro e w2 ⟨rfl, rfl⟩; exact ⟨rfl, ⟨_, KS.property _⟩, rfl⟩)))
              refine wpQuiet_nil ?_
              rintro _ ⟨u, rfl⟩
              have K6 := u.property
              clear C1 C2 C3 S0 hNE
              generalize u.val = W6 at K6 ⊢
              (try simp only [Exit.then])
              have r1 := K6.cell (K5.cell s1 (fun e => e)) (fun e => e)
              have r2 := K6.cell (K5.cell s2 (fun e => e)) (fun e => e)
              have r0 := K6.cell (K5.cell s0 (fun e => e)) (fun e => e)
              have rz := (K6.frozen (p := ⟨sb, 2, none⟩) (Nat.lt_of_lt_of_le (World.block_lt_of_cell? _ _ s2) K5.size) (fun e => e)).trans ((K5.frozen (p := ⟨sb, 2, none⟩) (World.block_lt_of_cell? _ _ s2) (fun e => e)).trans sz)
              have hje : j = pos (nmf nt z) m (k + 1) := pos_eq HP.out (by rw [← hpe.out]; exact hj1) hj2 (fun x h1 h2 => by rw [← hpe.out] at h1 ⊢; rw [hjs x h1 h2, ht.out]; rfl) HE.out
              have ec : encu (cut (nmf nt z) m k) = #[.agg #[.int .i64 t, .int .i64 (p : Int), .int .i64 ((j : Int) - (p : Int))]] := by
                unfold encu cut
                rw [← hpe.out, ← hje, ht.out]
                simp only [nmf]
                rw [Int.ofNat_sub hj1]
              have K7 : Keeps (fun _ => False) A (W6.setCell ⟨sb, 2, none⟩ (.int .i64 ((j : Int) - (p : Int)))) := ((K3.trans K5).trans K6).setCell (p := ⟨sb, 2, none⟩) (fun h => by have := hsb.out; simp at h; omega) _
              obtain ⟨fn, tmps, assign, body, hy, hRd⟩ := hY k _ hlt (hJ _ _ _ hJs K7)
              rw [ec] at hy
              have HJE := (show Hid _ from hje)
              have HS : Hid (Sv (Dz B1 B2 (some ⟨g, off, none⟩)) W A) := hS
              have hpj : p < j := by rw [hpe.out, hje]; exact pos_lt HP.out
              clear ec hje hS hjs hJs hcs' c1' c2' s0 s1 s2 sz hp
              gi_wp2
              refine hRd.mono ?_
              rintro e W8 (⟨rfl, hJ8, hk8⟩ | ⟨rfl, hJx8⟩)
              · gi_wp2
                go_roundw
                case rel => exact ⟨k + 1, by omega, by rw [← HJE.out], hJ8, Sv.trans (Sv.trans HS.out (Sv.of K7)) (hKp _ _ hk8)⟩
                case measure => simp [intOf]; omega
              · gi_wp2
                refine bodyPost_ret (results_none rfl _ _ _) rfl ?_
                exact ⟨⟨_, rfl⟩, .inr ⟨k + 1, by omega, by omega, hJx8⟩⟩
          · have hjI : ¬ (j : Int) < (m : Int) := by omega
            · skip
              have HE : Hid (j = m ∨ nmf nt z j ≠ nmf nt z (pos (nmf nt z) m k)) := .inl (by omega)
              have hdb : decide (j < m) = false := decide_eq_false hjm
              gi_wp2
              refine wpIn_wide.2 ?_
              refine wp_region_ks (by kernel_rfl) (by kernel_rfl) ?_
              repeat (go_big_quiet_step (fail))
              refine wpQuiet_nil ?_
              rintro _ ⟨u, rfl⟩
              have K6 := u.property
              clear C1 C2 S0 hNE
              generalize u.val = W6 at K6 ⊢
              (try simp only [Exit.then])
              have r1 := K6.cell (K5.cell s1 (fun e => e)) (fun e => e)
              have r2 := K6.cell (K5.cell s2 (fun e => e)) (fun e => e)
              have r0 := K6.cell (K5.cell s0 (fun e => e)) (fun e => e)
              have rz := (K6.frozen (p := ⟨sb, 2, none⟩) (Nat.lt_of_lt_of_le (World.block_lt_of_cell? _ _ s2) K5.size) (fun e => e)).trans ((K5.frozen (p := ⟨sb, 2, none⟩) (World.block_lt_of_cell? _ _ s2) (fun e => e)).trans sz)
              have hje : j = pos (nmf nt z) m (k + 1) := pos_eq HP.out (by rw [← hpe.out]; exact hj1) hj2 (fun x h1 h2 => by rw [← hpe.out] at h1 ⊢; rw [hjs x h1 h2, ht.out]; rfl) HE.out
              have ec : encu (cut (nmf nt z) m k) = #[.agg #[.int .i64 t, .int .i64 (p : Int), .int .i64 ((j : Int) - (p : Int))]] := by
                unfold encu cut
                rw [← hpe.out, ← hje, ht.out]
                simp only [nmf]
                rw [Int.ofNat_sub hj1]
              have K7 : Keeps (fun _ => False) A (W6.setCell ⟨sb, 2, none⟩ (.int .i64 ((j : Int) - (p : Int)))) := ((K3.trans K5).trans K6).setCell (p := ⟨sb, 2, none⟩) (fun h => by have := hsb.out; simp at h; omega) _
              obtain ⟨fn, tmps, assign, body, hy, hRd⟩ := hY k _ hlt (hJ _ _ _ hJs K7)
              rw [ec] at hy
              have HJE := (show Hid _ from hje)
              have HS : Hid (Sv (Dz B1 B2 (some ⟨g, off, none⟩)) W A) := hS
              have hpj : p < j := by rw [hpe.out, hje]; exact pos_lt HP.out
              clear ec hje hS hjs hJs hcs' c1' c2' s0 s1 s2 sz hp
              gi_wp2
              refine hRd.mono ?_
              rintro e W8 (⟨rfl, hJ8, hk8⟩ | ⟨rfl, hJx8⟩)
              · gi_wp2
                go_roundw
                case rel => exact ⟨k + 1, by omega, by rw [← HJE.out], hJ8, Sv.trans (Sv.trans HS.out (Sv.of K7)) (hKp _ _ hk8)⟩
                case measure => simp [intOf]; omega
              · gi_wp2
                refine bodyPost_ret (results_none rfl _ _ _) rfl ?_
                exact ⟨⟨_, rfl⟩, .inr ⟨k + 1, by omega, by omega, hJx8⟩⟩
    · have hkM : k = M := by omega
      have hpI : ¬ ((pos (nmf nt z) m k : Nat) : Int) < (m : Int) := by rw [hkM, hM.2.1]; omega
      generalize pos (nmf nt z) m k = p at hpI ⊢
      gi_wp2
      go_end0
      exact ⟨⟨_, rfl⟩, .inl (hkM ▸ hJs)⟩
end Go.Proofs.Ytgfjhogogajbjab
