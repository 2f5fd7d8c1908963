import Derived.Test.YtgfjhogogajbjabSchR4
namespace Go.Proofs.Ytgfjhogogajbjab
open Go.RowKit

theorem lc_last {f : Nat → Int} {m M : Nat} (h0 : 0 < M) : lc f m (idx M M) = cut f m (M - 1) := by
  obtain ⟨j, rfl⟩ : ∃ j, M = j + 1 := ⟨M - 1, by omega⟩
  rw [idx_succ (by omega), lc_snoc]
  simp
theorem many_uniq {f : Nat → Int} {m M M' : Nat} (h : Many f m M) (h' : Many f m M') : M = M' := by
  rcases Nat.lt_trichotomy M M' with e | e | e
  · have := h'.2.2 M e; have := h.2.1; omega
  · exact e
  · have := h.2.2 M' e; have := h'.2.1; omega
/-- What Tail answers. -/
def TailIs (n : Int) (m : Nat) (z : Nat → Int) (c : Cu) (er : Int) : Prop :=
  (rfz n m = 0 ∧ er = 0 ∧ ∃ M, Many (nmf n.toNat z) m M ∧ c = lc (nmf n.toNat z) m (idx M M)) ∨ (rfz n m ≠ 0 ∧ c = ⟨0, 0, 0⟩ ∧ er = rfz n m)
theorem TailIs.uniq {n : Int} {m : Nat} {z : Nat → Int} {c c' : Cu} {er er' : Int} (h : TailIs n m z c er) (h' : TailIs n m z c' er') : c = c' ∧ er = er' := by
  rcases h with ⟨h0, rfl, M, hM, rfl⟩ | ⟨h0, rfl, rfl⟩ <;> rcases h' with ⟨h0', rfl, M', hM', rfl⟩ | ⟨h0', rfl, rfl⟩
  · rw [many_uniq hM hM']; exact ⟨rfl, rfl⟩
  · exact absurd h0 h0'
  · exact absurd h0' h0
  · exact ⟨rfl, rfl⟩
theorem LeastIs.uniq {n : Int} {m : Nat} {z : Nat → Int} {v v' er er' : Int} (h : LeastIs n m z v er) (h' : LeastIs n m z v' er') : v = v' ∧ er = er' := by
  rcases h with ⟨h0, rfl, R, hR, rfl⟩ | ⟨h0, rfl, rfl⟩ <;> rcases h' with ⟨h0', rfl, R', hR', rfl⟩ | ⟨h0', rfl, rfl⟩
  · rw [hR.uniq hR']; exact ⟨rfl, rfl⟩
  · exact absurd h0 h0'
  · exact absurd h0' h0
  · exact ⟨rfl, rfl⟩
theorem FairIs.uniq {n : Int} {m : Nat} {z : Nat → Int} {k : Int} {b b' : Bool} {er er' : Int} (h : FairIs n m z k b er) (h' : FairIs n m z k b' er') : b = b' ∧ er = er' := by
  rcases h with ⟨h0, hk, rfl, rfl⟩ | ⟨h0, hk, rfl, R, hR, rfl⟩ | ⟨h0, rfl, rfl⟩ <;> rcases h' with ⟨h0', hk', rfl, rfl⟩ | ⟨h0', hk', rfl, R', hR', rfl⟩ | ⟨h0', rfl, rfl⟩
  · exact ⟨rfl, rfl⟩
  · omega
  · exact absurd h0 h0'
  · omega
  · rw [hR.uniq hR']; exact ⟨rfl, rfl⟩
  · exact absurd h0 h0'
  · exact absurd h0' h0
  · exact absurd h0' h0
  · exact ⟨rfl, rfl⟩
theorem tail_gen {w : World} {a : Option Addr} {m : Nat} {z : Nat → Int} (h : NL w a m z) (cap : Nat) (n : Int) :
    Calls Try.prog 17 #[.int .i64 n, .slice a m cap] w fun e w' => ∃ (c : Cu) (er : Int), e = .returned (.tuple #[.agg #[.int .i64 c.th, .int .i64 (c.fr : Int), .int .i64 (c.len : Int)], .int .i64 er]) ∧ Keeps (fun _ => False) w w' ∧ TailIs n m z c er := by
  by_cases hz : rfz n m = 0
  · have := rfz_zero hz
    obtain ⟨nt, rfl⟩ : ∃ nt : Nat, n = (nt : Int) := ⟨n.toNat, by omega⟩
    obtain ⟨M, hM⟩ := many (nmf nt z) m
    refine (tail_any h cap (nt := nt) (by omega) (by omega) hM).mono ?_
    rintro e w' ⟨rfl, k⟩
    exact ⟨_, _, rfl, k, .inl ⟨hz, rfl, M, hM, rfl⟩⟩
  · refine (tail_no w n a m cap hz).mono ?_
    rintro e w' ⟨rfl, k⟩
    exact ⟨⟨0, 0, 0⟩, _, rfl, k, .inr ⟨hz, rfl, rfl⟩⟩

theorem owns_shape {w : World} {base : Nat} {e : TypeId} {size : Nat} {v : Value} {n : Nat} {xs : List Value} (h : w.ownsRow base e size v n xs) : ∃ a cap, v = .slice a n cap := by
  rcases h.2 with ⟨rfl, rfl⟩ | ⟨g, c3, cur, rfl, _⟩
  · exact ⟨_, _, rfl⟩
  · exact ⟨_, _, rfl⟩

set_option maxHeartbeats 3200000 in
set_option maxRecDepth 1000000 in
theorem rTail_gen {w : World} {a : Option Addr} {m : Nat} {z : Nat → Int} (h : NL w a m z) (cap : Nat) (n : Int) :
    Calls Try.prog 18 #[.int .i64 n, .slice a m cap] w fun e w' => ∃ (c : Cu) (er : Int), e = .returned (.tuple #[.agg #[.int .i64 c.th, .int .i64 (c.fr : Int), .int .i64 (c.len : Int)], .int .i64 er]) ∧ Keeps (fun _ => False) w w' ∧ TailIs n m z c er := by
  have hf := fun (w : World) => refused_any w n a m cap
  have K0 : ∀ o, Keeps (fun _ => False) w (w.alloc o) := fun o => (Keeps.refl _ w).alloc o
  by_cases hz : rfz n m = 0
  · have hzm := rfz_zero hz
    obtain ⟨nt, rfl⟩ : ∃ nt : Nat, n = (nt : Int) := ⟨n.toNat, by omega⟩
    rw [hz] at hf
    obtain ⟨M, hM⟩ := many (nmf nt z) m
    have hMm := hM.1
    have hs := fun o => rstretches_any (cap := cap) (h.new (K0 o)) (nt := nt) (by omega) (by omega) hM
    have HT : ∀ c, c = lc (nmf nt z) m (idx M M) → TailIs (nt : Int) m z c 0 := fun c e => .inl ⟨hz, rfl, M, hM, e⟩
    have HTH := (show Hid _ from HT)
    clear hz HT h
    by_cases h0 : M = 0
    · subst h0
      go_enter Try.func18, Try.ntmps18
      go_wp2_with (first | (go_at_call 25; refine (hf _).mono ?_; rintro e w9 ⟨rfl, hw9⟩; have hw9 := hw9.symm; subst hw9) | (go_at_call 27; refine (hs _).mono ?_; rintro e w3 ⟨v, rfl, ho, k3⟩; obtain ⟨a3, cap3, rfl⟩ := owns_shape ho; have cb := CA.keeps (S := fun _ => False) (A := w.alloc (.cells #[.int .i64 0, .int .i64 0, .int .i64 0] 51)) (b := w.heap.size) (c := ⟨0, 0, 0⟩) ⟨by simp, by simp, by simp, by simp, by simp, by simp⟩ k3 (fun e => e); have b0 := cb.c0; have b1 := cb.c1; have b2 := cb.c2; have y0 := cb.z0; have y1 := cb.z1; have y2 := cb.z2; simp only at b0 b1 b2))
      have hp := cb.put ⟨-1, 0, 0⟩
      have k0 := hp.c0
      have k1 := hp.c1
      have k2 := hp.c2
      unfold put3 at k0 k1 k2
      (try simp only [show ((0 : Nat) : Int) = 0 from rfl] at k0 k1 k2)
      refine bodyPost_ret (v := .tuple #[.agg #[.int .i64 (-1), .int .i64 ((0 : Nat) : Int), .int .i64 ((0 : Nat) : Int)], .int .i64 0]) (by simp [results, Try.f18, go_sem, k0, k1, k2]) rfl ?_
      exact ⟨⟨-1, 0, 0⟩, 0, rfl, ((K0 _).trans k3).trans' (put3_keeps w3 w.heap.size ⟨-1, 0, 0⟩) (fun _ _ e => e) (fun i hi e => by omega), HTH.out _ rfl⟩
    · have hl := lc_last (f := nmf nt z) (m := m) (M := M) (by omega)
      obtain ⟨c, hc⟩ : ∃ c, Hid (c = cut (nmf nt z) m (M - 1)) := ⟨_, rfl⟩
      have hT := HTH.out c (by rw [hl, hc.out])
      have hcell : ∀ {w3 : World} {g cap3 : Nat}, w3.ownsRow (w.heap.size + 1) 51 3 (.slice (some ⟨g, 0, none⟩) M cap3) M (fl ucells ((List.range M).map (fun j => cut (nmf nt z) m j))) → w3.cell? ⟨g, (M - 1) * 3, none⟩ = some (.int .i64 c.th) ∧ w3.cell? ⟨g, (M - 1) * 3 + 1, none⟩ = some (.int .i64 (c.fr : Int)) ∧ w3.cell? ⟨g, (M - 1) * 3 + 2, none⟩ = some (.int .i64 (c.len : Int)) := fun {w3 g cap3} ho => by
        have hlen : ((List.range M).map (fun j => cut (nmf nt z) m j)).length = M := by simp
        have := cut_cell (L := (List.range M).map (fun j => cut (nmf nt z) m j)) (by rw [hlen]; exact ho) (i := M - 1) (by rw [hlen]; omega)
        have e : ((List.range M).map (fun j => cut (nmf nt z) m j)).getD (M - 1) cu0 = c := by
          rw [hc.out]; simp [List.getD_eq_getElem?_getD, show M - 1 < M by omega]
        rwa [e] at this
      obtain ⟨M1, hM1⟩ : ∃ M1, M = M1 + 1 := ⟨M - 1, by omega⟩
      subst hM1
      simp only [Nat.add_sub_cancel] at hcell
      clear hl
      go_enter Try.func18, Try.ntmps18
      go_wp2_with (first | (go_at_call 25; refine (hf _).mono ?_; rintro e w9 ⟨rfl, hw9⟩; have hw9 := hw9.symm; subst hw9) | (go_at_call 27; refine (hs _).mono ?_; rintro e w3 ⟨v, rfl, ho, k3⟩; obtain ⟨g, cap3, rfl⟩ := ownsRow_succ ho; have hcc := hcell (by simpa using ho); obtain ⟨x0, x1, x2⟩ := hcc; have cb := CA.keeps (S := fun _ => False) (A := w.alloc (.cells #[.int .i64 0, .int .i64 0, .int .i64 0] 51)) (b := w.heap.size) (c := ⟨0, 0, 0⟩) ⟨by simp, by simp, by simp, by simp, by simp, by simp⟩ k3 (fun e => e); have b0 := cb.c0; have b1 := cb.c1; have b2 := cb.c2; have y0 := cb.z0; have y1 := cb.z1; have y2 := cb.z2; simp only at b0 b1 b2))
      have hp := cb.put c
      have k0 := hp.c0
      have k1 := hp.c1
      have k2 := hp.c2
      unfold put3 at k0 k1 k2
      (try simp only [show ((0 : Nat) : Int) = 0 from rfl] at k0 k1 k2)
      refine bodyPost_ret (v := .tuple #[.agg #[.int .i64 c.th, .int .i64 (c.fr : Int), .int .i64 (c.len : Int)], .int .i64 0]) (by simp [results, Try.f18, go_sem, k0, k1, k2]) rfl ?_
      exact ⟨c, 0, rfl, ((K0 _).trans k3).trans' (put3_keeps w3 w.heap.size c) (fun _ _ e => e) (fun i hi e => by omega), hT⟩
  · have hzb : (rfz n m != 0) = true := by simpa using hz
    have HZ := (show Hid _ from hz)
    clear hz h
    obtain ⟨r, hr⟩ : ∃ r, Hid (r = rfz n m) := ⟨_, rfl⟩
    rw [← hr.out] at hf hzb
    go_enter Try.func18, Try.ntmps18
    go_wp2_with ((go_at_call 25; refine (hf _).mono ?_; rintro e w9 ⟨rfl, hw9⟩; have hw9 := hw9.symm; subst hw9))
    refine bodyPost_ret (v := .tuple #[.agg #[.int .i64 0, .int .i64 ((0 : Nat) : Int), .int .i64 ((0 : Nat) : Int)], .int .i64 r]) (by simp [results, Try.f18, go_sem]) rfl ?_
    exact ⟨⟨0, 0, 0⟩, r, rfl, K0 _, .inr ⟨HZ.out, rfl, hr.out⟩⟩
end Go.Proofs.Ytgfjhogogajbjab
