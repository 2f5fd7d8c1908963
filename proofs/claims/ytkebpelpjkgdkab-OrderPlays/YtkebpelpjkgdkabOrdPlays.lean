import Derived.Test.YtkebpelpjkgdkabPlays
import Derived.Test.YtkebpelpjkgdkabOpsOpen
namespace Go.Proofs.Ytkebpelpjkgdkab
open Go.RowKit Go.Maps

/-- Pairs of queues, all apart. -/
structure FS (w0 w : World) (ps : List ((Option Nat × Nat) × List Nat)) : Prop where
  pairs : ∀ p ∈ ps, Pair w p.1.1 p.1.2 p.2
  apart : ps.Pairwise (fun p r => Dj p.2 r.2)
  base : ∀ p ∈ ps, ∀ k ∈ p.2, w0.heap.size ≤ k
  keeps : Keeps (fun _ => False) w0 w

section
variable {w0 w w' : World} {ps : List ((Option Nat × Nat) × List Nat)}
theorem FS.perm (h : FS w0 w ps) {qs : List ((Option Nat × Nat) × List Nat)} (hp : ps.Perm qs) : FS w0 w qs :=
  ⟨fun p hp' => h.pairs p (hp.mem_iff.2 hp'), (hp.pairwise_iff (fun h => h.symm)).1 h.apart, fun p hp' => h.base p (hp.mem_iff.2 hp'), h.keeps⟩
theorem FS.turn {a b c d : (Option Nat × Nat) × List Nat} (h : FS w0 w [a, b, c, d]) : FS w0 w [b, c, d, a] :=
  h.perm (List.perm_append_comm (l₁ := [a]) (l₂ := [b, c, d]))
theorem FS.step {qo : Option Nat} {rb : Nat} {F F' : List Nat} (h : FS w0 w (((qo, rb), F) :: ps)) (hp : Pair w' qo rb F') (l : Left w w' F F') : FS w0 w' (((qo, rb), F') :: ps) := by
  obtain ⟨ha, hr⟩ := List.pairwise_cons.1 h.apart
  refine ⟨fun p hp' => ?_, List.pairwise_cons.2 ⟨fun p hp' => l.dj (ha p hp') (h.pairs p (by simp [hp'])).lt, hr⟩, fun p hp' => ?_, h.keeps.trans' l.keeps (fun _ _ e => e) (fun i hi e => by have := h.base ((qo, rb), F) (by simp) i e; omega)⟩
  · rcases List.mem_cons.1 hp' with rfl | hp'
    · exact hp
    · exact (h.pairs p (by simp [hp'])).keep l.keeps (fun k hk e => ha p hp' k e hk)
  · rcases List.mem_cons.1 hp' with rfl | hp'
    · intro k hk
      rcases l.old k hk with e | e
      · exact h.base ((qo, rb), F) (by simp) k e
      · have := h.keeps.size; omega
    · exact h.base p (by simp [hp'])
end

set_option maxHeartbeats 800000 in
set_option maxRecDepth 1000000 in
theorem ordPlays_walk (a : Option Addr) (len cap : Nat) (w : World) (hs : IsOps w a len) :
    Calls Try.prog 6 #[.slice a len cap] w fun e w' => e = .returned (.bool true) ∧ Below w.heap.size w w' := by
  go_enter Try.func6, Try.ntmps6
  go_wp2_with fail
  refine (head_any w).mono ?_
  rintro e w1 ⟨rfl, k1⟩
  go_wp2_with fail
  refine (new_any w1).mono ?_
  rintro e w2 ⟨rfl, q2, k2⟩
  have s2 := q2.lt w1.heap.size (by simp)
  have z1 := k1.size
  obtain ⟨pa, hpa⟩ : ∃ p, w1.heap.size = p := ⟨_, rfl⟩
  rw [hpa] at q2 s2 z1 ⊢
  go_wp2_with fail
  refine (new_any w2).mono ?_
  rintro e w3 ⟨rfl, q3, k3⟩
  have s3 := q3.lt w2.heap.size (by simp)
  obtain ⟨pb, hpb⟩ : ∃ p, w2.heap.size = p := ⟨_, rfl⟩
  rw [hpb] at q3 s2 s3 ⊢
  have q4 : QI (w3.alloc (.cells #[.slice none 0 0, .nilFunc, .nilFunc, .map none] 58)) w3.heap.size [] [w3.heap.size] := .inl ⟨rfl, fresh_alloc w3 _, rfl⟩
  have k4 : Keeps (fun _ => False) w3 (w3.alloc (.cells #[.slice none 0 0, .nilFunc, .nilFunc, .map none] 58)) := (Keeps.refl _ w3).alloc _
  have s4 := q4.lt w3.heap.size (by simp)
  obtain ⟨w4, hw4⟩ : ∃ w4, w3.alloc (.cells #[.slice none 0 0, .nilFunc, .nilFunc, .map none] 58) = w4 := ⟨_, rfl⟩
  rw [hw4] at q4 k4 s4
  obtain ⟨pc, hpc⟩ : ∃ p, w3.heap.size = p := ⟨_, rfl⟩
  rw [hpc] at q4 s3 s4
  go_wp2_with fail
  refine (rnew_any w4).mono ?_
  rintro e w5 ⟨rfl, r5, k5⟩
  have s5 := r5.lt w4.heap.size (by simp)
  obtain ⟨pra, hpra⟩ : ∃ p, w4.heap.size = p := ⟨_, rfl⟩
  rw [hpra] at r5 s4 s5 ⊢
  go_wp2_with fail
  refine (rnew_any w5).mono ?_
  rintro e w6 ⟨rfl, r6, k6⟩
  have s6 := r6.lt w5.heap.size (by simp)
  obtain ⟨prb, hprb⟩ : ∃ p, w5.heap.size = p := ⟨_, rfl⟩
  rw [hprb] at r6 s5 s6 ⊢
  go_wp2_with fail
  refine (rnew_any w6).mono ?_
  rintro e w7 ⟨rfl, r7, k7⟩
  have s7 := r7.lt w6.heap.size (by simp)
  obtain ⟨prc, hprc⟩ : ∃ p, w6.heap.size = p := ⟨_, rfl⟩
  rw [hprc] at r7 s6 s7 ⊢
  go_wp2_with fail
  refine (rnone_any w7).mono ?_
  rintro e w8 ⟨rfl, r8, k8⟩
  have s8 := r8.lt w7.heap.size (by simp)
  obtain ⟨prd, hprd⟩ : ∃ p, w7.heap.size = p := ⟨_, rfl⟩
  rw [hprd] at r8 s7 s8 ⊢
  clear hpa hpb hpc hpra hprb hprc hprd hw4
  have KB := ((k5.trans k6).trans k7).trans k8
  have KC := k4.trans KB
  have A8 := (q2.keep k3 (fun _ _ e => e)).keep KC (fun _ _ e => e)
  have B8 := q3.keep KC (fun _ _ e => e)
  have C8 := q4.keep KB (fun _ _ e => e)
  have RA8 := r5.keep ((k6.trans k7).trans k8) (fun _ _ e => e)
  have RB8 := r6.keep (k7.trans k8) (fun _ _ e => e)
  have RC8 := r7.keep k8 (fun _ _ e => e)
  have dj : ∀ x y : Nat, x ≠ y → Dj [x] [y] := fun x y h k hk hm => by simp at hk hm; omega
  have KK := ((k1.trans k2).trans k3).trans KC
  have fs : FS w w8 [((some pa, pra), [pa, pra]), ((some pb, prb), [pb, prb]), ((some pc, prc), [pc, prc]), ((none, prd), [prd])] := by
    refine ⟨?_, ?_, ?_, KK⟩
    · intro p hp
      simp at hp
      rcases hp with rfl | rfl | rfl | rfl
      · exact ⟨[], [], [pa], [pra], A8, RA8, dj _ _ (by omega), List.Perm.refl _, rfl⟩
      · exact ⟨[], [], [pb], [prb], B8, RB8, dj _ _ (by omega), List.Perm.refl _, rfl⟩
      · exact ⟨[], [], [pc], [prc], C8, RC8, dj _ _ (by omega), List.Perm.refl _, rfl⟩
      · exact r8
    · simp only [List.pairwise_cons, List.mem_cons, List.not_mem_nil, or_false, forall_eq_or_imp, forall_eq, List.Pairwise.nil, and_true, false_imp_iff, implies_true]
      refine ⟨⟨?_, ?_, ?_⟩, ⟨?_, ?_⟩, ?_⟩ <;> (intro k hk hm; simp at hk hm; omega)
    · intro p hp k hk
      simp at hp
      rcases hp with rfl | rfl | rfl | rfl <;> (simp at hk; omega)
  have hlen : len ≤ 9223372036854775807 := by
    rcases hs with h | ⟨_, _, _, _, h, _⟩ <;> omega
  have HS : Hid (IsOps w a len) := hs
  clear A8 B8 C8 RA8 RB8 RC8 dj KK KB KC q2 q3 q4 r5 r6 r7 r8 k1 k2 k3 k4 k5 k6 k7 k8 s2 s3 s4 s5 s6 s7 s8 z1 hs
  have qpa : ∀ p : Nat, qp (some p) = .pointer (some ⟨p, 0, none⟩) := fun _ => rfl
  have HP : Hid (∀ p : Nat, qp (some p) = .pointer (some ⟨p, 0, none⟩)) := qpa
  clear qpa
  go_wp2_with fail
  go_loopw [11] (fun iv wr => ∃ (i : Nat) (Fa Fb Fc Fd : List Nat), i ≤ len ∧ iv = .int .i64 i ∧ FS w wr [((some pa, pra), Fa), ((some pb, prb), Fb), ((some pc, prc), Fc), ((none, prd), Fd)]) (fun iv _ => len - (intOf iv).toNat)
  case atStart => exact ⟨0, _, _, _, _, Nat.zero_le _, rfl, fs⟩
  case round =>
    obtain ⟨i, Fa, Fb, Fc, Fd, hi, rfl, fr⟩ := hrel
    clear fs
    by_cases hlt : i < len
    · have hiI : (i : Int) < (len : Int) := by omega
      obtain ⟨b, off, rfl, hb, _, each⟩ : ∃ b off, a = some ⟨b, off, none⟩ ∧ b < w.heap.size ∧ len ≤ 9223372036854775807 ∧ ∀ i, i < len → ∃ k q x y : Int, I64 x ∧ I64 y ∧ w.cell? ⟨b, off + i * 4, none⟩ = some (.int .i64 k) ∧ w.cell? ⟨b, off + i * 4 + 1, none⟩ = some (.int .i64 q) ∧ w.cell? ⟨b, off + i * 4 + 2, none⟩ = some (.int .i64 x) ∧ w.cell? ⟨b, off + i * 4 + 3, none⟩ = some (.int .i64 y) := HS.out.resolve_left (by omega)
      obtain ⟨k, q, x, y, hx, hy, d0, d1, d2, d3⟩ := each i hlt
      have c0 := fr.keeps.cell d0 (fun e => e)
      have c1 := fr.keeps.cell d1 (fun e => e)
      have c2 := fr.keeps.cell d2 (fun e => e)
      have c3 := fr.keeps.cell d3 (fun e => e)
      clear each d0 d1 d2 d3
      by_cases h0 : q = 0
      · subst h0
        go_wp2_with fail
        have pp : Pair wr (some pa) pra Fa := (fr).pairs ((some pa, pra), Fa) (List.mem_cons_self ..)
        have PL : Calls Try.prog 28 #[.pointer (some ⟨pa, 0, none⟩), .pointer (some ⟨pra, 0, none⟩), .agg #[.int .i64 k, .int .i64 0, .int .i64 x, .int .i64 y]] wr fun e w' => e = .returned (.bool true) ∧ ∃ F', Pair w' (some pa) pra F' ∧ Left wr w' Fa F' := plays_any (qo := some pa) (rb := pra) (F := Fa) pp k 0 x y hx hy
        refine PL.mono ?_
        rintro e w9 ⟨rfl, F', pr, lf⟩
        have f9 := ((fr).step pr lf)
        clear pp PL c0 c1 c2 c3
        go_wp2_with fail
        go_roundw
        case rel => exact ⟨i + 1, _, _, _, _, by omega, by go_num, f9⟩
        case measure => simp [intOf]; omega
      have n0 : (q == 0) = false := by simp [h0]
      by_cases h1 : q = 1
      · subst h1
        go_wp2_with fail
        have pp : Pair wr (some pb) prb Fb := (fr.turn).pairs ((some pb, prb), Fb) (List.mem_cons_self ..)
        have PL : Calls Try.prog 28 #[.pointer (some ⟨pb, 0, none⟩), .pointer (some ⟨prb, 0, none⟩), .agg #[.int .i64 k, .int .i64 1, .int .i64 x, .int .i64 y]] wr fun e w' => e = .returned (.bool true) ∧ ∃ F', Pair w' (some pb) prb F' ∧ Left wr w' Fb F' := plays_any (qo := some pb) (rb := prb) (F := Fb) pp k 1 x y hx hy
        refine PL.mono ?_
        rintro e w9 ⟨rfl, F', pr, lf⟩
        have f9 := ((fr.turn).step pr lf).turn.turn.turn
        clear pp PL c0 c1 c2 c3
        go_wp2_with fail
        go_roundw
        case rel => exact ⟨i + 1, _, _, _, _, by omega, by go_num, f9⟩
        case measure => simp [intOf]; omega
      have n1 : (q == 1) = false := by simp [h1]
      by_cases h2 : q = 2
      · subst h2
        go_wp2_with fail
        have pp : Pair wr (some pc) prc Fc := (fr.turn.turn).pairs ((some pc, prc), Fc) (List.mem_cons_self ..)
        have PL : Calls Try.prog 28 #[.pointer (some ⟨pc, 0, none⟩), .pointer (some ⟨prc, 0, none⟩), .agg #[.int .i64 k, .int .i64 2, .int .i64 x, .int .i64 y]] wr fun e w' => e = .returned (.bool true) ∧ ∃ F', Pair w' (some pc) prc F' ∧ Left wr w' Fc F' := plays_any (qo := some pc) (rb := prc) (F := Fc) pp k 2 x y hx hy
        refine PL.mono ?_
        rintro e w9 ⟨rfl, F', pr, lf⟩
        have f9 := ((fr.turn.turn).step pr lf).turn.turn
        clear pp PL c0 c1 c2 c3
        go_wp2_with fail
        go_roundw
        case rel => exact ⟨i + 1, _, _, _, _, by omega, by go_num, f9⟩
        case measure => simp [intOf]; omega
      have n2 : (q == 2) = false := by simp [h2]
      by_cases h3 : q = 3
      · subst h3
        go_wp2_with fail
        have pp : Pair wr (none) prd Fd := (fr.turn.turn.turn).pairs ((none, prd), Fd) (List.mem_cons_self ..)
        have PL : Calls Try.prog 28 #[.pointer none, .pointer (some ⟨prd, 0, none⟩), .agg #[.int .i64 k, .int .i64 3, .int .i64 x, .int .i64 y]] wr fun e w' => e = .returned (.bool true) ∧ ∃ F', Pair w' (none) prd F' ∧ Left wr w' Fd F' := plays_any (qo := none) (rb := prd) (F := Fd) pp k 3 x y hx hy
        refine PL.mono ?_
        rintro e w9 ⟨rfl, F', pr, lf⟩
        have f9 := ((fr.turn.turn.turn).step pr lf).turn
        clear pp PL c0 c1 c2 c3
        go_wp2_with fail
        go_roundw
        case rel => exact ⟨i + 1, _, _, _, _, by omega, by go_num, f9⟩
        case measure => simp [intOf]; omega
      have n3 : (q == 3) = false := by simp [h3]
      clear h0 h1 h2 h3
      go_wp2_with fail
      go_roundw
      case rel => exact ⟨i + 1, _, _, _, _, by omega, by go_num, fr⟩
      case measure => simp [intOf]; omega
    · have hiI : ¬ (i : Int) < (len : Int) := by omega
      go_wp2
      go_ret
      exact ⟨rfl, fr.keeps.below (Nat.le_refl _) (fun _ _ e => e)⟩

end Go.Proofs.Ytkebpelpjkgdkab
