import Derived.Test.YtdeiochjkbogpaaLocLX
import Derived.Test.YtdeiochjkbogpaaLocLZ
import Derived.Test.YtdeiochjkbogpaaLocGE
import Derived.Test.YtdeiochjkbogpaaLocGN
namespace Go.Proofs.Ytdeiochjkbogpaa
open Go.RowKit
theorem upd_le {c : Nat → Cl} {k : Nat} {x : Cl} (h : ∀ k, k < 4 → (c k).at_ ≤ 4) (hx : x.at_ ≤ 4) : ∀ j, j < 4 → (upd c k x j).at_ ≤ 4 := fun j hj => by
  by_cases e : j = k
  · rw [e, upd_self]; exact hx
  · rw [upd_other e]; exact h j hj
section
variable {Wb W W' : World} {fb rb wb mb n k N t : Nat} {s s' : Ws} {m m' : Mm} {c : Nat → Cl} {want : List Vl} {was : List (List Vl)} {mk : Int} {ρ ρ' : Nat → Nat} {fv : Nat → Value} {ws : List Value}
theorem Bg.more (h : Bg s m n mk t) : Bg s m n mk (t + 1) := ⟨by have := h.a_; omega, by have := h.l_; omega, by have := h.c_; omega, by have := h.n_; omega, h.m0, by have := h.m1; omega⟩
/-- A step that is none, or turns a client alone. -/
theorem Sp.turn {n' : Nat} {c' : Nat → Cl} {mk' : Int} (h : Fl s m c was 4) (hw : want = s.com m) (hN : s.objs.length = N) (hN' : s'.objs.length = s.objs.length) (hG : GX Wb (fun _ => False) fb rb wb mb s' m' n' c' want was mk' W') (hF : Fl s' m' c' was 4) (hB : Bg s' m' n' mk' t) (h4 : ∀ k, k < 4 → (c' k).at_ ≤ 4) : Sp Wb fb rb wb mb N t was W' := by
  have e : want = s'.com m' := hw.trans (h.com_eq hF).symm
  exact ⟨s', m', n', c', want, mk', hG, by rw [e]; exact hF.push, e, hB, hN'.trans hN, h4⟩
theorem GX.of_acs {c' : Nat → Cl} {fv' : Nat → Value} {n' : Nat} (hk : Keeps (fun _ => False) Wb W) (z : ∀ k, k < Wb.heap.size → ρ k = 0) (R' : Rs W' ρ' 1 2 7 rb wb mb s' m' n') (F' : FL W' ρ' fb rb fv' c' want was ws mk) (x : Ext Sf W W' ρ ρ') : GX Wb (fun _ => False) fb rb wb mb s' m' n' c' want was mk W' :=
  ⟨ρ', fv', ws, R', F', fun _ e => e.elim, hk.trans' x.keeps (fun _ _ e => e) (fun i hi e => by rw [z i hi] at e; rcases e with ((e | e) | e) | e <;> omega), fun i hi => (x.old i (Nat.lt_of_lt_of_le hi hk.size)).trans (z i hi)⟩
theorem GX.of_fl {c' : Nat → Cl} {fv' : Nat → Value} (R : Rs W ρ 1 2 7 rb wb mb s m n) (hf : ρ fb = 8) (hk : Keeps (fun _ => False) Wb W) (z : ∀ k, k < Wb.heap.size → ρ k = 0) (F' : FL W' ρ fb rb fv' c' want was ws mk) (K : Keeps (fun i => i = fb) W W') : GX Wb (fun _ => False) fb rb wb mb s m n c' want was mk W' := by
  have x : Ext (fun i => 8 ≤ i) W W' ρ ρ := ⟨K.mono (fun i _ e => by rw [e, hf]; exact Nat.le_refl _), fun _ _ => rfl, fun i hi => .inr (R.st.bnd i hi)⟩
  refine ⟨ρ, fv', ws, R.beside x (fun i hi => R.st.bnd i (Nat.le_trans K.size hi)), F', fun _ e => e.elim, hk.trans' K (fun _ _ e => e) (fun i hi e => ?_), z⟩
  have := z i hi
  rw [e, hf] at this
  omega
set_option maxHeartbeats 1600000 in
set_option maxRecDepth 1000000 in
theorem steps1 (hk : k < 4) (hG : GX Wb (fun _ => False) fb rb wb mb s m n c want was mk W) (hat : (c k).at_ = 1) {cl act ob : Int} {P : World → Prop} (hs : ∀ W', Keeps (fun _ => False) W W' → Calls Try.prog 23 #[.pointer (some ⟨fb, 0, none⟩), .int .i64 (k : Int)] W' fun e w' => e = .returned (.bool true) ∧ P w') :
    Calls Try.prog 8 #[.pointer (some ⟨fb, 0, none⟩), .int .i64 (k : Int), .agg #[.int .i64 cl, .int .i64 act, .int .i64 ob]] W fun e w' => e = .returned (.bool true) ∧ P w' := by
  have k1 : decide ((k : Int) < 4) = true := by simp; omega
  have k2 : decide (k < 4) = true := by simp [hk]
  have k3 : (0 : Int) ≤ (k : Int) := by omega
  have k4 : (k : Int) < 4 := by omega
  have c0 : ∀ ob, (W.alloc ob).cell? ⟨fb, 1 + k * 9, none⟩ = some (.int .i64 1) := fun ob => by
    have h := (hG.cc hk).c0
    rw [hat] at h
    exact ((Keeps.refl (fun _ => False) W).alloc ob).cell h id
  have lF := hG.cells.2.2.1
  have nf : ¬ fb = W.heap.size := by omega
  have nf' : ¬ W.heap.size = fb := by omega
  clear hG hat
  go_enter Try.func8, Try.ntmps8
  go_wp2_with ((go_at_call 23; (with_reducible refine (hs _ ((Keeps.refl _ W).alloc _)).mono ?_); rintro e w' ⟨rfl, hp⟩))
  go_ret
  exact ⟨rfl, hp⟩
set_option maxHeartbeats 1600000 in
set_option maxRecDepth 1000000 in
theorem steps3b (hk : k < 4) (hG : GX Wb (fun _ => False) fb rb wb mb s m n c want was mk W) (hat : (c k).at_ = 3) {cl act ob : Int} {P : World → Prop} (ha : (act.tmod 4 == 0) = false) (hs : ∀ W', Keeps (fun _ => False) W W' → Calls Try.prog 24 #[.pointer (some ⟨fb, 0, none⟩), .int .i64 (k : Int)] W' fun e w' => e = .returned (.bool true) ∧ P w') :
    Calls Try.prog 8 #[.pointer (some ⟨fb, 0, none⟩), .int .i64 (k : Int), .agg #[.int .i64 cl, .int .i64 act, .int .i64 ob]] W fun e w' => e = .returned (.bool true) ∧ P w' := by
  have k1 : decide ((k : Int) < 4) = true := by simp; omega
  have k2 : decide (k < 4) = true := by simp [hk]
  have k3 : (0 : Int) ≤ (k : Int) := by omega
  have k4 : (k : Int) < 4 := by omega
  have c0 : ∀ ob, (W.alloc ob).cell? ⟨fb, 1 + k * 9, none⟩ = some (.int .i64 3) := fun ob => by
    have h := (hG.cc hk).c0
    rw [hat] at h
    exact ((Keeps.refl (fun _ => False) W).alloc ob).cell h id
  have lF := hG.cells.2.2.1
  have nf : ¬ fb = W.heap.size := by omega
  have nf' : ¬ W.heap.size = fb := by omega
  clear hG hat
  go_enter Try.func8, Try.ntmps8
  go_wp2_with ((go_at_call 24; (with_reducible refine (hs _ ((Keeps.refl _ W).alloc _)).mono ?_); rintro e w' ⟨rfl, hp⟩))
  go_ret
  exact ⟨rfl, hp⟩
set_option maxHeartbeats 1600000 in
set_option maxRecDepth 1000000 in
theorem steps4k (hk : k < 4) (hG : GX Wb (fun _ => False) fb rb wb mb s m n c want was mk W) (hat : (c k).at_ = 4) {cl act ob : Int} {P : World → Prop} (ha : (act.tmod 4 == 1) = true) (hs : ∀ W', Keeps (fun _ => False) W W' → Calls Try.prog 25 #[.pointer (some ⟨fb, 0, none⟩), .int .i64 (k : Int), .int .i64 11] W' fun e w' => e = .returned (.bool true) ∧ P w') :
    Calls Try.prog 8 #[.pointer (some ⟨fb, 0, none⟩), .int .i64 (k : Int), .agg #[.int .i64 cl, .int .i64 act, .int .i64 ob]] W fun e w' => e = .returned (.bool true) ∧ P w' := by
  have k1 : decide ((k : Int) < 4) = true := by simp; omega
  have k2 : decide (k < 4) = true := by simp [hk]
  have k3 : (0 : Int) ≤ (k : Int) := by omega
  have k4 : (k : Int) < 4 := by omega
  have c0 : ∀ ob, (W.alloc ob).cell? ⟨fb, 1 + k * 9, none⟩ = some (.int .i64 4) := fun ob => by
    have h := (hG.cc hk).c0
    rw [hat] at h
    exact ((Keeps.refl (fun _ => False) W).alloc ob).cell h id
  have lF := hG.cells.2.2.1
  have nf : ¬ fb = W.heap.size := by omega
  have nf' : ¬ W.heap.size = fb := by omega
  clear hG hat
  go_enter Try.func8, Try.ntmps8
  go_wp2_with ((go_at_call 25; (with_reducible refine (hs _ ((Keeps.refl _ W).alloc _)).mono ?_); rintro e w' ⟨rfl, hp⟩))
  go_ret
  exact ⟨rfl, hp⟩
set_option maxHeartbeats 1600000 in
set_option maxRecDepth 1000000 in
theorem steps4c (hk : k < 4) (hG : GX Wb (fun _ => False) fb rb wb mb s m n c want was mk W) (hat : (c k).at_ = 4) {cl act ob : Int} {P : World → Prop} (ha : (act.tmod 4 == 1) = false) (hb : (act.tmod 4 == 2) = false) (hs : ∀ W', Keeps (fun _ => False) W W' → Calls Try.prog 25 #[.pointer (some ⟨fb, 0, none⟩), .int .i64 (k : Int), .int .i64 12] W' fun e w' => e = .returned (.bool true) ∧ P w') :
    Calls Try.prog 8 #[.pointer (some ⟨fb, 0, none⟩), .int .i64 (k : Int), .agg #[.int .i64 cl, .int .i64 act, .int .i64 ob]] W fun e w' => e = .returned (.bool true) ∧ P w' := by
  have k1 : decide ((k : Int) < 4) = true := by simp; omega
  have k2 : decide (k < 4) = true := by simp [hk]
  have k3 : (0 : Int) ≤ (k : Int) := by omega
  have k4 : (k : Int) < 4 := by omega
  have c0 : ∀ ob, (W.alloc ob).cell? ⟨fb, 1 + k * 9, none⟩ = some (.int .i64 4) := fun ob => by
    have h := (hG.cc hk).c0
    rw [hat] at h
    exact ((Keeps.refl (fun _ => False) W).alloc ob).cell h id
  have lF := hG.cells.2.2.1
  have nf : ¬ fb = W.heap.size := by omega
  have nf' : ¬ W.heap.size = fb := by omega
  clear hG hat
  go_enter Try.func8, Try.ntmps8
  go_wp2_with ((go_at_call 25; (with_reducible refine (hs _ ((Keeps.refl _ W).alloc _)).mono ?_); rintro e w' ⟨rfl, hp⟩))
  go_ret
  exact ⟨rfl, hp⟩
/-- One access of client k. -/
theorem steps_g (hG : GX Wb (fun _ => False) fb rb wb mb s m n c want was mk W) (hF : Fl s m c was 4) (hw : want = s.com m) (hB : Bg s m n mk t) (hN : s.objs.length = N) (hN1 : 1 ≤ N) (ht : t < 12000) (hws : was.length ≤ 1000000) (hwl : ∀ i, i < was.length → (was.getD i []).length = N) (h4 : ∀ k, k < 4 → (c k).at_ ≤ 4) (hk : k < 4) {cl act ob : Int} :
    Calls Try.prog 8 #[.pointer (some ⟨fb, 0, none⟩), .int .i64 (k : Int), .agg #[.int .i64 cl, .int .i64 act, .int .i64 ob]] W fun e w' => e = .returned (.bool true) ∧ Sp Wb fb rb wb mb N (t + 1) was w' := by
  have hwN : want.length = N := by rw [hw, com_len]; exact hN
  have hn : n + 3 ≤ 2499999999999 := by have := hB.n_; omega
  obtain ⟨p1, p2, p3⟩ := hF.hp k hk
  have h80 := hF.iv.no
  have hl7 : (c k).held.length ≤ 1000000 := by
    have : (c k).held.length ≤ s.objs.length := nodup_lt p2 p3
    omega
  have hl8 : (c k).put.length ≤ 1000000 := by omega
  have hcase : (c k).at_ = 0 ∨ (c k).at_ = 1 ∨ (c k).at_ = 2 ∨ (c k).at_ = 3 ∨ (c k).at_ = 4 := by have := h4 k hk; omega
  have hG0 := hG
  obtain ⟨ρ, fv, ws, R, F, q, kk, z⟩ := hG
  have rest : ∀ w' {fv' : Nat → Value}, FL w' ρ fb rb fv' (upd c k { c k with at_ := 0 }) want was ws mk → Keeps (fun i => i = fb) W w' → Sp Wb fb rb wb mb N (t + 1) was w' := fun w' _ F' K =>
    Sp.turn hF hw hN rfl (GX.of_fl R F.ff.rf kk z F' K) (hF.rest hk rfl rfl rfl rfl) hB.more (upd_le h4 (Nat.zero_le _))
  rcases hcase with hat | hat | hat | hat | hat
  · by_cases a1 : ob < 0 ∨ (¬ ob < 0 ∧ (want.length : Int) ≤ ob) ∨ (¬ ob < 0 ∧ ¬ (want.length : Int) ≤ ob ∧ ∃ x, x ∈ (c k).held ∧ (x : Int) = ob)
    · refine (steps0a hk F hat hl7 a1).mono ?_
      rintro e w' ⟨rfl, K⟩
      exact ⟨rfl, Sp.turn hF hw hN rfl (hG0.new K) hF hB.more h4⟩
    · obtain ⟨x, rfl⟩ : ∃ x : Nat, ob = (x : Int) := ⟨ob.toNat, by omega⟩
      have hx : x < want.length := by omega
      have hxm : x ∉ (c k).held := fun e => a1 (.inr (.inr ⟨by omega, by omega, x, e, rfl⟩))
      have hxo : x < s.objs.length := by omega
      refine (steps0b (lc := s.at_ m x) hk R F (by omega) hat hl7 ⟨hF.h1, hws⟩ hx hxm (fun ho hd => (rk_load hF hB hk hxo hxm ho hd).2.1)).mono ?_
      rintro e w' ⟨er, d, nn, ρ', s', m1, m', n', rfl, ho, hd, R', F', X⟩
      obtain ⟨rfl, _, hF', hB', ho'⟩ := rk_load hF hB hk hxo hxm ho hd
      exact ⟨rfl, Sp.turn hF hw hN ho' (GX.of_acs kk z R' F' X) hF' hB' (upd_le h4 (show 1 ≤ 4 by omega))⟩
  · obtain ⟨q1, q2, _, _, _⟩ := hF.c1 k hk hat
    refine steps1 hk hG0 hat (fun W' K => ?_)
    refine (status_g (hG0.new K) hk (by omega) (ow := (s.lo (c k).loc).owner) rfl q2 q1 (by omega) hws (fun i hi => by rw [hwN]; exact hwl i hi) (fun ho hd => ?_)).mono ?_
    · obtain ⟨e1, e2, e3, hF', _⟩ := rk_stat hF hk hat ho hd
      obtain ⟨a1, a2, a3, a4⟩ := rk_seen hF' hk hat (hw.trans (hF.com_eq hF').symm)
      exact ⟨e1, e2, e3, by rw [e3]; exact a1, a2, a3, by rw [e3]; exact a4⟩
    · rintro e w' ⟨rfl, d, nn, m1, m', n', ho, hd, G'⟩
      obtain ⟨_, _, e3, hF', hl'⟩ := rk_stat hF hk hat ho hd
      refine ⟨rfl, Sp.turn hF hw hN rfl G' (hF'.status hk hat rfl rfl rfl rfl rfl rfl rfl ?_) ⟨by have := hB.a_; omega, by have := hB.l_; omega, by have := hB.c_; omega, by have := hB.n_; have := opn_le ho; omega, hB.m0, by have := hB.m1; omega⟩ (upd_le h4 ?_)⟩
      · show (nxt _ _ _ = 4 ∧ _) ∨ (nxt _ _ _ = 2 ∧ _) ∨ (nxt _ _ _ = 3 ∧ _)
        unfold nxt
        rw [← e3]
        split
        · next e => exact .inl ⟨rfl, e⟩
        · split
          · next e => exact .inr (.inl ⟨rfl, e⟩)
          · next e => exact .inr (.inr ⟨rfl, e⟩)
      · show nxt _ _ _ ≤ 4
        unfold nxt
        split
        · omega
        · split <;> omega
  · cases ha : (act.tmod 3 == 0) with
    | true =>
      refine (steps2a hk F hat ha).mono ?_
      rintro e w' ⟨rfl, F', K⟩
      exact ⟨rfl, rest w' F' K⟩
    | false =>
      refine (steps2b hk R F (by omega) hat ha).mono ?_
      rintro e w' ⟨er, d, nn, ρ', s', m1, m', n', rfl, ho, hd, R', F', X⟩
      obtain ⟨c1, c2⟩ := hF.c2 k hk hat
      obtain ⟨rfl, e2, hF', hB', _⟩ := rk_kill hF hB c1 c2 ho hd
      subst e2
      exact ⟨rfl, Sp.turn hF hw hN rfl (GX.of_acs kk z R' F' X) (hF'.rest hk rfl rfl rfl rfl) hB' (upd_le h4 (Nat.zero_le _))⟩
  · cases ha : (act.tmod 4 == 0) with
    | true =>
      refine (steps3a hk F hat ha).mono ?_
      rintro e w' ⟨rfl, F', K⟩
      exact ⟨rfl, rest w' F' K⟩
    | false =>
      refine steps3b hk hG0 hat ha (fun W' K => ?_)
      refine (acquire_g (L := s.locs.length) (hG0.new K) hk hn hB.m0 (by have := hB.m1; omega) hl7 hl8 (fun hA => ?_) (fun hA hb => ?_) (fun hA hb hc => ?_)).mono ?_
      · obtain ⟨e1, e2, _⟩ := rk_mk hF hB ht hk hat hA
        exact ⟨e1, e2⟩
      · obtain ⟨_, _, rfl, rfl, rfl⟩ := rk_mk hF hB ht hk hat hA
        exact (rk_acq hF hk hat hb).1
      · obtain ⟨_, _, rfl, rfl, rfl⟩ := rk_mk hF hB ht hk hat hA
        exact (rk_took hF hB ht hk hat hb hc).1
      · rintro e w' ⟨rfl, s1, m1, n1, dA, s2, m2, n2, d, nB, hA, hb, hend⟩
        obtain ⟨_, _, rfl, rfl, rfl⟩ := rk_mk hF hB ht hk hat hA
        rcases hend with ⟨rfl, G'⟩ | ⟨rfl, s3, m3, n3, dC, nC, hc, G'⟩
        · obtain ⟨hF', hB', ho'⟩ := rk_lost hF hB ht hk hat hb
          exact ⟨rfl, Sp.turn hF hw hN ho' G' hF' hB' (upd_le h4 (Nat.zero_le _))⟩
        · obtain ⟨_, hF', hB', ho'⟩ := rk_took hF hB ht hk hat hb hc
          exact ⟨rfl, Sp.turn hF hw hN ho' G' hF' hB' (upd_le h4 (Nat.le_refl _))⟩
  · have fin : ∀ {kd : Int}, kd = 11 ∨ kd = 12 → ∀ W', Keeps (fun _ => False) W W' → Calls Try.prog 25 #[.pointer (some ⟨fb, 0, none⟩), .int .i64 (k : Int), .int .i64 kd] W' fun e w' => e = .returned (.bool true) ∧ Sp Wb fb rb wb mb N (t + 1) was w' := by
      intro kd hkd W' K
      refine (ends_g (hG0.new K) hk hn hkd hl7 p1 (fun o ho => by rw [hwN, ← hN]; exact p3 o ho) (by omega) (fun hA => ?_)).mono ?_
      · obtain ⟨e1, e2, e3, _⟩ := rk_fin hF hB ht hk hkd hw hA
        rw [e2]
        exact ⟨e1, e3⟩
      · rintro e w' ⟨rfl, s1, m1, n1, d, nn, hA, G'⟩
        obtain ⟨_, e2, _, _, hF', hB', hw'⟩ := rk_fin hF hB ht hk hkd hw hA
        subst e2
        exact ⟨rfl, _, _, _, _, _, _, G', hF', hw', hB', hN, upd_le h4 (Nat.zero_le _)⟩
    cases ha : (act.tmod 4 == 1) with
    | true => exact steps4k hk hG0 hat ha (fin (.inl rfl))
    | false =>
      cases hb : (act.tmod 4 == 2) with
      | true =>
        refine (steps4a hk F hat ha hb).mono ?_
        rintro e w' ⟨rfl, F', K⟩
        exact ⟨rfl, rest w' F' K⟩
      | false => exact steps4c hk hG0 hat ha hb (fin (.inr rfl))
end
end Go.Proofs.Ytdeiochjkbogpaa
