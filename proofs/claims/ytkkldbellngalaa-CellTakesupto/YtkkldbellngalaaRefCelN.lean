import Derived.Test.YtkkldbellngalaaRefCelL
namespace Go.Proofs.Ytkkldbellngalaa
open Go.RowKit

theorem ix_lt {L : List Rw} {c i j : Nat} (hij : i < j) (hj : j < (ix L c).length) : ixa (ix L c) i < ixa (ix L c) j := by
  have hp : (ix L c).Pairwise (· < ·) := (List.pairwise_lt_range (n := L.length)).filter _
  have := List.pairwise_iff_getElem.1 hp i j (by omega) hj hij
  simpa [ixa, List.getD_eq_getElem?_getD, hj, show i < (ix L c).length by omega] using this

set_option maxHeartbeats 3200000 in
set_option maxRecDepth 1000000 in
theorem rthen_any {w : World} {rb : Nat} {s : Mm} {B : Nat → Prop} (h : RI w rb s B) (hR : Rises s.log) {c : Nat} (hc : c < s.cells.length) (st : Int) (hl : s.log.length ≤ 4611686018427387903) :
    Calls Try.prog 39 #[.pointer (some ⟨rb, 0, none⟩), .int .i64 (c : Int), .int .i64 st] w fun e w' => ∃ lo, lo ≤ (ix s.log c).length ∧ (∀ i, i < lo → (ra s.log (ixa (ix s.log c) i)).step ≤ st) ∧ (∀ i, lo ≤ i → i < (ix s.log c).length → st < (ra s.log (ixa (ix s.log c) i)).step) ∧
      e = .returned (.tuple #[.int .i64 (behv s c lo), .int .i64 0]) ∧ Keeps (fun _ => False) w w' := by
  have ht := rthere_any h (c : Int)
  rw [there_ok hc] at ht
  have hb : Hid (∀ W m, Keeps (fun _ => False) w W → m ≤ (ix s.log c).length → Calls Try.prog 51 #[.pointer (some ⟨rb, 0, none⟩), .int .i64 (c : Int), .int .i64 (m : Int)] W fun e w' => e = .returned (.int .i64 (behv s c m)) ∧ Keeps (fun _ => False) W w') := fun W m k hm => rbehind_any (h.new k) hc hm hl
  obtain ⟨vf, vr, vg, rvs, ρ, h, hn, hi, rfl⟩ := h
  have hix := ix_le s.log c
  have hcr : c < rvs.length := by omega
  obtain ⟨ar, cr, hvr, hsr⟩ := owns_slice h.rr
  obtain ⟨gr, har, hgr⟩ := hsr (by omega)
  obtain ⟨ag, cg, hvg, hsg⟩ := owns_slice h.rg
  obtain ⟨ae, ce, hve, hse⟩ := owns_slice (h.each c hcr)
  have cl := h.list hcr hgr
  have f1 := h.f1
  have f2 := h.f2
  rw [hve] at cl
  rw [hvr] at f1
  rw [hvg] at f2
  subst har
  have hcI : (c : Int) < (rvs.length : Int) := by omega
  have HC : Hid (∀ i, i < (ix s.log c).length → ∃ ge gg k r, ae = some ⟨ge, 0, none⟩ ∧ ag = some ⟨gg, 0, none⟩ ∧ k = ixa (ix s.log c) i ∧ k < s.log.length ∧ r = ra s.log k ∧ w.cell? ⟨ge, i, none⟩ = some (.int .i64 (k : Int)) ∧ w.cell? ⟨gg, k * 7, none⟩ = some (.int .i64 r.step)) := fun i hi => by
    obtain ⟨ge, hae, hge⟩ := hse (by omega)
    obtain ⟨hk, _⟩ := ix_mem (ixa_mem (l := ix s.log c) hi)
    obtain ⟨gg, hag, hgg⟩ := hsg (by omega)
    exact ⟨ge, gg, _, _, hae, hag, rfl, hk, rfl, owns_cell (h.each c hcr) hge (icells_get hi), (owns_row h.rg hgg hk).r0⟩
  have HS : Hid (∀ i j, i < j → j < (ix s.log c).length → (ra s.log (ixa (ix s.log c) i)).step < (ra s.log (ixa (ix s.log c) j)).step) := fun i j hij hj => hR _ _ (ix_lt hij hj) (ix_mem (ixa_mem (l := ix s.log c) hj)).1
  clear h hn hi hvr hvg hve hgr hsr hsg hse hR
  generalize hnl : (ix s.log c).length = nl at *
  have HNL : Hid ((ix s.log c).length = nl) := hnl
  clear hnl
  go_enter Try.func39, Try.ntmps39
  go_wp2_with (go_at_call 48; refine ht.mono ?_; clear ht; rintro e w ⟨rfl, rfl⟩)
  go_loopw [9, 8] (fun iv jv wr => ∃ i j : Nat, iv = .int .i64 i ∧ jv = .int .i64 j ∧ i ≤ j ∧ j ≤ nl ∧ (∀ k, k < i → (ra s.log (ixa (ix s.log c) k)).step ≤ st) ∧ (∀ k, j ≤ k → k < nl → st < (ra s.log (ixa (ix s.log c) k)).step) ∧ Keeps (fun _ => False) w wr) (fun iv jv _ => (intOf jv).toNat - (intOf iv).toNat)
  case atStart => exact ⟨0, nl, rfl, rfl, Nat.zero_le _, Nat.le_refl _, fun k hk => by omega, fun k h1 h2 => by omega, Keeps.refl _ _⟩
  case round =>
    obtain ⟨i, j, rfl, rfl, hij, hj, hlo, hhi, K⟩ := hrel
    have HLO : Hid (∀ k, k < i → (ra s.log (ixa (ix s.log c) k)).step ≤ st) := hlo
    have HHI : Hid (∀ k, j ≤ k → k < nl → st < (ra s.log (ixa (ix s.log c) k)).step) := hhi
    clear hlo hhi
    by_cases hlt : i < j
    · have hltI : (i : Int) < (j : Int) := by omega
      obtain ⟨m, hm, hm1, hm2⟩ : ∃ m : Nat, Hid (((i : Int) + (j : Int)) / 2 = (m : Int)) ∧ i ≤ m ∧ m < j := ⟨(i + j) / 2, (by show _ = _; omega), by omega, by omega⟩
      obtain ⟨ge, gg, k, r, rfl, rfl, hk, hkl, hr, c1, c2⟩ := HC.out m (by omega)
      have d1 := K.cell c1 (fun e => e)
      have d2 := K.cell c2 (fun e => e)
      have e1 := K.cell f1 (fun e => e)
      have e2 := K.cell f2 (fun e => e)
      have e3 := K.cell cl (fun e => e)
      have hmI : (m : Int) < (nl : Int) := by omega
      have hkI : (k : Int) < (s.log.length : Int) := by omega
      have hdv : ((i : Int) + (j : Int)).tdiv 2 = (m : Int) := by rw [Int.tdiv_eq_ediv_of_nonneg (by omega)]; exact hm.out
      have hdv2 : IntKind.i64.wrap (((i : Int) + (j : Int)).tdiv 2) = (m : Int) := by rw [hdv, IntKind.wrap_i64]; omega
      have HK : Hid (k = ixa (ix s.log c) m) := hk
      have HRr : Hid (r = ra s.log k) := hr
      clear c1 c2 hk hr
      by_cases hs : st < r.step
      · have hs' : decide (st < r.step) = true := by simp [hs]
        have hhi' : Hid (∀ x, m ≤ x → x < nl → st < (ra s.log (ixa (ix s.log c) x)).step) := fun x h1 h2 => by
          have e0 : r.step = (ra s.log (ixa (ix s.log c) m)).step := by rw [HRr.out, HK.out]
          by_cases e : m = x
          · subst e; omega
          · have := HS.out m x (by omega) h2; omega
        clear hs
        go_wp2_with fail
        go_quiet (fail)
        go_wp2_with fail
        go_roundw
        case rel => exact ⟨i, m, rfl, rfl, hm1, by omega, HLO.out, hhi'.out, K.drewN _⟩
        case measure => simp [intOf]; omega
      · have hs' : decide (st < r.step) = false := by simp [hs]
        have hlo' : Hid (∀ x, x < m + 1 → (ra s.log (ixa (ix s.log c) x)).step ≤ st) := fun x h1 => by
          have e0 : r.step = (ra s.log (ixa (ix s.log c) m)).step := by rw [HRr.out, HK.out]
          by_cases e : x = m
          · subst e; omega
          · have := HS.out x m (by omega) (by omega); omega
        clear hs
        go_wp2_with fail
        go_quiet (fail)
        go_wp2_with fail
        go_roundw
        case rel => exact ⟨m + 1, j, by go_num, rfl, by omega, hj, hlo'.out, HHI.out, K.drewN _⟩
        case measure => simp [intOf]; omega
    · have hltI : ¬ (i : Int) < (j : Int) := by omega
      have e : i = j := by omega
      subst e
      have B := hb.out wr i K (by omega)
      have hnl := HNL.out
      go_wp2_with (go_at_call 51; refine B.mono ?_; clear B; rintro e w' ⟨rfl, k'⟩)
      go_ret2
      exact ⟨i, by omega, HLO.out, fun k h1 h2 => HHI.out k h1 (by omega), rfl, K.trans k'⟩
end Go.Proofs.Ytkkldbellngalaa
