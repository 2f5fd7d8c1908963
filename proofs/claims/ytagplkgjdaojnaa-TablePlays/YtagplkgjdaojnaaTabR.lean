import Derived.Test.YtagplkgjdaojnaaTabFt
import Derived.Deep.RegionHeldLaw
namespace Go.Proofs.Ytagplkgjdaojnaa
open Go.RowKit
attribute [local go_sem] Oper.semAt_some

def rdcells (r : Rd) : List Value := [.int .i64 r.ob, .int .i64 r.ver, .int .i64 (r.fate : Int)]
theorem rdcells_len (r : Rd) : (rdcells r).length = 3 := rfl
/-- The document's table. -/
structure RV (w : World) (rb : Nat) (vr : Value) (rs : List Rd) : Prop where
  f0 : w.cell? ⟨rb, 0, none⟩ = some vr
  z : w.frozen? ⟨rb, 0, none⟩ = false
  rr : w.ownsRow 0 67 3 vr rs.length (fl rdcells rs)
  n1 : vr.ownBlock ≠ some rb
def RBlk (rb : Nat) (vr : Value) (k : Nat) : Prop := k = rb ∨ vr.ownBlock = some k
section
variable {w w' : World} {rb : Nat} {vr : Value} {rs : List Rd}
theorem RV.lt (h : RV w rb vr rs) {k : Nat} (hk : RBlk rb vr k) : k < w.heap.size := by
  rcases hk with rfl | hk
  · exact World.block_lt_of_cell? _ _ h.f0
  · exact owns_lt' h.rr k hk
theorem RV.keep (h : RV w rb vr rs) {S : Nat → Prop} (k : Keeps S w w') (hS : ∀ i, RBlk rb vr i → ¬ S i) : RV w' rb vr rs :=
  ⟨k.cell h.f0 (hS rb (.inl rfl)), (k.frozen (p := ⟨rb, 0, none⟩) (h.lt (.inl rfl)) (hS rb (.inl rfl))).trans h.z, k.owns h.rr (fun g e => hS g (.inr e)), h.n1⟩
theorem RV.new (h : RV w rb vr rs) (k : Keeps (fun _ => False) w w') : RV w' rb vr rs := h.keep k (fun _ _ e => e)
theorem RV.form (h : RV w rb vr rs) : ∃ a cap, vr = .slice a rs.length cap ∧ ∀ j r, rs[j]? = some r → ∃ g, a = some ⟨g, 0, none⟩ ∧ vr.ownBlock = some g ∧ w.cell? ⟨g, j * 3, none⟩ = some (.int .i64 r.ob) ∧ w.cell? ⟨g, j * 3 + 1, none⟩ = some (.int .i64 r.ver) ∧ w.cell? ⟨g, j * 3 + 2, none⟩ = some (.int .i64 (r.fate : Int)) ∧ w.frozen? ⟨g, j * 3 + 2, none⟩ = false := by
  obtain ⟨a, cap, hv, hg⟩ := owns_form h.rr
  refine ⟨a, cap, hv, fun j r hr => ?_⟩
  obtain ⟨g, e1, e2⟩ := hg (by have := (List.getElem?_eq_some_iff.1 hr).1; omega)
  have q : ∀ i, i < 3 → (fl rdcells rs)[j * 3 + i]? = (rdcells r)[i]? := fun i hi => by have := fl_get rdcells_len rs j i hi; rw [hr] at this; exact this
  have ho := h.rr
  rw [hv, e1] at ho
  exact ⟨g, e1, e2, owns_cell h.rr e2 (q 0 (by omega)), owns_cell h.rr e2 (q 1 (by omega)), owns_cell h.rr e2 (q 2 (by omega)), ho.frozenAt _⟩
end
theorem infoRE : (Try.prog.info? 70).map (fun i => (i.zero, i.size, i.bytes)) = some (some (.agg #[.int .i64 0, .int .i64 0, .int .i64 0]), 3, 24) := by kernel_rfl
theorem underRE : Try.prog.underlying 76 = some (.slice 70) := by kernel_rfl
theorem infoRR : (Try.prog.info? 67).map (fun i => (i.zero, i.size, i.bytes)) = some (some (.agg #[.int .i64 0, .int .i64 0, .int .i64 0]), 3, 24) := by kernel_rfl
theorem underRR : Try.prog.underlying 63 = some (.slice 67) := by kernel_rfl

set_option maxHeartbeats 1600000 in
set_option maxRecDepth 1000000 in
theorem rnew_any (w : World) : Calls Try.prog 20 #[] w fun e w' => e = .returned (.pointer (some ⟨w.heap.size, 0, none⟩)) ∧ RV w' w.heap.size (.slice none 0 0) [] ∧ Keeps (fun _ => False) w w' := by
  go_enter Try.func20, Try.ntmps20
  go_wp2
  go_ret
  refine ⟨rfl, ⟨by simp, by simp, World.ownsRow_nil _ _ _ _, fun e => (by cases e)⟩, (Keeps.refl _ w).alloc _⟩
set_option maxHeartbeats 1600000 in
set_option maxRecDepth 1000000 in
theorem radded_any {w : World} {rb : Nat} {vr : Value} {rs : List Rd} (h : RV w rb vr rs) : Calls Try.prog 37 #[.pointer (some ⟨rb, 0, none⟩)] w fun e w' => e = .returned (.int .i64 (rs.length : Int)) ∧ w' = w := by
  obtain ⟨a, cap, hv, _⟩ := h.form
  have f0 := h.f0
  rw [hv] at f0
  clear h hv
  go_enter Try.func37, Try.ntmps37
  go_wp2
  go_ret
  exact ⟨rfl, rfl⟩
set_option maxHeartbeats 1600000 in
set_option maxRecDepth 1000000 in
theorem rfateOf_any {w : World} {rb : Nat} {vr : Value} {rs : List Rd} (h : RV w rb vr rs) (k : Int) : Calls Try.prog 35 #[.pointer (some ⟨rb, 0, none⟩), .int .i64 k] w fun e w' => e = .returned (.tuple #[.int .i64 (fto rs k).1, .int .i64 (fto rs k).2]) ∧ w' = w := by
  obtain ⟨a, cap, hv, hc⟩ := h.form
  have f0 := h.f0
  rw [hv] at f0
  clear h hv
  by_cases h1 : k < 0
  · have e : fto rs k = (0, 72) := if_pos (.inl h1)
    rw [e]; clear e
    go_enter Try.func35, Try.ntmps35
    go_wp2
    refine bodyPost_ret (v := .tuple #[.int .i64 0, .int .i64 72]) (by simp [results, Try.f35, go_sem]) rfl ⟨rfl, rfl⟩
  · by_cases h2 : (rs.length : Int) ≤ k
    · have e : fto rs k = (0, 72) := if_pos (.inr h2)
      rw [e]; clear e
      go_enter Try.func35, Try.ntmps35
      go_wp2
      refine bodyPost_ret (v := .tuple #[.int .i64 0, .int .i64 72]) (by simp [results, Try.f35, go_sem]) rfl ⟨rfl, rfl⟩
    · obtain ⟨j, rfl⟩ : ∃ j : Nat, k = (j : Int) := ⟨k.toNat, by omega⟩
      obtain ⟨r, hr⟩ : ∃ r, rs[j]? = some r := ⟨rs[j]'(by omega), by simp⟩
      have e : fto rs (j : Int) = ((r.fate : Int), 0) := by unfold fto; rw [if_neg (by omega)]; simp [hr]
      rw [e]; clear e
      obtain ⟨g, rfl, _, _, _, c, _⟩ := hc j r hr
      have h3 : (j : Int) < (rs.length : Int) := by omega
      have h4 : (0 : Int) ≤ (j : Int) := by omega
      clear hc hr h1 h2
      go_enter Try.func35, Try.ntmps35
      go_wp2
      refine bodyPost_ret (v := .tuple #[.int .i64 (r.fate : Int), .int .i64 0]) (by simp [results, Try.f35, go_sem]) rfl ⟨rfl, rfl⟩

theorem cell3 (W : World) (a b c u : Value) (j : Nat) (t : TypeId) (h : (#[a, b, c] : Array Value)[j]? = some u) : (W.alloc (.cells #[a, b, c] t)).cell? ⟨W.heap.size, j, none⟩ = some u := by
  have hj : j < 3 := by have := (Array.getElem?_eq_some_iff.1 h).1; simpa using this
  rcases (by omega : j = 0 ∨ j = 1 ∨ j = 2) with rfl | rfl | rfl <;> (simp at h; subst h; simp)
theorem ents_take {rs : List Rd} {i : Nat} {r : Rd} (h : rs[i]? = some r) : ents 0 (rs.take (i + 1)) = ents 0 (rs.take i) ++ (if r.fate = 1 then [r.en i] else []) := by
  have hl : i < rs.length := (List.getElem?_eq_some_iff.1 h).1
  rw [List.take_add_one, h, ents_append]
  simp only [Option.toList_some, List.length_take, Nat.zero_add, Nat.min_eq_left (Nat.le_of_lt hl), ents]
  rfl

set_option maxHeartbeats 3200000 in
set_option maxRecDepth 1000000 in
theorem rentries_any {w : World} {rb : Nat} {vr : Value} {rs : List Rd} (h : RV w rb vr rs) (hn : rs.length ≤ 4398046511200) : Calls Try.prog 38 #[.pointer (some ⟨rb, 0, none⟩)] w fun e w' => ∃ a c, e = .returned (.slice a (es rs).length c) ∧ w'.ownsRow w.heap.size 70 3 (.slice a (es rs).length c) (es rs).length (fl ecells (es rs)) ∧ Keeps (fun _ => False) w w' := by
  obtain ⟨av, cv, hv, hc⟩ := h.form
  have f0 := h.f0
  rw [hv] at f0
  have lrb : rb < w.heap.size := h.lt (.inl rfl)
  obtain ⟨N, hN⟩ : ∃ N, Hid (N = rs.length) := ⟨_, rfl⟩
  rw [← hN.out] at f0 hn
  have HC : Hid (∀ j r, rs[j]? = some r → ∃ g, av = some ⟨g, 0, none⟩ ∧ g < w.heap.size ∧ w.cell? ⟨g, j * 3, none⟩ = some (.int .i64 r.ob) ∧ w.cell? ⟨g, j * 3 + 1, none⟩ = some (.int .i64 r.ver) ∧ w.cell? ⟨g, j * 3 + 2, none⟩ = some (.int .i64 (r.fate : Int))) := fun j r hr => by
    obtain ⟨g, e1, _, e2, e3, e4, _⟩ := hc j r hr
    exact ⟨g, e1, World.block_lt_of_cell? _ _ e2, e2, e3, e4⟩
  clear hc hv h
  go_enter Try.func38, Try.ntmps38
  go_wp2_with fail
  go_loopw [3, 4] (fun lv iv W => ∃ (i n : Nat) (a : Option Addr) (c : Nat), iv = .int .i64 (i : Int) ∧ lv = .slice a n c ∧ i ≤ N ∧ n = (ents 0 (rs.take i)).length ∧ W.ownsRow w.heap.size 70 3 (.slice a n c) n (fl ecells (ents 0 (rs.take i))) ∧ Keeps (fun _ => False) w W) (fun _ iv _ => N - (intOf iv).toNat)
  case atStart => exact ⟨0, 0, none, 0, rfl, rfl, Nat.zero_le _, rfl, World.ownsRow_nil _ _ _ _, Keeps.refl _ _⟩
  case round =>
    obtain ⟨i, n, a, c, rfl, rfl, hiN, hnl, ho, hK⟩ := hrel
    have hi0 : (0 : Int) ≤ (i : Int) := by omega
    have d0 := hK.cell f0 (fun e => e)
    by_cases hlt : i < N
    · have hltI : (i : Int) < (N : Int) := by omega
      obtain ⟨r, hr⟩ : ∃ r, rs[i]? = some r := ⟨rs[i]'(by rw [← hN.out]; exact hlt), by simp⟩
      obtain ⟨g, rfl, lg, e0, e1, e2⟩ := HC.out i r hr
      have g0 := hK.cell e0 (fun e => e)
      have g1 := hK.cell e1 (fun e => e)
      have g2 := hK.cell e2 (fun e => e)
      have het := ents_take hr
      have hnN : n ≤ i := by rw [hnl]; exact Nat.le_trans (ents_len _ _) (by simp; omega)
      by_cases hf : r.fate = 1
      · rw [if_pos hf] at het
        obtain ⟨i0, hi0', hz0, hz1, hz2⟩ := info_parts infoRE
        obtain ⟨v', W', hr', ho', hg', _, hl'⟩ := run_append_own_at (P := Try.prog) (w := wr.drew.alloc (.cells #[.int .i64 r.ob, .int .i64 r.ver, .int .i64 (i : Int)] 70)) w.heap.size 76 76 70 i0 _ 3 24 underRE hi0' hz0 hz1 hz2 rfl (by decide) (.slice a n c) n _ (ho.drew.alloc _) ⟨wr.heap.size, 0, none⟩ 1 1 (ecells ⟨r.ob, r.ver, i⟩) rfl (fun j u hu => by
          have hj : j < 3 := (List.getElem?_eq_some_iff.1 hu).1
          rw [show ((⟨wr.heap.size, 0, none⟩ : Addr).add j) = ⟨wr.heap.size, j, none⟩ by unfold Addr.add; split <;> simp_all]
          rcases (by omega : j = 0 ∨ j = 1 ∨ j = 2) with rfl | rfl | rfl <;> (simp [ecells] at hu; subst hu; exact cell3 wr.drew _ _ _ _ _ _ (by simp))) (fun u hu => by simp [ecells] at hu; rcases hu with rfl | rfl | rfl <;> rfl) (by unfold maxLen; omega) (by omega) (by have := hK.size; simp; omega)
        obtain ⟨a', c', rfl, -⟩ := owns_form ho'
        replace hr' : (Builtin.append_ #[76, 76] 76 #[.slice a n c, .slice (some ⟨wr.heap.size, 0, none⟩) 1 1]).run Try.prog (wr.alloc (.cells #[.int .i64 r.ob, .int .i64 r.ver, .int .i64 (i : Int)] 70)).drew = .ok (.slice a' (n + 1) c') W' := hr'
        have kk : Keeps (fun k => (Value.slice a n c).ownBlock = some k) wr W' := (((Keeps.refl (fun k => (Value.slice a n c).ownBlock = some k) wr).drew).alloc _).grown hg' (fun _ _ e => e)
        have K' : Keeps (fun _ => False) w W' := hK.trans' kk (fun _ _ e => e) (fun k hk e => by have := (ho.lt k e).1; omega)
        have HO' : Hid (W'.ownsRow w.heap.size 70 3 (.slice a' (n + 1) c') (n + 1) (fl ecells (ents 0 (rs.take (i + 1))))) := by
          rw [het, fl_append, show fl ecells [r.en i] = ecells ⟨r.ob, r.ver, i⟩ by simp [fl, Rd.en]]
          exact ho'
        have HN' : Hid (n + 1 = (ents 0 (rs.take (i + 1))).length) := by show _ = _; rw [het, List.length_append, ← hnl]; rfl
        have HK' : Hid (Keeps (fun _ => False) w W') := K'
        have p0 := K'.cell f0 (fun e => e)
        have q0 := K'.cell e0 (fun e => e)
        have q1 := K'.cell e1 (fun e => e)
        have lrw : ¬ wr.heap.size = rb := by have := hK.size; omega
        have lgw : ¬ wr.heap.size = g := by have := hK.size; omega
        have lrw' : ¬ rb = wr.heap.size := fun e => lrw e.symm
        have lgw' : ¬ g = wr.heap.size := fun e => lgw e.symm
        have hfb : ((r.fate : Int) == 1) = true := by simp [hf]
        obtain ⟨ro, hro⟩ : ∃ ro, Hid (ro = r.ob) := ⟨_, rfl⟩
        obtain ⟨rv, hrv⟩ : ∃ rv, Hid (rv = r.ver) := ⟨_, rfl⟩
        obtain ⟨rf, hrf⟩ : ∃ rf, Hid (rf = r.fate) := ⟨_, rfl⟩
        rw [← hro.out] at g0 q0 hr'
        rw [← hrv.out] at g1 q1 hr'
        rw [← hrf.out] at g2 hfb
        clear ho hK het ho' hg' hl' kk K' hf hr e0 e1 e2 f0 hi0' hz0 hz1 hz2 hnl
        go_wp2_with fail
        go_region_held_law (fun w' => w'.cell? ⟨rb, 0, none⟩ = some (.slice (some ⟨g, 0, none⟩) N cv) ∧ w'.cell? ⟨g, i * 3, none⟩ = some (.int .i64 ro) ∧ w'.cell? ⟨g, i * 3 + 1, none⟩ = some (.int .i64 rv)) (go_keep) (refine step_append_run rfl (.tmp 23) (.tmp 42) 76 rfl (.slice a n c) (.slice (some ⟨wr.heap.size, 0, none⟩) 1 1) (.slice a' (n + 1) c') W' (by simp [Act.eval]) (by simp [Act.eval]) hr' ?_)
        go_wp2_with fail
        go_roundw
        case rel => exact ⟨i + 1, n + 1, a', c', by go_num, rfl, by omega, HN'.out, HO'.out, HK'.out⟩
        case measure => simp [intOf]; omega
      · rw [if_neg hf, List.append_nil] at het
        have hfb : ((r.fate : Int) == 1) = false := by simp; omega
        obtain ⟨rf, hrf⟩ : ∃ rf, Hid (rf = r.fate) := ⟨_, rfl⟩
        rw [← hrf.out] at g2 hfb
        have HO' : Hid (wr.ownsRow w.heap.size 70 3 (.slice a n c) n (fl ecells (ents 0 (rs.take (i + 1))))) := by rw [het]; exact ho
        have HN' : Hid (n = (ents 0 (rs.take (i + 1))).length) := by show _ = _; rw [het]; exact hnl
        have HK' : Hid (Keeps (fun _ => False) w wr) := hK
        clear ho hK het hf hr hnl
        go_wp2_with fail
        go_roundw
        case rel => exact ⟨i + 1, n, a, c, by go_num, rfl, by omega, HN'.out, HO'.out, HK'.out⟩
        case measure => simp [intOf]; omega
    · have hiN' : i = rs.length := by rw [← hN.out]; omega
      have hI : ¬ (i : Int) < (N : Int) := by omega
      have ht : rs.take i = rs := by rw [hiN', List.take_length]
      rw [ht] at hnl ho
      have HNL : Hid (n = (es rs).length) := hnl
      have HO : Hid (wr.ownsRow w.heap.size 70 3 (.slice a n c) n (fl ecells (es rs))) := ho
      have HK : Hid (Keeps (fun _ => False) w wr) := hK
      clear hnl ho hK ht hiN' hlt
      go_wp2_with fail
      go_ret
      exact ⟨a, c, by rw [← HNL.out]; rfl, by rw [← HNL.out]; exact HO.out, HK.out⟩
end Go.Proofs.Ytagplkgjdaojnaa
