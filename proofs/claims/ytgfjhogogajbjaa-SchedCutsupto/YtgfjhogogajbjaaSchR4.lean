import Derived.Test.YtgfjhogogajbjaaSchR3
import Derived.Laws.OwnMore
namespace Go.Proofs.Ytgfjhogogajbjaa
open Go.RowKit

section
variable {f : Nat → Int} {m i k : Nat} {L : List Cu}
theorem PC.zero (hm : 0 < m) : PC f m 1 [⟨f 0, 0, 1⟩] 0 := by
  have h := pos_lt (f := f) (m := m) (k := 0) hm
  refine ⟨rfl, ?_, ?_, fun q hq => by omega, ?_⟩
  · show 0 < 1; omega
  · show 1 ≤ pos f m 1; simp [pos] at h ⊢; omega
  · simp [pos]
theorem PC.here (h : PC f m i L k) (hi : i < m) : f (i - 1) = f (pos f m k) := by
  have h1 := h.lo
  have h2 := h.hi
  exact pos_same (by omega) (i - 1) (by omega) (by omega)
theorem PC.same (h : PC f m i L k) (hi : i < m) (he : f (i - 1) = f i) : PC f m (i + 1) (L.set k ⟨f (pos f m k), pos f m k, i + 1 - pos f m k⟩) k := by
  have h1 := h.lo
  have h2 := h.hi
  have h3 := h.len
  have hp := h.here hi
  have hlt : i < pos f m (k + 1) := by
    rcases Nat.lt_or_ge i (pos f m (k + 1)) with h4 | h4
    · exact h4
    · exfalso
      have e : i = pos f m (k + 1) := by omega
      rcases pos_end (f := f) (m := m) (k := k) (by omega) with h5 | h5
      · omega
      · rw [← e] at h5; exact h5 (he.symm.trans hp)
  refine ⟨by simpa using h3, by omega, hlt, fun q hq => ?_, ?_⟩
  · rw [← h.old q hq]
    simp [List.getD_eq_getElem?_getD, show ¬ k = q by omega]
  · simp [List.getD_eq_getElem?_getD, h3]
theorem PC.new (h : PC f m i L k) (hi : i < m) (he : f (i - 1) ≠ f i) : PC f m (i + 1) (L ++ [⟨f i, i, 1⟩]) (k + 1) := by
  have h1 := h.lo
  have h2 := h.hi
  have h3 := h.len
  have hp := h.here hi
  have hlt : i = pos f m (k + 1) := by
    rcases Nat.lt_or_ge i (pos f m (k + 1)) with h4 | h4
    · exact absurd (hp.trans (pos_same (by omega) i (by omega) h4).symm) he
    · omega
  have h6 := pos_lt (f := f) (m := m) (k := k + 1) (by omega)
  refine ⟨by simp [h3], by omega, by omega, fun q hq => ?_, ?_⟩
  · by_cases e : q = k
    · rw [e, List.getD_eq_getElem?_getD, List.getElem?_append_left (by omega), ← List.getD_eq_getElem?_getD, h.last]
      unfold cut
      rw [← hlt]
    · rw [List.getD_eq_getElem?_getD, List.getElem?_append_left (by omega), ← List.getD_eq_getElem?_getD, h.old q (by omega)]
  · rw [List.getD_eq_getElem?_getD, List.getElem?_append_right (by omega), h3]
    simp [← hlt]
theorem PC.all {M : Nat} (h : PC f m m L k) (hM : Many f m M) : M = k + 1 ∧ L = (List.range M).map (fun j => cut f m j) := by
  have h1 := h.lo
  have h2 := h.hi
  have h3 := pos_le f m (k + 1)
  have hk : k < M := by
    rcases Nat.lt_or_ge k M with h4 | h4
    · exact h4
    · have := pos_mono (f := f) (m := m) h4
      have := hM.2.1
      omega
  have hk1 : M ≤ k + 1 := by
    rcases Nat.lt_or_ge (k + 1) M with h4 | h4
    · have := hM.2.2 _ h4; omega
    · exact h4
  have e : M = k + 1 := by omega
  refine ⟨e, ?_⟩
  apply List.ext_getElem
  · simp [h.len, e]
  · intro j j1 j2
    have hj : L.getD j cu0 = L[j] := by simp [List.getD_eq_getElem?_getD, j1]
    simp only [List.getElem_map, List.getElem_range]
    rw [← hj]
    by_cases ej : j = k
    · rw [ej, h.last]; unfold cut; congr 1; omega
    · exact h.old j (by have := h.len; omega)
end

set_option maxHeartbeats 3200000 in
set_option maxRecDepth 1000000 in
theorem rstretches_any {w : World} {a : Option Addr} {m cap nt : Nat} {z : Nat → Int} (h : NL w a m z) (hn : 1 ≤ nt ∧ nt ≤ 6) (hm : m ≤ 4096) {M : Nat} (hM : Many (nmf nt z) m M) :
    Calls Try.prog 11 #[.int .i64 (nt : Int), .slice a m cap] w fun e w' => ∃ v, e = .returned v ∧ w'.ownsRow w.heap.size 37 3 v M (fl ucells ((List.range M).map (fun j => cut (nmf nt z) m j))) ∧ Keeps (fun _ => False) w w' := by
  have hln := fun (w : World) (p : Int) => rnamed_any w nt hn.2 p
  have hf := fun (w : World) => refused_any w (nt : Int) a m cap
  rw [show rfz (nt : Int) m = 0 by unfold rfz; rw [if_neg (by omega), if_neg (by omega)]] at hf
  go_enter Try.func11, Try.ntmps11
  go_wp2_with ((go_at_call 17; refine (hf _).mono ?_; rintro e w9 ⟨rfl, hw9⟩; have hw9 := hw9.symm; subst hw9))
  go_loopw [5, 6] (fun v iv wr => ∃ (i : Nat) (L : List Cu), i ≤ m ∧ iv = .int .i64 (i : Int) ∧ wr.ownsRow w.heap.size 37 3 v L.length (fl ucells L) ∧ (i = 0 ∧ L = [] ∨ ∃ k, PC (nmf nt z) m i L k) ∧ Keeps (fun _ => False) w wr) (fun _ iv _ => m - (intOf iv).toNat)
  case atStart => exact ⟨0, [], Nat.zero_le _, rfl, World.ownsRow_nil _ _ _ _, .inl ⟨rfl, rfl⟩, Keeps.refl _ _⟩
  case round =>
    obtain ⟨i, L, hi, rfl, ho, hPC, K⟩ := hrel
    by_cases hlt : i < m
    · have g1 : decide ((i : Int) < (m : Int)) = true := decide_eq_true (by omega)
      have g1n : decide (i < m) = true := decide_eq_true hlt
      have hiI : (i : Int) < (m : Int) := by omega
      obtain ⟨b, off, rfl, hb, hc⟩ := h.resolve_left (by omega)
      have ci := K.cell (hc i hlt) (fun e => e)
      have hLl : L.length ≤ 4096 := by
        rcases hPC with ⟨_, rfl⟩ | ⟨k, hk⟩
        · simp
        · have h1 := hk.len
          have h2 := hk.lo
          rcases pos_ge (f := nmf nt z) (m := m) k with h3 | h3 <;> omega
      rcases i with _ | j
      · have hL : L = [] := by
          rcases hPC with ⟨_, e⟩ | ⟨k, hk⟩
          · exact e
          · have := hk.lo; omega
        have HPC : Hid (PC (nmf nt z) m 1 [⟨nmf nt z 0, 0, 1⟩] 0) := PC.zero (by omega)
        obtain ⟨t, ht⟩ : ∃ t, Hid (t = nmz nt (z 0)) := ⟨_, rfl⟩
        obtain ⟨v', w', ha, ho', kk⟩ := append_cut ho ⟨t, 0, 0⟩ (by omega) K.size
        rw [show ((0 : Nat) : Int) = 0 from rfl] at ha
        obtain ⟨gb, cap', rfl⟩ := ownsRow_succ ho'
        have ho2 : w'.ownsRow w.heap.size 37 3 (.slice (some ⟨gb, 0, none⟩) (L ++ [(⟨t, 0, 0⟩ : Cu)]).length cap') (L ++ [(⟨t, 0, 0⟩ : Cu)]).length (fl ucells (L ++ [(⟨t, 0, 0⟩ : Cu)])) := by simpa using ho'
        have cl := (cut_cell ho2 (i := L.length) (by simp)).2.2
        have cz := owns_frozen ho2 (L.length * 3 + 2)
        have e0 : (L ++ [(⟨t, 0, 0⟩ : Cu)]).getD L.length cu0 = (⟨t, 0, 0⟩ : Cu) := by simp [List.getD_eq_getElem?_getD]
        rw [e0] at cl
        simp only at cl
        have hst := ho2.stored (L.length * 3 + 2) (.int .i64 1)
        have e3 : (fl ucells (L ++ [(⟨t, 0, 0⟩ : Cu)])).set (L.length * 3 + 2) (.int .i64 1) = fl ucells (L ++ [(⟨t, 0, 1⟩ : Cu)]) := by
          rw [← fl_set ucells_len (L ++ [(⟨t, 0, 0⟩ : Cu)]) L.length 2 ⟨t, 0, 0⟩ ⟨t, 0, 1⟩ (.int .i64 1) (by simp) (by omega) rfl]
          simp
        rw [e3] at hst
        have hst' : (w'.setCell ⟨gb, L.length * 3 + 2, none⟩ (.int .i64 1)).ownsRow w.heap.size 37 3 (.slice (some ⟨gb, 0, none⟩) (L.length + 1) cap') (L ++ [(⟨t, 0, 1⟩ : Cu)]).length (fl ucells (L ++ [(⟨t, 0, 1⟩ : Cu)])) := by simpa using hst.1
        have HST := (show Hid _ from hst')
        have kst : Keeps (fun _ => False) w (w'.setCell ⟨gb, L.length * 3 + 2, none⟩ (.int .i64 1)) := by
          have hgb := owns_base ho2 gb rfl
          have kw : Keeps (fun _ => False) w w' := K.trans' kk (fun _ _ e => e) (fun i' hi' e => by have := owns_base ho i' e; omega)
          exact kw.trans' ((Keeps.refl (fun k => k = gb) _).setCell (p := ⟨gb, L.length * 3 + 2, none⟩) (fun _ => rfl) _) (fun _ _ e => e) (fun i' hi' e => by omega)
        have KST := (show Hid _ from kst)
        clear ho' ho2 hst hst' kst e3 e0 kk ho
        have hNI : (L.length : Int) < ((L.length + 1 : Nat) : Int) := by omega
        have hln0 := hln wr (z 0)
        rw [← ht.out] at hln0
        rw [show ((0 : Nat) : Int) = 0 from rfl]
        replace ci : wr.cell? ⟨b, off, none⟩ = some (.int .i64 (z 0)) := by simpa using ci
        subst hL
        simp only [List.length_nil, Nat.zero_mul, Nat.zero_add] at ha cl cz hNI ⊢
        go_wp2_with (first | (go_at_call 18; refine hln0.mono ?_; rintro e w9 ⟨rfl, hw9⟩; have hw9 := hw9.symm; subst hw9) | (at_builtin; refine wpList_append_run rfl _ _ _ rfl _ _ _ w' rfl rfl ha ?_))
        refine ⟨⟨1, [⟨t, 0, 1⟩], by omega, rfl, HST.out, .inr ⟨0, ?_⟩, KST.out⟩, by simp [intOf]; omega⟩
        rw [ht.out]
        exact HPC.out
      · obtain ⟨k, hk⟩ : ∃ k, PC (nmf nt z) m (j + 1) L k := by
          rcases hPC with ⟨e, _⟩ | hk
          · omega
          · exact hk
        clear hPC
        have cj := K.cell (hc j (by omega)) (fun e => e)
        obtain ⟨t, ht⟩ : ∃ t, Hid (t = nmz nt (z (j + 1))) := ⟨_, rfl⟩
        obtain ⟨t2, ht2⟩ : ∃ t2, Hid (t2 = nmz nt (z j)) := ⟨_, rfl⟩
        have hln1 := hln wr (z (j + 1))
        have hln2 := hln wr (z j)
        rw [← ht.out] at hln1
        rw [← ht2.out] at hln2
        have hjI : (j : Int) < (m : Int) := by omega
        by_cases he : nmf nt z j = nmf nt z (j + 1)
        · have hb2 : (t2 != t) = false := by
            have : t2 = t := by rw [ht.out, ht2.out]; exact he
            simp [this]
          have HPC := (show Hid _ from hk.same hlt (by simpa using he))
          have h1 := hk.lo
          have hll := hk.len
          have ho1 : wr.ownsRow w.heap.size 37 3 u5 (k + 1) (fl ucells L) := by rw [← hll]; exact ho
          obtain ⟨gb, cap', rfl⟩ := ownsRow_succ ho1
          have ho2 : wr.ownsRow w.heap.size 37 3 (.slice (some ⟨gb, 0, none⟩) L.length cap') L.length (fl ucells L) := by rw [hll]; exact ho1
          have cl := (cut_cell ho2 (i := k) (by omega)).2.2
          have cz := owns_frozen ho2 (k * 3 + 2)
          have hlast := hk.last
          rw [hlast] at cl
          simp only at cl
          obtain ⟨x, hx⟩ : ∃ x : Nat, Hid (x = j + 1 - pos (nmf nt z) m k) := ⟨_, rfl⟩
          have hx4 : x ≤ 4096 := by have := hx.out; omega
          have hx1 : j + 1 + 1 - pos (nmf nt z) m k = x + 1 := by have := hx.out; omega
          rw [← hx.out] at cl hlast
          rw [hx1] at HPC
          have hst := ho2.stored (k * 3 + 2) (.int .i64 ((x + 1 : Nat) : Int))
          have hLk : L[k]? = some ⟨nmf nt z (pos (nmf nt z) m k), pos (nmf nt z) m k, x⟩ := by
            rw [List.getElem?_eq_getElem (by omega)]
            rw [← hlast]
            simp [List.getD_eq_getElem?_getD, show k < L.length by omega]
          have e3 : (fl ucells L).set (k * 3 + 2) (.int .i64 ((x + 1 : Nat) : Int)) = fl ucells (L.set k ⟨nmf nt z (pos (nmf nt z) m k), pos (nmf nt z) m k, x + 1⟩) :=
            (fl_set ucells_len L k 2 ⟨nmf nt z (pos (nmf nt z) m k), pos (nmf nt z) m k, x⟩ ⟨nmf nt z (pos (nmf nt z) m k), pos (nmf nt z) m k, x + 1⟩ (.int .i64 ((x + 1 : Nat) : Int)) hLk (by omega) rfl).symm
          rw [e3] at hst
          have hst' : (wr.setCell ⟨gb, k * 3 + 2, none⟩ (.int .i64 ((x : Int) + 1))).ownsRow w.heap.size 37 3 (.slice (some ⟨gb, 0, none⟩) (k + 1) cap') (L.set k ⟨nmf nt z (pos (nmf nt z) m k), pos (nmf nt z) m k, x + 1⟩).length (fl ucells (L.set k ⟨nmf nt z (pos (nmf nt z) m k), pos (nmf nt z) m k, x + 1⟩)) := by
            have := hst.1
            rw [show ((x + 1 : Nat) : Int) = (x : Int) + 1 by omega] at this
            rw [List.length_set, ← hll]
            exact this
          have kst : Keeps (fun _ => False) w (wr.setCell ⟨gb, k * 3 + 2, none⟩ (.int .i64 ((x : Int) + 1))) := by
            have hgb := owns_base ho2 gb rfl
            exact K.trans' ((Keeps.refl (fun k => k = gb) _).setCell (p := ⟨gb, k * 3 + 2, none⟩) (fun _ => rfl) _) (fun _ _ e => e) (fun i' hi' e => by omega)
          have HST := (show Hid _ from hst')
          have KST := (show Hid _ from kst)
          have hNI : (k : Int) < ((k + 1 : Nat) : Int) := by omega
          clear ho1 ho2 hst hst' kst e3 ho hLk hlast hk he hx1
          go_wp2_with (first | (go_at_call 18; refine hln1.mono ?_; clear hln1; rintro e w9 ⟨rfl, hw9⟩; have hw9 := hw9.symm; subst hw9) | (go_at_call 18; refine hln2.mono ?_; clear hln2; rintro e w9 ⟨rfl, hw9⟩; have hw9 := hw9.symm; subst hw9))
          exact ⟨⟨j + 2, _, by omega, by go_num, HST.out, .inr ⟨k, HPC.out⟩, KST.out⟩, by simp [intOf]; omega⟩
        · have hb2 : (t2 != t) = true := by
            have : t2 ≠ t := by rw [ht.out, ht2.out]; exact he
            simpa using this
          have HPC := (show Hid _ from hk.new hlt (by simpa using he))
          clear hk he
          obtain ⟨v', w', ha, ho', kk⟩ := append_cut ho ⟨t, j + 1, 0⟩ (by omega) K.size
          simp only at ha
          obtain ⟨gb, cap', rfl⟩ := ownsRow_succ ho'
          have ho2 : w'.ownsRow w.heap.size 37 3 (.slice (some ⟨gb, 0, none⟩) (L ++ [(⟨t, j + 1, 0⟩ : Cu)]).length cap') (L ++ [(⟨t, j + 1, 0⟩ : Cu)]).length (fl ucells (L ++ [(⟨t, j + 1, 0⟩ : Cu)])) := by simpa using ho'
          have cl := (cut_cell ho2 (i := L.length) (by simp)).2.2
          have cz := owns_frozen ho2 (L.length * 3 + 2)
          have e0 : (L ++ [(⟨t, j + 1, 0⟩ : Cu)]).getD L.length cu0 = (⟨t, j + 1, 0⟩ : Cu) := by simp [List.getD_eq_getElem?_getD]
          rw [e0] at cl
          simp only at cl
          have hst := ho2.stored (L.length * 3 + 2) (.int .i64 1)
          have e3 : (fl ucells (L ++ [(⟨t, j + 1, 0⟩ : Cu)])).set (L.length * 3 + 2) (.int .i64 1) = fl ucells (L ++ [(⟨t, j + 1, 1⟩ : Cu)]) := by
            rw [← fl_set ucells_len (L ++ [(⟨t, j + 1, 0⟩ : Cu)]) L.length 2 ⟨t, j + 1, 0⟩ ⟨t, j + 1, 1⟩ (.int .i64 1) (by simp) (by omega) rfl]
            simp
          rw [e3] at hst
          have hst' : (w'.setCell ⟨gb, L.length * 3 + 2, none⟩ (.int .i64 1)).ownsRow w.heap.size 37 3 (.slice (some ⟨gb, 0, none⟩) (L.length + 1) cap') (L ++ [(⟨t, j + 1, 1⟩ : Cu)]).length (fl ucells (L ++ [(⟨t, j + 1, 1⟩ : Cu)])) := by simpa using hst.1
          have HST := (show Hid _ from hst')
          have kst : Keeps (fun _ => False) w (w'.setCell ⟨gb, L.length * 3 + 2, none⟩ (.int .i64 1)) := by
            have hgb := owns_base ho2 gb rfl
            have kw : Keeps (fun _ => False) w w' := K.trans' kk (fun _ _ e => e) (fun i' hi' e => by have := owns_base ho i' e; omega)
            exact kw.trans' ((Keeps.refl (fun k => k = gb) _).setCell (p := ⟨gb, L.length * 3 + 2, none⟩) (fun _ => rfl) _) (fun _ _ e => e) (fun i' hi' e => by omega)
          have KST := (show Hid _ from kst)
          clear ho' ho2 hst hst' kst e3 e0 kk ho
          have hNI : (L.length : Int) < ((L.length + 1 : Nat) : Int) := by omega
          obtain ⟨N, hN⟩ : ∃ N, Hid (N = L.length) := ⟨_, rfl⟩
          rw [← hN.out] at ha cl cz hNI hLl HST KST
          go_wp2_with (first | (go_at_call 18; refine hln1.mono ?_; clear hln1; rintro e w9 ⟨rfl, hw9⟩; have hw9 := hw9.symm; subst hw9) | (go_at_call 18; refine hln2.mono ?_; clear hln2; rintro e w9 ⟨rfl, hw9⟩; have hw9 := hw9.symm; subst hw9) | (at_builtin; refine wpList_append_run rfl _ _ _ rfl _ _ _ w' rfl rfl ha ?_))
          refine ⟨⟨j + 2, L ++ [(⟨t, j + 1, 1⟩ : Cu)], by omega, by go_num, HST.out, .inr ⟨k + 1, ?_⟩, KST.out⟩, by simp [intOf]; omega⟩
          rw [ht.out]
          exact HPC.out
    · have g1 : decide ((i : Int) < (m : Int)) = false := decide_eq_false (by omega)
      have g1n : decide (i < m) = false := decide_eq_false hlt
      obtain rfl : i = m := by omega
      have hfin : M = L.length ∧ L = (List.range M).map (fun j => cut (nmf nt z) i j) := by
        rcases hPC with ⟨rfl, rfl⟩ | ⟨k, hk⟩
        · have : M = 0 := by have := hM.1; omega
          subst this
          exact ⟨rfl, rfl⟩
        · obtain ⟨e1, e2⟩ := hk.all hM
          exact ⟨by rw [hk.len, e1], e2⟩
      obtain ⟨e1, e2⟩ := hfin
      have HO : Hid (wr.ownsRow w.heap.size 37 3 u5 M (fl ucells ((List.range M).map (fun j => cut (nmf nt z) i j)))) := by
        show _
        rw [← e2]; rw [← e1] at ho; exact ho
      clear e1 e2 ho hPC
      go_wp2_with fail
      go_ret
      exact ⟨_, rfl, HO.out, K⟩
end Go.Proofs.Ytgfjhogogajbjaa
