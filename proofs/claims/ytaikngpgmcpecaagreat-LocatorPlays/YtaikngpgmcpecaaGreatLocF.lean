import Derived.Test.YtaikngpgmcpecaaGreatLocE
namespace Go.Proofs.YtaikngpgmcpecaaGreat
open Go.RowKit

theorem madeVals (n : Nat) : (madeCells #[.int .i64 0, .int .i64 0, .bool false] (n * 3)).toList = fl vc3 (List.replicate n vl0) := by
  apply List.ext_getElem?
  intro j
  have hl : (fl vc3 (List.replicate n vl0)).length = n * 3 := by rw [fl_length vc3_len]; simp
  by_cases hj : j < n * 3
  · have hi : j / 3 < n := by omega
    have e := fl_get vc3_len (List.replicate n vl0) (j / 3) (j % 3) (by omega)
    rw [show j / 3 * 3 + j % 3 = j by omega] at e
    rw [e, List.getElem?_replicate, if_pos hi]
    have h3 : j % 3 = 0 ∨ j % 3 = 1 ∨ j % 3 = 2 := by omega
    rcases h3 with h | h | h <;> simp [madeCells, hj, h, vc3, vl0]
  · rw [List.getElem?_eq_none (by rw [Array.length_toList, size_madeCells]; omega), List.getElem?_eq_none (by omega)]

def set3 (W : World) (g o : Nat) (x : Vl) : World := ((W.setCell ⟨g, o, none⟩ (.int .i64 x.num)).setCell ⟨g, o + 1, none⟩ (.int .i64 x.next)).setCell ⟨g, o + 2, none⟩ (.bool x.dead)
theorem set3_keeps (W : World) (g o : Nat) (x : Vl) : Keeps (fun k => k = g) W (set3 W g o x) := ((keeps_set _ _ _ _).trans (keeps_set _ _ _ _)).trans (keeps_set _ _ _ _)
/-- A value is written into a row. -/
theorem stv {W : World} {base e g n cap : Nat} {L : List Vl} {i : Nat} (own : W.ownsRow base e 3 (.slice (some ⟨g, 0, none⟩) n cap) n (fl vc3 L)) (hi : i < L.length) (x : Vl) :
    (set3 W g (i * 3) x).ownsRow base e 3 (.slice (some ⟨g, 0, none⟩) n cap) n (fl vc3 (L.set i x)) := by
  have e1 := fl_set vc3_len L i 0 (L.getD i vl0) ⟨x.num, (L.getD i vl0).next, (L.getD i vl0).dead⟩ (.int .i64 x.num) (getD_get hi) (by omega) rfl
  have h1 := (own.stored (i * 3) (.int .i64 x.num)).1
  rw [show i * 3 = i * 3 + 0 from rfl, ← e1] at h1
  have q1 : (L.set i ⟨x.num, (L.getD i vl0).next, (L.getD i vl0).dead⟩)[i]? = some ⟨x.num, (L.getD i vl0).next, (L.getD i vl0).dead⟩ := by rw [List.getElem?_set_self hi]
  have e2 := fl_set vc3_len _ i 1 _ ⟨x.num, x.next, (L.getD i vl0).dead⟩ (.int .i64 x.next) q1 (by omega) rfl
  have h2 := (h1.stored (i * 3 + 1) (.int .i64 x.next)).1
  rw [← e2, List.set_set] at h2
  have q2 : (L.set i ⟨x.num, x.next, (L.getD i vl0).dead⟩)[i]? = some ⟨x.num, x.next, (L.getD i vl0).dead⟩ := by rw [List.getElem?_set_self hi]
  have e3 := fl_set vc3_len _ i 2 _ x (.bool x.dead) q2 (by omega) rfl
  have h3 := (h2.stored (i * 3 + 2) (.bool x.dead)).1
  rw [← e3, List.set_set] at h3
  exact h3

theorem infoV' : (Tryz.prog.info? 37).map (fun i => (i.zero, i.size, i.bytes)) = some (some (.agg #[.int .i64 0, .int .i64 0, .bool false]), 3, 24) := by kernel_rfl

section
variable {w w' : World} {ρ ρ' : Nat → Nat} {u j wb mb : Nat} {s s' : Ws} {m m' : Mm} {vo va vl vn : Value}
set_option maxHeartbeats 800000 in
set_option maxRecDepth 1000000 in
theorem objects_any (h : St w ρ u j wb mb s m) :
    Calls Tryz.prog 6 #[.pointer (some ⟨wb, 0, none⟩)] w fun e w' => e = .returned (.int .i64 (s.objs.length : Int)) ∧ w = w' := by
  obtain ⟨vo, va, vl, vn, hw⟩ := h.wj
  have hs := sizeO hw.po
  have hp := weq wb
  clear h hw
  go_enter Tryz.func6, Tryz.ntmps6
  go_wp2_with (go_at_call 27; refine hs.mono ?_; rintro e w' ⟨rfl, rfl⟩)
  go_ret
  exact ⟨rfl, rfl⟩

set_option maxHeartbeats 3200000 in
set_option maxRecDepth 1000000 in
theorem com_any (h : St w ρ u j wb mb s m) (f : Wf s m) :
    Calls Tryz.prog 22 #[.pointer (some ⟨wb, 0, none⟩)] w fun e w' => e = .returned (.slice (some ⟨w.heap.size, 0, none⟩) s.objs.length s.objs.length) ∧
      w'.ownsRow w.heap.size 37 3 (.slice (some ⟨w.heap.size, 0, none⟩) s.objs.length s.objs.length) s.objs.length (fl vc3 (s.com m)) ∧ Keeps (fun _ => False) w w' := by
  obtain ⟨i0, hi0, hz0, hz1, hz2⟩ := info_parts infoV'
  have hno := f.no
  have ho := objects_any h
  have hV : ∀ (W : World) (_ : Keeps (fun _ => False) w W) (i : Nat) (_ : i < s.objs.length), _ := fun W k i hi => value_any (h.new k).1 f hi
  have HV : Hid (∀ (W : World) (_ : Keeps (fun _ => False) w W) (i : Nat) (_ : i < s.objs.length), Calls Tryz.prog 53 #[.pointer (some ⟨wb, 0, none⟩), .int .i64 (i : Int)] W fun e w' => e = .returned (vv (s.value m i)) ∧ Keeps (fun _ => False) W w') := hV
  have hcom : Hid (s.com m = (List.range s.objs.length).map (s.value m)) := rfl
  clear hV h f
  generalize s.objs.length = n at *
  have hmk : ∀ W : World, (Instr.makeSlice 22 (.int .i64 (n : Int)) (.int .i64 (n : Int))).run Tryz.prog W = .ok (.slice (some ⟨W.heap.size, 0, none⟩) n n) (W.alloc (.cells (madeCells #[.int .i64 0, .int .i64 0, .bool false] (n * 3)) 37)) := fun W => by
    have := run_make (P := Tryz.prog) W 22 37 i0 _ underV hi0 hz0 .i64 .i64 n n (by omega) (by omega) (by rw [hz2]; omega) (by omega)
    rw [hz1] at this
    simpa [Value.cells] using this
  have K0 : Keeps (fun _ => False) w (w.alloc (.cells (madeCells #[.int .i64 0, .int .i64 0, .bool false] (n * 3)) 37)) := (Keeps.refl _ w).alloc _
  have own0 : (w.alloc (.cells (madeCells #[.int .i64 0, .int .i64 0, .bool false] (n * 3)) 37)).ownsRow w.heap.size 37 3 (.slice (some ⟨w.heap.size, 0, none⟩) n n) n (fl vc3 (List.replicate n vl0)) := by
    have := World.ownsRow_lit (base := w.heap.size) (e := 37) (size := 3) w (madeCells #[.int .i64 0, .int .i64 0, .bool false] (n * 3)) n (Nat.le_refl _) (by unfold maxLen; omega) (by simp [size_madeCells])
    rw [madeVals] at this; exact this
  go_enter Tryz.func22, Tryz.ntmps22
  go_wp2_with (go_at_call 6; refine ho.mono ?_; clear ho; rintro e w' ⟨rfl, rfl⟩)
  clear hmk
  go_loopw [10] (fun iv wr => ∃ (i : Nat) (L : List Vl), iv = .int .i64 (i : Int) ∧ i ≤ n ∧ L.length = n ∧ Hid (∀ k, k < i → L[k]? = some (s.value m k)) ∧ wr.ownsRow w.heap.size 37 3 (.slice (some ⟨w.heap.size, 0, none⟩) n n) n (fl vc3 L) ∧ Keeps (fun _ => False) w wr) (fun iv _ => n - (intOf iv).toNat)
  case atStart => exact ⟨0, List.replicate n vl0, rfl, Nat.zero_le _, by simp, (fun k hk => by omega), own0, K0⟩
  case round =>
    clear own0 K0
    obtain ⟨i, L, rfl, hin, hL, hv, own, hk⟩ := hrel
    by_cases hlt : i < n
    · have hltI : (i : Int) < (n : Int) := by omega
      have hiL : i < L.length := by omega
      have A := HV.out wr hk i hlt
      obtain ⟨x, hx⟩ : ∃ x, Hid (s.value m i = x) := ⟨_, rfl⟩
      rw [show s.value m i = x from hx] at A
      have HL : Hid (L.length = n) := hL
      have HK : Hid (Keeps (fun _ => False) w wr) := hk
      clear hL hk
      have wl := HK.out.size
      go_wp2_with (go_at_call 53; refine A.mono ?_; clear A; rintro e w2 ⟨rfl, k2⟩; have own2 := k2.owns own (fun _ _ e => e); have z0 := own2.frozenAt (i * 3); have z1 := own2.frozenAt (i * 3 + 1); have z2 := own2.frozenAt (i * 3 + 2); have c0 := owns_cell own2 rfl (j := i * 3) (u := .int .i64 (L.getD i vl0).num) (by have := fl_get vc3_len L i 0 (by omega); rw [getD_get (d := vl0) hiL] at this; exact this); have c1 := owns_cell own2 rfl (j := i * 3 + 1) (u := .int .i64 (L.getD i vl0).next) (by have := fl_get vc3_len L i 1 (by omega); rw [getD_get (d := vl0) hiL] at this; exact this); have c2 := owns_cell own2 rfl (j := i * 3 + 2) (u := .bool (L.getD i vl0).dead) (by have := fl_get vc3_len L i 2 (by omega); rw [getD_get (d := vl0) hiL] at this; exact this); simp only [vv])
      have own3 := stv own2 hiL x
      go_roundw
      case rel =>
        refine ⟨i + 1, L.set i x, by go_num, by omega, by rw [List.length_set]; exact HL.out, fun k hk => ?_, own3, HK.out.trans' (k2.trans' (set3_keeps w2 w.heap.size (i * 3) x) (U := fun k => k = w.heap.size) (fun _ _ e => e.elim) (fun _ _ e => e)) (fun _ _ e => e) (fun a ha e => by omega)⟩
        rw [List.getElem?_set]
        by_cases e : i = k
        · subst e; rw [if_pos rfl, if_pos hiL, ← hx.out]
        · rw [if_neg e]; exact hv.out k (by omega)
      case measure => simp [intOf]; omega
    · have hltI : ¬ (i : Int) < (n : Int) := by omega
      have e : L = s.com m := by
        rw [hcom.out]
        apply List.ext_getElem?
        intro k
        by_cases hk' : k < n
        · rw [hv.out k (by omega)]; simp [hk']
        · rw [List.getElem?_eq_none (by omega), List.getElem?_eq_none (by simp; omega)]
      rw [e] at own
      clear e hL
      go_wp2_with fail
      go_ret
      exact ⟨rfl, own, hk⟩
end
end Go.Proofs.YtaikngpgmcpecaaGreat
