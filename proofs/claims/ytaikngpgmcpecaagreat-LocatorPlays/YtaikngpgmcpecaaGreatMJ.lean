import Derived.Test.YtaikngpgmcpecaaGreatMI
namespace Go.Proofs.YtaikngpgmcpecaaGreat
open Go.RowKit
theorem rweq (b : Nat) : ∀ w : World, (binOp .eql 31 (.pointer (some ⟨b, 0, none⟩)) (.pointer none)).run Tryz.prog w = .ok (.bool false) w := fun w => by kernel_rfl
theorem weqn : ∀ w : World, (binOp .eql 29 (.pointer none) (.pointer none)).run Tryz.prog w = .ok (.bool true) w := fun w => by kernel_rfl
theorem rweqn : ∀ w : World, (binOp .eql 31 (.pointer none) (.pointer none)).run Tryz.prog w = .ok (.bool true) w := fun w => by kernel_rfl
theorem fit_nm {m : Mm} (h : m.fit) : ∀ k, (nm m k).fit
  | 0 => by rw [nm_zero]; exact (h.make 2).make 0
  | k + 1 => by rw [← nm_succ]; exact (fit_nm h k).make k
section
variable {w w' : World} {ρ : Nat → Nat} {D D' : Nat → Prop} {wb mb : Nat} {s : Ws} {m : Mm}
theorem St.left (st : St w ρ 1 2 wb mb s m) (dz : ∀ k, D k → ρ k = 0) (l : LeftP w w' D D') : St w' ρ 1 2 wb mb s m ∧ (∀ k, D' k → ρ k = 0) ∧ Lv w w' ρ ρ D D' := by
  have x : Ext (fun r => r = 0) w w' ρ ρ := ⟨l.keeps.mono (fun i _ e => dz i e), fun _ _ => rfl, fun i hi => .inr (st.bnd i hi)⟩
  refine ⟨⟨fun i hi => st.bnd i (Nat.le_trans l.keeps.size hi), st.mj.ext x (fun e => st.u0 e), st.wj.ext x (fun r h1 h2 e => st.j0 (by omega)), st.u0, st.j0, st.ap⟩, fun k hk => (l.old k hk).elim (dz k) (st.bnd k), l.keeps.mono (fun _ _ e => .inr e), fun k hk h1 h2 => ⟨h1, fun e => (l.old k e).elim h2 (fun e => by omega)⟩⟩
theorem VB.keep {a : Option Addr} {l : List Vl} (h : VB w a l) (k : Keeps (fun _ => False) w w') : VB w' a l := fun i hi => by
  obtain ⟨b, off, e, hc⟩ := h i hi
  exact ⟨b, off, e, fun j v q => k.cell (hc j v q) id⟩
theorem VB.va {a : Option Addr} {l : List Vl} (h : VB w a l) : VA w a l := by
  rcases Nat.eq_zero_or_pos l.length with h0 | h0
  · exact .inl h0
  · obtain ⟨b, off, e, -⟩ := h 0 h0
    refine .inr ⟨b, off, e, fun i v hi => ?_⟩
    obtain ⟨b', off', e', hc⟩ := h i (List.getElem?_eq_some_iff.1 hi).1
    rw [e] at e'
    cases e'
    have ev : l.getD i vl0 = v := by rw [List.getD_eq_getElem?_getD, hi]; rfl
    rw [ev] at hc
    exact ⟨hc 0 _ rfl, hc 1 _ rfl, hc 2 _ rfl⟩
theorem VA.vl {a : Option Addr} {l : List Vl} (h : VA w a l) (hb : ∀ b off, a = some ⟨b, off, none⟩ → ρ b = 0) : VL w ρ a l := by
  rcases h with h | ⟨b, off, rfl, h⟩
  · exact .inl h
  · exact .inr ⟨b, off, rfl, hb b off rfl, h⟩
theorem VA.rvl {a : Option Addr} {l : List Vl} (h : VA w a l) (hb : ∀ b off, a = some ⟨b, off, none⟩ → ¬ D b) : RVL w D a l := fun i hi => by
  obtain ⟨b, off, e, q⟩ := h.at hi
  exact ⟨b, off, e, hb b off e, q⟩
end
/-- What begins answers. -/
def BG (w : World) (vs : List Vl) (e : Ending) (w' : World) : Prop := ∃ pb, e = .returned (.tuple #[.pointer (some ⟨pb, 0, none⟩), .bool true]) ∧ Keeps (fun _ => False) w w' ∧ (w'.cell? ⟨pb, 3, none⟩ = some (.pointer none) ∨ ∃ ρ D wb mb qb rb s m, PP w' ρ D wb mb qb rb s m ∧ PBl w' ρ D pb mb wb rb qb ∧ (∀ i, i < w.heap.size → ρ i = 0 ∧ ¬ D i) ∧ s.objs.length = vs.length ∧ lg m = 0)
set_option maxHeartbeats 1600000 in
set_option maxRecDepth 1000000 in
theorem begins_any {w : World} (cells : Int) {a : Option Addr} {cap : Nat} {vs : List Vl} (hv : VB w a vs) (hz : a = none → cap = 0) (hn : vs.length ≤ 5864062014805) : Calls Tryz.prog 5 #[.int .i64 cells, .slice a vs.length cap] w (BG w vs) := by
  have HV : Hid (VB w a vs) := hv
  have HZ : Hid (a = none → cap = 0) := hz
  have hp := peq w.heap.size
  obtain ⟨n, hnn⟩ : ∃ x, x = vs.length := ⟨_, rfl⟩
  have HN : Hid (n = vs.length) := hnn
  rw [← hnn] at hn
  rw [← hnn]
  have hne1 := new_any w
  clear hv hz hnn
  go_enter Tryz.func5, Tryz.ntmps5
  refine wp_seq_k (fun KK hKK => ?_)
  have hKH : Hid _ := hKK
  clear hKK
  go_wp2_with fail
  refine hKH.out _ _ ?_
  clear hKH KK
  refine wp_seq_k (fun KK hKK => ?_)
  have hKH : Hid _ := hKK
  clear hKK
  go_wp2_with (first | (go_at_call 13; refine hne1.mono ?_; clear hne1; rintro e w1 ⟨rfl, M1, k1⟩; have hne2 := rnew_any w1) | (go_at_call 23; refine hne2.mono ?_; clear hne2; rintro e w2 ⟨rfl, R2, k2⟩))
  refine hKH.out _ _ ?_
  clear hKH KK
  obtain ⟨W3, hW3⟩ : ∃ x, x = w2.alloc (.cells #[.pointer (some ⟨w.heap.size, 0, none⟩), .pointer none, .pointer (some ⟨w1.heap.size, 0, none⟩), .pointer none] 33) := ⟨_, rfl⟩
  have k3 : Keeps (fun _ => False) w2 W3 := by rw [hW3]; exact (Keeps.refl _ w2).alloc _
  have CL3 : CL W3 w2.heap.size [.pointer (some ⟨w.heap.size, 0, none⟩), .pointer none, .pointer (some ⟨w1.heap.size, 0, none⟩), .pointer none] := by rw [hW3]; exact CL.made w2 [.pointer (some ⟨w.heap.size, 0, none⟩), .pointer none, .pointer (some ⟨w1.heap.size, 0, none⟩), .pointer none] 33
  rw [← hW3]
  clear hW3
  have lm : w.heap.size < w1.heap.size := M1.lt _ M1.mem
  have lr : w1.heap.size < w2.heap.size := R2.lt rfl
  have hM : MJ w1 (fun k => if k = w.heap.size then 1 else 0) 1 w.heap.size Mm.new := ⟨_, M1, fun k hk => by simp at hk; exact if_pos hk⟩
  have hB : Bnd w1 (fun k => if k = w.heap.size then 1 else 0) := fun k hk => if_neg (by omega)
  have hr0 : ∀ k, k ≠ w.heap.size → (fun k => if k = w.heap.size then 1 else 0) k = 0 := fun k hk => if_neg hk
  generalize (fun k => if k = w.heap.size then 1 else 0) = ρ1 at hM hB hr0
  obtain ⟨x3, B3⟩ := Ext.alloc (S := fun _ => False) hB (k2.trans k3)
  have hPM : PM W3 ρ1 (fun k => k = w1.heap.size) w.heap.size w1.heap.size Mm.new := ⟨⟨B3, hM.ext x3 (fun e => e), R2.new k3, fun k hk => hr0 k (by have hk : k = w1.heap.size := hk; omega)⟩, fit_new, by decide⟩
  have hPB : PBm W3 ρ1 (fun k => k = w1.heap.size) w2.heap.size w.heap.size w1.heap.size := ⟨CL3.c 0 _ rfl, CL3.c 2 _ rfl, hr0 _ (by omega), by show ¬ (_ = _); omega⟩
  have K3 : Keeps (fun _ => False) w W3 := (k1.trans k2).trans k3
  have hbk := bulkm_any hPM hPB cells 0 0 0 0 false false
  have HB0 : Hid (∀ i, i < w.heap.size → ρ1 i = 0 ∧ ¬ (i = w1.heap.size)) := fun i hi => ⟨hr0 i (by omega), by omega⟩
  have HPBz : Hid (ρ1 w2.heap.size = 0 ∧ ¬ (w2.heap.size = w1.heap.size)) := ⟨hr0 _ (by omega), by omega⟩
  have p0 := CL3.c 0 _ rfl
  have HCL3 : Hid (CL W3 w2.heap.size [.pointer (some ⟨w.heap.size, 0, none⟩), .pointer none, .pointer (some ⟨w1.heap.size, 0, none⟩), .pointer none]) := CL3
  have HK3 : Hid (Keeps (fun _ => False) w W3) := K3
  have HPB3 : Hid (PBm W3 ρ1 (fun k => k = w1.heap.size) w2.heap.size w.heap.size w1.heap.size) := hPB
  clear CL3 hPM hPB hM hB hr0 x3 B3 M1 R2 k1 k2 k3 K3
  refine wp_seq_k (fun KK hKK => ?_)
  have hKH : Hid _ := hKK
  clear hKK
  go_wp2_with fail
  refine hKH.out _ _ ?_
  clear hKH KK
  refine wp_seq_k (fun KK hKK => ?_)
  have hKH : Hid _ := hKK
  clear hKK
  go_wp2_with (go_at_call 24; refine hbk.mono ?_; clear hbk; rintro e w4 ⟨rfl, ρ4, D4, m4, h4, lv4, lg4⟩)
  refine hKH.out _ _ ?_
  clear hKH KK
  refine wp_seq_k (fun KK hKK => ?_)
  have hKH : Hid _ := hKK
  clear hKK
  go_wp2_with fail
  refine hKH.out _ _ ?_
  clear hKH KK
  obtain ⟨K4, hb4⟩ := lv4.base HK3.out HB0.out
  have hpz := lv4.old w2.heap.size (World.block_lt_of_cell? _ _ p0) HPBz.out.1 HPBz.out.2
  have CL4 := HCL3.out.keep (by show 0 < 4; decide) lv4.keeps (fun e => e.elim (fun e => e HPBz.out.1) (fun e => HPBz.out.2 e))
  have hv4 := HV.out.keep K4
  obtain ⟨cv, W5, hr5, hO5, k5⟩ := copy_vals (cap := cap) hv4 HZ.out (by rw [← HN.out]; exact hn)
  rw [← HN.out] at hr5 hO5
  obtain ⟨ak, ck, rfl, -⟩ := own_slice hO5
  clear hv4 lv4 HCL3 HPB3 HPBz HB0 p0
  refine wp_seq_k (fun KK hKK => ?_)
  have hKH : Hid _ := hKK
  clear hKK
  go_wp2_with (at_builtin; refine wpList_append_tL rfl _ _ _ rfl _ _ _ W5 rfl rfl hr5 ?_; clear hr5)
  refine hKH.out _ _ ?_
  clear hKH KK
  have hn0 : Hid (n = vs.length) := HN.out
  have h5 := h4.new k5
  have K5 : Keeps (fun _ => False) w W5 := K4.trans k5
  have HV5 : Hid (VB W5 a vs) := HV.out.keep K5
  have HVB : Hid (∀ b off, a = some ⟨b, off, none⟩ → 0 < n → b < w.heap.size) := fun b off e h0 => by
    obtain ⟨b', off', e', hc⟩ := HV.out 0 (by rw [← hn0.out]; exact h0)
    rw [e] at e'
    cases e'
    exact World.block_lt_of_cell? _ _ (hc 0 _ rfl)
  have HKB : Hid (∀ g, (Value.slice ak n ck).ownBlock = some g → ρ4 g = 0 ∧ ¬ D4 g) := fun g e => by
    have hg := owns_baseT hO5 g e
    exact ⟨h4.hm.bn g hg, fun e' => by have := h4.hm.ri.lt e'; omega⟩
  have CL5 := CL4.keep (by show 0 < 4; decide) k5 id
  have HO5 : Hid (W5.ownsRow w4.heap.size 37 3 (.slice ak n ck) n (fl vc3 vs)) := hO5
  have H5 : Hid (PM W5 ρ4 D4 w.heap.size w1.heap.size m4) := h5
  have HLG : Hid (lg m4 = 0) := by rw [lg4]; rfl
  have HPZ : Hid (ρ4 w2.heap.size = 0 ∧ ¬ D4 w2.heap.size) := hpz
  have HB4 : Hid (∀ i, i < w.heap.size → ρ4 i = 0 ∧ ¬ D4 i) := hb4
  have HCL5 : Hid (CL W5 w2.heap.size [.pointer (some ⟨w.heap.size, 0, none⟩), .pointer none, .pointer (some ⟨w1.heap.size, 0, none⟩), .pointer none]) := CL5
  have p0 := CL5.c 0 _ rfl
  have HK5 : Hid (Keeps (fun _ => False) w W5) := K5
  clear h4 h5 CL4 CL5 hO5 hpz hb4 lg4 K4 K5 k5 HV HK3
  have hnu := fun W x => num_of W x
  have HLW : Hid (w.heap.size < w2.heap.size) := by show _ < _; omega
  by_cases hok : 1 ≤ n ∧ n ≤ 80 ∧ m4.cells.length + 2 + n ≤ 65536
  · obtain ⟨h1, h80, hr⟩ := hok
    have hnw := New_ok H5.out.hm.mj (j := 2) (by decide) (by decide) (by decide) (HV5.out.va.vl (ρ := ρ4) (fun b off e => (HB4.out b (HVB.out b off e h1)).1)) cap (by rw [← HN.out]; exact h1) (by rw [← HN.out]; exact h80) (by rw [← HN.out]; exact hr)
    rw [← HN.out] at hnw
    have hq1 := weq W5.heap.size
    refine wp_seq_k (fun KK hKK => ?_)
    have hKH : Hid _ := hKK
    clear hKK
    go_wp2_with (go_at_call 14; refine hnw.mono ?_; clear hnw; rintro e w6 ⟨rfl, ρ6, st6, x6⟩)
    refine hKH.out _ _ ?_
    clear hKH KK
    have n0 : ¬ Sr 1 2 0 := Sr.not0 st6
    have LV6 : Lv W5 w6 ρ4 ρ6 D4 D4 := ⟨x6.keeps.mono (fun i _ e => .inl (fun e' => n0 (by rw [e'] at e; exact e))), fun k hk a b => ⟨(x6.old k hk).trans a, b⟩⟩
    have ri6 : RI w6 w1.heap.size m4 D4 := H5.out.hm.ri.keep x6.keeps (fun i hi e => n0 (by rw [H5.out.hm.dz i hi] at e; exact e))
    have dz6 : ∀ k, D4 k → ρ6 k = 0 := fun k hk => (x6.old k (H5.out.hm.ri.lt hk)).trans (H5.out.hm.dz k hk)
    obtain ⟨K6, hb6⟩ := LV6.base HK5.out HB4.out
    have hv6 : VA w6 a vs := by
      have h := HV5.out
      refine VB.va (fun i hi => ?_)
      obtain ⟨b, off, e, hc⟩ := h i hi
      have hb := HB4.out b (HVB.out b off e h1)
      exact ⟨b, off, e, fun j v q => LV6.cell (hc j v q) hb.1 hb.2⟩
    have hO6 := LV6.keeps.owns HO5.out (fun g e e' => by
      have q := HKB.out g e
      exact e'.elim (fun e' => e' q.1) q.2)
    obtain ⟨ak', ck', ek, hk6, hkb⟩ := va_own hO6 HN.out.symm
    injection ek with ek1 _ ek2
    subst ek1 ek2
    have hsm := same_eq2 hk6 hv6 (by rw [← HN.out]; omega) ck cap
    rw [← HN.out] at hsm
    have hz6 := LV6.old w2.heap.size (World.block_lt_of_cell? _ _ p0) HPZ.out.1 HPZ.out.2
    have CL6 := HCL5.out.keep (by show 0 < 4; decide) LV6.keeps (fun e => e.elim (fun e => e HPZ.out.1) (fun e => HPZ.out.2 e))
    have p2 := CL6.c 2 _ rfl
    have HKD : Hid (∀ b off, ak = some ⟨b, off, none⟩ → ¬ D4 b) := fun b off e => (HKB.out b (by rw [e]; rfl)).2
    have HST6 : Hid (St w6 ρ6 1 2 W5.heap.size w.heap.size (nw vs m4.cells.length n) (nm m4 n)) := st6
    have HRI6 : Hid (RI w6 w1.heap.size m4 D4) := ri6
    have HDZ6 : Hid (∀ k, D4 k → ρ6 k = 0) := dz6
    have HB6 : Hid (∀ i, i < w.heap.size → ρ6 i = 0 ∧ ¬ D4 i) := hb6
    have HK6 : Hid (Keeps (fun _ => False) w w6) := K6
    have HVK : Hid (VA w6 ak vs) := hk6
    have HZ6 : Hid (ρ6 w2.heap.size = 0 ∧ ¬ D4 w2.heap.size) := hz6
    have HCL6 : Hid (CL w6 w2.heap.size [.pointer (some ⟨w.heap.size, 0, none⟩), .pointer none, .pointer (some ⟨w1.heap.size, 0, none⟩), .pointer none]) := CL6
    clear n0 LV6 x6 st6 ri6 dz6 K6 hb6 hv6 hO6 hk6 hkb hz6 CL6 HCL5 HPZ HB4 HV5 HKB HO5 p0
    refine wp_seq_k (fun KK hKK => ?_)
    have hKH : Hid _ := hKK
    clear hKK
    go_wp2_with (go_at_call 25; refine hsm.mono ?_; clear hsm; rintro e w7 ⟨rfl, k7⟩)
    refine hKH.out _ _ ?_
    clear hKH KK
    have hrn := rNew_ok (HRI6.out.new k7) ((HVK.out.new k7).rvl HKD.out) ck (by rw [← HN.out]; exact h1) (by rw [← HN.out]; exact h80) (by rw [← HN.out]; exact hr)
    rw [← HN.out] at hrn
    have hq2 := rweq w7.heap.size
    have p2 := k7.cell p2 id
    refine wp_seq_k (fun KK hKK => ?_)
    have hKH : Hid _ := hKK
    clear hKK
    go_wp2_with (go_at_call 26; refine hrn.mono ?_; clear hrn; rintro e w8 ⟨rfl, D8, di8, l8⟩)
    refine hKH.out _ _ ?_
    clear hKH KK
    obtain ⟨st8, dz8, LV8⟩ := St.left (HST6.out.new k7).1 HDZ6.out l8
    have hz8 := LV8.old w2.heap.size (Nat.lt_of_lt_of_le (World.block_lt_of_cell? _ _ (HCL6.out.c 0 _ rfl)) k7.size) HZ6.out.1 HZ6.out.2
    have CL8 := (HCL6.out.keep (by show 0 < 4; decide) k7 id).keep (by show 0 < 4; decide) LV8.keeps (fun e => e.elim (fun e => e HZ6.out.1) (fun e => HZ6.out.2 e))
    obtain ⟨K8, hb8⟩ := LV8.base (HK6.out.trans k7) HB6.out
    have c1 := CL8.c 1 _ rfl
    have c3 := CL8.c 3 _ rfl
    have zc1 := CL8.z 1 (by show 1 < 4; decide)
    have zc3 := CL8.z 3 (by show 3 < 4; decide)
    have HFIN : Hid (∀ W9, W9 = (w8.setCell ⟨w2.heap.size, 1, none⟩ (.pointer (some ⟨W5.heap.size, 0, none⟩))).setCell ⟨w2.heap.size, 3, none⟩ (.pointer (some ⟨w7.heap.size, 0, none⟩)) → BG w vs (.returned (.tuple #[.pointer (some ⟨w2.heap.size, 0, none⟩), .bool true])) W9) := by
      intro W9 hW9
      have kp : Keeps (fun k => k = w2.heap.size) w8 W9 := by rw [hW9]; exact (keeps_set _ _ _ _).trans (keeps_set _ _ _ _)
      have CL9 : CL W9 w2.heap.size [.pointer (some ⟨w.heap.size, 0, none⟩), .pointer (some ⟨W5.heap.size, 0, none⟩), .pointer (some ⟨w1.heap.size, 0, none⟩), .pointer (some ⟨w7.heap.size, 0, none⟩)] := by
        rw [hW9]
        exact (CL8.set (o := 1) (by show 1 < 4; decide) _).set (o := 3) (by show 3 < 4; decide) _
      have hlw : ¬ w2.heap.size < w.heap.size := fun e => by have := HLW.out; omega
      refine ⟨w2.heap.size, rfl, K8.trans' kp (fun _ _ e => e) (fun i hi e => hlw (by have e : i = w2.heap.size := e; omega)), .inr ⟨ρ6, D8, W5.heap.size, w.heap.size, w7.heap.size, w1.heap.size, _, _, ⟨⟨st8.wr kp hz8.1, di8.keep kp (fun i hi e => hz8.2 (by have e : i = w2.heap.size := e; rw [← e]; exact hi)), dz8⟩, ?_, fit_nm H5.out.ft n, by rw [nm_len]; omega⟩, ⟨CL9.c 0 _ rfl, CL9.c 1 _ rfl, CL9.c 2 _ rfl, CL9.c 3 _ rfl, hz8.1, hz8.2⟩, hb8, by simp [nw, HN.out], HLG.out⟩⟩
      have := inv_nw vs m4 (by rw [← HN.out]; exact h80) (by rw [← HN.out]; exact h1)
      rw [← HN.out] at this
      exact this
    clear st8 dz8 LV8 hz8 CL8 K8 hb8 di8 l8
    go_wp2_with (go_at_call 15; refine (hnu _ _).mono ?_; rintro e wn ⟨rfl, hwn⟩; rw [← hwn]; clear hwn wn)
    go_ret2
    exact HFIN.out _ rfl
  · have hno : n < 1 ∨ 80 < n ∨ (1 ≤ n ∧ n ≤ 80 ∧ 65536 < m4.cells.length + 2 + n) := by omega
    have hnw := New_no H5.out.hm.mj (a := a) (cap := cap) hno
    have hq1 := weqn
    have hq2 := rweqn
    refine wp_seq_k (fun KK hKK => ?_)
    have hKH : Hid _ := hKK
    clear hKK
    go_wp2_with (go_at_call 14; refine hnw.mono ?_; clear hnw; rintro e w6 ⟨rfl, k6⟩)
    refine hKH.out _ _ ?_
    clear hKH KK
    obtain ⟨ak', ck', ek, hk6, -⟩ := va_own (k6.owns HO5.out (fun _ _ e => e)) HN.out.symm
    injection ek with ek1 _ ek2
    subst ek1 ek2
    have hsm := same_eq2 hk6 (HV5.out.keep k6).va (by rw [← HN.out]; omega) ck cap
    rw [← HN.out] at hsm
    have CL6 := HCL5.out.keep (by show 0 < 4; decide) k6 id
    have p2 := CL6.c 2 _ rfl
    have HCL6 : Hid (CL w6 w2.heap.size [.pointer (some ⟨w.heap.size, 0, none⟩), .pointer none, .pointer (some ⟨w1.heap.size, 0, none⟩), .pointer none]) := CL6
    clear hk6 CL6 HCL5 HPZ HB4 HV5 HKB HO5 p0
    refine wp_seq_k (fun KK hKK => ?_)
    have hKH : Hid _ := hKK
    clear hKK
    go_wp2_with (go_at_call 25; refine hsm.mono ?_; clear hsm; rintro e w7 ⟨rfl, k7⟩)
    refine hKH.out _ _ ?_
    clear hKH KK
    have hrn := rNew_no (a := ak) (cap := ck) (H5.out.hm.ri.new (k6.trans k7)) H5.out.cl hno
    have p2 := k7.cell p2 id
    refine wp_seq_k (fun KK hKK => ?_)
    have hKH : Hid _ := hKK
    clear hKK
    go_wp2_with (go_at_call 26; refine hrn.mono ?_; clear hrn; rintro e w8 ⟨rfl, k8⟩)
    refine hKH.out _ _ ?_
    clear hKH KK
    have CL8 := HCL6.out.keep (by show 0 < 4; decide) (k7.trans k8) id
    have K8 : Keeps (fun _ => False) w w8 := (HK5.out.trans k6).trans (k7.trans k8)
    have c1 := CL8.c 1 _ rfl
    have c3 := CL8.c 3 _ rfl
    have zc1 := CL8.z 1 (by show 1 < 4; decide)
    have zc3 := CL8.z 3 (by show 3 < 4; decide)
    have HFIN : Hid (∀ W9, W9 = (w8.setCell ⟨w2.heap.size, 1, none⟩ (.pointer none)).setCell ⟨w2.heap.size, 3, none⟩ (.pointer none) → BG w vs (.returned (.tuple #[.pointer (some ⟨w2.heap.size, 0, none⟩), .bool true])) W9) := by
      intro W9 hW9
      have kp : Keeps (fun k => k = w2.heap.size) w8 W9 := by rw [hW9]; exact (keeps_set _ _ _ _).trans (keeps_set _ _ _ _)
      have CL9 := (CL8.set (o := 1) (by show 1 < 4; decide) (.pointer none)).set (o := 3) (by show 3 < 4; decide) (.pointer none)
      rw [← hW9] at CL9
      have hlw : ¬ w2.heap.size < w.heap.size := fun e => by have := HLW.out; omega
      exact ⟨w2.heap.size, rfl, K8.trans' kp (fun _ _ e => e) (fun i hi e => hlw (by have e : i = w2.heap.size := e; omega)), .inl (CL9.c 3 _ rfl)⟩
    clear CL8 K8
    go_wp2_with (go_at_call 15; refine (hnu _ _).mono ?_; rintro e wn ⟨rfl, hwn⟩; rw [← hwn]; clear hwn wn)
    go_ret2
    exact HFIN.out _ rfl
end Go.Proofs.YtaikngpgmcpecaaGreat
namespace Go.Proofs.YtaikngpgmcpecaaGreat
open Go.RowKit
theorem owns_rows {w : World} {base e : Nat} {v : Value} {L : List Rw} (h : w.ownsRow base e 7 v L.length (fl rcells L)) : ∃ a g cap, v = .slice a L.length cap ∧ ∀ i, i < L.length → a = some ⟨g, 0, none⟩ ∧ RowAt w g (i * 7) (ra L i) := by
  obtain ⟨a, cap, rfl, hs⟩ := owns_slice h
  by_cases h0 : 0 < L.length
  · obtain ⟨g, rfl, hg⟩ := hs h0
    exact ⟨_, g, cap, rfl, fun i hi => ⟨rfl, owns_row h hg hi⟩⟩
  · exact ⟨a, 0, cap, rfl, fun i hi => by omega⟩
set_option maxHeartbeats 1600000 in
set_option maxRecDepth 1000000 in
theorem sameLog_any {w : World} {g1 g2 c1 c2 : Nat} {a1 a2 : Option Addr} (L : List Rw) (hL : L.length ≤ 4611686018427387903) (h1 : ∀ i, i < L.length → a1 = some ⟨g1, 0, none⟩ ∧ RowAt w g1 (i * 7) (ra L i)) (h2 : ∀ i, i < L.length → a2 = some ⟨g2, 0, none⟩ ∧ RowAt w g2 (i * 7) (ra L i)) :
    Calls Tryz.prog 10 #[.slice a1 L.length c1, .slice a2 L.length c2] w fun e w' => e = .returned (.bool true) ∧ Keeps (fun _ => False) w w' := by
  have H1 : Hid (∀ i, i < L.length → a1 = some ⟨g1, 0, none⟩ ∧ RowAt w g1 (i * 7) (ra L i)) := h1
  have H2 : Hid (∀ i, i < L.length → a2 = some ⟨g2, 0, none⟩ ∧ RowAt w g2 (i * 7) (ra L i)) := h2
  clear h1 h2
  obtain ⟨n, hn⟩ : ∃ x, x = L.length := ⟨_, rfl⟩
  have HN : Hid (n = L.length) := hn
  rw [← hn] at hL
  rw [← hn]
  clear hn
  go_enter Tryz.func10, Tryz.ntmps10
  go_wp2_with fail
  go_loopg [5] n (fun g iv Wr => ∃ i : Nat, i + g = n ∧ iv = .int .i64 (i : Int) ∧ Keeps (fun _ => False) w Wr)
  case atStart => exact ⟨0, by omega, rfl, Keeps.refl _ _⟩
  case round =>
    obtain ⟨i, hig, rfl, kr⟩ := hrel
    cases gk with
    | zero =>
      have d1 : decide ((i : Int) < (n : Int)) = false := decide_eq_false (by omega)
      have d2 : decide (i < n) = false := decide_eq_false (by omega)
      go_wp2_with fail
      go_ret
      exact ⟨rfl, kr⟩
    | succ g =>
      have hi : i < n := by omega
      have d1 : decide ((i : Int) < (n : Int)) = true := decide_eq_true (by omega)
      have d2 : decide (i < n) = true := decide_eq_true hi
      have d3 : IntKind.i64.wrap ((i : Int) + 1) = (i : Int) + 1 := by rw [IntKind.wrap_i64]; omega
      have hiI : (i : Int) < (n : Int) := by omega
      have hi0 : (0 : Int) ≤ (i : Int) := by omega
      obtain ⟨rfl, R1⟩ := H1.out i (by rw [← HN.out]; exact hi)
      obtain ⟨rfl, R2⟩ := H2.out i (by rw [← HN.out]; exact hi)
      have R1 := R1.keep kr id
      have R2 := R2.keep kr id
      generalize ra L i = r at *
      have b0 : wr.cell? ⟨g2, i * 7, none⟩ = some (.int .i64 r.step) := R2.r0
      have nb0 := World.new_ne wr _ b0
      have b1 : wr.cell? ⟨g2, i * 7 + 1, none⟩ = some (.int .i64 r.thread) := R2.r1
      have nb1 := World.new_ne wr _ b1
      have b2 : wr.cell? ⟨g2, i * 7 + 2, none⟩ = some (.int .i64 r.kind) := R2.r2
      have nb2 := World.new_ne wr _ b2
      have b3 : wr.cell? ⟨g2, i * 7 + 3, none⟩ = some (.int .i64 r.cell) := R2.r3
      have nb3 := World.new_ne wr _ b3
      have b4 : wr.cell? ⟨g2, i * 7 + 4, none⟩ = some (.int .i64 r.seen) := R2.r4
      have nb4 := World.new_ne wr _ b4
      have b5 : wr.cell? ⟨g2, i * 7 + 5, none⟩ = some (.int .i64 r.wrote) := R2.r5
      have nb5 := World.new_ne wr _ b5
      have b6 : wr.cell? ⟨g2, i * 7 + 6, none⟩ = some (.bool r.done) := R2.r6
      have nb6 := World.new_ne wr _ b6
      have a0 : wr.cell? ⟨g1, i * 7, none⟩ = some (.int .i64 r.step) := R1.r0
      have a1 : wr.cell? ⟨g1, i * 7 + 1, none⟩ = some (.int .i64 r.thread) := R1.r1
      have a2 : wr.cell? ⟨g1, i * 7 + 2, none⟩ = some (.int .i64 r.kind) := R1.r2
      have a3 : wr.cell? ⟨g1, i * 7 + 3, none⟩ = some (.int .i64 r.cell) := R1.r3
      have a4 : wr.cell? ⟨g1, i * 7 + 4, none⟩ = some (.int .i64 r.seen) := R1.r4
      have a5 : wr.cell? ⟨g1, i * 7 + 5, none⟩ = some (.int .i64 r.wrote) := R1.r5
      have a6 : wr.cell? ⟨g1, i * 7 + 6, none⟩ = some (.bool r.done) := R1.r6
      have HR1 : Hid (RowAt wr g1 (i * 7) r) := R1
      clear R1 R2
      go_wp2_with fail
      go_region_held3 (fun w' => w'.cell? ⟨g2, i * 7, none⟩ = some (.int .i64 r.step) ∧ w'.cell? ⟨g2, i * 7 + 1, none⟩ = some (.int .i64 r.thread) ∧ w'.cell? ⟨g2, i * 7 + 2, none⟩ = some (.int .i64 r.kind) ∧ w'.cell? ⟨g2, i * 7 + 3, none⟩ = some (.int .i64 r.cell) ∧ w'.cell? ⟨g2, i * 7 + 4, none⟩ = some (.int .i64 r.seen) ∧ w'.cell? ⟨g2, i * 7 + 5, none⟩ = some (.int .i64 r.wrote) ∧ w'.cell? ⟨g2, i * 7 + 6, none⟩ = some (.bool r.done)) (go_keep) (fail)
      (try simp only [Exit.then])
      obtain ⟨W2, hW2⟩ : ∃ x, x = (wr.alloc (.cells #[.int .i64 r.step, .int .i64 r.thread, .int .i64 r.kind, .int .i64 r.cell, .int .i64 r.seen, .int .i64 r.wrote, .bool r.done] 88)).drew := ⟨_, rfl⟩
      have k2 : Keeps (fun _ => False) wr W2 := by rw [hW2]; exact ((Keeps.refl _ wr).alloc _).drew
      have c0 : W2.cell? ⟨wr.heap.size, 0, none⟩ = some (.int .i64 r.step) := by rw [hW2]; simp
      have c1 : W2.cell? ⟨wr.heap.size, 1, none⟩ = some (.int .i64 r.thread) := by rw [hW2]; simp
      have c2 : W2.cell? ⟨wr.heap.size, 2, none⟩ = some (.int .i64 r.kind) := by rw [hW2]; simp
      have c3 : W2.cell? ⟨wr.heap.size, 3, none⟩ = some (.int .i64 r.cell) := by rw [hW2]; simp
      have c4 : W2.cell? ⟨wr.heap.size, 4, none⟩ = some (.int .i64 r.seen) := by rw [hW2]; simp
      have c5 : W2.cell? ⟨wr.heap.size, 5, none⟩ = some (.int .i64 r.wrote) := by rw [hW2]; simp
      have c6 : W2.cell? ⟨wr.heap.size, 6, none⟩ = some (.bool r.done) := by rw [hW2]; simp
      have a0 := k2.cell a0 id
      have a1 := k2.cell a1 id
      have a2 := k2.cell a2 id
      have a3 := k2.cell a3 id
      have a4 := k2.cell a4 id
      have a5 := k2.cell a5 id
      have a6 := k2.cell a6 id
      rw [← hW2]
      clear hW2 b0 nb0 b1 nb1 b2 nb2 b3 nb3 b4 nb4 b5 nb5 b6 nb6
      go_wp2_with fail
      go_region_held3 (fun w' => w'.cell? ⟨g1, i * 7, none⟩ = some (.int .i64 r.step) ∧ w'.cell? ⟨g1, i * 7 + 1, none⟩ = some (.int .i64 r.thread) ∧ w'.cell? ⟨g1, i * 7 + 2, none⟩ = some (.int .i64 r.kind) ∧ w'.cell? ⟨g1, i * 7 + 3, none⟩ = some (.int .i64 r.cell) ∧ w'.cell? ⟨g1, i * 7 + 4, none⟩ = some (.int .i64 r.seen) ∧ w'.cell? ⟨g1, i * 7 + 5, none⟩ = some (.int .i64 r.wrote) ∧ w'.cell? ⟨g1, i * 7 + 6, none⟩ = some (.bool r.done) ∧ w'.cell? ⟨wr.heap.size, 0, none⟩ = some (.int .i64 r.step) ∧ w'.cell? ⟨wr.heap.size, 1, none⟩ = some (.int .i64 r.thread) ∧ w'.cell? ⟨wr.heap.size, 2, none⟩ = some (.int .i64 r.kind) ∧ w'.cell? ⟨wr.heap.size, 3, none⟩ = some (.int .i64 r.cell) ∧ w'.cell? ⟨wr.heap.size, 4, none⟩ = some (.int .i64 r.seen) ∧ w'.cell? ⟨wr.heap.size, 5, none⟩ = some (.int .i64 r.wrote) ∧ w'.cell? ⟨wr.heap.size, 6, none⟩ = some (.bool r.done)) (go_keep) (fail)
      (try simp only [Exit.then])
      have K3 : Keeps (fun _ => False) w W2.drew := (kr.trans k2).drew
      go_wp2_with fail
      go_roundg g
      case measure => omega
      case rel => exact ⟨i + 1, by omega, by go_num, K3⟩
end Go.Proofs.YtaikngpgmcpecaaGreat
