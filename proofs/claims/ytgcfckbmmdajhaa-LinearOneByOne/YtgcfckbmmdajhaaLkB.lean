import Derived.Test.YtgcfckbmmdajhaaLkA
import Derived.Deep.RegionHeld3
namespace Go.Proofs.Ytgcfckbmmdajhaa
open Go.RowKit Go.WideShapes
attribute [local go_sem] Oper.semAt_some run_store_nf run_store_f
theorem wpAnyH_two' {P : Program} {ops : Array Oper} {Q : Exit → Act → World → Prop} {md : Region.Mode} {S : World → Prop} {fuel : Nat} {listed : Array Bool} {a : Act} {w : World} {o o2 : Oper} (i i2 : Nat) (hr : Region.ready md ops listed = [i, i2]) (hoi : ops[i]? = some o) (hoi2 : ops[i2]? = some o2) (hw : Region.wanted o (yielded ops a.tmps) = true) (hw2 : Region.wanted o2 (yielded ops a.tmps) = true)
    (h : Oper.wp P o a w (fun a' w' => S w' ∧ (S w' → wpAnyH P md ops Q S fuel (listed.setIfInBounds i true) a' w')) Q) (h2 : Oper.wp P o2 a w (fun a' w' => S w' ∧ (S w' → wpAnyH P md ops Q S fuel (listed.setIfInBounds i2 true) a' w')) Q) : wpAnyH P md ops Q S (fuel + 1) listed a w := by
  refine wpAnyH_ready hr (by simp) (AllReadyH.cons hoi (fun K hK => ?_) (AllReadyH.cons hoi2 (fun K hK => ?_) AllReadyH.nil))
  · rw [if_pos hw]
    exact Oper.wp_mono (fun a' w' e => hK.out _ _ e.1 e.2) h
  · rw [if_pos hw2]
    exact Oper.wp_mono (fun a' w' e => hK.out _ _ e.1 e.2) h2
theorem wp_append_t {P : Program} {w : World} {o : Oper} {a : Act} {Kk : Act → World → Prop} {Q : Exit → Act → World → Prop} (s x : Operand) (t : TypeId)
    (ho : o.op = .call { callee := .builtin .append, args := #[s, x], argTypes := #[t, t] }) (v src v' : Value) (w' : World) (hs : a.eval s = v) (hx : a.eval x = src)
    (hr : (Builtin.append_ #[t, t] o.type #[v, src]).run P w = .ok v' w') (h : Kk (a.put o.dst v') w') : Oper.wp P o a w Kk Q := by
  unfold Oper.wp execOp
  simp only [ho, resolve, invoke, builtin, Sem.run_bind, Sem.run_pure, Result.andThen_ok, List.map_toArray, List.map_cons, List.map_nil, hs, hx, hr]
  exact h
theorem run_load_sl64 {W : World} {b : Nat} {sa : Option Addr} {sn sc : Nat} (h : W.cell? ⟨b, 0, none⟩ = some (.slice sa sn sc)) : (loadVar 25 ⟨b, 0, none⟩).run Try.prog W = .ok (.slice sa sn sc) W := by
  go_simp
theorem wp_loadK {P : Program} {o : Oper} {a : Act} {w : World} {K : Act → World → Prop} {Q : Exit → Act → World → Prop} (ty : TypeId) (x : Operand) (ho : o.op = .load ty x) (p : Addr) (hx : a.eval x = .pointer (some p)) (v : Value) (hr : (loadVar ty p).run P w = .ok v w) (h : K (a.put o.dst v) w) : o.wp P a w K Q := by
  unfold Oper.wp execOp
  simp only [ho, hx, Instr.loadAt, Instr.sureAddr, Sem.run_bind, Sem.run_pure, Result.andThen_ok, hr]
  exact h
theorem wp_storeK {P : Program} {o : Oper} {a : Act} {w w' : World} {K : Act → World → Prop} {Q : Exit → Act → World → Prop} (ty : TypeId) (x y : Operand) (ho : o.op = .store ty x y) (p : Addr) (hx : a.eval x = .pointer (some p)) (v : Value) (hy : a.eval y = v) (hr : (storeVar ty p v).run P w = .ok () w') (h : K (a.put o.dst undef) w') : o.wp P a w K Q := by
  unfold Oper.wp execOp
  simp only [ho, hx, hy, Instr.storeAt, Instr.sureAddr, Sem.run_bind, Sem.run_pure, Result.andThen_ok, hr]
  exact h
theorem wp_buildK {o : Oper} {a : Act} {w : World} {K : Act → World → Prop} {Q : Exit → Act → World → Prop} (x : Operand) (ho : o.op = .buildSlice 25 1 #[(0, x)]) (n : Int) (hx : a.eval x = .int .i64 n)
    (h : K (a.put o.dst (.slice (some ⟨w.heap.size, 0, none⟩) 1 1)) (w.alloc (.cells #[.int .i64 n] 2))) : o.wp Try.prog a w K Q := by
  obtain ⟨i0, hi0, hzz⟩ := Option.map_eq_some_iff.1 iK
  simp only [Prod.mk.injEq] at hzz
  obtain ⟨hz0, hz1, -⟩ := hzz
  refine wp_buildSlice 25 2 1 _ ho #[.int .i64 n] i0 _ uK hi0 hz0 (by rw [hz1]; decide) (by rw [hz1]; decide) ?_ h
  rw [hz1]
  have e : (#[(0, x)].map fun (i, x) => (i, a.eval x)).toList = ([Value.int .i64 n].zipIdx 0).map fun x => (x.2, x.1) := by simp [hx]
  have e2 : ([Value.int .i64 n].flatMap fun v => v.cells.toList).toArray = #[.int .i64 n] := by simp; rfl
  rw [e, Great.fill_whole (s := 1) (by decide) [Value.int .i64 n] _ (fun v hv => by simp at hv; subst hv; rfl) (by simp), e2]
/-- A number behind a list of one's own. -/
theorem append_kk {W : World} {base m : Nat} {v : Value} {L : List Int} (hO : W.ownsRow base 2 1 v m (kvs L)) (hb : base ≤ W.heap.size) (hm : (m + 1) * 8 ≤ 140737488355328) (x : Int) :
    ∃ a' c' W', (Builtin.append_ #[25, 25] 25 #[v, .slice (some ⟨W.heap.size, 0, none⟩) 1 1]).run Try.prog (W.alloc (.cells #[.int .i64 x] 2)) = .ok (.slice a' (m + 1) c') W' ∧ W'.ownsRow base 2 1 (.slice a' (m + 1) c') (m + 1) (kvs (L ++ [x])) ∧ Keeps (fun i => v.ownBlock = some i) W W' ∧ ((Value.slice a' (m + 1) c').ownBlock = v.ownBlock ∨ (Value.slice a' (m + 1) c').ownBlock = some (W.heap.size + 1)) := by
  obtain ⟨v', W', q1, q2, q3, q4⟩ := append_sz uK iK rfl (by decide) hO hb (by decide) hm [.int .i64 x] rfl (fun u hu => by simp at hu; subst hu; rfl)
  have e : kvs (L ++ [x]) = kvs L ++ [.int .i64 x] := by unfold kvs; rw [List.map_append]; rfl
  rw [← e] at q2
  obtain ⟨a', c', rfl, -⟩ := own_slice q2
  exact ⟨a', c', W', q1, q2, q3, q4⟩
/-- The law's set holds what is in S. -/
structure US (U S : List Int) : Prop where
  n : U.Nodup
  m : ∀ x, x ∈ U ↔ x ∈ S
theorem US.has {U S : List Int} (h : US U S) (k : Int) : decide (k ∈ U) = decide (k ∈ S) := decide_eq_decide.2 (h.m k)
theorem US.wout {U S : List Int} (h : US U S) (k : Int) : US (woutL U k) (woutL S k) := ⟨List.Nodup.sublist List.filter_sublist h.n, fun x => by rw [mem_wout, mem_wout, h.m]⟩
theorem US.put {U S : List Int} (h : US U S) {k : Int} (hk : k ∉ S) : US (U ++ [k]) (withL S k) := ⟨by
  rw [List.nodup_append]
  exact ⟨h.n, by simp, fun a ha b hb => by simp at hb; subst hb; exact fun e => hk ((h.m b).1 (e ▸ ha))⟩, fun x => by
  rw [List.mem_append, mem_with, h.m]
  simp
  exact or_comm⟩
theorem US.len {U S : List Int} (h : US U S) (hS : Rise S) : U.length = S.length := ((List.perm_ext_iff_of_nodup h.n (hS.imp (fun {a b} (e : a < b) => by omega))).2 h.m).length_eq
/-- What does leaves. -/
def UdP (base : Nat) (sb : Nat) (S : List Int) (c : Cl) (v : Value) (w : World) (e : Ending) (w' : World) : Prop := ∃ U' v', e = .returned (.tuple #[.bool (doesL S c).1, .int .i64 (doesL S c).2.1]) ∧ SU base w' sb U' v' ∧ US U' (doesL S c).2.2 ∧ Keeps (fun i => i = sb ∨ v.ownBlock = some i) w w'
set_option maxHeartbeats 1500000 in
set_option maxRecDepth 100000 in
theorem udoes_any {base : Nat} {w : World} {sb : Nat} {U S : List Int} {v : Value} (h : SU base w sb U v) (hU : US U S) (hS : Rise S) (hn : U.length ≤ 1000) (c : Cl) (hk1 : 1 ≤ c.kind) (hk2 : c.kind ≤ 6) : Calls Try.prog 5 #[.pointer (some ⟨sb, 0, none⟩), .agg c.cells.toArray] w (UdP base sb S c v w) := by
  obtain ⟨W0, e0, k0, hb, -⟩ := cl_box w c
  obtain ⟨ua, uc, rfl, -⟩ := h.form
  have HIN : Hid (∀ W k, Keeps (fun _ => False) w W → Calls Try.prog 13 #[.pointer (some ⟨sb, 0, none⟩), .int .i64 k] W fun e w' => e = .returned (.bool (decide (k ∈ S))) ∧ Keeps (fun _ => False) W w') := fun W k kW => by
    have := uhas_any (h.keep kW) (by omega) k
    rw [hU.has] at this
    exact this
  have HWO : Hid (∀ W k, Keeps (fun _ => False) w W → Calls Try.prog 14 #[.pointer (some ⟨sb, 0, none⟩), .int .i64 k] W fun e w' => e = .returned (.tuple #[]) ∧ (∃ v', SU base w' sb (woutL U k) v' ∧ ∀ g, v'.ownBlock = some g → W.heap.size ≤ g) ∧ Keeps (fun i => i = sb) W w') := fun W k kW => udrop_any (h.keep kW) (by omega) k
  have HX0 : Hid (SU base w sb U (.slice ua U.length uc)) := h
  have HUS : Hid (US U S) := hU
  have HRS : Hid (Rise S) := hS
  have HULN : Hid (U.length = S.length) := hU.len hS
  have hsw : sb < w.heap.size := Nat.lt_of_lt_of_le h.lt h.bs
  have HBV : Hid (¬ (Value.slice ua U.length uc).ownBlock = some w.heap.size) := fun e => by have := owns_lt' h.o _ e; omega
  have HBS : Hid (¬ w.heap.size = sb) := fun e => by omega
  clear h hU hS
  have c0 := hb.c0
  have c1 := hb.c1
  have c2 := hb.c2
  clear hb
  have HP : Hid (∀ y r U' v' w', (y = (doesL S c).1 ∧ r = (doesL S c).2.1) → SU base w' sb U' v' → US U' (doesL S c).2.2 → Keeps (fun i => i = sb ∨ (Value.slice ua U.length uc).ownBlock = some i) w w' → UdP base sb S c (.slice ua U.length uc) w (.returned (.tuple #[.bool y, .int .i64 r])) w') := by
    rintro y r U' v' w' ⟨rfl, rfl⟩ h1 h2 kk
    exact ⟨U', v', rfl, h1, h2, kk⟩
  go_enter Try.func5, Try.ntmps5
  refine wp_seq_k (fun KK hKK => ?_)
  have hKH : Hid _ := hKK
  clear hKK
  go_wp2_with fail
  refine hKH.out _ _ ?_
  clear hKH KK
  rw [← e0]
  clear e0
  have hin := HIN.out W0 c.key k0
  refine wp_seq_k (fun KK hKK => ?_)
  have hKH : Hid _ := hKK
  clear hKK
  go_wp2_with (go_at_call 13; refine hin.mono ?_; clear hin; rintro e w1 ⟨rfl, k1⟩)
  refine hKH.out _ _ ?_
  clear hKH KK
  replace c0 := k1.cell c0 (fun e => e)
  replace c1 := k1.cell c1 (fun e => e)
  replace c2 := k1.cell c2 (fun e => e)
  replace k1 := k0.trans k1
  clear k0
  have HX : Hid (SU base w1 sb U (.slice ua U.length uc)) := HX0.out.keep k1
  have HB8 : (U.length + 1) * 8 ≤ 140737488355328 := by omega
  unfold doesL at HP
  generalize c.kind = kd at *
  generalize c.key = ky at *
  generalize c.other = ot at *
  by_cases g1 : kd = 1
  · have q1 : (kd == 1) = true := by simp [g1]
    simp only [if_pos g1] at HP
    clear g1
    by_cases hm : ky ∈ S
    · have d1 : decide (ky ∈ S) = true := decide_eq_true hm
      have HWI : Hid (US U (withL S ky)) := ⟨HUS.out.n, fun x => by rw [HUS.out.m, mem_with]; exact ⟨.inr, fun e => e.elim (fun e => e ▸ hm) id⟩⟩
      rw [d1] at HP
      rw [d1]
      clear d1 hm
      go_wp2_with fail
      go_ret2
      exact HP.out _ _ U _ _ ⟨rfl, rfl⟩ HX.out HWI.out (k1.mono (fun _ _ e => e.elim))
    · have d1 : decide (ky ∈ S) = false := decide_eq_false hm
      have HWI : Hid (US (U ++ [ky]) (withL S ky)) := HUS.out.put hm
      rw [d1] at HP
      rw [d1]
      clear d1 hm
      have cB := c1
      have HF : Hid (∀ W v', SU base W sb (U ++ [ky]) v' → Keeps (fun i => i = sb ∨ (Value.slice ua U.length uc).ownBlock = some i) w1 W → UdP base sb S c (.slice ua U.length uc) w (.returned (.tuple #[.bool true, .int .i64 0])) W) := fun W v' h1 h2 => HP.out _ _ _ v' _ ⟨rfl, rfl⟩ h1 HWI.out (k1.trans' h2 (fun _ _ e => e.elim) (fun _ _ e => e))
      have kd : Keeps (fun _ => False) w1 w1.drew := (Keeps.refl _ w1).drew
      have xd := (HX.out.keep kd).c.c 0 _ rfl
      have cBd := kd.cell cB (fun e => e)
      have cBa := (kd.trans ((Keeps.refl (fun _ => False) w1.drew).alloc (.cells #[.int .i64 ky] 2))).cell cB (fun e => e)
      have xda := ((HX.out.keep kd).keep ((Keeps.refl (fun _ => False) w1.drew).alloc (.cells #[.int .i64 ky] 2))).c.c 0 _ rfl
      obtain ⟨a1, c1, X1, hr1, ho1, kq, hbq⟩ := append_kk (HX.out.keep kd).o (HX.out.keep kd).bs HB8 ky
      have hC1 : CL X1 sb [.slice ua U.length uc] := (HX.out.keep kd).c.keep (by show 0 < 1; decide) kq (fun e => by have := owns_baseT HX.out.o sb e; have := HX.out.lt; omega)
      have y0 := hC1.c 0 _ rfl
      have z0 := hC1.z 0 (by show 0 < 1; decide)
      have hS9 : X1.cell? ⟨w.heap.size, 1, none⟩ = some (.int .i64 ky) := kq.cell cBd (fun e => HBV.out (by exact e))
      obtain ⟨X2, hX2⟩ : ∃ X2, X2 = X1.setCell ⟨sb, 0, none⟩ (.slice a1 (U.length + 1) c1) := ⟨_, rfl⟩
      have k2 : Keeps (fun i => i = sb) X1 X2 := by rw [hX2]; exact (Keeps.refl (fun i => i = sb) X1).setCell (p := ⟨sb, 0, none⟩) (fun _ => rfl) _
      have hC2 : CL X2 sb [.slice a1 (U.length + 1) c1] := by rw [hX2]; exact hC1.set (o := 0) (by show 0 < 1; decide) _
      have hSx : (X1.setCell ⟨sb, 0, none⟩ (.slice a1 (U.length + 1) c1)).cell? ⟨w.heap.size, 1, none⟩ = some (.int .i64 ky) := by rw [← hX2]; exact k2.cell hS9 (fun e => HBS.out (by exact e))
      have HSU2 : Hid (SU base X2 sb  (U ++ [ky]) (.slice a1 (U.length + 1) c1)) := ⟨hC2, by rw [List.length_append]; exact k2.owns ho1 (fun j e1 e2 => by
        have := owns_baseT ho1 j e1
        have e2 : j = sb := e2
        have := HX.out.lt
        omega), HX.out.lt, by have := kq.size; have := k2.size; have := HX.out.bs; have := kd.size; omega⟩
      have KX2 : Keeps (fun i => i = sb ∨ (Value.slice ua U.length uc).ownBlock = some i) w1 X2 := (kd.trans' kq (U := fun i => (Value.slice ua U.length uc).ownBlock = some i) (fun _ _ e => e.elim) (fun _ _ e => e)).trans' k2 (fun _ _ e => .inr e) (fun _ _ e => .inl e)
      generalize U.length = N at *
      (try go_wp2_with fail)
      refine wp_region_held_drew (S := fun W => W.cell? ⟨w.heap.size, 1, none⟩ = some (.int .i64 ky)) (by kernel_rfl) cBd (fun hHeld => ?_)
      refine wpAnyH_take (i := 0) (v := ?_) rfl (by kernel_rfl) (by kernel_rfl) (by kernel_rfl) (fun _ _ _ h => h) (Or.inl ⟨by rfl, ?_⟩) (by assumption) ?_
      rotate_left
      · intro wx hSw; clear hSw; go_simp <;> with_reducible rfl
      (try simp only [List.getElem_toArray]); (try simp only [List.getElem_cons_succ]); (try simp only [List.getElem_cons_zero]); (try simp only [Act.put]); (try simp only [List.setIfInBounds_toArray]); (repeat first | simp only [List.set_cons_succ] | simp only [List.set_cons_zero])
      refine wpAnyH_take (i := 1) (v := ?_) rfl (by kernel_rfl) (by kernel_rfl) (by kernel_rfl) (fun _ _ _ h => h) (Or.inl ⟨by rfl, ?_⟩) (by assumption) ?_
      rotate_left
      · intro wx hSw; clear hSw; go_simp <;> with_reducible rfl
      (try simp only [List.getElem_toArray]); (try simp only [List.getElem_cons_succ]); (try simp only [List.getElem_cons_zero]); (try simp only [Act.put]); (try simp only [List.setIfInBounds_toArray]); (repeat first | simp only [List.set_cons_succ] | simp only [List.set_cons_zero])
      refine wpAnyH_take (i := 2) (v := ?_) rfl (by kernel_rfl) (by kernel_rfl) (by kernel_rfl) (fun _ _ _ h => h) (Or.inl ⟨by rfl, ?_⟩) (by assumption) ?_
      rotate_left
      · intro wx hSw; clear hSw; go_simp <;> with_reducible rfl
      (try simp only [List.getElem_toArray]); (try simp only [List.getElem_cons_succ]); (try simp only [List.getElem_cons_zero]); (try simp only [Act.put]); (try simp only [List.setIfInBounds_toArray]); (repeat first | simp only [List.set_cons_succ] | simp only [List.set_cons_zero])
      refine wpAnyH_take (i := 3) (v := ?_) rfl (by kernel_rfl) (by kernel_rfl) (by kernel_rfl) (fun _ _ _ h => h) (Or.inl ⟨by rfl, ?_⟩) (by assumption) ?_
      rotate_left
      · intro wx hSw; clear hSw; go_simp <;> with_reducible rfl
      (try simp only [List.getElem_toArray]); (try simp only [List.getElem_cons_succ]); (try simp only [List.getElem_cons_zero]); (try simp only [Act.put]); (try simp only [List.setIfInBounds_toArray]); (repeat first | simp only [List.set_cons_succ] | simp only [List.set_cons_zero])
      refine wpAnyH_take (i := 5) (v := ?_) rfl (by kernel_rfl) (by kernel_rfl) (by kernel_rfl) (fun _ _ _ h => h) (Or.inl ⟨by rfl, ?_⟩) (by assumption) ?_
      rotate_left
      · intro wx hSw; clear hSw; go_simp <;> with_reducible rfl
      (try simp only [List.getElem_toArray]); (try simp only [List.getElem_cons_succ]); (try simp only [List.getElem_cons_zero]); (try simp only [Act.put]); (try simp only [List.setIfInBounds_toArray]); (repeat first | simp only [List.set_cons_succ] | simp only [List.set_cons_zero])
      refine wpAnyH_take (i := 6) (v := ?_) rfl (by kernel_rfl) (by kernel_rfl) (by kernel_rfl) (fun _ _ _ h => h) (Or.inl ⟨by rfl, ?_⟩) (by assumption) ?_
      rotate_left
      · intro wx hSw; go_simp <;> with_reducible rfl
      (try simp only [List.getElem_toArray]); (try simp only [List.getElem_cons_succ]); (try simp only [List.getElem_cons_zero]); (try simp only [Act.put]); (try simp only [List.setIfInBounds_toArray]); (repeat first | simp only [List.set_cons_succ] | simp only [List.set_cons_zero])
      refine wpAnyH_two' 4 7 (by kernel_rfl) rfl rfl (by kernel_rfl) (by kernel_rfl) ?_ ?_
      · refine wp_loadK 25 _ rfl ⟨sb, 0, none⟩ rfl _ (run_load_sl64 xd) ?_
        refine ⟨hHeld, fun _ => ?_⟩
        (try simp only [List.getElem_toArray]); (try simp only [List.getElem_cons_succ]); (try simp only [List.getElem_cons_zero]); (try simp only [Act.put]); (try simp only [List.setIfInBounds_toArray]); (repeat first | simp only [List.set_cons_succ] | simp only [List.set_cons_zero])
        refine wpAnyH_one 7 (by kernel_rfl) rfl rfl ?_
        refine wp_buildK _ rfl _ rfl ?_
        refine ⟨cBa, fun hS8 => ?_⟩
        (try simp only [List.getElem_toArray]); (try simp only [List.getElem_cons_succ]); (try simp only [List.getElem_cons_zero]); (try simp only [Act.put]); (try simp only [List.setIfInBounds_toArray]); (repeat first | simp only [List.set_cons_succ] | simp only [List.set_cons_zero])
        refine wpAnyH_one 8 (by kernel_rfl) rfl rfl ?_
        refine wp_append_t _ _ 25 rfl _ _ _ X1 rfl rfl hr1 ?_
        refine ⟨hS9, fun _ => ?_⟩
        (try simp only [List.getElem_toArray]); (try simp only [List.getElem_cons_succ]); (try simp only [List.getElem_cons_zero]); (try simp only [Act.put]); (try simp only [List.setIfInBounds_toArray]); (repeat first | simp only [List.set_cons_succ] | simp only [List.set_cons_zero])
        refine wpAnyH_take (i := 9) (v := ?_) rfl (by kernel_rfl) (by kernel_rfl) (by kernel_rfl) (fun _ _ _ h => h) (Or.inl ⟨by rfl, ?_⟩) (by assumption) ?_
        rotate_left
        · intro wx hSw; clear hSw; go_simp <;> with_reducible rfl
        (try simp only [List.getElem_toArray]); (try simp only [List.getElem_cons_succ]); (try simp only [List.getElem_cons_zero]); (try simp only [Act.put]); (try simp only [List.setIfInBounds_toArray]); (repeat first | simp only [List.set_cons_succ] | simp only [List.set_cons_zero])
        refine wpAnyH_take (i := 10) (v := ?_) rfl (by kernel_rfl) (by kernel_rfl) (by kernel_rfl) (fun _ _ _ h => h) (Or.inl ⟨by rfl, ?_⟩) (by assumption) ?_
        rotate_left
        · intro wx hSw; clear hSw; go_simp <;> with_reducible rfl
        (try simp only [List.getElem_toArray]); (try simp only [List.getElem_cons_succ]); (try simp only [List.getElem_cons_zero]); (try simp only [Act.put]); (try simp only [List.setIfInBounds_toArray]); (repeat first | simp only [List.set_cons_succ] | simp only [List.set_cons_zero])
        refine wpAnyH_one 11 (by kernel_rfl) rfl rfl ?_
        refine wp_storeK 25 _ _ rfl ⟨sb, 0, none⟩ rfl _ rfl (run_store_sl64 (by rw [y0]; rfl) z0 a1 (N + 1) c1) ?_
        refine ⟨hSx, fun _ => ?_⟩
        (try simp only [List.getElem_toArray]); (try simp only [List.getElem_cons_succ]); (try simp only [List.getElem_cons_zero]); (try simp only [Act.put]); (try simp only [List.setIfInBounds_toArray]); (repeat first | simp only [List.set_cons_succ] | simp only [List.set_cons_zero])
        refine wpAnyH_done (by kernel_rfl) ?_ _
        rw [← hX2]
        clear hX2 hSx
        go_wp2_with fail
        go_ret2
        exact HF.out _ _ HSU2.out KX2
      · refine wp_buildK _ rfl _ rfl ?_
        refine ⟨cBa, fun hS8 => ?_⟩
        (try simp only [List.getElem_toArray]); (try simp only [List.getElem_cons_succ]); (try simp only [List.getElem_cons_zero]); (try simp only [Act.put]); (try simp only [List.setIfInBounds_toArray]); (repeat first | simp only [List.set_cons_succ] | simp only [List.set_cons_zero])
        refine wpAnyH_one 4 (by kernel_rfl) rfl rfl ?_
        refine wp_loadK 25 _ rfl ⟨sb, 0, none⟩ rfl _ (run_load_sl64 xda) ?_
        refine ⟨hS8, fun _ => ?_⟩
        (try simp only [List.getElem_toArray]); (try simp only [List.getElem_cons_succ]); (try simp only [List.getElem_cons_zero]); (try simp only [Act.put]); (try simp only [List.setIfInBounds_toArray]); (repeat first | simp only [List.set_cons_succ] | simp only [List.set_cons_zero])
        refine wpAnyH_one 8 (by kernel_rfl) rfl rfl ?_
        refine wp_append_t _ _ 25 rfl _ _ _ X1 rfl rfl hr1 ?_
        refine ⟨hS9, fun _ => ?_⟩
        (try simp only [List.getElem_toArray]); (try simp only [List.getElem_cons_succ]); (try simp only [List.getElem_cons_zero]); (try simp only [Act.put]); (try simp only [List.setIfInBounds_toArray]); (repeat first | simp only [List.set_cons_succ] | simp only [List.set_cons_zero])
        refine wpAnyH_take (i := 9) (v := ?_) rfl (by kernel_rfl) (by kernel_rfl) (by kernel_rfl) (fun _ _ _ h => h) (Or.inl ⟨by rfl, ?_⟩) (by assumption) ?_
        rotate_left
        · intro wx hSw; clear hSw; go_simp <;> with_reducible rfl
        (try simp only [List.getElem_toArray]); (try simp only [List.getElem_cons_succ]); (try simp only [List.getElem_cons_zero]); (try simp only [Act.put]); (try simp only [List.setIfInBounds_toArray]); (repeat first | simp only [List.set_cons_succ] | simp only [List.set_cons_zero])
        refine wpAnyH_take (i := 10) (v := ?_) rfl (by kernel_rfl) (by kernel_rfl) (by kernel_rfl) (fun _ _ _ h => h) (Or.inl ⟨by rfl, ?_⟩) (by assumption) ?_
        rotate_left
        · intro wx hSw; clear hSw; go_simp <;> with_reducible rfl
        (try simp only [List.getElem_toArray]); (try simp only [List.getElem_cons_succ]); (try simp only [List.getElem_cons_zero]); (try simp only [Act.put]); (try simp only [List.setIfInBounds_toArray]); (repeat first | simp only [List.set_cons_succ] | simp only [List.set_cons_zero])
        refine wpAnyH_one 11 (by kernel_rfl) rfl rfl ?_
        refine wp_storeK 25 _ _ rfl ⟨sb, 0, none⟩ rfl _ rfl (run_store_sl64 (by rw [y0]; rfl) z0 a1 (N + 1) c1) ?_
        refine ⟨hSx, fun _ => ?_⟩
        (try simp only [List.getElem_toArray]); (try simp only [List.getElem_cons_succ]); (try simp only [List.getElem_cons_zero]); (try simp only [Act.put]); (try simp only [List.setIfInBounds_toArray]); (repeat first | simp only [List.set_cons_succ] | simp only [List.set_cons_zero])
        refine wpAnyH_done (by kernel_rfl) ?_ _
        rw [← hX2]
        clear hX2 hSx
        go_wp2_with fail
        go_ret2
        exact HF.out _ _ HSU2.out KX2
  have q1 : (kd == 1) = false := by simp [g1]
  simp only [if_neg g1] at HP
  by_cases g2 : kd = 2
  · have q2 : (kd == 2) = true := by simp [g2]
    simp only [if_pos g2] at HP
    clear g1 g2
    have hwo := HWO.out w1 ky k1
    have HF : Hid (∀ W v', SU base W sb (woutL U ky) v' → Keeps (fun i => i = sb) w1 W → UdP base sb S c (.slice ua U.length uc) w (.returned (.tuple #[.bool (decide (ky ∈ S)), .int .i64 0])) W) := fun W v' h1 h2 => HP.out _ _ _ v' _ ⟨rfl, rfl⟩ h1 (HUS.out.wout ky) (k1.trans' h2 (fun _ _ e => e.elim) (fun _ _ e => .inl e))
    generalize decide (ky ∈ S) = dk at *
    go_wp2_with (go_at_call 14; refine hwo.mono ?_; clear hwo; rintro e w2 ⟨rfl, ⟨v', hv', -⟩, k2⟩)
    go_ret2
    exact HF.out _ v' hv' k2
  have q2 : (kd == 2) = false := by simp [g2]
  simp only [if_neg g2] at HP
  by_cases g3 : kd = 3
  · have q3 : (kd == 3) = true := by simp [g3]
    simp only [if_pos g3] at HP
    clear g1 g2 g3
    have HF : Hid (UdP base sb S c (.slice ua U.length uc) w (.returned (.tuple #[.bool (decide (ky ∈ S)), .int .i64 0])) w1) := HP.out _ _ U _ _ ⟨rfl, rfl⟩ HX.out HUS.out (k1.mono (fun _ _ e => e.elim))
    generalize decide (ky ∈ S) = dk at *
    go_wp2_with fail
    go_ret2
    exact HF.out
  have q3 : (kd == 3) = false := by simp [g3]
  simp only [if_neg g3] at HP
  have x0 := HX.out.c.c 0 _ rfl
  by_cases g5 : kd = 5
  · have q5 : (kd == 5) = true := by simp [g5]
    simp only [if_neg (show ¬ kd = 4 by omega), if_pos g5] at HP
    clear g1 g2 g3 g5
    have HF : Hid (∀ W, Keeps (fun _ => False) w1 W → UdP base sb S c (.slice ua U.length uc) w (.returned (.tuple #[.bool true, .int .i64 (U.length : Int)])) W) := fun W kW => HP.out _ _ U _ _ ⟨rfl, by rw [HULN.out]⟩ (HX.out.keep kW) HUS.out ((k1.trans kW).mono (fun _ _ e => e.elim))
    have p0 := ks_cell x0
    haveI : Nonempty (KS w1) := ⟨⟨w1, Keeps.refl _ _⟩⟩
    generalize decide (ky ∈ S) = dk at *
    generalize U.length = N at *
    go_wp2_with fail
    refine wp_region_ks (by kernel_rfl) (by kernel_rfl) ?_
    (repeat (first | go_big_quiet_skip | go_big_quiet_step (fail)))
    refine wpQuiet_nil ?_
    rintro _ ⟨u, rfl⟩
    have ku := u.property
    generalize u.val = wu at *
    go_wp2
    go_ret2
    exact HF.out _ ku
  have q5 : (kd == 5) = false := by simp [g5]
  by_cases g6 : kd = 6
  · have q6 : (kd == 6) = true := by simp [g6]
    simp only [if_neg (show ¬ kd = 4 by omega), if_neg g5] at HP
    clear g1 g2 g3 g5 g6
    have hi2 := HIN.out w1 ot k1
    by_cases gm : ky ∉ S ∨ ot ∈ S
    · simp only [if_pos gm] at HP
      have HF : Hid (∀ W, Keeps (fun _ => False) w1 W → UdP base sb S c (.slice ua U.length uc) w (.returned (.tuple #[.bool false, .int .i64 0])) W) := fun W kW => HP.out _ _ U _ _ ⟨rfl, rfl⟩ (HX.out.keep kW) HUS.out ((k1.trans kW).mono (fun _ _ e => e.elim))
      by_cases m1 : ky ∈ S
      · have d1 : decide (ky ∈ S) = true := decide_eq_true m1
        have d2 : decide (ot ∈ S) = true := decide_eq_true (gm.resolve_left (fun h => h m1))
        rw [d1]
        rw [d2] at hi2
        clear d1 d2 m1 gm
        go_wp2_with (go_at_call 13; refine hi2.mono ?_; clear hi2; rintro e w2 ⟨rfl, k2⟩)
        go_ret2
        exact HF.out _ k2
      · have d1 : decide (ky ∈ S) = false := decide_eq_false m1
        rw [d1]
        clear d1 m1 gm hi2
        go_wp2_with fail
        go_ret2
        exact HF.out _ (Keeps.refl _ _)
    · simp only [if_neg gm] at HP
      have m1 : ky ∈ S := by
        by_cases q : ky ∈ S
        · exact q
        · exact absurd (.inl q) gm
      have m2 : ot ∉ S := fun q => gm (.inr q)
      have d1 : decide (ky ∈ S) = true := decide_eq_true m1
      have d2 : decide (ot ∈ S) = false := decide_eq_false m2
      have HUS3 : Hid (US (woutL U ky ++ [ot]) (withL (woutL S ky) ot)) := (HUS.out.wout ky).put (fun h => m2 ((mem_wout S ky ot).1 h).2)
      have HLN3 : Hid ((woutL U ky).length ≤ U.length) := wout_len U ky
      have HWZ : Hid (w.heap.size < w1.heap.size) := World.block_lt_of_cell? _ _ c1
      rw [d1]
      rw [d2] at hi2
      clear d1 d2 m1 m2 gm
      go_wp2_with (first | (go_at_call 13; refine hi2.mono ?_; clear hi2; rintro e w2 ⟨rfl, k2⟩; have hwo := HWO.out w2 ky (k1.trans k2); replace c1 := k2.cell c1 (fun e => e); replace c2 := k2.cell c2 (fun e => e)) | (go_at_call 14; refine hwo.mono ?_; clear hwo; rintro e w3 ⟨rfl, ⟨v3, hv3, hb3⟩, k3⟩))
      obtain ⟨U3, hU3⟩ : ∃ U3, U3 = woutL U ky := ⟨_, rfl⟩
      rw [← hU3] at hv3 HUS3 HLN3
      clear hU3
      obtain ⟨ua3, uc3, rfl, -⟩ := hv3.form
      have HX3 : Hid (SU base w3 sb U3 (.slice ua3 U3.length uc3)) := hv3
      have cB : w3.cell? ⟨w.heap.size, 2, none⟩ = some (.int .i64 ot) := k3.cell c2 (fun e => HBS.out (by exact e))
      have HB83 : (U3.length + 1) * 8 ≤ 140737488355328 := by have := HLN3.out; omega
      have HB3 : Hid (∀ g, (Value.slice ua3 U3.length uc3).ownBlock = some g → w2.heap.size ≤ g) := hb3
      have HBV3 : Hid (¬ (Value.slice ua3 U3.length uc3).ownBlock = some w.heap.size) := fun e => by have := HB3.out _ e; have := HWZ.out; have := k2.size; omega
      have HF : Hid (∀ W v', SU base W sb (U3 ++ [ot]) v' → Keeps (fun i => i = sb ∨ (Value.slice ua3 U3.length uc3).ownBlock = some i) w3 W → UdP base sb S c (.slice ua U.length uc) w (.returned (.tuple #[.bool true, .int .i64 0])) W) := fun W v' h1 h2 => HP.out _ _ _ v' _ ⟨rfl, rfl⟩ h1 HUS3.out (((k1.trans k2).trans' k3 (U := fun i => i = sb ∨ (Value.slice ua U.length uc).ownBlock = some i) (fun _ _ e => e.elim) (fun _ _ e => .inl e)).trans' h2 (fun _ _ e => e) (fun i hi e => e.elim .inl (fun e => by have := HB3.out i e; have := (k1.trans k2).size; omega)))
      clear hv3 hb3 HIN HWO HLN3
      have kd : Keeps (fun _ => False) w3 w3.drew := (Keeps.refl _ w3).drew
      have xd := (HX3.out.keep kd).c.c 0 _ rfl
      have cBd := kd.cell cB (fun e => e)
      have cBa := (kd.trans ((Keeps.refl (fun _ => False) w3.drew).alloc (.cells #[.int .i64 ot] 2))).cell cB (fun e => e)
      have xda := ((HX3.out.keep kd).keep ((Keeps.refl (fun _ => False) w3.drew).alloc (.cells #[.int .i64 ot] 2))).c.c 0 _ rfl
      obtain ⟨a1, c1, X1, hr1, ho1, kq, hbq⟩ := append_kk (HX3.out.keep kd).o (HX3.out.keep kd).bs HB83 ot
      have hC1 : CL X1 sb [.slice ua3 U3.length uc3] := (HX3.out.keep kd).c.keep (by show 0 < 1; decide) kq (fun e => by have := owns_baseT HX3.out.o sb e; have := HX3.out.lt; omega)
      have y0 := hC1.c 0 _ rfl
      have z0 := hC1.z 0 (by show 0 < 1; decide)
      have hS9 : X1.cell? ⟨w.heap.size, 2, none⟩ = some (.int .i64 ot) := kq.cell cBd (fun e => HBV3.out (by exact e))
      obtain ⟨X2, hX2⟩ : ∃ X2, X2 = X1.setCell ⟨sb, 0, none⟩ (.slice a1 (U3.length + 1) c1) := ⟨_, rfl⟩
      have k2 : Keeps (fun i => i = sb) X1 X2 := by rw [hX2]; exact (Keeps.refl (fun i => i = sb) X1).setCell (p := ⟨sb, 0, none⟩) (fun _ => rfl) _
      have hC2 : CL X2 sb [.slice a1 (U3.length + 1) c1] := by rw [hX2]; exact hC1.set (o := 0) (by show 0 < 1; decide) _
      have hSx : (X1.setCell ⟨sb, 0, none⟩ (.slice a1 (U3.length + 1) c1)).cell? ⟨w.heap.size, 2, none⟩ = some (.int .i64 ot) := by rw [← hX2]; exact k2.cell hS9 (fun e => HBS.out (by exact e))
      have HSU2 : Hid (SU base X2 sb  (U3 ++ [ot]) (.slice a1 (U3.length + 1) c1)) := ⟨hC2, by rw [List.length_append]; exact k2.owns ho1 (fun j e1 e2 => by
        have := owns_baseT ho1 j e1
        have e2 : j = sb := e2
        have := HX3.out.lt
        omega), HX3.out.lt, by have := kq.size; have := k2.size; have := HX3.out.bs; have := kd.size; omega⟩
      have KX2 : Keeps (fun i => i = sb ∨ (Value.slice ua3 U3.length uc3).ownBlock = some i) w3 X2 := (kd.trans' kq (U := fun i => (Value.slice ua3 U3.length uc3).ownBlock = some i) (fun _ _ e => e.elim) (fun _ _ e => e)).trans' k2 (fun _ _ e => .inr e) (fun _ _ e => .inl e)
      generalize U3.length = N at *
      (try go_wp2_with fail)
      refine wp_region_held_drew (S := fun W => W.cell? ⟨w.heap.size, 2, none⟩ = some (.int .i64 ot)) (by kernel_rfl) cBd (fun hHeld => ?_)
      refine wpAnyH_take (i := 0) (v := ?_) rfl (by kernel_rfl) (by kernel_rfl) (by kernel_rfl) (fun _ _ _ h => h) (Or.inl ⟨by rfl, ?_⟩) (by assumption) ?_
      rotate_left
      · intro wx hSw; clear hSw; go_simp <;> with_reducible rfl
      (try simp only [List.getElem_toArray]); (try simp only [List.getElem_cons_succ]); (try simp only [List.getElem_cons_zero]); (try simp only [Act.put]); (try simp only [List.setIfInBounds_toArray]); (repeat first | simp only [List.set_cons_succ] | simp only [List.set_cons_zero])
      refine wpAnyH_take (i := 1) (v := ?_) rfl (by kernel_rfl) (by kernel_rfl) (by kernel_rfl) (fun _ _ _ h => h) (Or.inl ⟨by rfl, ?_⟩) (by assumption) ?_
      rotate_left
      · intro wx hSw; clear hSw; go_simp <;> with_reducible rfl
      (try simp only [List.getElem_toArray]); (try simp only [List.getElem_cons_succ]); (try simp only [List.getElem_cons_zero]); (try simp only [Act.put]); (try simp only [List.setIfInBounds_toArray]); (repeat first | simp only [List.set_cons_succ] | simp only [List.set_cons_zero])
      refine wpAnyH_take (i := 2) (v := ?_) rfl (by kernel_rfl) (by kernel_rfl) (by kernel_rfl) (fun _ _ _ h => h) (Or.inl ⟨by rfl, ?_⟩) (by assumption) ?_
      rotate_left
      · intro wx hSw; clear hSw; go_simp <;> with_reducible rfl
      (try simp only [List.getElem_toArray]); (try simp only [List.getElem_cons_succ]); (try simp only [List.getElem_cons_zero]); (try simp only [Act.put]); (try simp only [List.setIfInBounds_toArray]); (repeat first | simp only [List.set_cons_succ] | simp only [List.set_cons_zero])
      refine wpAnyH_take (i := 3) (v := ?_) rfl (by kernel_rfl) (by kernel_rfl) (by kernel_rfl) (fun _ _ _ h => h) (Or.inl ⟨by rfl, ?_⟩) (by assumption) ?_
      rotate_left
      · intro wx hSw; clear hSw; go_simp <;> with_reducible rfl
      (try simp only [List.getElem_toArray]); (try simp only [List.getElem_cons_succ]); (try simp only [List.getElem_cons_zero]); (try simp only [Act.put]); (try simp only [List.setIfInBounds_toArray]); (repeat first | simp only [List.set_cons_succ] | simp only [List.set_cons_zero])
      refine wpAnyH_take (i := 5) (v := ?_) rfl (by kernel_rfl) (by kernel_rfl) (by kernel_rfl) (fun _ _ _ h => h) (Or.inl ⟨by rfl, ?_⟩) (by assumption) ?_
      rotate_left
      · intro wx hSw; clear hSw; go_simp <;> with_reducible rfl
      (try simp only [List.getElem_toArray]); (try simp only [List.getElem_cons_succ]); (try simp only [List.getElem_cons_zero]); (try simp only [Act.put]); (try simp only [List.setIfInBounds_toArray]); (repeat first | simp only [List.set_cons_succ] | simp only [List.set_cons_zero])
      refine wpAnyH_take (i := 6) (v := ?_) rfl (by kernel_rfl) (by kernel_rfl) (by kernel_rfl) (fun _ _ _ h => h) (Or.inl ⟨by rfl, ?_⟩) (by assumption) ?_
      rotate_left
      · intro wx hSw; go_simp <;> with_reducible rfl
      (try simp only [List.getElem_toArray]); (try simp only [List.getElem_cons_succ]); (try simp only [List.getElem_cons_zero]); (try simp only [Act.put]); (try simp only [List.setIfInBounds_toArray]); (repeat first | simp only [List.set_cons_succ] | simp only [List.set_cons_zero])
      refine wpAnyH_two' 4 7 (by kernel_rfl) rfl rfl (by kernel_rfl) (by kernel_rfl) ?_ ?_
      · refine wp_loadK 25 _ rfl ⟨sb, 0, none⟩ rfl _ (run_load_sl64 xd) ?_
        refine ⟨hHeld, fun _ => ?_⟩
        (try simp only [List.getElem_toArray]); (try simp only [List.getElem_cons_succ]); (try simp only [List.getElem_cons_zero]); (try simp only [Act.put]); (try simp only [List.setIfInBounds_toArray]); (repeat first | simp only [List.set_cons_succ] | simp only [List.set_cons_zero])
        refine wpAnyH_one 7 (by kernel_rfl) rfl rfl ?_
        refine wp_buildK _ rfl _ rfl ?_
        refine ⟨cBa, fun hS8 => ?_⟩
        (try simp only [List.getElem_toArray]); (try simp only [List.getElem_cons_succ]); (try simp only [List.getElem_cons_zero]); (try simp only [Act.put]); (try simp only [List.setIfInBounds_toArray]); (repeat first | simp only [List.set_cons_succ] | simp only [List.set_cons_zero])
        refine wpAnyH_one 8 (by kernel_rfl) rfl rfl ?_
        refine wp_append_t _ _ 25 rfl _ _ _ X1 rfl rfl hr1 ?_
        refine ⟨hS9, fun _ => ?_⟩
        (try simp only [List.getElem_toArray]); (try simp only [List.getElem_cons_succ]); (try simp only [List.getElem_cons_zero]); (try simp only [Act.put]); (try simp only [List.setIfInBounds_toArray]); (repeat first | simp only [List.set_cons_succ] | simp only [List.set_cons_zero])
        refine wpAnyH_take (i := 9) (v := ?_) rfl (by kernel_rfl) (by kernel_rfl) (by kernel_rfl) (fun _ _ _ h => h) (Or.inl ⟨by rfl, ?_⟩) (by assumption) ?_
        rotate_left
        · intro wx hSw; clear hSw; go_simp <;> with_reducible rfl
        (try simp only [List.getElem_toArray]); (try simp only [List.getElem_cons_succ]); (try simp only [List.getElem_cons_zero]); (try simp only [Act.put]); (try simp only [List.setIfInBounds_toArray]); (repeat first | simp only [List.set_cons_succ] | simp only [List.set_cons_zero])
        refine wpAnyH_take (i := 10) (v := ?_) rfl (by kernel_rfl) (by kernel_rfl) (by kernel_rfl) (fun _ _ _ h => h) (Or.inl ⟨by rfl, ?_⟩) (by assumption) ?_
        rotate_left
        · intro wx hSw; clear hSw; go_simp <;> with_reducible rfl
        (try simp only [List.getElem_toArray]); (try simp only [List.getElem_cons_succ]); (try simp only [List.getElem_cons_zero]); (try simp only [Act.put]); (try simp only [List.setIfInBounds_toArray]); (repeat first | simp only [List.set_cons_succ] | simp only [List.set_cons_zero])
        refine wpAnyH_one 11 (by kernel_rfl) rfl rfl ?_
        refine wp_storeK 25 _ _ rfl ⟨sb, 0, none⟩ rfl _ rfl (run_store_sl64 (by rw [y0]; rfl) z0 a1 (N + 1) c1) ?_
        refine ⟨hSx, fun _ => ?_⟩
        (try simp only [List.getElem_toArray]); (try simp only [List.getElem_cons_succ]); (try simp only [List.getElem_cons_zero]); (try simp only [Act.put]); (try simp only [List.setIfInBounds_toArray]); (repeat first | simp only [List.set_cons_succ] | simp only [List.set_cons_zero])
        refine wpAnyH_done (by kernel_rfl) ?_ _
        rw [← hX2]
        clear hX2 hSx
        go_wp2_with fail
        go_ret2
        exact HF.out _ _ HSU2.out KX2
      · refine wp_buildK _ rfl _ rfl ?_
        refine ⟨cBa, fun hS8 => ?_⟩
        (try simp only [List.getElem_toArray]); (try simp only [List.getElem_cons_succ]); (try simp only [List.getElem_cons_zero]); (try simp only [Act.put]); (try simp only [List.setIfInBounds_toArray]); (repeat first | simp only [List.set_cons_succ] | simp only [List.set_cons_zero])
        refine wpAnyH_one 4 (by kernel_rfl) rfl rfl ?_
        refine wp_loadK 25 _ rfl ⟨sb, 0, none⟩ rfl _ (run_load_sl64 xda) ?_
        refine ⟨hS8, fun _ => ?_⟩
        (try simp only [List.getElem_toArray]); (try simp only [List.getElem_cons_succ]); (try simp only [List.getElem_cons_zero]); (try simp only [Act.put]); (try simp only [List.setIfInBounds_toArray]); (repeat first | simp only [List.set_cons_succ] | simp only [List.set_cons_zero])
        refine wpAnyH_one 8 (by kernel_rfl) rfl rfl ?_
        refine wp_append_t _ _ 25 rfl _ _ _ X1 rfl rfl hr1 ?_
        refine ⟨hS9, fun _ => ?_⟩
        (try simp only [List.getElem_toArray]); (try simp only [List.getElem_cons_succ]); (try simp only [List.getElem_cons_zero]); (try simp only [Act.put]); (try simp only [List.setIfInBounds_toArray]); (repeat first | simp only [List.set_cons_succ] | simp only [List.set_cons_zero])
        refine wpAnyH_take (i := 9) (v := ?_) rfl (by kernel_rfl) (by kernel_rfl) (by kernel_rfl) (fun _ _ _ h => h) (Or.inl ⟨by rfl, ?_⟩) (by assumption) ?_
        rotate_left
        · intro wx hSw; clear hSw; go_simp <;> with_reducible rfl
        (try simp only [List.getElem_toArray]); (try simp only [List.getElem_cons_succ]); (try simp only [List.getElem_cons_zero]); (try simp only [Act.put]); (try simp only [List.setIfInBounds_toArray]); (repeat first | simp only [List.set_cons_succ] | simp only [List.set_cons_zero])
        refine wpAnyH_take (i := 10) (v := ?_) rfl (by kernel_rfl) (by kernel_rfl) (by kernel_rfl) (fun _ _ _ h => h) (Or.inl ⟨by rfl, ?_⟩) (by assumption) ?_
        rotate_left
        · intro wx hSw; clear hSw; go_simp <;> with_reducible rfl
        (try simp only [List.getElem_toArray]); (try simp only [List.getElem_cons_succ]); (try simp only [List.getElem_cons_zero]); (try simp only [Act.put]); (try simp only [List.setIfInBounds_toArray]); (repeat first | simp only [List.set_cons_succ] | simp only [List.set_cons_zero])
        refine wpAnyH_one 11 (by kernel_rfl) rfl rfl ?_
        refine wp_storeK 25 _ _ rfl ⟨sb, 0, none⟩ rfl _ rfl (run_store_sl64 (by rw [y0]; rfl) z0 a1 (N + 1) c1) ?_
        refine ⟨hSx, fun _ => ?_⟩
        (try simp only [List.getElem_toArray]); (try simp only [List.getElem_cons_succ]); (try simp only [List.getElem_cons_zero]); (try simp only [Act.put]); (try simp only [List.setIfInBounds_toArray]); (repeat first | simp only [List.set_cons_succ] | simp only [List.set_cons_zero])
        refine wpAnyH_done (by kernel_rfl) ?_ _
        rw [← hX2]
        clear hX2 hSx
        go_wp2_with fail
        go_ret2
        exact HF.out _ _ HSU2.out KX2
  have q6 : (kd == 6) = false := by simp [g6]
  have g4 : kd = 4 := by omega
  simp only [if_pos g4] at HP
  clear g1 g2 g3 g4 g5 g6
  generalize decide (ky ∈ S) = dk at *
  cases S with
  | nil =>
    have hU0 : U.length = 0 := HULN.out
    have HF : Hid (UdP base sb [] c (.slice ua U.length uc) w (.returned (.tuple #[.bool false, .int .i64 0])) w1) := HP.out _ _ U _ _ ⟨rfl, rfl⟩ HX.out HUS.out (k1.mono (fun _ _ e => e.elim))
    have s0 : ((U.length : Int) == 0) = true := by simp [hU0]
    have s1 : (U.length == 0) = true := by simp [hU0]
    clear hU0
    generalize U.length = N at *
    go_wp2_with fail
    go_ret2
    exact HF.out
  | cons x T =>
    have hU0 : 0 < U.length := by rw [HULN.out]; simp
    have s0 : ((U.length : Int) == 0) = false := by rw [beq_eq_false_iff_ne]; omega
    have s1 : (U.length == 0) = false := by rw [beq_eq_false_iff_ne]; omega
    have s2 : (0 : Int) < (U.length : Int) := by omega
    obtain ⟨ua', uc', e', hKL⟩ := HX.out.form
    injection e' with e1' _ _
    subst e1'
    have HKL : Hid (KL w1 ua U) := hKL
    have HMIN : Hid (∀ m, m ∈ U → (∀ j, j < U.length → m ≤ U.getD j 0) → m = x) := fun m hm hall => by
      have h1 := (HUS.out.m m).1 hm
      have hx : x ∈ U := (HUS.out.m x).2 (by simp)
      obtain ⟨j, hj, ej⟩ := List.getElem_of_mem hx
      have h2 := hall j hj
      rw [List.getD_eq_getElem?_getD, List.getElem?_eq_getElem hj] at h2
      have h2 : m ≤ U[j] := h2
      rw [ej] at h2
      rcases List.mem_cons.1 h1 with e | e
      · exact e
      · have := (List.pairwise_cons.1 HRS.out).1 m e
        omega
    obtain ⟨b, off, rfl, hc0⟩ := hKL 0 hU0
    have c00 : w1.cell? ⟨b, off, none⟩ = some (.int .i64 (U.getD 0 0)) := hc0
    have HM0 : Hid (U.getD 0 0 ∈ U) := by show _ ∈ _; rw [List.getD_eq_getElem?_getD, List.getElem?_eq_getElem hU0]; exact List.getElem_mem hU0
    have HF : Hid (∀ W v', SU base W sb (woutL U x) v' → Keeps (fun i => i = sb) w1 W → UdP base sb (x :: T) c (.slice (some ⟨b, off, none⟩) U.length uc) w (.returned (.tuple #[.bool true, .int .i64 x])) W) := fun W v' h1 h2 => HP.out _ _ _ v' _ ⟨rfl, rfl⟩ h1 (HUS.out.wout x) (k1.trans' h2 (fun _ _ e => e.elim) (fun _ _ e => .inl e))
    clear hKL hc0 hU0
    generalize hm0 : U.getD 0 0 = m0 at *
    clear hm0
    obtain ⟨N, hN⟩ : ∃ N, N = U.length := ⟨_, rfl⟩
    rw [← hN] at s0 s1 s2 x0 hn HMIN HF
    rw [← hN]
    have HN : Hid (N = U.length) := hN
    clear hN HP HIN
    go_wp2_with fail
    go_loopw [7, 8] (fun lv iv Wr => ∃ (i : Nat) (m : Int), iv = .int .i64 (i : Int) ∧ i ≤ N ∧ lv = .int .i64 m ∧ m ∈ U ∧ (∀ j, j < i → m ≤ U.getD j 0) ∧ Keeps (fun _ => False) w1 Wr) (fun _ iv _ => N - (intOf iv).toNat)
    case atStart => exact ⟨0, m0, rfl, Nat.zero_le _, rfl, HM0.out, fun j hj => absurd hj (by omega), Keeps.refl _ _⟩
    case round =>
      obtain ⟨i, m, rfl, hi, rfl, hmU, hal, kr⟩ := hrel
      have HMU : Hid (m ∈ U) := hmU
      have HAL : Hid (∀ j, j < i → m ≤ U.getD j 0) := hal
      clear hmU hal
      have x1 := kr.cell x0 (fun e => e)
      by_cases hlt : i < N
      · have j1 : decide ((i : Int) < (N : Int)) = true := decide_eq_true (by omega)
        have j2 : decide (i < N) = true := decide_eq_true hlt
        have j3 : (i : Int) < (N : Int) := by omega
        have j4 : (0 : Int) ≤ (i : Int) := by omega
        have hwi : IntKind.i64.wrap ((i : Int) + 1) = (i : Int) + 1 := by rw [IntKind.wrap_i64]; omega
        have hiU : i < U.length := by rw [← HN.out]; exact hlt
        obtain ⟨b', off', eb, hc⟩ := HKL.out i hiU
        injection eb with eb
        injection eb with eb1 eb2 _
        subst eb1 eb2
        have ci := kr.cell hc (fun e => e)
        have HZU : Hid (U.getD i 0 ∈ U) := by show _ ∈ _; rw [List.getD_eq_getElem?_getD, List.getElem?_eq_getElem hiU]; exact List.getElem_mem hiU
        have HLT : Hid (U.getD i 0 < m → ∀ j, j < i + 1 → U.getD i 0 ≤ U.getD j 0) := fun h j hj => by
          by_cases e : j = i
          · rw [e]; exact Int.le_refl _
          · have := HAL.out j (by omega); omega
        have HGE : Hid (¬ U.getD i 0 < m → ∀ j, j < i + 1 → m ≤ U.getD j 0) := fun h j hj => by
          by_cases e : j = i
          · rw [e]; omega
          · exact HAL.out j (by omega)
        clear hc hiU
        generalize U.getD i 0 = z at *
        by_cases hz : z < m
        · have d1 : decide (z < m) = true := decide_eq_true hz
          have HXX : Hid (∀ j, j < i + 1 → z ≤ U.getD j 0) := HLT.out hz
          clear hz HLT HGE
          go_wp2_with fail
          go_roundw
          case rel => exact ⟨i + 1, z, by go_num, by omega, rfl, HZU.out, HXX.out, kr⟩
          case measure => simp [intOf]; omega
        · have d1 : decide (z < m) = false := decide_eq_false hz
          have HXX : Hid (∀ j, j < i + 1 → m ≤ U.getD j 0) := HGE.out (by omega)
          clear hz HLT HGE
          go_wp2_with fail
          go_roundw
          case rel => exact ⟨i + 1, m, by go_num, by omega, rfl, HMU.out, HXX.out, kr⟩
          case measure => simp [intOf]; omega
      · have j1 : decide ((i : Int) < (N : Int)) = false := decide_eq_false (by omega)
        have j2 : decide (i < N) = false := decide_eq_false hlt
        obtain rfl : m = x := HMIN.out m HMU.out (fun j hj => HAL.out j (by omega))
        have hwo := HWO.out wr m (k1.trans kr)
        go_wp2_with (go_at_call 14; refine hwo.mono ?_; clear hwo; rintro e w2 ⟨rfl, ⟨v', hv', -⟩, k2⟩)
        go_ret2
        exact HF.out _ v' hv' (kr.trans' k2 (fun _ _ e => e.elim) (fun _ _ e => e))
end Go.Proofs.Ytgcfckbmmdajhaa
