import Derived.Test.YthchbcfecconbaaGreatDoorG16
namespace Go.Proofs.YthchbcfecconbaaGreatDoor
open Go.RowKit
attribute [local go_sem] Oper.semAt_some run_store_nf run_store_f
def fills : Ins → List Int → List Pc → Option Ins
  | u, [], [] => some u
  | u, s :: ss, p :: ps => (fil u s p.t).bind (fun u' => fills u' ss ps)
  | _, _, _ => none
def inst : List Pc → Option Ins
  | [] => none
  | p :: r => (nmd p.t).bind (fun q => fills q (slo q.code.toNat) r)
def PCL (w : World) (a : Option Addr) (l : List Pc) : Prop := ∀ i p, l[i]? = some p → ∃ b off, a = some ⟨b, off, none⟩ ∧ ∀ j v, p.cells[j]? = some v → w.cell? ⟨b, off + i * 3 + j, none⟩ = some v
theorem PCL.keep {w w' : World} {a : Option Addr} {l : List Pc} (h : PCL w a l) (k : Keeps (fun _ => False) w w') : PCL w' a l := fun i p hi => by
  obtain ⟨b, off, e, hc⟩ := h i p hi
  exact ⟨b, off, e, fun j v hv => k.cell (hc j v hv) (fun e => e)⟩
theorem owns_ty {w : World} {base : Nat} {e : TypeId} {size : Nat} {v : Value} {n : Nat} {xs : List Value} (h : w.ownsRow base e size v n xs) (k : Nat) (hk : v.ownBlock = some k) : base ≤ k ∧ ∃ cur x, w.heap[k]? = some (.cells cur e x) := by
  rcases h.2 with ⟨rfl, _⟩ | ⟨g, cap, cur, rfl, hb, hg, rest⟩
  · cases hk
  · cases hk; exact ⟨hb, _, _, hg⟩
def IRw (w : World) (base R k : Nat) : Prop := base ≤ k ∧ (k = R ∨ ∃ cur x, w.heap[k]? = some (.cells cur 69 x))
structure RI (w : World) (base R : Nat) (mv jv : Value) (qs : List Ins) : Prop where
  x : ∃ cv, CL w R [cv, mv, jv] ∧ w.ownsRow base 69 11 cv qs.length (icl qs) ∧ cv.ownBlock ≠ some R
  b : base ≤ R
theorem RI.keep {w w' : World} {base R : Nat} {mv jv : Value} {qs : List Ins} (h : RI w base R mv jv qs) (k : Keeps (fun _ => False) w w') : RI w' base R mv jv qs := by
  obtain ⟨⟨cv, hc, ho, hn⟩, hb⟩ := h
  exact ⟨⟨cv, hc.keep (by show 0 < 3; decide) k (fun e => e), k.owns ho (fun _ _ e => e), hn⟩, hb⟩
theorem fil_code {u u' : Ins} {s : Int} {t : ByteArray} (h : fil u s t = some u') : u'.code = u.code := by
  unfold fil at h
  split at h
  · split at h
    · cases h; rfl
    · cases h
  · split at h
    · cases ho : objO t with
      | none => rw [ho] at h; cases h
      | some x => rw [ho] at h; cases h; rfl
    · split at h
      · cases ho : src t with
        | none => rw [ho] at h; cases h
        | some x => rw [ho] at h; cases h; rfl
      · split at h
        · cases ho : src t with
          | none => rw [ho] at h; cases h
          | some x => rw [ho] at h; cases h; rfl
        · split at h
          · split at h
            · cases h; rfl
            · cases h
          · cases h
structure Fl (q0 u : Ins) (ss : List Int) (ps : List Pc) (k : Nat) (q : Ins) : Prop where
  g : fills u (ss.drop k) (ps.drop k) = some q
  c : u.code = q0.code
theorem fills_len : ∀ (u : Ins) (ss : List Int) (ps : List Pc) (q : Ins), fills u ss ps = some q → ss.length = ps.length
  | _, [], [], _, _ => rfl
  | _, [], _ :: _, _, h => by cases h
  | _, _ :: _, [], _, h => by cases h
  | u, s :: ss, p :: ps, q, h => by
    unfold fills at h
    obtain ⟨u', _, h⟩ := Option.bind_eq_some_iff.1 h
    rw [List.length_cons, List.length_cons, fills_len u' ss ps q h]
theorem Fl.next {q0 u q : Ins} {ss : List Int} {ps : List Pc} {k : Nat} {s : Int} {p : Pc} (h : Fl q0 u ss ps k q) (hs : ss[k]? = some s) (hp : ps[k]? = some p) : ∃ u', fil u s p.t = some u' ∧ Fl q0 u' ss ps (k + 1) q := by
  have e1 : ss.drop k = s :: ss.drop (k + 1) := by
    obtain ⟨hk, e⟩ := List.getElem?_eq_some_iff.1 hs
    rw [List.drop_eq_getElem_cons hk, e]
  have e2 : ps.drop k = p :: ps.drop (k + 1) := by
    obtain ⟨hk, e⟩ := List.getElem?_eq_some_iff.1 hp
    rw [List.drop_eq_getElem_cons hk, e]
  have g := h.g
  rw [e1, e2] at g
  unfold fills at g
  obtain ⟨u', h1, h2⟩ := Option.bind_eq_some_iff.1 g
  exact ⟨u', h1, h2, (fil_code h1).trans h.c⟩
theorem Fl.done {q0 u q : Ins} {ss : List Int} {ps : List Pc} {k : Nat} (h : Fl q0 u ss ps k q) (hs : ss.length = k) (hp : ps.length = k) : u = q := by
  have g := h.g
  rw [List.drop_eq_nil_of_le (by omega), List.drop_eq_nil_of_le (by omega)] at g
  exact Option.some.inj g
theorem nmd_code {t : ByteArray} {q : Ins} (h : nmd t = some q) : ∃ c : Nat, q.code = (c : Int) ∧ 1 ≤ c ∧ c ≤ 10 := by
  unfold nmd at h
  split at h
  · cases h; exact ⟨6, rfl, by omega, by omega⟩
  · split at h
    · rename_i hn
      cases h
      refine ⟨_, rfl, by omega, ?_⟩
      have : ∀ n i, look shT t i n ≠ 0 → look shT t i n < i + n := by
        intro n
        induction n with
        | zero => intro i h; exact absurd rfl h
        | succ n ih =>
          intro i h
          cases hm : ((shT i).toList == t.toList) with
          | true => rw [look_hit _ _ _ _ hm]; omega
          | false =>
            rw [look_miss _ _ _ _ hm] at h ⊢
            have := ih (i + 1) h
            omega
      have := this 10 1 hn
      omega
    · cases h
end Go.Proofs.YthchbcfecconbaaGreatDoor

namespace Go.Proofs.YthchbcfecconbaaGreatDoor
open Go.RowKit Go.Deep Go.ChangeShapes Go.WideShapes Go.ChangeAt
attribute [local go_sem] Oper.semAt_some run_store_nf run_store_f
theorem takes_load' {P : Program} {w : World} {o : Oper} {a : Act} (ty : TypeId) (x : Operand) (ho : o.op = .load ty x) (ad : Addr) (hx : a.eval x = .pointer (some ad)) {v : Value} (hr : (loadVar ty ad).run P w = .ok v w) : (execOp a.eval o).run P w = .ok (.value v) w := by
  unfold execOp
  simp only [ho, hx, Instr.loadAt, Instr.sureAddr, Sem.run_bind, Sem.run_pure, Result.andThen_ok, hr]
theorem wpAnyH_two' {P : Program} {ops : Array Oper} {Q : Exit → Act → World → Prop} {md : Region.Mode} {S : World → Prop} {fuel : Nat} {listed : Array Bool} {a : Act} {w : World} {o o2 : Oper} (i i2 : Nat) (hr : Region.ready md ops listed = [i, i2]) (hoi : ops[i]? = some o) (hoi2 : ops[i2]? = some o2) (hw : Region.wanted o (yielded ops a.tmps) = true) (hw2 : Region.wanted o2 (yielded ops a.tmps) = true)
    (h : Oper.wp P o a w (fun a' w' => S w' ∧ (S w' → wpAnyH P md ops Q S fuel (listed.setIfInBounds i true) a' w')) Q) (h2 : Oper.wp P o2 a w (fun a' w' => S w' ∧ (S w' → wpAnyH P md ops Q S fuel (listed.setIfInBounds i2 true) a' w')) Q) : wpAnyH P md ops Q S (fuel + 1) listed a w := by
  refine wpAnyH_ready hr (by simp) (AllReadyH.cons hoi (fun K hK => ?_) (AllReadyH.cons hoi2 (fun K hK => ?_) AllReadyH.nil))
  · rw [if_pos hw]
    exact Oper.wp_mono (fun a' w' e => hK.out _ _ e.1 e.2) h
  · rw [if_pos hw2]
    exact Oper.wp_mono (fun a' w' e => hK.out _ _ e.1 e.2) h2
theorem append_i2 {W : World} {base k : Nat} {v : Value} {qs : List Ins} (hown : W.ownsRow base 69 11 v k (icl qs)) (hb : base ≤ W.heap.size) (hk : (k + 1) * 88 ≤ 140737488355328) (q : Ins) :
    ∃ v' w', (Builtin.append_ #[26, 26] 26 #[v, .slice (some ⟨W.heap.size, 0, none⟩) 1 1]).run Tryz.prog (W.alloc (.cells #[.int .i64 q.code, .int .i64 q.dst, .bool q.oR, .int .i64 q.oN, .bool q.xR, .int .i64 q.xN, .bool q.yR, .int .i64 q.yN, .int .i64 q.op, .int .i64 q.rel, .int .i64 q.to] 69)) = .ok v' w' ∧ w'.ownsRow base 69 11 v' (k + 1) (icl (qs ++ [q])) ∧ Keeps (fun i => v.ownBlock = some i) W w' ∧ (v'.ownBlock = v.ownBlock ∨ v'.ownBlock = some (W.heap.size + 1)) := by
  obtain ⟨i0, hi0, hz0, hz1, hz2⟩ := oIi
  obtain ⟨v', w', hr, ho, hg, _, hbl⟩ := run_append_own_at (P := Tryz.prog) (w := W.alloc (.cells q.cells.toArray 69)) base 26 26 69 i0 _ 11 88 oI hi0 hz0 hz1 hz2 rfl (by decide) v k (icl qs) (((Keeps.refl (fun _ => False) W).alloc _).owns hown (fun _ _ e => e)) ⟨W.heap.size, 0, none⟩ 1 1 q.cells rfl (fun j u hu => by
      rw [add_at]
      have := (CL.made W q.cells 69).c j u hu
      simpa using this) (fun u hu => by
      have := all_oneCell_ins q
      simp [Ins.cells] at hu
      rcases hu with rfl | rfl | rfl | rfl | rfl | rfl | rfl | rfl | rfl | rfl | rfl <;> rfl) (by unfold maxLen; omega) (by omega) (Nat.le_trans hb (by simp))
  refine ⟨v', w', hr, ?_, ((Keeps.refl _ W).alloc _).grown hg (fun i _ e => e), by simpa using hbl⟩
  unfold icl
  rw [List.flatMap_append]
  simpa [icl] using ho
theorem iPc : (Tryz.prog.info? 124).map (·.size) = some 3 := by kernel_rfl
theorem run_pcAt {W : World} {b o : Nat} {p : Pc} (hc : ∀ j v, p.cells[j]? = some v → W.cell? ⟨b, o + j, none⟩ = some v) : (loadVar 124 ⟨b, o, none⟩).run Tryz.prog W = .ok (.agg p.cells.toArray) W :=
  run_loadVar_mid W b o 124 p.cells _ hc Tryz.underlying124 rfl (by rw [iPc]; rfl)
set_option maxHeartbeats 500000 in
set_option maxRecDepth 1000000 in
theorem instr_ok {w : World} {base R : Nat} {mv jv : Value} {qs : List Ins} {b off cap : Nat} {p0 : Pc} {r : List Pc} {q : Ins} (hT : PT w) (hNT : NT w) (hI : RI w base R mv jv qs) (hbw : base ≤ w.heap.size) (hw : PCL w (some ⟨b, off, none⟩) (p0 :: r)) (hsz : ∀ p ∈ r, p.t.size ≤ 4096) (hm : inst (p0 :: r) = some q) (hn : qs.length < 64) : Calls Tryz.prog 47 #[.pointer (some ⟨R, 0, none⟩), .slice (some ⟨b, off, none⟩) (r.length + 1) cap] w fun e w' => e = .returned (.tuple #[]) ∧ RI w' base R mv jv (qs ++ [q]) ∧ Keeps (IRw w base R) w w' := by
  obtain ⟨q0, hnm, hfl⟩ := Option.bind_eq_some_iff.1 (show (nmd p0.t).bind (fun q => fills q (slo q.code.toNat) r) = some q from hm)
  clear hm
  obtain ⟨c, hcd, hc1, hc2⟩ := nmd_code hnm
  rw [hcd, Int.toNat_natCast] at hfl
  have hlen := fills_len _ _ _ _ hfl
  obtain ⟨b', off', e', hp0⟩ := hw 0 p0 rfl
  obtain ⟨rfl, rfl⟩ : b = b' ∧ off = off' := by
    injection e' with e'; injection e' with e1 e2 _; exact ⟨e1, e2⟩
  clear e'
  have hR0 := run_pcAt (W := w) (b := b) (o := off) (p := p0) (fun j v e => by have := hp0 j v e; rw [Nat.zero_mul, Nat.add_zero] at this; exact this)
  have hNm := named_ok p0.t p0.ln p0.col hT.lt hNT hnm
  obtain ⟨⟨cv, hCR, hown, hnR⟩, hbR⟩ := hI
  obtain ⟨ac, capc, rfl, hisl⟩ := isl_of_owns hown rfl
  have hl64 : ((qs.length : Int) == 64) = false := by simp; omega
  go_enter Tryz.func47, Tryz.ntmps47
  go_wp2_with (refine wpList_load_run rfl 124 _ rfl ⟨b, off, none⟩ rfl _ hR0 ?_; clear hR0)
  refine (show Calls Tryz.prog 74 #[.agg p0.cells.toArray] w _ from hNm).mono ?_
  rintro e w1 ⟨rfl, k1⟩
  obtain ⟨W4, hW4⟩ : ∃ W4, W4 = w1.alloc (.cells #[.int .i64 0, .int .i64 0, .bool false, .int .i64 0, .bool false, .int .i64 0, .bool false, .int .i64 0, .int .i64 0, .int .i64 0, .int .i64 0] 69) := ⟨_, rfl⟩
  have k4 : Keeps (fun _ => False) w1 W4 := by rw [hW4]; exact (Keeps.refl _ w1).alloc _
  have hU4 : CL W4 w1.heap.size ins0.cells := by rw [hW4]; exact CL.made w1 ins0.cells _
  have hA := all_oneCell_ins q0
  have HW : Hid (_ = _) := hW4
  clear hW4 hNm
  obtain ⟨sv, hsv, asl, capsl, rfl, hsl⟩ := hT.lt.sh c hc1 hc2
  obtain ⟨hs4, hs6⟩ := slo_le c
  go_wp2_with (rw [← HW.out]; clear HW; refine wpList_store_cl rfl 69 _ _ rfl w1.heap.size 0 11 _ rfl rfl rfl hU4 (by show 11 ≤ 11; decide) iIn hA ?_; intro w5 hc5 k5 hsz5; clear hsz5; have hI5 : CL w5 w1.heap.size q0.cells := hc5; clear hc5; have K5 : Keeps (fun _ => False) w w5 := (k1.trans k4).trans' k5 (fun _ _ e => e) (fun i hi e => by have := k1.size; have e : i = w1.heap.size := e; omega); have CR5 := hCR.keep (by show 0 < 3; decide) K5 (fun e => e); have r0 := CR5.c 0 _ rfl; have ic := hI5.c 0 _ rfl; rw [hcd] at ic; have s5 := K5.cell hsv (fun e => e))
  have hib := k1.size
  have hibR : w1.heap.size ≠ R := fun e => by have := hCR.lt (by show 0 < 3; decide); omega
  have hown5 := K5.owns hown (fun _ _ e => e)
  have hnI : Value.ownBlock (.slice ac qs.length capc) ≠ some w1.heap.size := fun e => by have := owns_lt' hown _ e; omega
  clear hU4 hA k1 k4 k5 r0 s5 ic hp0 hnm
  generalize w1.heap.size = ib at *
  clear w1
  go_loopw [28] (fun iv Wr => ∃ (k : Nat) (u : Ins), iv = .int .i64 (k : Int) ∧ k ≤ (slo c).length ∧ Fl q0 u (slo c) r k q ∧ CL Wr ib u.cells ∧ Keeps (fun k => k = ib) w5 Wr) (fun iv _ => (slo c).length - (intOf iv).toNat)
  case atStart => exact ⟨0, q0, rfl, Nat.zero_le _, ⟨hfl, rfl⟩, hI5, Keeps.refl _ _⟩
  case round =>
    obtain ⟨k, u, rfl, hk, hF, hU, kr⟩ := hrel
    have Kr : Keeps (fun _ => False) w wr := K5.trans' kr (fun _ _ e => e) (fun i hi e => by have e : i = ib := e; omega)
    by_cases hlt : k < (slo c).length
    · have hltI : decide ((k : Int) < ((slo c).length : Int)) = true := by simp; omega
      have hltJ : (k : Int) < ((slo c).length : Int) := by omega
      have hk0 : (0 : Int) ≤ (k : Int) := by omega
      have hk1 : (0 : Int) ≤ (k : Int) + 1 := by omega
      have hkr : (k : Int) + 1 < (r.length : Int) + 1 := by omega
      have hne : (((k : Int) + 1) == ((r.length : Int) + 1)) = false := by simp; omega
      obtain ⟨s, hs⟩ : ∃ s, (slo c)[k]? = some s := ⟨_, List.getElem?_eq_getElem hlt⟩
      obtain ⟨p, hp⟩ : ∃ p, r[k]? = some p := ⟨_, List.getElem?_eq_getElem (by omega)⟩
      obtain ⟨u', hfi, hF'⟩ := hF.next hs hp
      obtain ⟨sb, so, rfl, hsc⟩ := hsl k s hs
      have hsc' := Kr.cell hsc (fun e => e)
      obtain ⟨b', off', e', hpc⟩ := hw (k + 1) p (by rw [List.getElem?_cons_succ]; exact hp)
      obtain ⟨rfl, rfl⟩ : b = b' ∧ off = off' := by
        injection e' with e'; injection e' with e1 e2 _; exact ⟨e1, e2⟩
      clear e'
      have hRk := run_pcAt (W := wr) (b := b) (o := off + (k + 1) * 3) (p := p) (fun j v e => Kr.cell (hpc j v e) (fun e => e))
      have hfc := fill_ok (w := wr) (r := .pointer (some ⟨R, 0, none⟩)) p.t p.ln p.col (hsz p (List.mem_of_getElem? hp)) (hT.keep Kr) hU hfi
      clear hF hpc hsc hs hp hfi
      go_wp2_with (refine wpList_load_run rfl 124 _ rfl ⟨b, off + (k + 1) * 3, none⟩ rfl _ hRk ?_; clear hRk)
      refine (show Calls Tryz.prog 76 #[.pointer (some ⟨R, 0, none⟩), .pointer (some ⟨ib, 0, none⟩), .int .i64 s, .agg p.cells.toArray] wr _ from hfc).mono ?_
      rintro e w6 ⟨rfl, hU6, k6⟩
      clear hfc
      go_wp2_with fail
      go_roundw
      case rel => exact ⟨k + 1, u', by go_num, by omega, hF', hU6, kr.trans k6⟩
      case measure => simp [intOf]; omega
    · obtain rfl : k = (slo c).length := by omega
      obtain rfl := hF.done rfl (by omega)
      have hltI : decide (((slo c).length : Int) < ((slo c).length : Int)) = false := by simp
      have ic := hU.c 0 _ rfl
      rw [show u.code = (c : Int) from hF.c.trans hcd] at ic
      have s5 := Kr.cell hsv (fun e => e)
      have hne : decide (1 + ((slo c).length : Int) < (r.length : Int) + 1) = false := by simp; omega
      have CRr := hCR.keep (by show 0 < 3; decide) Kr (fun e => e)
      have hor := Kr.owns hown (fun _ _ e => e)
      have hnIr := hnI
      go_wp2_with fail
      obtain ⟨cd, dst, oR, oN, xR, xN, yR, yN, op, rel, to⟩ := u
      have Kd : Keeps (fun _ => False) wr wr.drew := (Keeps.refl _ wr).drew
      obtain ⟨v', w', hr, ho, kk, hbl⟩ := append_i2 (Kd.owns hor (fun _ _ e => e)) (by have := Kr.size; show base ≤ wr.heap.size; omega) (by omega) ⟨cd, dst, oR, oN, xR, xN, yR, yN, op, rel, to⟩
      obtain ⟨a', cap', rfl, hisl'⟩ := isl_of_owns ho (by simp)
      have hr' : (Builtin.append_ #[26, 26] 26 #[.slice ac qs.length capc, .slice (some ⟨wr.heap.size, 0, none⟩) 1 1]).run Tryz.prog (wr.alloc (.cells #[.int .i64 cd, .int .i64 dst, .bool oR, .int .i64 oN, .bool xR, .int .i64 xN, .bool yR, .int .i64 yN, .int .i64 op, .int .i64 rel, .int .i64 to] 69)).drew = .ok (.slice a' (qs.length + 1) cap') w' := hr
      clear hr
      have CR' := CRr.drew.keep (by show 0 < 3; decide) kk hnR
      have hRn : Value.ownBlock (.slice a' (qs.length + 1) cap') ≠ some R := fun e => by
        rcases hbl with h | h
        · exact hnR (h.symm.trans e)
        · have h2 : some (wr.heap.size + 1) = some R := h.symm.trans e
          have h3 := CRr.lt (by show 0 < 3; decide)
          injection h2 with h2
          omega
      have KK : Keeps (fun k => Value.ownBlock (.slice ac qs.length capc) = some k) wr w' := (Kd.mono (fun _ _ e => e.elim)).trans kk
      refine wp_region_held_drew (S := fun w' => Keeps (fun i => Value.ownBlock (.slice ac qs.length capc) = some i ∨ i = R) wr w') (by kernel_rfl) (Keeps.refl _ wr).drew (fun hHeld => ?_)
      refine wpAnyH_take (i := 0) (v := ?_) rfl (by kernel_rfl) (by kernel_rfl) (by kernel_rfl) (fun _ _ _ h => h) (Or.inl ⟨by rfl, ?_⟩) (by assumption) ?_
      rotate_left
      · intro wx hSw;  go_simp <;> with_reducible rfl
      (try simp only [List.getElem_toArray]); (try simp only [List.getElem_cons_succ]); (try simp only [List.getElem_cons_zero]); (try simp only [Act.put]); (try simp only [List.setIfInBounds_toArray]); (repeat first | simp only [List.set_cons_succ] | simp only [List.set_cons_zero])
      refine wpAnyH_take (i := 1) (v := ?_) rfl (by kernel_rfl) (by kernel_rfl) (by kernel_rfl) (fun _ _ _ h => h) (Or.inl ⟨by rfl, ?_⟩) (by assumption) ?_
      rotate_left
      · intro wx hSw;  go_simp <;> with_reducible rfl
      (try simp only [List.getElem_toArray]); (try simp only [List.getElem_cons_succ]); (try simp only [List.getElem_cons_zero]); (try simp only [Act.put]); (try simp only [List.setIfInBounds_toArray]); (repeat first | simp only [List.set_cons_succ] | simp only [List.set_cons_zero])
      refine wpAnyH_take (i := 2) (v := ?_) rfl (by kernel_rfl) (by kernel_rfl) (by kernel_rfl) (fun _ _ _ h => h) (Or.inl ⟨by rfl, ?_⟩) (by assumption) ?_
      rotate_left
      · intro wx hSw;  go_simp <;> with_reducible rfl
      (try simp only [List.getElem_toArray]); (try simp only [List.getElem_cons_succ]); (try simp only [List.getElem_cons_zero]); (try simp only [Act.put]); (try simp only [List.setIfInBounds_toArray]); (repeat first | simp only [List.set_cons_succ] | simp only [List.set_cons_zero])
      refine wpAnyH_take (i := 3) (v := ?_) rfl (by kernel_rfl) (by kernel_rfl) (by kernel_rfl) (fun _ _ _ h => h) (Or.inl ⟨by rfl, ?_⟩) (by assumption) ?_
      rotate_left
      · intro wx hSw;  go_simp <;> with_reducible rfl
      (try simp only [List.getElem_toArray]); (try simp only [List.getElem_cons_succ]); (try simp only [List.getElem_cons_zero]); (try simp only [Act.put]); (try simp only [List.setIfInBounds_toArray]); (repeat first | simp only [List.set_cons_succ] | simp only [List.set_cons_zero])
      refine wpAnyH_take (i := 5) (v := .agg #[.int .i64 cd, .int .i64 dst, .bool oR, .int .i64 oN, .bool xR, .int .i64 xN, .bool yR, .int .i64 yN, .int .i64 op, .int .i64 rel, .int .i64 to]) rfl (by kernel_rfl) (by kernel_rfl) (by kernel_rfl) (fun _ _ _ h => h) (Or.inl ⟨by rfl, ?_⟩) (by assumption) ?_
      · intro wx hSw
        exact takes_load' 69 _ rfl ⟨ib, 0, none⟩ rfl (run_ins (hU.keep (by show 0 < 11; decide) hSw (fun e => e.elim hnIr hibR)))
      (try simp only [List.getElem_toArray]); (try simp only [List.getElem_cons_succ]); (try simp only [List.getElem_cons_zero]); (try simp only [Act.put]); (try simp only [List.setIfInBounds_toArray]); (repeat first | simp only [List.set_cons_succ] | simp only [List.set_cons_zero])
      have r0 := CRr.c 0 _ rfl
      have r0a : ∀ ob, (wr.alloc ob).cell? ⟨R, 0, none⟩ = some (.slice ac qs.length capc) := fun ob => (CRr.alloc (by show 0 < 3; decide) ob).c 0 _ rfl
      refine wpAnyH_two' 4 6 (by kernel_rfl) rfl rfl (by rfl) (by rfl) ?_ ?_
      · go_simp
        have hS1 := hHeld
        (try simp only [List.getElem_toArray]); (try simp only [List.getElem_cons_succ]); (try simp only [List.getElem_cons_zero]); (try simp only [Act.put]); (try simp only [List.setIfInBounds_toArray]); (repeat first | simp only [List.set_cons_succ] | simp only [List.set_cons_zero])
        refine wpAnyH_one 6 (by kernel_rfl) rfl rfl ?_
        go_simp
        refine ⟨hS1.alloc _, fun hS2 => ?_⟩
        (try simp only [List.getElem_toArray]); (try simp only [List.getElem_cons_succ]); (try simp only [List.getElem_cons_zero]); (try simp only [Act.put]); (try simp only [List.setIfInBounds_toArray]); (repeat first | simp only [List.set_cons_succ] | simp only [List.set_cons_zero])
        refine wpAnyH_one 7 (by kernel_rfl) rfl rfl ?_
        refine wp_append_run _ _ 26 rfl _ _ _ _ rfl rfl hr' ?_
        refine ⟨KK.mono (fun _ _ e => .inl e), fun hS3 => ?_⟩
        (try simp only [List.getElem_toArray]); (try simp only [List.getElem_cons_succ]); (try simp only [List.getElem_cons_zero]); (try simp only [Act.put]); (try simp only [List.setIfInBounds_toArray]); (repeat first | simp only [List.set_cons_succ] | simp only [List.set_cons_zero])
        have z0 := CR'.z 0 (by show 0 < 3; decide)
        have x0 := CR'.c 0 _ rfl
        refine wpAnyH_take (i := 8) (v := ?_) rfl (by kernel_rfl) (by kernel_rfl) (by kernel_rfl) (fun _ _ _ h => h) (Or.inl ⟨by rfl, ?_⟩) (by assumption) ?_
        rotate_left
        · intro wx hSw;  go_simp <;> with_reducible rfl
        (try simp only [List.getElem_toArray]); (try simp only [List.getElem_cons_succ]); (try simp only [List.getElem_cons_zero]); (try simp only [Act.put]); (try simp only [List.setIfInBounds_toArray]); (repeat first | simp only [List.set_cons_succ] | simp only [List.set_cons_zero])
        refine wpAnyH_take (i := 9) (v := ?_) rfl (by kernel_rfl) (by kernel_rfl) (by kernel_rfl) (fun _ _ _ h => h) (Or.inl ⟨by rfl, ?_⟩) (by assumption) ?_
        rotate_left
        · intro wx hSw;  go_simp <;> with_reducible rfl
        (try simp only [List.getElem_toArray]); (try simp only [List.getElem_cons_succ]); (try simp only [List.getElem_cons_zero]); (try simp only [Act.put]); (try simp only [List.setIfInBounds_toArray]); (repeat first | simp only [List.set_cons_succ] | simp only [List.set_cons_zero])
        refine wpAnyH_one 10 (by kernel_rfl) rfl rfl ?_
        go_simp
        refine ⟨hS3.setCell (fun _ => .inr rfl) _, fun hS4 => ?_⟩
        (try simp only [List.getElem_toArray]); (try simp only [List.getElem_cons_succ]); (try simp only [List.getElem_cons_zero]); (try simp only [Act.put]); (try simp only [List.setIfInBounds_toArray]); (repeat first | simp only [List.set_cons_succ] | simp only [List.set_cons_zero])
        refine wpAnyH_done (by kernel_rfl) ?_ _
        go_wp2_with fail
        go_end0
        refine ⟨rfl, ⟨⟨_, CR'.set (o := 0) (by show 0 < 3; decide) _, ?_, ?_⟩, hbR⟩, ?_⟩
        · have ho' : w'.ownsRow base 69 11 (.slice a' (qs.length + 1) cap') (qs.length + 1) (icl (qs ++ [⟨cd, dst, oR, oN, xR, xN, yR, yN, op, rel, to⟩])) := ho
          rw [List.length_append]
          exact ((Keeps.refl (fun k => k = R) w').setA 0 _).owns ho' (fun g hg e => hRn (e ▸ hg))
        · exact hRn
        · exact ((Kr.mono (fun _ _ e => e.elim)).trans' KK (fun _ _ e => e) (fun i hi e => by obtain ⟨h1, h2⟩ := owns_ty hown i e; exact ⟨h1, .inr h2⟩)).setCell (fun _ => ⟨hbR, .inl rfl⟩) _
      · go_simp
        refine ⟨hHeld.alloc _, fun hS1 => ?_⟩
        (try simp only [List.getElem_toArray]); (try simp only [List.getElem_cons_succ]); (try simp only [List.getElem_cons_zero]); (try simp only [Act.put]); (try simp only [List.setIfInBounds_toArray]); (repeat first | simp only [List.set_cons_succ] | simp only [List.set_cons_zero])
        refine wpAnyH_one 4 (by kernel_rfl) rfl rfl ?_
        go_simp
        have hS2 := hS1
        (try simp only [List.getElem_toArray]); (try simp only [List.getElem_cons_succ]); (try simp only [List.getElem_cons_zero]); (try simp only [Act.put]); (try simp only [List.setIfInBounds_toArray]); (repeat first | simp only [List.set_cons_succ] | simp only [List.set_cons_zero])
        refine wpAnyH_one 7 (by kernel_rfl) rfl rfl ?_
        refine wp_append_run _ _ 26 rfl _ _ _ _ rfl rfl hr' ?_
        refine ⟨KK.mono (fun _ _ e => .inl e), fun hS3 => ?_⟩
        (try simp only [List.getElem_toArray]); (try simp only [List.getElem_cons_succ]); (try simp only [List.getElem_cons_zero]); (try simp only [Act.put]); (try simp only [List.setIfInBounds_toArray]); (repeat first | simp only [List.set_cons_succ] | simp only [List.set_cons_zero])
        have z0 := CR'.z 0 (by show 0 < 3; decide)
        have x0 := CR'.c 0 _ rfl
        refine wpAnyH_take (i := 8) (v := ?_) rfl (by kernel_rfl) (by kernel_rfl) (by kernel_rfl) (fun _ _ _ h => h) (Or.inl ⟨by rfl, ?_⟩) (by assumption) ?_
        rotate_left
        · intro wx hSw;  go_simp <;> with_reducible rfl
        (try simp only [List.getElem_toArray]); (try simp only [List.getElem_cons_succ]); (try simp only [List.getElem_cons_zero]); (try simp only [Act.put]); (try simp only [List.setIfInBounds_toArray]); (repeat first | simp only [List.set_cons_succ] | simp only [List.set_cons_zero])
        refine wpAnyH_take (i := 9) (v := ?_) rfl (by kernel_rfl) (by kernel_rfl) (by kernel_rfl) (fun _ _ _ h => h) (Or.inl ⟨by rfl, ?_⟩) (by assumption) ?_
        rotate_left
        · intro wx hSw;  go_simp <;> with_reducible rfl
        (try simp only [List.getElem_toArray]); (try simp only [List.getElem_cons_succ]); (try simp only [List.getElem_cons_zero]); (try simp only [Act.put]); (try simp only [List.setIfInBounds_toArray]); (repeat first | simp only [List.set_cons_succ] | simp only [List.set_cons_zero])
        refine wpAnyH_one 10 (by kernel_rfl) rfl rfl ?_
        go_simp
        refine ⟨hS3.setCell (fun _ => .inr rfl) _, fun hS4 => ?_⟩
        (try simp only [List.getElem_toArray]); (try simp only [List.getElem_cons_succ]); (try simp only [List.getElem_cons_zero]); (try simp only [Act.put]); (try simp only [List.setIfInBounds_toArray]); (repeat first | simp only [List.set_cons_succ] | simp only [List.set_cons_zero])
        refine wpAnyH_done (by kernel_rfl) ?_ _
        go_wp2_with fail
        go_end0
        refine ⟨rfl, ⟨⟨_, CR'.set (o := 0) (by show 0 < 3; decide) _, ?_, ?_⟩, hbR⟩, ?_⟩
        · have ho' : w'.ownsRow base 69 11 (.slice a' (qs.length + 1) cap') (qs.length + 1) (icl (qs ++ [⟨cd, dst, oR, oN, xR, xN, yR, yN, op, rel, to⟩])) := ho
          rw [List.length_append]
          exact ((Keeps.refl (fun k => k = R) w').setA 0 _).owns ho' (fun g hg e => hRn (e ▸ hg))
        · exact hRn
        · exact ((Kr.mono (fun _ _ e => e.elim)).trans' KK (fun _ _ e => e) (fun i hi e => by obtain ⟨h1, h2⟩ := owns_ty hown i e; exact ⟨h1, .inr h2⟩)).setCell (fun _ => ⟨hbR, .inl rfl⟩) _
end Go.Proofs.YthchbcfecconbaaGreatDoor

namespace Go.Proofs.YthchbcfecconbaaGreatDoor
open Go.RowKit Go.Deep Go.ChangeShapes Go.WideShapes Go.ChangeAt
attribute [local go_sem] Oper.semAt_some run_store_nf run_store_f
theorem wpList_append_run' {P : Program} {w : World} {ops : Array Oper} {rest : List Oper} {o : Oper} {a : Act} {Q : Exit → Act → World → Prop} (hgd : o.guard = none) (s x : Operand) (t : TypeId)
    (ho : o.op = .call { callee := .builtin .append, args := #[s, x], argTypes := #[t, t] }) (v src v' : Value) (w' : World) (hs : a.eval s = v) (hx : a.eval x = src)
    (hr : (Builtin.append_ #[t, t] o.type #[v, src]).run P w = .ok v' w') (h : wpList P ops Q rest (a.put o.dst v') w') : wpList P ops Q (o :: rest) a w :=
  wpList_plain hgd fun K hK => by
    unfold Oper.wp execOp
    simp only [ho, resolve, invoke, builtin, Sem.run_bind, Sem.run_pure, Result.andThen_ok, List.map_toArray, List.map_cons, List.map_nil, hs, hx, hr]
    exact hK _ _ h
theorem qI : Tryz.prog.underlying 121 = some (.slice 124) := by kernel_rfl
theorem qI0 : (Tryz.prog.info? 124).map (fun i => (i.zero, i.size, i.bytes)) = some (some (.agg #[.string ⟨#[]⟩, .int .i64 0, .int .i64 0]), 3, 32) := by kernel_rfl
theorem qIi : ∃ i, Tryz.prog.info? 124 = some i ∧ i.zero = some (.agg #[.string ⟨#[]⟩, .int .i64 0, .int .i64 0]) ∧ i.size = 3 ∧ i.bytes = 32 := by
  have h := qI0
  cases hq : Tryz.prog.info? 124 with
  | none => rw [hq] at h; cases h
  | some i =>
    rw [hq] at h
    injection h with h
    injection h with h1 h2
    injection h2 with h2 h3
    exact ⟨i, rfl, h1, h2, h3⟩
def pcl (l : List Pc) : List Value := l.flatMap Pc.cells
theorem append_p {W : World} {base k : Nat} {v : Value} {ps : List Pc} (hown : W.ownsRow base 124 3 v k (pcl ps)) (hb : base ≤ W.heap.size) (hk : (k + 1) * 32 ≤ 140737488355328) (p : Pc) :
    ∃ v' w', (Builtin.append_ #[121, 121] 121 #[v, .slice (some ⟨W.heap.size, 0, none⟩) 1 1]).run Tryz.prog (W.alloc (.cells #[.string p.t, .int .i64 p.ln, .int .i64 p.col] 124)) = .ok v' w' ∧ w'.ownsRow base 124 3 v' (k + 1) (pcl (ps ++ [p])) ∧ Keeps (fun i => v.ownBlock = some i) W w' := by
  obtain ⟨i0, hi0, hz0, hz1, hz2⟩ := qIi
  obtain ⟨v', w', hr, ho, hg, _, _⟩ := run_append_own_at (P := Tryz.prog) (w := W.alloc (.cells p.cells.toArray 124)) base 121 121 124 i0 _ 3 32 qI hi0 hz0 hz1 hz2 rfl (by decide) v k (pcl ps) (((Keeps.refl (fun _ => False) W).alloc _).owns hown (fun _ _ e => e)) ⟨W.heap.size, 0, none⟩ 1 1 p.cells rfl (fun j u hu => by
      rw [add_at]
      have := (CL.made W p.cells 124).c j u hu
      simpa using this) (fun u hu => by
      simp [Pc.cells] at hu
      rcases hu with rfl | rfl | rfl <;> rfl) (by unfold maxLen; omega) (by omega) (Nat.le_trans hb (by simp))
  refine ⟨v', w', hr, ?_, ((Keeps.refl _ W).alloc _).grown hg (fun i _ e => e)⟩
  unfold pcl
  rw [List.flatMap_append]
  simpa [pcl] using ho
theorem pcl_get : ∀ (l : List Pc) (i j : Nat) (p : Pc) (v : Value), l[i]? = some p → p.cells[j]? = some v → (pcl l)[i * 3 + j]? = some v
  | [], _, _, _, _, h, _ => by simp at h
  | q :: l, 0, j, p, v, h, hv => by
    have h : q = p := by simpa using h
    subst h
    have hj : j < q.cells.length := (List.getElem?_eq_some_iff.1 hv).1
    show (q.cells ++ l.flatMap Pc.cells)[0 * 3 + j]? = some v
    rw [Nat.zero_mul, Nat.zero_add, List.getElem?_append_left hj]; exact hv
  | q :: l, i + 1, j, p, v, h, hv => by
    have h' : l[i]? = some p := by simpa using h
    show (q.cells ++ l.flatMap Pc.cells)[(i + 1) * 3 + j]? = some v
    rw [List.getElem?_append_right (by show 3 ≤ _; omega), show (i + 1) * 3 + j - q.cells.length = i * 3 + j by show (i + 1) * 3 + j - 3 = _; omega]
    exact pcl_get l i j p v h' hv
theorem pcl_of_owns {W : World} {base n : Nat} {v : Value} {l : List Pc} (h : W.ownsRow base 124 3 v n (pcl l)) (hn : l.length = n) : ∃ a cap, v = .slice a n cap ∧ PCL W a l := by
  rcases h.2 with ⟨rfl, h0⟩ | ⟨g, cap, cur, rfl, _⟩
  · have hz : n = 0 := by first | exact h0.1 | omega
    subst hz
    exact ⟨none, 0, rfl, fun i p hi => by have := (List.getElem?_eq_some_iff.1 hi).1; omega⟩
  · refine ⟨_, cap, rfl, fun i p hi => ⟨g, 0, rfl, fun j v hv => ?_⟩⟩
    have e := pcl_get l i j p v hi hv
    have hc := h.cells (g := g) rfl (i * 3 + j) v e
    rw [add_at] at hc
    rw [Nat.zero_add] at hc ⊢
    exact hc
def blk (c : UInt8) : Bool := c.toNat == 32 || c.toNat == 9
def stp (s : ByteArray) : Nat → Nat → Nat
  | 0, i => i
  | n + 1, i => if blk (s.data.toList.getD i 0) = true then i else stp s n (i + 1)
def wdf (s : ByteArray) (num : Int) : Nat → Nat → List Pc
  | 0, _ => []
  | n + 1, i => if i < s.size then (if i < stp s (s.size - i) i then [⟨s.extract i (stp s (s.size - i) i), num, (i : Int) + 1⟩] else []) ++ wdf s num n (stp s (s.size - i) i + 1) else []
theorem stp_ge (s : ByteArray) : ∀ n i, i ≤ stp s n i ∧ stp s n i ≤ i + n
  | 0, i => ⟨Nat.le_refl _, Nat.le_refl _⟩
  | n + 1, i => by
    unfold stp
    split
    · exact ⟨Nat.le_refl _, by omega⟩
    · have := stp_ge s n (i + 1); omega
theorem wdf_len (s : ByteArray) (num : Int) : ∀ n i, (wdf s num n i).length ≤ n
  | 0, i => Nat.le_refl _
  | n + 1, i => by
    unfold wdf
    split
    · have := wdf_len s num n (stp s (s.size - i) i + 1)
      rw [List.length_append]
      split <;> simp <;> omega
    · simp
theorem wdf_sz (s : ByteArray) (num : Int) : ∀ n i, ∀ p ∈ wdf s num n i, p.t.size ≤ s.size
  | 0, i => fun p hp => by cases hp
  | n + 1, i => by
    intro p hp
    unfold wdf at hp
    split at hp
    · rcases List.mem_append.1 hp with hp | hp
      · split at hp
        · have hp : p = ⟨s.extract i (stp s (s.size - i) i), num, (i : Int) + 1⟩ := by simpa using hp
          rw [hp]
          show (s.extract i (stp s (s.size - i) i)).size ≤ s.size
          rw [ByteArray.size_extract]
          omega
        · cases hp
      · exact wdf_sz s num n _ p hp
    · cases hp
def bare (s : ByteArray) : ByteArray := ⟨(Lib.cut s.data.toList [35]).1.toArray⟩
def wds (s : ByteArray) (num : Int) : List Pc := wdf (bare s) num ((bare s).size + 1) 0
theorem bare_size (s : ByteArray) : (bare s).size ≤ s.size := by
  show ((Lib.cut s.data.toList [35]).1.toArray).size ≤ s.data.size
  unfold Lib.cut
  split
  · simp
    omega
  · simp
theorem getD_of (s : ByteArray) (i : Nat) (h : i < s.size) : s.data.toList.getD i 0 = s[i] := by
  rw [List.getD_eq_getElem?_getD, List.getElem?_eq_getElem (by simpa using h)]
  rfl
set_option maxHeartbeats 1000000 in
set_option maxRecDepth 1000000 in
theorem cut_any {w : World} (s : ByteArray) (num : Int) (hs : s.size ≤ 4096) (hT : PT w) : Calls Tryz.prog 45 #[.string s, .int .i64 num] w fun e w' => ∃ v, e = .returned v ∧ w'.ownsRow w.heap.size 124 3 v (wds s num).length (pcl (wds s num)) ∧ Keeps (fun _ => False) w w' := by
  obtain ⟨mx, hmx⟩ := hT.mx
  have hC : Calls Tryz.prog 72 #[.string s, .string ⟨#[35]⟩] w fun e w' => e = .returned (.tuple #[.string (bare s), .string ⟨(Lib.cut s.data.toList [35]).2.1.toArray⟩, .bool (Lib.cut s.data.toList [35]).2.2]) ∧ ∃ n, w' = w.drewN n := Tryz.strings_Cut s ⟨#[35]⟩ mx w (by omega) hmx
  have hb4 : (bare s).size ≤ 4096 := by have := bare_size s; omega
  unfold wds
  generalize (Lib.cut s.data.toList [35]).2.1.toArray = x1 at *
  generalize (Lib.cut s.data.toList [35]).2.2 = x2 at *
  generalize hWD : wdf (bare s) num ((bare s).size + 1) 0 = WD at *
  have HWD : Hid (_ = _) := hWD
  clear hWD
  generalize bare s = z at *
  go_enter Tryz.func45, Tryz.ntmps45
  go_wp2_with (go_at_call 72; refine hC.mono ?_; rintro e w1 ⟨rfl, n1, e1⟩; have k1 : Keeps (fun _ => False) w w1 := (by rw [e1]; exact (Keeps.refl _ w).drewN n1); clear e1 hC)
  go_loopw [5, 6] (fun v iv Wr => ∃ (i n : Nat) (acc : List Pc), iv = .int .i64 (i : Int) ∧ i ≤ z.size + 1 ∧ z.size + 1 ≤ n + i ∧ acc.length ≤ i ∧ acc ++ wdf z num n i = WD ∧ Wr.ownsRow w.heap.size 124 3 v acc.length (pcl acc) ∧ Keeps (fun _ => False) w Wr) (fun _ iv _ => z.size + 1 - (intOf iv).toNat)
  case atStart => exact ⟨0, z.size + 1, [], rfl, Nat.zero_le _, by omega, Nat.le_refl _, HWD.out, World.ownsRow_nil _ _ _ _, k1⟩
  case round =>
    obtain ⟨i, n, acc, rfl, hi, hn, hal, hac, hown, kr⟩ := hrel
    by_cases hlt : i < z.size
    · have hltI : decide ((i : Int) < (z.size : Int)) = true := by simp; omega
      have hltJ : (i : Int) < (z.size : Int) := by omega
      obtain ⟨n, rfl⟩ : ∃ m, n = m + 1 := ⟨n - 1, by omega⟩
      have HAC : Hid (_ = _) := hac
      clear hac
      generalize hE : stp z (z.size - i) i = E at *
      have hEb := stp_ge z (z.size - i) i
      rw [hE] at hEb
      have HE : Hid (_ = _) := hE
      clear hE
      go_wp2_with fail
      go_loop [6] (fun jv => ∃ j : Nat, jv = .int .i64 (j : Int) ∧ i ≤ j ∧ j ≤ z.size ∧ stp z (z.size - j) j = E) (fun jv => z.size - (intOf jv).toNat)
      case atStart => exact ⟨i, rfl, Nat.le_refl _, by omega, HE.out⟩
      case round =>
        obtain ⟨j, rfl, hij, hjz, hst⟩ := hrel
        have HST : Hid (_ = _) := hst
        clear hst
        have fin : j = E → Hid (j = E ∧ WD = (acc ++ (if i < E then [⟨z.extract i E, num, (i : Int) + 1⟩] else [])) ++ wdf z num n (E + 1)) := fun e => by
          refine ⟨e, ?_⟩
          rw [← HAC.out]
          show acc ++ (if i < z.size then _ else _) = _
          rw [if_pos hlt, HE.out, List.append_assoc]
        by_cases hj : j < z.size
        · have e1 : z.size - j = (z.size - (j + 1)) + 1 := by omega
          have hjI : decide ((j : Int) < (z.size : Int)) = true := by simp; omega
          have hjJ : (j : Int) < (z.size : Int) := by omega
          have hj0 : (0 : Int) ≤ (j : Int) := by omega
          have hgd := getD_of z j hj
          by_cases hb : blk z[j] = true
          · have hjE : j = E := by
              have := HST.out
              rw [e1] at this
              unfold stp at this
              rw [hgd, if_pos hb] at this
              exact this
            have HF := fin hjE
            clear hjE
            clear fin e1 hgd
            have hb' : z[j].toNat = 32 ∨ z[j].toNat = 9 := by unfold blk at hb; simpa using hb
            have bb : ((z[j].toNat : Int) != 32 && (z[j].toNat : Int) != 9) = false := by
              rcases hb' with e | e <;> rw [e] <;> rfl
            clear hb
            rcases hb' with e32 | e9
            · have p1 : (z[j].toNat : Int) = 32 := by omega
              obtain ⟨rfl, hWD⟩ := HF.out
              have HW2 : Hid (WD = _) := hWD
              clear hWD HF
              by_cases hiE : i < j
              · have hgt : decide ((i : Int) < (j : Int)) = true := by simp; omega
                have hgt' : (i : Int) < (j : Int) := by omega
                have hle' : (i : Int) ≤ (j : Int) := by omega
                have hi0 : (0 : Int) ≤ (i : Int) := by omega
                have hjz' : (j : Int) ≤ (z.size : Int) := by omega
                obtain ⟨v', w', hr, ho, kk⟩ := append_p hown kr.size (by omega) ⟨z.extract i j, num, (i : Int) + 1⟩
                have kk' := kr.trans' kk (fun _ _ e => e) (fun g hg e => by have := owns_base hown g e; omega)
                simp only at hr
                have HO := ho
                clear ho kk
                go_wp2_with (at_builtin; refine wpList_append_run' rfl _ _ _ rfl _ _ _ w' rfl rfl hr ?_; clear hr)
                go_roundw
                case rel => exact ⟨j + 1, n, acc ++ [⟨z.extract i j, num, (i : Int) + 1⟩], by go_num, by omega, by omega, by simp; omega, by rw [HW2.out, if_pos hiE], by rw [List.length_append]; exact HO, kk'⟩
                case measure => simp [intOf]; omega
              · have hgt : decide ((i : Int) < (j : Int)) = false := by simp; omega
                have hgt' : ¬ (i : Int) < (j : Int) := by omega
                go_wp2_with fail
                go_roundw
                case rel => exact ⟨j + 1, n, acc, by go_num, by omega, by omega, by omega, by rw [HW2.out, if_neg hiE, List.append_nil], hown, kr⟩
                case measure => simp [intOf]; omega
            · have p1 : ¬ (z[j].toNat : Int) = 32 := by omega
              have p2 : (z[j].toNat : Int) = 9 := by omega
              have b1 : ((z[j].toNat : Int) != 32) = true := by simpa using p1
              obtain ⟨rfl, hWD⟩ := HF.out
              have HW2 : Hid (WD = _) := hWD
              clear hWD HF
              by_cases hiE : i < j
              · have hgt : decide ((i : Int) < (j : Int)) = true := by simp; omega
                have hgt' : (i : Int) < (j : Int) := by omega
                have hle' : (i : Int) ≤ (j : Int) := by omega
                have hi0 : (0 : Int) ≤ (i : Int) := by omega
                have hjz' : (j : Int) ≤ (z.size : Int) := by omega
                obtain ⟨v', w', hr, ho, kk⟩ := append_p hown kr.size (by omega) ⟨z.extract i j, num, (i : Int) + 1⟩
                have kk' := kr.trans' kk (fun _ _ e => e) (fun g hg e => by have := owns_base hown g e; omega)
                simp only at hr
                have HO := ho
                clear ho kk
                go_wp2_with (at_builtin; refine wpList_append_run' rfl _ _ _ rfl _ _ _ w' rfl rfl hr ?_; clear hr)
                go_roundw
                case rel => exact ⟨j + 1, n, acc ++ [⟨z.extract i j, num, (i : Int) + 1⟩], by go_num, by omega, by omega, by simp; omega, by rw [HW2.out, if_pos hiE], by rw [List.length_append]; exact HO, kk'⟩
                case measure => simp [intOf]; omega
              · have hgt : decide ((i : Int) < (j : Int)) = false := by simp; omega
                have hgt' : ¬ (i : Int) < (j : Int) := by omega
                go_wp2_with fail
                go_roundw
                case rel => exact ⟨j + 1, n, acc, by go_num, by omega, by omega, by omega, by rw [HW2.out, if_neg hiE, List.append_nil], hown, kr⟩
                case measure => simp [intOf]; omega
          · have hnx : Hid (stp z (z.size - (j + 1)) (j + 1) = E) := by
              have := HST.out
              rw [e1] at this
              unfold stp at this
              rw [hgd, if_neg hb] at this
              exact this
            unfold blk at hb
            simp only [Bool.or_eq_true, beq_iff_eq, not_or] at hb
            have p1 : ¬ (z[j].toNat : Int) = 32 := by omega
            have p2 : ¬ (z[j].toNat : Int) = 9 := by omega
            have b1 : ((z[j].toNat : Int) != 32) = true := by simpa using p1
            have b2 : ((z[j].toNat : Int) != 9) = true := by simpa using p2
            clear fin e1 hgd hb
            go_wp2_with fail
            go_round
            case rel => exact ⟨j + 1, by go_num, by omega, by omega, hnx.out⟩
            case measure => simp [intOf]; omega
        · obtain rfl : j = z.size := by omega
          have hjE : z.size = E := by
            have := HST.out
            rw [Nat.sub_self] at this
            exact this
          have HF := fin hjE
          clear hjE
          have hjI : decide ((z.size : Int) < (z.size : Int)) = false := by simp
          clear fin
          obtain ⟨rfl, hWD⟩ := HF.out
          have HW2 : Hid (WD = _) := hWD
          clear hWD HF
          by_cases hiE : i < z.size
          · have hgt : decide ((i : Int) < (z.size : Int)) = true := by simp; omega
            have hgt' : (i : Int) < (z.size : Int) := by omega
            have hle' : (i : Int) ≤ (z.size : Int) := by omega
            have hi0 : (0 : Int) ≤ (i : Int) := by omega
            have hjz' : (z.size : Int) ≤ (z.size : Int) := Int.le_refl _
            obtain ⟨v', w', hr, ho, kk⟩ := append_p hown kr.size (by omega) ⟨z.extract i z.size, num, (i : Int) + 1⟩
            have kk' := kr.trans' kk (fun _ _ e => e) (fun g hg e => by have := owns_base hown g e; omega)
            simp only at hr
            have HO := ho
            clear ho kk
            go_wp2_with (at_builtin; refine wpList_append_run' rfl _ _ _ rfl _ _ _ w' rfl rfl hr ?_; clear hr)
            go_roundw
            case rel => exact ⟨z.size + 1, n, acc ++ [⟨z.extract i z.size, num, (i : Int) + 1⟩], by go_num, by omega, by omega, by simp; omega, by rw [HW2.out, if_pos hiE], by rw [List.length_append]; exact HO, kk'⟩
            case measure => simp [intOf]; omega
          · exact absurd hlt hiE
    · have hltI : decide ((i : Int) < (z.size : Int)) = false := by simp; omega
      have hl : ¬ (i : Int) < (z.size : Int) := by omega
      have e0 : wdf z num n i = [] := by
        cases n with
        | zero => rfl
        | succ n => unfold wdf; rw [if_neg hlt]
      rw [e0, List.append_nil] at hac
      subst hac
      go_wp2_with fail
      go_ret
      exact ⟨_, rfl, hown, kr⟩
end Go.Proofs.YthchbcfecconbaaGreatDoor

