import Derived.Test.YtgjndhbfjofkeaaGreatDoorG24
namespace Go.Proofs.YtgjndhbfjofkeaaGreatDoor
open Go.RowKit
attribute [local go_sem] Oper.semAt_some run_store_nf run_store_f
section
variable {w w' : World} {ρ ρ' ρ'' : Nat → Nat} {u j : Nat} {c : Sc} {ab rb n n' : Nat} {x x' : Tx} {f f' : Int → Option Nat} {s s' : Ws} {m m' : Mm} {r r' : Ro}
set_option maxHeartbeats 800000 in
set_option maxRecDepth 1000000 in
theorem put_own (h : AX w ρ u j c ab x n f s m) (hI : Inv s m) (ha : x.alive = true) (hn : x.nx = none) {o y : Nat} (ho : o < s.objs.length) (hio : I64 (o : Int)) (hf : f (o : Int) = some y) (hy : y < s.locs.length) (hyo : (s.lo y).owner ≠ 0) (hyc : s.isC m (s.lo y).owner = false) (v : Vl) :
    Calls Tryz.prog 89 #[.pointer (some ⟨ab, 0, none⟩), .int .i64 (o : Int), .agg #[.int .i64 v.num, .int .i64 v.next, .bool v.dead]] w fun e w' => e = .returned (.int .i64 0) ∧ ∃ ρ', AX w' ρ' u j c ab x n f (s.put y v) m ∧ Ext (Sr u j) w w' ρ ρ' := by
  obtain ⟨v0, v1, v2⟩ := v
  obtain ⟨w0, hw0⟩ : ∃ w0, w0 = w.alloc (.cells #[.int .i64 v0, .int .i64 v1, .bool v2] 34) := ⟨_, rfl⟩
  have k0 : Keeps (fun _ => False) w w0 := by rw [hw0]; exact (Keeps.refl _ w).alloc _
  have h0 := h.new k0
  have hv : CL w0 w.heap.size [.int .i64 v0, .int .i64 v1, .bool v2] := by rw [hw0]; exact CL.made w [.int .i64 v0, .int .i64 v1, .bool v2] _
  have hr := refobj_no h0 ha hn ho
  have hO := owns_any h0 hio
  rw [hf] at hO
  have hD := h0.new (Keeps.refl _ w0).drew
  have hvD := hv.drew
  have hg := hD.om.get hio
  rw [hf] at hg
  have hP := Put_ok hD.st hI.wf hy hyo hyc ⟨v0, v1, v2⟩
  have hc := hD.cl
  have f1 := hc.c 1 _ rfl
  have f14 := hc.c 14 _ rfl
  have b0 := hvD.c 0 _ rfl
  have b1 := hvD.c 1 _ rfl
  have b2 := hvD.c 2 _ rfl
  have x0 := (St.new h.st (k0.trans (Keeps.refl _ w0).drew)).2
  clear ha hn ho hf hc hv hvD
  go_enter Tryz.func89, Tryz.ntmps89
  go_wp2_with fail
  rw [← hw0]
  clear hw0
  refine hr.mono ?_
  rintro e w1 ⟨rfl, rfl⟩
  clear hr
  go_wp2_with fail
  refine hO.mono ?_
  rintro e w3 ⟨rfl, rfl⟩
  clear hO
  go_wp2_with fail
  have hzv : ρ w.heap.size = 0 := h.st.bnd _ (Nat.le_refl _)
  have S0 : ¬ Sr u j (ρ w.heap.size) := by rw [hzv]; exact Sr.not0 h.st
  go_region_held3 (fun w' => w'.cell? ⟨ab, 1, none⟩ = some (.pointer (some ⟨c.wb, 0, none⟩)) ∧ w'.cell? ⟨ab, 14, none⟩ = some (.map (some c.om)) ∧ w'.cell? ⟨w.heap.size, 0, none⟩ = some (.int .i64 v0) ∧ w'.cell? ⟨w.heap.size, 1, none⟩ = some (.int .i64 v1) ∧ w'.cell? ⟨w.heap.size, 2, none⟩ = some (.bool v2)) (go_keep) ((go_at_call 113; refine hP.mono ?_; clear hP; rintro e W3 ⟨rfl, ρ3, s3, x3⟩; have hA3 := hD.run s3 x3; have hc3 := hA3.cl; have g1 := hc3.c 1 _ rfl; have g14 := hc3.c 14 _ rfl; have d0 := x3.cell (p := ⟨w.heap.size, 0, none⟩) b0 S0; have d1 := x3.cell (p := ⟨w.heap.size, 1, none⟩) b1 S0; have d2 := x3.cell (p := ⟨w.heap.size, 2, none⟩) b2 S0))
  go_wp2_with fail
  go_ret
  exact ⟨rfl, ρ3, hA3, x0.trans x3⟩
set_option maxHeartbeats 800000 in
set_option maxRecDepth 1000000 in
theorem put_not (h : AX w ρ u j c ab x n f s m) (ha : x.alive = true) (hn : x.nx = none) {o : Nat} (ho : o < s.objs.length) (hio : I64 (o : Int)) (hf : f (o : Int) = none) (v0 v1 : Int) (v2 : Bool) :
    Calls Tryz.prog 89 #[.pointer (some ⟨ab, 0, none⟩), .int .i64 (o : Int), .agg #[.int .i64 v0, .int .i64 v1, .bool v2]] w fun e w' => e = .returned (.int .i64 83) ∧ Keeps (fun _ => False) w w' := by
  have k0 : Keeps (fun _ => False) w (w.alloc (.cells #[.int .i64 v0, .int .i64 v1, .bool v2] 34)) := (Keeps.refl _ w).alloc _
  have h0 := h.new k0
  have hr := refobj_no h0 ha hn ho
  have hO := owns_any h0 hio
  rw [hf] at hO
  clear ha hn ho hf h h0
  go_enter Tryz.func89, Tryz.ntmps89
  go_wp2_with fail
  refine hr.mono ?_
  rintro e w1 ⟨rfl, rfl⟩
  go_wp2_with fail
  refine hO.mono ?_
  rintro e w3 ⟨rfl, rfl⟩
  go_wp2_with fail
  go_ret
  exact ⟨rfl, k0⟩
def Tx.fresh (th st pr : Int) (no : Nat) (rank : Int) : Tx := ⟨th, st, pr, no, rank, true, false, none, 0, 0, 0, 0, 0, 0, 0, 0, 0, 0, 0, 0, 0, 0, none, 0, 0, 0, 0, none⟩
set_option maxHeartbeats 800000 in
set_option maxRecDepth 1000000 in
theorem tnew_ok {mb wb gb db k : Nat} {p : Int} (h : St w ρ u j wb mb s m) (hM : Mg w gb k p) (hT : TR w) (hkp : kpT k = false) (hr : s.roomA m = true) (th st pr rank : Int) :
    Calls Tryz.prog 81 #[.agg #[.pointer (some ⟨mb, 0, none⟩), .pointer (some ⟨wb, 0, none⟩), .pointer (some ⟨gb, 0, none⟩), .pointer (some ⟨db, 0, none⟩)], .agg #[.int .i64 th, .int .i64 st, .int .i64 pr], .int .i64 rank] w fun e w' =>
      ∃ ab om, e = .returned (.tuple #[.pointer (some ⟨ab, 0, none⟩), .int .i64 0]) ∧ w.heap.size ≤ ab ∧ w.heap.size ≤ om ∧ ∃ ρ', AX w' ρ' u j ⟨mb, wb, gb, db, .slice none 0 0, none, .slice none 0 0, om, []⟩ ab (Tx.fresh th st pr s.atts.length rank) 0 (fun _ => none) (s.beg th st pr m.cells.length) ((m.make 1).make 0) ∧ Ext (Sr u j) w w' ρ ρ' := by
  obtain ⟨w0, hw0⟩ : ∃ w0, w0 = (w.alloc (.cells #[.pointer (some ⟨mb, 0, none⟩), .pointer (some ⟨wb, 0, none⟩), .pointer (some ⟨gb, 0, none⟩), .pointer (some ⟨db, 0, none⟩)] 46)).alloc (.cells #[.int .i64 th, .int .i64 st, .int .i64 pr] 51) := ⟨_, rfl⟩
  have k0 : Keeps (fun _ => False) w w0 := by rw [hw0]; exact ((Keeps.refl _ w).alloc _).alloc _
  have hS : CL w0 w.heap.size [.pointer (some ⟨mb, 0, none⟩), .pointer (some ⟨wb, 0, none⟩), .pointer (some ⟨gb, 0, none⟩), .pointer (some ⟨db, 0, none⟩)] := by
    rw [hw0]; exact (CL.made w [.pointer (some ⟨mb, 0, none⟩), .pointer (some ⟨wb, 0, none⟩), .pointer (some ⟨gb, 0, none⟩), .pointer (some ⟨db, 0, none⟩)] _).alloc (by show 0 < 4; decide) _
  have hO : CL w0 (w.heap.size + 1) [.int .i64 th, .int .i64 st, .int .i64 pr] := by
    rw [hw0]
    refine cast ?_ (CL.made (w.alloc (.cells #[.pointer (some ⟨mb, 0, none⟩), .pointer (some ⟨wb, 0, none⟩), .pointer (some ⟨gb, 0, none⟩), .pointer (some ⟨db, 0, none⟩)] 46)) [.int .i64 th, .int .i64 st, .int .i64 pr] 51)
    congr 1
    simp
  have q1 : ∀ (a : Addr) (w : World), (binOp .eql 41 (.pointer (some a)) (.pointer none)).run Tryz.prog w = .ok (.bool false) w := fun _ _ => rfl
  have q2 : ∀ (a : Addr) (w : World), (binOp .eql 42 (.pointer (some a)) (.pointer none)).run Tryz.prog w = .ok (.bool false) w := fun _ _ => rfl
  have q3 : ∀ (a : Addr) (w : World), (binOp .eql 43 (.pointer (some a)) (.pointer none)).run Tryz.prog w = .ok (.bool false) w := fun _ _ => rfl
  have q4 : ∀ (a : Addr) (w : World), (binOp .eql 44 (.pointer (some a)) (.pointer none)).run Tryz.prog w = .ok (.bool false) w := fun _ _ => rfl
  have hmm := @run_makeMap Tryz.prog
  have hK := mKeeps (hM.keep k0) (hT.keep k0)
  rw [hkp] at hK
  have s0 := hS.c 0 _ rfl
  have s1 := hS.c 1 _ rfl
  have s2 := hS.c 2 _ rfl
  have s3 := hS.c 3 _ rfl
  have o0 := hO.c 0 _ rfl
  have o1 := hO.c 1 _ rfl
  have o2 := hO.c 2 _ rfl
  go_enter Tryz.func81, Tryz.ntmps81
  go_wp2_with fail
  rw [← hw0]
  clear hw0
  refine hK.mono ?_
  rintro e w1 ⟨rfl, k1⟩
  have hS1 := hS.keep (by show 0 < 4; decide) k1 (fun e => e)
  have hO1 := hO.keep (by show 0 < 3; decide) k1 (fun e => e)
  have n1 := h.new (k0.trans k1)
  have hA := Attempt_ok n1.1 hr th st pr
  clear s0 s1 s2 s3 o0 o1 o2 hK
  have s0 := hS1.c 0 _ rfl
  have s1 := hS1.c 1 _ rfl
  have s2 := hS1.c 2 _ rfl
  have s3 := hS1.c 3 _ rfl
  have o0 := hO1.c 0 _ rfl
  have o1 := hO1.c 1 _ rfl
  have o2 := hO1.c 2 _ rfl
  go_wp2_with fail
  refine hA.mono ?_
  rintro e w2 ⟨rfl, ρ2, st2, x2⟩
  have S0 : ¬ Sr u j (ρ w.heap.size) := by rw [h.bnd _ (Nat.le_refl _)]; exact Sr.not0 h
  have S1 : ¬ Sr u j (ρ (w.heap.size + 1)) := by rw [h.bnd _ (by omega)]; exact Sr.not0 h
  have hS2 := hS1.keep (by show 0 < 4; decide) x2.keeps S0
  have hO2 := hO1.keep (by show 0 < 3; decide) x2.keeps S1
  have xx := n1.2.trans x2
  clear s0 s1 s2 s3 o0 o1 o2 hA hS1 hO1 hS hO
  have s0 := hS2.c 0 _ rfl
  have s1 := hS2.c 1 _ rfl
  have s2 := hS2.c 2 _ rfl
  have s3 := hS2.c 3 _ rfl
  have o0 := hO2.c 0 _ rfl
  have o1 := hO2.c 1 _ rfl
  have o2 := hO2.c 2 _ rfl
  go_wp2_with fail
  go_ret2
  have KW := ((Keeps.refl (fun _ => False) w2).alloc (.map #[] 0)).alloc (.cells ((Tx.fresh th st pr s.atts.length rank).cells ⟨mb, wb, gb, db, .slice none 0 0, none, .slice none 0 0, w2.heap.size, []⟩ (w2.heap.size + 1)).toArray 149)
  have cW : CL ((w2.alloc (.map #[] 0)).alloc (.cells ((Tx.fresh th st pr s.atts.length rank).cells ⟨mb, wb, gb, db, .slice none 0 0, none, .slice none 0 0, w2.heap.size, []⟩ (w2.heap.size + 1)).toArray 149)) (w2.heap.size + 1) ((Tx.fresh th st pr s.atts.length rank).cells ⟨mb, wb, gb, db, .slice none 0 0, none, .slice none 0 0, w2.heap.size, []⟩ (w2.heap.size + 1)) := by
    refine cast ?_ (CL.made (w2.alloc (.map #[] 0)) ((Tx.fresh th st pr s.atts.length rank).cells ⟨mb, wb, gb, db, .slice none 0 0, none, .slice none 0 0, w2.heap.size, []⟩ (w2.heap.size + 1)) 149)
    congr 1
    simp
  have oW := (OM.made w2).keep (S := fun _ => False) ((Keeps.refl _ _).alloc (.cells ((Tx.fresh th st pr s.atts.length rank).cells ⟨mb, wb, gb, db, .slice none 0 0, none, .slice none 0 0, w2.heap.size, []⟩ (w2.heap.size + 1)).toArray 149)) (fun e => e)
  have sz := xx.keeps.size
  exact ⟨w2.heap.size + 1, w2.heap.size, rfl, by omega, sz, ρ2, ⟨(st2.new KW).1, cW, oW, ⟨World.ownsRow_nil _ _ _ _, World.ownsRow_nil _ _ _ _, .inl ⟨rfl, rfl⟩, Gd.nil, fun g e => (by cases e), fun g e => (by cases e), fun k e => (by rcases e with e | e | e <;> cases e)⟩, st2.bnd _ (by omega), fun k e => (by rcases e with e | e | e | e; exact e ▸ st2.bnd _ (Nat.le_refl _); cases e; cases e; cases e), fun e => (by rcases e with e | e | e | e; (have e9 : w2.heap.size + 1 = w2.heap.size := e; omega); cases e; cases e; cases e)⟩, xx.trans (st2.new KW).2⟩
set_option maxHeartbeats 800000 in
set_option maxRecDepth 1000000 in
theorem tnew_keeps {mb wb gb db k : Nat} {p : Int} (h : St w ρ u j wb mb s m) (hM : Mg w gb k p) (hT : TR w) (hkp : kpT k = true) (hr : s.roomA m = true) (th st pr rank : Int) {q : Nat} (hpq : pr = (q : Int)) (hqi : q < m.cells.length) :
    Calls Tryz.prog 81 #[.agg #[.pointer (some ⟨mb, 0, none⟩), .pointer (some ⟨wb, 0, none⟩), .pointer (some ⟨gb, 0, none⟩), .pointer (some ⟨db, 0, none⟩)], .agg #[.int .i64 th, .int .i64 st, .int .i64 pr], .int .i64 rank] w fun e w' =>
      ∃ ab om, e = .returned (.tuple #[.pointer (some ⟨ab, 0, none⟩), .int .i64 0]) ∧ w.heap.size ≤ ab ∧ w.heap.size ≤ om ∧ ∃ ρ', AX w' ρ' u j ⟨mb, wb, gb, db, .slice none 0 0, none, .slice none 0 0, om, []⟩ ab (Tx.fresh th st pr s.atts.length rank) 0 (fun _ => none) (s.beg th st pr m.cells.length) ((m.make 1).make 0) ∧ Ext (Sr u j) w w' ρ ρ' := by
  have HPQ : Hid (pr = (q : Int)) := hpq
  clear hpq
  obtain ⟨w0, hw0⟩ : ∃ w0, w0 = (w.alloc (.cells #[.pointer (some ⟨mb, 0, none⟩), .pointer (some ⟨wb, 0, none⟩), .pointer (some ⟨gb, 0, none⟩), .pointer (some ⟨db, 0, none⟩)] 46)).alloc (.cells #[.int .i64 th, .int .i64 st, .int .i64 pr] 51) := ⟨_, rfl⟩
  have k0 : Keeps (fun _ => False) w w0 := by rw [hw0]; exact ((Keeps.refl _ w).alloc _).alloc _
  have hS : CL w0 w.heap.size [.pointer (some ⟨mb, 0, none⟩), .pointer (some ⟨wb, 0, none⟩), .pointer (some ⟨gb, 0, none⟩), .pointer (some ⟨db, 0, none⟩)] := by
    rw [hw0]; exact (CL.made w [.pointer (some ⟨mb, 0, none⟩), .pointer (some ⟨wb, 0, none⟩), .pointer (some ⟨gb, 0, none⟩), .pointer (some ⟨db, 0, none⟩)] _).alloc (by show 0 < 4; decide) _
  have hO : CL w0 (w.heap.size + 1) [.int .i64 th, .int .i64 st, .int .i64 pr] := by
    rw [hw0]
    refine cast ?_ (CL.made (w.alloc (.cells #[.pointer (some ⟨mb, 0, none⟩), .pointer (some ⟨wb, 0, none⟩), .pointer (some ⟨gb, 0, none⟩), .pointer (some ⟨db, 0, none⟩)] 46)) [.int .i64 th, .int .i64 st, .int .i64 pr] 51)
    congr 1
    simp
  have q1 : ∀ (a : Addr) (w : World), (binOp .eql 41 (.pointer (some a)) (.pointer none)).run Tryz.prog w = .ok (.bool false) w := fun _ _ => rfl
  have q2 : ∀ (a : Addr) (w : World), (binOp .eql 42 (.pointer (some a)) (.pointer none)).run Tryz.prog w = .ok (.bool false) w := fun _ _ => rfl
  have q3 : ∀ (a : Addr) (w : World), (binOp .eql 43 (.pointer (some a)) (.pointer none)).run Tryz.prog w = .ok (.bool false) w := fun _ _ => rfl
  have q4 : ∀ (a : Addr) (w : World), (binOp .eql 44 (.pointer (some a)) (.pointer none)).run Tryz.prog w = .ok (.bool false) w := fun _ _ => rfl
  have hmm := @run_makeMap Tryz.prog
  have hK := mKeeps (hM.keep k0) (hT.keep k0)
  rw [hkp] at hK
  have s0 := hS.c 0 _ rfl
  have s1 := hS.c 1 _ rfl
  have s2 := hS.c 2 _ rfl
  have s3 := hS.c 3 _ rfl
  have o0 := hO.c 0 _ rfl
  have o1 := hO.c 1 _ rfl
  have o2 := hO.c 2 _ rfl
  go_enter Tryz.func81, Tryz.ntmps81
  go_wp2_with fail
  rw [← hw0]
  clear hw0
  refine hK.mono ?_
  rintro e w1 ⟨rfl, k1⟩
  have hS1 := hS.keep (by show 0 < 4; decide) k1 (fun e => e)
  have hO1 := hO.keep (by show 0 < 3; decide) k1 (fun e => e)
  have n1 := h.new (k0.trans k1)
  have hA := Attempt_ok n1.1 hr th st pr
  have hI := isCell_yes n1.1 hqi
  rw [← HPQ.out] at hI
  clear s0 s1 s2 s3 o0 o1 o2 hK
  have s0 := hS1.c 0 _ rfl
  have s1 := hS1.c 1 _ rfl
  have s2 := hS1.c 2 _ rfl
  have s3 := hS1.c 3 _ rfl
  have o0 := hO1.c 0 _ rfl
  have o1 := hO1.c 1 _ rfl
  have o2 := hO1.c 2 _ rfl
  go_wp2_with fail
  refine hI.mono ?_
  rintro e wq ⟨rfl, rfl⟩
  clear hI
  go_wp2_with fail
  refine hA.mono ?_
  rintro e w2 ⟨rfl, ρ2, st2, x2⟩
  have S0 : ¬ Sr u j (ρ w.heap.size) := by rw [h.bnd _ (Nat.le_refl _)]; exact Sr.not0 h
  have S1 : ¬ Sr u j (ρ (w.heap.size + 1)) := by rw [h.bnd _ (by omega)]; exact Sr.not0 h
  have hS2 := hS1.keep (by show 0 < 4; decide) x2.keeps S0
  have hO2 := hO1.keep (by show 0 < 3; decide) x2.keeps S1
  have xx := n1.2.trans x2
  clear s0 s1 s2 s3 o0 o1 o2 hA hS1 hO1 hS hO
  have s0 := hS2.c 0 _ rfl
  have s1 := hS2.c 1 _ rfl
  have s2 := hS2.c 2 _ rfl
  have s3 := hS2.c 3 _ rfl
  have o0 := hO2.c 0 _ rfl
  have o1 := hO2.c 1 _ rfl
  have o2 := hO2.c 2 _ rfl
  go_wp2_with fail
  go_ret2
  have KW := ((Keeps.refl (fun _ => False) w2).alloc (.map #[] 0)).alloc (.cells ((Tx.fresh th st pr s.atts.length rank).cells ⟨mb, wb, gb, db, .slice none 0 0, none, .slice none 0 0, w2.heap.size, []⟩ (w2.heap.size + 1)).toArray 149)
  have cW : CL ((w2.alloc (.map #[] 0)).alloc (.cells ((Tx.fresh th st pr s.atts.length rank).cells ⟨mb, wb, gb, db, .slice none 0 0, none, .slice none 0 0, w2.heap.size, []⟩ (w2.heap.size + 1)).toArray 149)) (w2.heap.size + 1) ((Tx.fresh th st pr s.atts.length rank).cells ⟨mb, wb, gb, db, .slice none 0 0, none, .slice none 0 0, w2.heap.size, []⟩ (w2.heap.size + 1)) := by
    refine cast ?_ (CL.made (w2.alloc (.map #[] 0)) ((Tx.fresh th st pr s.atts.length rank).cells ⟨mb, wb, gb, db, .slice none 0 0, none, .slice none 0 0, w2.heap.size, []⟩ (w2.heap.size + 1)) 149)
    congr 1
    simp
  have oW := (OM.made w2).keep (S := fun _ => False) ((Keeps.refl _ _).alloc (.cells ((Tx.fresh th st pr s.atts.length rank).cells ⟨mb, wb, gb, db, .slice none 0 0, none, .slice none 0 0, w2.heap.size, []⟩ (w2.heap.size + 1)).toArray 149)) (fun e => e)
  have sz := xx.keeps.size
  exact ⟨w2.heap.size + 1, w2.heap.size, rfl, by omega, sz, ρ2, ⟨(st2.new KW).1, cW, oW, ⟨World.ownsRow_nil _ _ _ _, World.ownsRow_nil _ _ _ _, .inl ⟨rfl, rfl⟩, Gd.nil, fun g e => (by cases e), fun g e => (by cases e), fun k e => (by rcases e with e | e | e <;> cases e)⟩, st2.bnd _ (by omega), fun k e => (by rcases e with e | e | e | e; exact e ▸ st2.bnd _ (Nat.le_refl _); cases e; cases e; cases e), fun e => (by rcases e with e | e | e | e; (have e9 : w2.heap.size + 1 = w2.heap.size := e; omega); cases e; cases e; cases e)⟩, xx.trans (st2.new KW).2⟩
theorem tnew_any {mb wb gb db k : Nat} {p : Int} (h : St w ρ u j wb mb s m) (hM : Mg w gb k p) (hT : TR w) (hr : s.roomA m = true) (th st : Int) {q : Nat} (hqi : q < m.cells.length) (rank : Int) :
    Calls Tryz.prog 81 #[.agg #[.pointer (some ⟨mb, 0, none⟩), .pointer (some ⟨wb, 0, none⟩), .pointer (some ⟨gb, 0, none⟩), .pointer (some ⟨db, 0, none⟩)], .agg #[.int .i64 th, .int .i64 st, .int .i64 (q : Int)], .int .i64 rank] w fun e w' =>
      ∃ ab om, e = .returned (.tuple #[.pointer (some ⟨ab, 0, none⟩), .int .i64 0]) ∧ w.heap.size ≤ ab ∧ w.heap.size ≤ om ∧ ∃ ρ', AX w' ρ' u j ⟨mb, wb, gb, db, .slice none 0 0, none, .slice none 0 0, om, []⟩ ab (Tx.fresh th st (q : Int) s.atts.length rank) 0 (fun _ => none) (s.beg th st (q : Int) m.cells.length) ((m.make 1).make 0) ∧ Ext (Sr u j) w w' ρ ρ' := by
  cases hk : kpT k with
  | false => exact tnew_ok h hM hT hk hr th st (q : Int) rank
  | true => exact tnew_keeps h hM hT hk hr th st (q : Int) rank rfl hqi
end
end Go.Proofs.YtgjndhbfjofkeaaGreatDoor

namespace Go.Proofs.YtgjndhbfjofkeaaGreatDoor
open Go.RowKit
theorem Mm.val_bump (m : Mm) (c i : Nat) : (m.bump c).val i = if i = c ∧ c < m.cells.length then wrap64 (m.val c + 1) else m.val i := by
  show (ca (m.cells.set c ((ca m.cells c).1, wrap64 ((ca m.cells c).2 + 1))) i).2 = _
  rw [ca_set]
  split
  · rfl
  · rfl
theorem Mm.len_bump (m : Mm) (c : Nat) : (m.bump c).cells.length = m.cells.length := by simp [Mm.bump, Mm.take]
structure Fre (s : Ws) (q : Nat) : Prop where
  st : ∀ i, i < s.atts.length → (s.att i).status ≠ q ∧ (s.att i).flag ≠ q
  ob : ∀ i, i < s.objs.length → s.ob i ≠ q
structure Pv (s : Ws) (m : Mm) : Prop where
  inv : Inv s m
  st3 : ∀ i, i < s.atts.length → m.val (s.att i).status = 1 ∨ m.val (s.att i).status = 2 ∨ m.val (s.att i).status = 3
  pr : ∀ i, 1 ≤ i → i < s.atts.length → ∃ q : Nat, (s.att i).prio = (q : Int) ∧ q < m.cells.length ∧ Fre s q
  i64 : ∀ c, c < m.cells.length → In64 (m.val c)
  sm : ∀ i, i < s.atts.length → In64 (s.att i).stamp
structure Grw (z : Nat) (y : Nat → Prop) (s : Ws) (m : Mm) (s' : Ws) (m' : Mm) : Prop where
  ob : s'.objs = s.objs
  al : s.atts.length ≤ s'.atts.length
  at_ : ∀ i, i < s.atts.length → s'.att i = s.att i
  ll : s.locs.length ≤ s'.locs.length
  lo : ∀ i, i < s.locs.length → (s'.lo i).owner = (s.lo i).owner ∧ (s'.lo i).old = (s.lo i).old ∧ (s'.lo i).new = (s.lo i).new
  ce : m.cells.length ≤ m'.cells.length
  st2 : ∀ i, i < s.atts.length → m.val (s.att i).status = 2 → m'.val (s.att i).status = 2
  stn : ∀ i, i < s.atts.length → i ≠ z → m.val (s.att i).status ≠ 2 → m'.val (s.att i).status ≠ 2
  pr : ∀ q, q < m.cells.length → Fre s q → ¬ y q → m'.val q = m.val q
section
variable {s s' : Ws} {m m' : Mm}
theorem Inv.kinj (h : Inv s m) {i i' : Nat} (hi : i < s.atts.length) (hi' : i' < s.atts.length) : ((s.att i).status = (s.att i').status → i = i') ∧ (s.att i).status ≠ (s.att i').flag ∧ ∀ o, o < s.objs.length → (s.att i).status ≠ s.ob o ∧ (s.att i).flag ≠ s.ob o := by
  obtain ⟨κ, h1, h2⟩ := h.kap
  refine ⟨fun e => ?_, fun e => ?_, fun o ho => ⟨fun e => ?_, fun e => ?_⟩⟩
  · have a := (h1 i hi).1; have b := (h1 i' hi').1; rw [e] at a; omega
  · have a := (h1 i hi).1; have b := (h1 i' hi').2; rw [e] at a; omega
  · have a := (h1 i hi).1; have b := h2 o ho; rw [e] at a; omega
  · have a := (h1 i hi).2; have b := h2 o ho; rw [e] at a; omega
theorem Pv.same (h : Pv s m) (hl : m'.cells.length = m.cells.length) (hv : ∀ c, m'.val c = m.val c) (z : Nat) (y : Nat → Prop) : Pv s m' ∧ Grw z y s m s m' :=
  ⟨⟨h.inv.congr (by omega) (fun c _ => hv c), fun i hi => by rw [hv]; exact h.st3 i hi, fun i h1 hi => by rw [hl]; exact h.pr i h1 hi, fun c hc => by rw [hv]; exact h.i64 c (by omega), h.sm⟩,
   ⟨rfl, Nat.le_refl _, fun _ _ => rfl, Nat.le_refl _, fun _ _ => ⟨rfl, rfl, rfl⟩, by omega, fun i _ e => by rw [hv]; exact e, fun i _ _ e => by rw [hv]; exact e, fun q _ _ _ => hv q⟩⟩
theorem Pv.load (h : Pv s m) (c z : Nat) (y : Nat → Prop) : Pv s (m.load c) ∧ Grw z y s m s (m.load c) := h.same (m.len_load c) (m.val_load c) z y
theorem Pv.begin (h : Pv s m) (st th : Int) (z : Nat) (y : Nat → Prop) : Pv s (m.begin st th) ∧ Grw z y s m s (m.begin st th) := h.same (m' := m.begin st th) rfl (fun _ => rfl) z y
theorem Pv.stat (h : Pv s m) {i : Nat} (hi : i < s.atts.length) {sv : Int} (hsv : sv = 2 ∨ sv = 3) (z : Nat) (y : Nat → Prop) (hz : sv = 2 → i = z) : Pv s (m.swap (s.att i).status 1 sv) ∧ Grw z y s m s (m.swap (s.att i).status 1 sv) := by
  have hc := (h.inv.ca_ i hi).1
  have hl := m.len_swap (s.att i).status 1 sv
  have hv := m.val_swap (s.att i).status
  refine ⟨⟨h.inv.stat hi sv, fun i' hi' => ?_, fun i' h1 hi' => by rw [hl]; exact h.pr i' h1 hi', fun c hc' => ?_, h.sm⟩, ⟨rfl, Nat.le_refl _, fun _ _ => rfl, Nat.le_refl _, fun _ _ => ⟨rfl, rfl, rfl⟩, by omega, fun i' hi' e => ?_, fun i' hi' hne e => ?_, fun q hq hf _ => ?_⟩⟩
  · rw [hv]; split
    · rcases hsv with e | e <;> omega
    · exact h.st3 i' hi'
  · rw [hv]; split
    · unfold In64; rcases hsv with e | e <;> omega
    · exact h.i64 c (by omega)
  · rw [hv]; split
    · rename_i e'
      have := (h.inv.kinj hi' hi).1 e'.1
      subst this
      omega
    · exact e
  · rw [hv]; split
    · rename_i e'
      have := (h.inv.kinj hi' hi).1 e'.1
      subst this
      rcases hsv with e2 | e2
      · exact absurd (hz e2) hne
      · omega
    · exact e
  · rw [hv, if_neg (fun e => (hf.st i hi).1 e.1.symm)]
theorem Pv.flag (h : Pv s m) {i : Nat} (hi : i < s.atts.length) {a b : Int} (hb : In64 b) (z : Nat) (y : Nat → Prop) : Pv s (m.swap (s.att i).flag a b) ∧ Grw z y s m s (m.swap (s.att i).flag a b) := by
  have hl := m.len_swap (s.att i).flag a b
  have hv := m.val_swap (s.att i).flag
  have hs : ∀ i', i' < s.atts.length → (m.swap (s.att i).flag a b).val (s.att i').status = m.val (s.att i').status := fun i' hi' => by rw [hv, if_neg (fun e => (h.inv.kinj hi' hi).2.1 e.1)]
  refine ⟨⟨h.inv.flag hi a b, fun i' hi' => by rw [hs i' hi']; exact h.st3 i' hi', fun i' h1 hi' => by rw [hl]; exact h.pr i' h1 hi', fun c hc' => ?_, h.sm⟩, ⟨rfl, Nat.le_refl _, fun _ _ => rfl, Nat.le_refl _, fun _ _ => ⟨rfl, rfl, rfl⟩, by omega, fun i' hi' e => by rw [hs i' hi']; exact e, fun i' hi' _ e => by rw [hs i' hi']; exact e, fun q hq hf _ => by rw [hv, if_neg (fun e => (hf.st i hi).2 e.1.symm)]⟩⟩
  rw [hv]; split
  · exact hb
  · exact h.i64 c (by omega)
theorem Pv.bump (h : Pv s m) {q : Nat} (hf : Fre s q) (z : Nat) : Pv s (m.bump q) ∧ Grw z (fun c => c = q) s m s (m.bump q) := by
  have hl := m.len_bump q
  have hv := m.val_bump q
  have hs : ∀ i, i < s.atts.length → (m.bump q).val (s.att i).status = m.val (s.att i).status := fun i hi => by rw [hv, if_neg (fun e => (hf.st i hi).1 e.1)]
  have ho : ∀ i, i < s.objs.length → (m.bump q).val (s.ob i) = m.val (s.ob i) := fun i hi => by rw [hv, if_neg (fun e => hf.ob i hi e.1)]
  have hI : Inv s (m.bump q) := ⟨h.inv.vl, h.inv.lo, fun i hi => by rw [hl]; exact h.inv.ca_ i hi, fun i hi => by rw [hl]; exact h.inv.co i hi, fun i hi => by rw [ho i hi]; exact h.inv.at_ i hi, h.inv.na, h.inv.nl, h.inv.no, h.inv.a1, h.inv.kap, by rw [hs 0 h.inv.a1]; exact h.inv.gen, fun i hi => by rw [hs _ (h.inv.lo _ (h.inv.lo i hi).2.1).2.2]; exact h.inv.old i hi⟩
  refine ⟨⟨hI, fun i hi => by rw [hs i hi]; exact h.st3 i hi, fun i h1 hi => by rw [hl]; exact h.pr i h1 hi, fun c hc => ?_, h.sm⟩, ⟨rfl, Nat.le_refl _, fun _ _ => rfl, Nat.le_refl _, fun _ _ => ⟨rfl, rfl, rfl⟩, by omega, fun i hi e => by rw [hs i hi]; exact e, fun i hi _ e => by rw [hs i hi]; exact e, fun c _ _ hc => by rw [hv, if_neg (fun e => hc e.1)]⟩⟩
  rw [hv]; split
  · exact wrap_in _
  · exact h.i64 c (by omega)
theorem Pv.put (h : Pv s m) (i : Nat) (v : Vl) (z : Nat) (y : Nat → Prop) : Pv (s.put i v) m ∧ Grw z y s m (s.put i v) m :=
  ⟨⟨h.inv.put i v, h.st3, fun i' h1 hi' => by obtain ⟨q, e, hq, hf⟩ := h.pr i' h1 hi'; exact ⟨q, e, hq, ⟨hf.st, hf.ob⟩⟩, h.i64, h.sm⟩, ⟨rfl, Nat.le_refl _, fun _ _ => rfl, Nat.le_refl _, fun _ _ => ⟨rfl, rfl, rfl⟩, Nat.le_refl _, fun _ _ e => e, fun _ _ _ e => e, fun _ _ _ _ => rfl⟩⟩
theorem lay_lo' (s : Ws) (a b : Nat) (v : Vl) {i : Nat} (hi : i < s.locs.length) : (s.lay a b v).lo i = s.lo i := by simp [Ws.lay, Ws.lo, List.getD_eq_getElem?_getD, List.getElem?_append_left hi]
theorem Pv.acq (h : Pv s m) {a b o l : Nat} (ha : a < s.atts.length) (hb : b < s.locs.length) (hC : s.isC m (s.lo b).owner = true) (hr : s.locs.length < 16384) (ho : o < s.objs.length) (hl64 : In64 (s.locs.length : Int)) (z : Nat) (y : Nat → Prop) :
    Pv ((s.lay a b (s.vl b)).use s.locs.length (decide (m.val (s.ob o) = (l : Int)))) (m.swap (s.ob o) (l : Int) (s.locs.length : Int)) ∧ Grw z y s m ((s.lay a b (s.vl b)).use s.locs.length (decide (m.val (s.ob o) = (l : Int)))) (m.swap (s.ob o) (l : Int) (s.locs.length : Int)) := by
  have hI1 := h.inv.lay ha hb hC hr (s.vl b)
  have hlo := lay_lo s a b (s.vl b)
  have hI2 := hI1.acq (o := o) (x := l) (y := s.locs.length) ho (by simp [Ws.lay]) (by rw [hlo])
  have hl := m.len_swap (s.ob o) (l : Int) (s.locs.length : Int)
  have hv := m.val_swap (s.ob o)
  have hs : ∀ i, i < s.atts.length → (m.swap (s.ob o) (l : Int) (s.locs.length : Int)).val (s.att i).status = m.val (s.att i).status := fun i hi => by rw [hv, if_neg (fun e => ((h.inv.kinj hi hi).2.2 o ho).1 e.1)]
  refine ⟨⟨hI2, fun i hi => ?_, fun i h1 hi => ?_, fun c hc => ?_, h.sm⟩, ⟨rfl, Nat.le_refl _, fun _ _ => rfl, ?_, fun i hi => ?_, by omega, fun i hi e => by rw [hs i hi]; exact e, fun i hi _ e => by rw [hs i hi]; exact e, fun q _ hf _ => by rw [hv, if_neg (fun e => hf.ob o ho e.1.symm)]⟩⟩
  · exact (hs i hi).symm ▸ h.st3 i hi
  · obtain ⟨q, e, hq, hf⟩ := h.pr i h1 hi
    exact ⟨q, e, by omega, ⟨hf.st, hf.ob⟩⟩
  · rw [hv]; split
    · exact hl64
    · exact h.i64 c (by omega)
  · simp [Ws.use, Ws.lay]
  · have e1 := lo_use (s := s.lay a b (s.vl b)) (y := s.locs.length) (i := i) (b := decide (m.val (s.ob o) = (l : Int)))
    rw [if_neg (by omega)] at e1
    rw [e1, lay_lo' s a b (s.vl b) hi]
    exact ⟨rfl, rfl, rfl⟩
theorem Grw.trans {s'' : Ws} {m'' : Mm} {z : Nat} {y : Nat → Prop} (h : Grw z y s m s' m') (k : Grw z y s' m' s'' m'') (hF : ∀ q, q < m.cells.length → Fre s q → Fre s' q) : Grw z y s m s'' m'' :=
  ⟨k.ob.trans h.ob, Nat.le_trans h.al k.al, fun i hi => (k.at_ i (Nat.lt_of_lt_of_le hi h.al)).trans (h.at_ i hi), Nat.le_trans h.ll k.ll, fun i hi => ⟨(k.lo i (Nat.lt_of_lt_of_le hi h.ll)).1.trans (h.lo i hi).1, (k.lo i (Nat.lt_of_lt_of_le hi h.ll)).2.1.trans (h.lo i hi).2.1, (k.lo i (Nat.lt_of_lt_of_le hi h.ll)).2.2.trans (h.lo i hi).2.2⟩, Nat.le_trans h.ce k.ce,
   fun i hi e => by have := k.st2 i (Nat.lt_of_lt_of_le hi h.al); rw [h.at_ i hi] at this; exact this (h.st2 i hi e),
   fun i hi hz e => by have := k.stn i (Nat.lt_of_lt_of_le hi h.al) hz; rw [h.at_ i hi] at this; exact this (h.stn i hi hz e),
   fun q hq hf hy => (k.pr q (Nat.lt_of_lt_of_le hq h.ce) (hF q hq hf) hy).trans (h.pr q hq hf hy)⟩
end
end Go.Proofs.YtgjndhbfjofkeaaGreatDoor

namespace Go.Proofs.YtgjndhbfjofkeaaGreatDoor
open Go.RowKit
structure Gc (N : Nat) (th st pr K : Int) (rs : List Rd) (f : Int → Option Nat) (s : Ws) : Prop where
  no1 : 1 ≤ N
  no : N < s.atts.length
  at_ : (s.att N).thread = th ∧ (s.att N).stamp = st ∧ (s.att N).prio = pr
  rk : 0 ≤ K ∧ K ≤ 255
  rd : ∀ r ∈ rs, (∃ o : Nat, r.ob = (o : Int) ∧ o < s.objs.length) ∧ ∃ v : Nat, r.ver = (v : Int) ∧ v < s.locs.length
  fo : ∀ o l, f o = some l → l < s.locs.length ∧ (s.lo l).owner = N
  sp : ∀ o, (f o).isSome = true → ¬ hld rs o
def Ob (x : Tx) (s : Ws) : Prop := ∃ o : Nat, x.object = (o : Int) ∧ o < s.objs.length
structure Mi (x : Tx) (rs : List Rd) (f : Int → Option Nat) (s : Ws) : Prop where
  ob : Ob x s
  ba : ∃ v : Nat, x.base = (v : Int) ∧ v < s.locs.length
  ph : (x.phase = 1 ∧ f x.object = none ∧ ¬ hld rs x.object) ∨ x.phase = 2
def Pu (x : Tx) (rs : List Rd) (f : Int → Option Nat) (s : Ws) : Fd → Prop
  | .rd => x.phase = 1 ∧ Ob x s ∧ f x.object = none ∧ ¬ hld rs x.object
  | .wr => x.phase = 2 ∧ Ob x s ∧ f x.object = none ∧ x.made = 0
  | .ck => Mi x rs f s
  | .fi => x.phase = 3 ∧ x.object = -1
structure Lk (x : Tx) (rs : List Rd) (f : Int → Option Nat) (s : Ws) (d : Fd) : Prop where
  fd : x.found = some d.no
  ob : ∃ o : Nat, x.aob = (o : Int) ∧ o < s.objs.length
  pl : ∃ p : Nat, x.place = (p : Int) ∧ p ≤ rs.length
  pu : Pu x rs f s d
def En_ (x : Tx) (s : Ws) : Prop := ∃ en : Nat, x.enemy = (en : Int) ∧ 1 ≤ en ∧ en < s.atts.length
structure Sw (x : Tx) (s : Ws) (m : Mm) : Prop where
  lc : ∃ l : Nat, x.loc = (l : Int) ∧ l < s.locs.length
  cu : ∃ b : Nat, x.current = (b : Int) ∧ b < s.locs.length ∧ m.val (s.att (s.lo b).owner).status = 2
  ho : x.status = 1 → ∃ en : Nat, x.holder = (en : Int) ∧ 1 ≤ en ∧ en < s.atts.length
inductive Bz (kd : Nat) (x : Tx) (rs : List Rd) (f : Int → Option Nat) (s : Ws) (m : Mm) : Nat → Prop
  | point (d : Fd) (h : Lk x rs f s d) (he : x.enemy = -1 ∨ En_ x s) : Bz kd x rs f s m 108
  | see (d : Fd) (h : Lk x rs f s d) (he : x.enemy = -1 ∨ En_ x s) (hl : ∃ l : Nat, x.loc = (l : Int) ∧ l < s.locs.length) : Bz kd x rs f s m 131
  | stand (d : Fd) (h : Lk x rs f s d) (he : En_ x s) : Bz kd x rs f s m 132
  | judge (d : Fd) (h : Lk x rs f s d) (he : En_ x s) : Bz kd x rs f s m 149
  | kill (d : Fd) (h : Lk x rs f s d) (he : En_ x s) : Bz kd x rs f s m 176
  | up (d : Fd) (h : Lk x rs f s d) (he : En_ x s) (hl : 1 ≤ x.left ∧ x.left ≤ 4096) : Bz kd x rs f s m 178
  | wait (d : Fd) (h : Lk x rs f s d) (he : En_ x s) (hl : 1 ≤ x.left ∧ x.left ≤ 4096) : Bz kd x rs f s m 179
  | down (d : Fd) (h : Lk x rs f s d) (hg : x.goOn = some 182 ∨ (x.goOn = some d.no ∧ Sw x s m)) : Bz kd x rs f s m 172
  | acquire (h : Lk x rs f s .wr) (he : x.enemy = -1 ∨ En_ x s) (hl : ∃ l : Nat, x.loc = (l : Int) ∧ l < s.locs.length) (hb : ∃ b : Nat, x.base = (b : Int) ∧ b < s.locs.length ∧ m.val (s.att (s.lo b).owner).status = 2) : Bz kd x rs f s m 135
  | mine (h : Mi x rs f s) : Bz kd x rs f s m 134
  | boost (h : Mi x rs f s) (hk : kpT kd = true) (hr : x.rank < 255) : Bz kd x rs f s m 150
  | local_ (h : Ob x s) (hp : x.phase = 1 ∨ x.phase = 2) (hf : (∃ l, f x.object = some l) ∨ (f x.object = none ∧ ∃ e, TB.fnd rs x.object = some e)) : Bz kd x rs f s m 84
  | commit : Bz kd x rs f s m 93
  | quit (h : x.why = 2 ∨ x.why = 4) : Bz kd x rs f s m 114
structure Gx (kd t : Nat) (x : Tx) (rs : List Rd) (f : Int → Option Nat) (s : Ws) (m : Mm) : Prop where
  gc : Gc x.no x.thread x.stamp x.prio x.rank rs f s
  lv : x.alive = true → m.val (s.att x.no).status ≠ 2
  nm : 0 ≤ x.tries ∧ x.tries ≤ (t : Int) ∧ 0 ≤ x.waited ∧ x.waited ≤ (t : Int)
  bz : ∀ k, x.alive = true → x.nx = some k → Bz kd x rs f s m k
section
variable {s s' : Ws} {m m' : Mm} {x : Tx} {rs : List Rd} {f : Int → Option Nat} {d : Fd}
theorem Gc.grw {z no : Nat} {y : Nat → Prop} {th st pr rk : Int} (h : Gc no th st pr rk rs f s) (g : Grw z y s m s' m') : Gc no th st pr rk rs f s' :=
  ⟨h.no1, Nat.lt_of_lt_of_le h.no g.al, by rw [g.at_ no h.no]; exact h.at_, h.rk, fun r hr => ⟨by rw [g.ob]; exact (h.rd r hr).1, by obtain ⟨v, e, hv⟩ := (h.rd r hr).2; exact ⟨v, e, Nat.lt_of_lt_of_le hv g.ll⟩⟩, fun o l e => ⟨Nat.lt_of_lt_of_le (h.fo o l e).1 g.ll, by rw [(g.lo l (h.fo o l e).1).1]; exact (h.fo o l e).2⟩, h.sp⟩
theorem Ob.grw {z : Nat} {y : Nat → Prop} (h : Ob x s) (g : Grw z y s m s' m') : Ob x s' := by unfold Ob; rw [g.ob]; exact h
theorem ltg {v : Int} {a b : Nat} (h : ∃ l : Nat, v = (l : Int) ∧ l < a) (hab : a ≤ b) : ∃ l : Nat, v = (l : Int) ∧ l < b := by obtain ⟨l, e, hl⟩ := h; exact ⟨l, e, by omega⟩
theorem Mi.grw {z : Nat} {y : Nat → Prop} (h : Mi x rs f s) (g : Grw z y s m s' m') : Mi x rs f s' := ⟨h.ob.grw g, ltg h.ba g.ll, h.ph⟩
theorem Pu.grw {z : Nat} {y : Nat → Prop} (h : Pu x rs f s d) (g : Grw z y s m s' m') : Pu x rs f s' d := by
  cases d with
  | rd => exact ⟨h.1, h.2.1.grw g, h.2.2⟩
  | wr => exact ⟨h.1, h.2.1.grw g, h.2.2⟩
  | ck => exact Mi.grw h g
  | fi => exact h
theorem Lk.grw {z : Nat} {y : Nat → Prop} (h : Lk x rs f s d) (g : Grw z y s m s' m') : Lk x rs f s' d := ⟨h.fd, by rw [g.ob]; exact h.ob, h.pl, h.pu.grw g⟩
theorem En_.grw {z : Nat} {y : Nat → Prop} (h : En_ x s) (g : Grw z y s m s' m') : En_ x s' := by obtain ⟨en, e, h1, h2⟩ := h; exact ⟨en, e, h1, Nat.lt_of_lt_of_le h2 g.al⟩
theorem cmt {z : Nat} {y : Nat → Prop} (hI : Inv s m) (g : Grw z y s m s' m') {v : Int} (h : ∃ b : Nat, v = (b : Int) ∧ b < s.locs.length ∧ m.val (s.att (s.lo b).owner).status = 2) : ∃ b : Nat, v = (b : Int) ∧ b < s'.locs.length ∧ m'.val (s'.att (s'.lo b).owner).status = 2 := by
  obtain ⟨b, e, hb, h2⟩ := h
  refine ⟨b, e, Nat.lt_of_lt_of_le hb g.ll, ?_⟩
  rw [(g.lo b hb).1, g.at_ _ (hI.lo b hb).2.2]
  exact g.st2 _ (hI.lo b hb).2.2 h2
theorem Sw.grw {z : Nat} {y : Nat → Prop} (hI : Inv s m) (h : Sw x s m) (g : Grw z y s m s' m') : Sw x s' m' :=
  ⟨ltg h.lc g.ll, cmt hI g h.cu, fun e => by obtain ⟨en, e1, h1, h2⟩ := h.ho e; exact ⟨en, e1, h1, Nat.lt_of_lt_of_le h2 g.al⟩⟩
theorem Bz.grw {z kd k : Nat} {y : Nat → Prop} (hI : Inv s m) (h : Bz kd x rs f s m k) (g : Grw z y s m s' m') : Bz kd x rs f s' m' k := by
  cases h with
  | point d h he => exact .point d (h.grw g) (he.imp id (·.grw g))
  | see d h he hl => exact .see d (h.grw g) (he.imp id (·.grw g)) (ltg hl g.ll)
  | stand d h he => exact .stand d (h.grw g) (he.grw g)
  | judge d h he => exact .judge d (h.grw g) (he.grw g)
  | kill d h he => exact .kill d (h.grw g) (he.grw g)
  | up d h he hl => exact .up d (h.grw g) (he.grw g) hl
  | wait d h he hl => exact .wait d (h.grw g) (he.grw g) hl
  | down d h hg => exact .down d (h.grw g) (hg.imp id (fun e => ⟨e.1, e.2.grw hI g⟩))
  | acquire h he hl hb => exact .acquire (h.grw g) (he.imp id (·.grw g)) (ltg hl g.ll) (cmt hI g hb)
  | mine h => exact .mine (h.grw g)
  | boost h hk hr => exact .boost (h.grw g) hk hr
  | local_ h hp hf => exact .local_ (h.grw g) hp hf
  | commit => exact .commit
  | quit h => exact .quit h
theorem Gx.grw {z kd t t' : Nat} {y : Nat → Prop} (hI : Inv s m) (h : Gx kd t x rs f s m) (g : Grw z y s m s' m') (hz : x.no ≠ z) (ht : t ≤ t') : Gx kd t' x rs f s' m' :=
  ⟨h.gc.grw g, fun ha => by rw [g.at_ _ h.gc.no]; exact g.stn _ h.gc.no hz (h.lv ha), by have := h.nm; omega, fun k ha hn => (h.bz k ha hn).grw hI g⟩
theorem Gx.later {kd t t' : Nat} (h : Gx kd t x rs f s m) (ht : t ≤ t') : Gx kd t' x rs f s m := ⟨h.gc, h.lv, by have := h.nm; omega, h.bz⟩
end
end Go.Proofs.YtgjndhbfjofkeaaGreatDoor

namespace Go.Proofs.YtgjndhbfjofkeaaGreatDoor
open Go.RowKit
def Nx_ (kd : Nat) (x : Tx) (rs : List Rd) (f : Int → Option Nat) (s : Ws) (m : Mm) : Prop := ∃ k, x.nx = some k ∧ Bz kd x rs f s m k
structure Sm (x x' : Tx) : Prop where
  no : x'.no = x.no
  th : x'.thread = x.thread
  st : x'.stamp = x.stamp
  pr : x'.prio = x.prio
  rk : x'.rank = x.rank
  al : x'.alive = x.alive
  tr : x'.tries = x.tries ∨ x'.tries = 0
  wa : x'.waited = x.waited ∨ x'.waited = 0
theorem Sm.refl (x : Tx) : Sm x x := ⟨rfl, rfl, rfl, rfl, rfl, rfl, .inl rfl, .inl rfl⟩
section
variable {s s' : Ws} {m m' : Mm} {x x' : Tx} {rs : List Rd} {f : Int → Option Nat} {d : Fd} {kd N : Nat} {th st pr K : Int}
theorem Pu.cg (h : Pu x rs f s d) (h1 : x'.phase = x.phase) (h2 : x'.object = x.object) (h3 : x'.base = x.base) (h4 : x'.made = x.made) : Pu x' rs f s d := by
  have hO : Ob x s → Ob x' s := fun h => by unfold Ob; rw [h2]; exact h
  cases d with
  | rd => exact ⟨h1.trans h.1, hO h.2.1, by rw [h2]; exact h.2.2.1, by rw [h2]; exact h.2.2.2⟩
  | wr => exact ⟨h1.trans h.1, hO h.2.1, by rw [h2]; exact h.2.2.1, h4.trans h.2.2.2⟩
  | ck => exact ⟨hO h.ob, by rw [h3]; exact h.ba, by rw [h1, h2]; exact h.ph⟩
  | fi => exact ⟨h1.trans h.1, h2.trans h.2⟩
theorem ent_ok (hG : Gc N th st pr K rs f s) {p : Nat} {e : En} (he : (es rs)[p]? = some e) : (∃ o : Nat, e.ob = (o : Int) ∧ o < s.objs.length) ∧ p ≤ rs.length := by
  have hm := List.mem_of_getElem? he
  have hp := (List.getElem?_eq_some_iff.1 he).1
  have hl := TB.es_len rs
  refine ⟨?_, by omega⟩
  obtain ⟨r', h1, _, h3⟩ := es_get hm
  rw [h3]
  exact (hG.rd r' (List.mem_of_getElem? h1)).1
theorem ck_nx (hG : Gc N th st pr K rs f s) (hM : Mi x rs f s) (he : x.enemy = -1 ∨ En_ x s) (p : Nat) : Nx_ kd (x.ck rs p) rs f s m ∧ Sm x (x.ck rs p) := by
  unfold Tx.ck Tx.from_
  cases h : (es rs)[p]? with
  | none => exact ⟨⟨_, rfl, .mine ⟨hM.ob, hM.ba, hM.ph⟩⟩, ⟨rfl, rfl, rfl, rfl, rfl, rfl, .inl rfl, .inl rfl⟩⟩
  | some e =>
    have hE := ent_ok hG h
    exact ⟨⟨_, rfl, .point .ck ⟨rfl, hE.1, ⟨p, rfl, hE.2⟩, ⟨hM.ob, hM.ba, hM.ph⟩⟩ he⟩, ⟨rfl, rfl, rfl, rfl, rfl, rfl, .inl rfl, .inl rfl⟩⟩
theorem fi_nx (hG : Gc N th st pr K rs f s) (hp3 : x.phase = 3 ∧ x.object = -1) (he : x.enemy = -1 ∨ En_ x s) (p : Nat) : Nx_ kd (x.fi rs p) rs f s m ∧ Sm x (x.fi rs p) := by
  unfold Tx.fi Tx.from_
  cases h : (es rs)[p]? with
  | none => exact ⟨⟨_, rfl, .commit⟩, ⟨rfl, rfl, rfl, rfl, rfl, rfl, .inl rfl, .inl rfl⟩⟩
  | some e =>
    have hE := ent_ok hG h
    exact ⟨⟨_, rfl, .point .fi ⟨rfl, hE.1, ⟨p, rfl, hE.2⟩, hp3⟩ he⟩, ⟨rfl, rfl, rfl, rfl, rfl, rfl, .inl rfl, .inl rfl⟩⟩
theorem meet_nx (hL : Lk x rs f s d) (hS : Sw x s m) (h1 : x.status = 1) : Nx_ kd x.meet rs f s m ∧ Sm x x.meet :=
  ⟨⟨_, rfl, .stand d ⟨hL.fd, hL.ob, hL.pl, hL.pu.cg rfl rfl rfl rfl⟩ (hS.ho h1)⟩, ⟨rfl, rfl, rfl, rfl, rfl, rfl, .inr rfl, .inr rfl⟩⟩
theorem fd_nx (hG : Gc N th st pr K rs f s) (hL : Lk x rs f s d) (hS : Sw x s m) (he : x.enemy = -1 ∨ En_ x s) :
    (∀ x', x.fd rs d = .ok x' → Nx_ kd x' rs f s m ∧ Sm x x') ∧ (∀ x', x.fd rs d = .no x' → x' = x) := by
  obtain ⟨b, hb, hbl, hbc⟩ := hS.cu
  cases d with
  | rd =>
    simp only [Tx.fd]
    split
    · rename_i h1
      exact ⟨fun x' e => by cases e; exact meet_nx hL hS h1, fun x' e => by cases e⟩
    · refine ⟨fun x' e => ?_, fun x' e => by cases e⟩
      cases e
      obtain ⟨q1, q2, q3, q4⟩ := hL.pu
      obtain ⟨r1, r2⟩ := ck_nx (kd := kd) (m := m) (x := { x with base := x.current }) hG ⟨q2, ⟨b, hb, hbl⟩, .inl ⟨q1, q3, q4⟩⟩ he 0
      exact ⟨r1, ⟨r2.no, r2.th, r2.st, r2.pr, r2.rk, r2.al, r2.tr, r2.wa⟩⟩
  | wr =>
    simp only [Tx.fd]
    split
    · rename_i h1
      exact ⟨fun x' e => by cases e; exact meet_nx hL hS h1, fun x' e => by cases e⟩
    · have key : Nx_ kd x.toAcq rs f s m ∧ Sm x x.toAcq := ⟨⟨_, rfl, .acquire ⟨hL.fd, hL.ob, hL.pl, hL.pu⟩ he hS.lc ⟨b, hb, hbl, hbc⟩⟩, ⟨rfl, rfl, rfl, rfl, rfl, rfl, .inl rfl, .inl rfl⟩⟩
      cases hf : TB.fnd rs x.object with
      | none => exact ⟨fun x' e => by cases e; exact key, fun x' e => by cases e⟩
      | some en =>
        simp only
        split
        · exact ⟨fun x' e => by cases e; exact key, fun x' e => by cases e⟩
        · exact ⟨fun x' e => (by cases e), fun x' e => by cases e; rfl⟩
  | ck =>
    simp only [Tx.fd]
    split
    · exact ⟨fun x' e => by cases e; exact ck_nx hG hL.pu he _, fun x' e => by cases e⟩
    · exact ⟨fun x' e => (by cases e), fun x' e => by cases e; rfl⟩
  | fi =>
    simp only [Tx.fd]
    split
    · rename_i h1
      exact ⟨fun x' e => by cases e; exact meet_nx hL hS h1, fun x' e => by cases e⟩
    · split
      · exact ⟨fun x' e => by cases e; exact fi_nx hG hL.pu he _, fun x' e => by cases e⟩
      · exact ⟨fun x' e => (by cases e), fun x' e => by cases e; rfl⟩
theorem Lk.en (h : Lk x rs f s d) (v : Int) : Lk { x with enemy := v } rs f s d := ⟨h.fd, h.ob, h.pl, h.pu.cg rfl rfl rfl rfl⟩
theorem sn_nx (hG : Gc N th st pr K rs f s) (hL : Lk x rs f s d) (hS : Sw x s m) (he : x.enemy = -1 ∨ En_ x s) :
    (∀ x', x.sn rs d = .ok x' → Nx_ kd x' rs f s m ∧ Sm x x') ∧ (∀ x', x.sn rs d = .no x' → x' = { x with enemy := -1 } ∨ x' = x) := by
  unfold Tx.sn
  split
  · obtain ⟨h1, h2⟩ := fd_nx (kd := kd) hG hL hS he
    exact ⟨h1, fun x' e => .inr (h2 x' e)⟩
  · rename_i hne
    have hE : En_ x s := he.elim (fun e => absurd e hne) id
    split
    · refine ⟨fun x' e => ?_, fun x' e => by cases e⟩
      cases e
      exact ⟨⟨_, rfl, .stand d ⟨hL.fd, hL.ob, hL.pl, hL.pu.cg rfl rfl rfl rfl⟩ hE⟩, ⟨rfl, rfl, rfl, rfl, rfl, rfl, .inl rfl, .inl rfl⟩⟩
    · split
      · refine ⟨fun x' e => ?_, fun x' e => by cases e⟩
        cases e
        exact ⟨⟨_, rfl, .down d ⟨hL.fd, hL.ob, hL.pl, hL.pu.cg rfl rfl rfl rfl⟩ (.inr ⟨rfl, ⟨hS.lc, hS.cu, hS.ho⟩⟩)⟩, ⟨rfl, rfl, rfl, rfl, rfl, rfl, .inl rfl, .inl rfl⟩⟩
      · obtain ⟨h1, h2⟩ := fd_nx (kd := kd) (x := { x with enemy := -1 }) hG (hL.en (-1)) ⟨hS.lc, hS.cu, hS.ho⟩ (.inl rfl)
        refine ⟨fun x' e => ?_, fun x' e => .inl (h2 x' e)⟩
        obtain ⟨r1, r2⟩ := h1 x' e
        exact ⟨r1, ⟨r2.no, r2.th, r2.st, r2.pr, r2.rk, r2.al, r2.tr, r2.wa⟩⟩
theorem Gx.next {t : Nat} (hG : Gc x.no x.thread x.stamp x.prio x.rank rs f s) (ht : 0 ≤ x.tries ∧ x.tries ≤ (t : Int) ∧ 0 ≤ x.waited ∧ x.waited ≤ (t : Int)) (hlv : x.alive = true → m.val (s.att x.no).status ≠ 2) (hN : Nx_ kd x' rs f s m) (hS : Sm x x') : Gx kd t x' rs f s m := by
  refine ⟨by rw [hS.no, hS.th, hS.st, hS.pr, hS.rk]; exact hG, by rw [hS.al, hS.no]; exact hlv, ?_, fun k _ hk => ?_⟩
  · rcases hS.tr with e | e <;> rcases hS.wa with e2 | e2 <;> omega
  · obtain ⟨k', e, h⟩ := hN
    rw [hk] at e
    cases e
    exact h
end
end Go.Proofs.YtgjndhbfjofkeaaGreatDoor

