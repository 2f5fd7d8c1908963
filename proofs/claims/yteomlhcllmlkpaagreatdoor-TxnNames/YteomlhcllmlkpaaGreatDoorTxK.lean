import Derived.Test.YteomlhcllmlkpaaGreatDoorTxJ
import Derived.Laws.CopyOwn
import Derived.Laws.IdiomCopy
import Derived.Laws.CopyRow
import Derived.Deep.OwnRows
namespace Go.Proofs.YteomlhcllmlkpaaGreatDoor
open Go.RowKit Go.Maps Go.ChangeMaps Go.MapKept Go.WideShapes
attribute [local go_sem] Oper.semAt_some run_store_nf run_store_f
section
variable {w w' : World} {ρ ρ' ρ'' : Nat → Nat} {u j : Nat} {c : Sc} {ab rb n n' : Nat} {x x' : Tx} {f f' : Int → Option Nat} {s s' : Ws} {m m' : Mm} {r r' : Ro}
theorem OM.get {mb : Nat} (h : OM w mb n f) {k : Int} (hk : I64 k) : (Instr.lookup 63 (.map (some mb)) (.int .i64 k) false).run Tryz.prog w = .ok (.int .i64 (((f k).getD 0 : Nat) : Int)) w := by
  obtain ⟨D, h1, h2, h3⟩ := h
  obtain ⟨c, hrun, hat, _⟩ := h1.lookup_int keyed underM underI (zeroI w) (key_int hk)
  rw [(h3 k hk).2] at hat
  cases hat
  exact hrun
set_option maxHeartbeats 400000 in
set_option maxRecDepth 1000000 in
theorem write_free (h : AX w ρ u j c ab x n f s m) (ha : x.alive = true) (hn : x.nx = none) {o : Nat} (ho : o < s.objs.length) (hio : I64 (o : Int)) (hf : f (o : Int) = none) :
    Calls Tryz.prog 8 #[.pointer (some ⟨ab, 0, none⟩), .int .i64 (o : Int)] w fun e w' => e = .returned (.int .i64 0) ∧ AX w' ρ u j c ab ((x.op 2 (o : Int)).opn 27) n f s m ∧ Keeps (fun k => k = ab) w w' := by
  have hmf : ∀ (fn : Fn) (first cap : Array Value) (w : World), (Instr.makeFunc fn first cap).run Tryz.prog w = .ok (.func fn first cap) w := fun _ _ _ _ => rfl
  have hr := refobj_no h ha hn ho
  have hb := abegin h.cl 2 (o : Int)
  have HF : Hid (f (o : Int) = none) := hf
  clear ha hn ho hf
  go_enter Tryz.func8, Tryz.ntmps8
  go_wp2_with fail
  refine hr.mono ?_
  rintro e w1 ⟨rfl, rfl⟩
  clear hr
  go_wp2_with fail
  refine hb.mono ?_
  rintro e w2 ⟨rfl, hc2, k2⟩
  have h2 := h.self k2 hc2
  have hO := owns_any h2 hio
  rw [HF.out] at hO
  clear hb
  go_wp2_with fail
  refine hO.mono ?_
  rintro e w3 ⟨rfl, rfl⟩
  have hL := alook hc2 27
  clear hO
  go_wp2_with fail
  refine hL.mono ?_
  rintro e w4 ⟨rfl, hc4, k4⟩
  clear hL
  go_wp2_with fail
  go_ret
  exact ⟨rfl, h2.self k4 hc4, k2.trans k4⟩
set_option maxHeartbeats 400000 in
set_option maxRecDepth 1000000 in
theorem finish_free (h : AX w ρ u j c ab x n f s m) (hbr : c.bare) (ha : x.alive = true) (hn : x.nx = none) :
    Calls Tryz.prog 12 #[.pointer (some ⟨ab, 0, none⟩)] w fun e w' => e = .returned (.int .i64 0) ∧ AX w' ρ u j c ab { x.op 3 (-1) with nx := some 61 } n f s m ∧ Keeps (fun k => k = ab) w w' := by
  have hr := refuses_no h.cl ha hn
  have hb := abegin h.cl 3 (-1)
  clear ha hn
  go_enter Tryz.func12, Tryz.ntmps12
  go_wp2_with fail
  refine hr.mono ?_
  rintro e w1 ⟨rfl, rfl⟩
  clear hr
  go_wp2_with fail
  refine hb.mono ?_
  rintro e w2 ⟨rfl, hc2, k2⟩
  have hL := finish_no hc2 hbr
  clear hb
  go_wp2_with fail
  refine hL.mono ?_
  rintro e w4 ⟨rfl, hc4, k4⟩
  clear hL
  go_wp2_with fail
  go_ret
  exact ⟨rfl, (h.self k2 hc2).self k4 hc4, k2.trans k4⟩
set_option maxHeartbeats 400000 in
set_option maxRecDepth 1000000 in
theorem put_own (h : AX w ρ u j c ab x n f s m) (hI : Inv s m) (ha : x.alive = true) (hn : x.nx = none) {o y : Nat} (ho : o < s.objs.length) (hio : I64 (o : Int)) (hf : f (o : Int) = some y) (hy : y < s.locs.length) (hyo : (s.lo y).owner ≠ 0) (hyc : s.isC m (s.lo y).owner = false) (v : Vl) :
    Calls Tryz.prog 11 #[.pointer (some ⟨ab, 0, none⟩), .int .i64 (o : Int), .agg #[.int .i64 v.num, .int .i64 v.next, .bool v.dead]] w fun e w' => e = .returned (.int .i64 0) ∧ ∃ ρ', AX w' ρ' u j c ab x n f (s.put y v) m ∧ Ext (Sr u j) w w' ρ ρ' := by
  obtain ⟨v0, v1, v2⟩ := v
  obtain ⟨w0, hw0⟩ : ∃ w0, w0 = w.alloc (.cells #[.int .i64 v0, .int .i64 v1, .bool v2] 44) := ⟨_, rfl⟩
  have k0 : Keeps (fun _ => False) w w0 := by rw [hw0]; exact (Keeps.refl _ w).alloc _
  have h0 := h.new k0
  have hv : CL w0 w.heap.size [.int .i64 v0, .int .i64 v1, .bool v2] := by rw [hw0]; exact CL.made w [.int .i64 v0, .int .i64 v1, .bool v2] _
  have hr := refobj_no h0 ha hn ho
  have hO := owns_any h0 hio
  rw [hf] at hO
  have hD := h0.new (Keeps.refl _ w0).drew
  have hvD := hv.drew
  have hg := hD.om.get hio
  rw [hf] at hg
  have hP := Put_ok hD.st hI.wf hy hyo hyc ⟨v0, v1, v2⟩
  have hc := hD.cl
  have f1 := hc.c 1 _ rfl
  have f14 := hc.c 14 _ rfl
  have b0 := hvD.c 0 _ rfl
  have b1 := hvD.c 1 _ rfl
  have b2 := hvD.c 2 _ rfl
  have x0 := (St.new h.st (k0.trans (Keeps.refl _ w0).drew)).2
  clear ha hn ho hf hc hv hvD
  go_enter Tryz.func11, Tryz.ntmps11
  go_wp2_with fail
  rw [← hw0]
  clear hw0
  refine hr.mono ?_
  rintro e w1 ⟨rfl, rfl⟩
  clear hr
  go_wp2_with fail
  refine hO.mono ?_
  rintro e w3 ⟨rfl, rfl⟩
  clear hO
  go_wp2_with fail
  have hzv : ρ w.heap.size = 0 := h.st.bnd _ (Nat.le_refl _)
  have S0 : ¬ Sr u j (ρ w.heap.size) := by rw [hzv]; exact Sr.not0 h.st
  go_region_held3 (fun w' => w'.cell? ⟨ab, 1, none⟩ = some (.pointer (some ⟨c.wb, 0, none⟩)) ∧ w'.cell? ⟨ab, 14, none⟩ = some (.map (some c.om)) ∧ w'.cell? ⟨w.heap.size, 0, none⟩ = some (.int .i64 v0) ∧ w'.cell? ⟨w.heap.size, 1, none⟩ = some (.int .i64 v1) ∧ w'.cell? ⟨w.heap.size, 2, none⟩ = some (.bool v2)) (go_keep) ((go_at_call 32; refine hP.mono ?_; clear hP; rintro e W3 ⟨rfl, ρ3, s3, x3⟩; have hA3 := hD.run s3 x3; have hc3 := hA3.cl; have g1 := hc3.c 1 _ rfl; have g14 := hc3.c 14 _ rfl; have d0 := x3.cell (p := ⟨w.heap.size, 0, none⟩) b0 S0; have d1 := x3.cell (p := ⟨w.heap.size, 1, none⟩) b1 S0; have d2 := x3.cell (p := ⟨w.heap.size, 2, none⟩) b2 S0))
  go_wp2_with fail
  go_ret
  exact ⟨rfl, ρ3, hA3, x0.trans x3⟩
def Tx.fresh (th st pr : Int) (no : Nat) (rank : Int) : Tx := ⟨th, st, pr, no, rank, true, false, none, 0, 0, 0, 0, 0, 0, 0, 0, 0, 0, 0, 0, 0, 0, none, 0, 0, 0, 0, none⟩
set_option maxHeartbeats 400000 in
set_option maxRecDepth 1000000 in
theorem tnew_ok {mb wb gb db k : Nat} {p : Int} (h : St w ρ u j wb mb s m) (hM : Mg w gb k p) (hT : TR w) (hkp : kpT k = false) (hr : s.roomA m = true) (th st pr rank : Int) :
    Calls Tryz.prog 6 #[.agg #[.pointer (some ⟨mb, 0, none⟩), .pointer (some ⟨wb, 0, none⟩), .pointer (some ⟨gb, 0, none⟩), .pointer (some ⟨db, 0, none⟩)], .agg #[.int .i64 th, .int .i64 st, .int .i64 pr], .int .i64 rank] w fun e w' =>
      ∃ ab om, e = .returned (.tuple #[.pointer (some ⟨ab, 0, none⟩), .int .i64 0]) ∧ w.heap.size ≤ ab ∧ w.heap.size ≤ om ∧ ∃ ρ', AX w' ρ' u j ⟨mb, wb, gb, db, .slice none 0 0, none, .slice none 0 0, om⟩ ab (Tx.fresh th st pr s.atts.length rank) 0 (fun _ => none) (s.beg th st pr m.cells.length) ((m.make 1).make 0) ∧ Ext (Sr u j) w w' ρ ρ' := by
  obtain ⟨w0, hw0⟩ : ∃ w0, w0 = (w.alloc (.cells #[.pointer (some ⟨mb, 0, none⟩), .pointer (some ⟨wb, 0, none⟩), .pointer (some ⟨gb, 0, none⟩), .pointer (some ⟨db, 0, none⟩)] 28)).alloc (.cells #[.int .i64 th, .int .i64 st, .int .i64 pr] 39) := ⟨_, rfl⟩
  have k0 : Keeps (fun _ => False) w w0 := by rw [hw0]; exact ((Keeps.refl _ w).alloc _).alloc _
  have hS : CL w0 w.heap.size [.pointer (some ⟨mb, 0, none⟩), .pointer (some ⟨wb, 0, none⟩), .pointer (some ⟨gb, 0, none⟩), .pointer (some ⟨db, 0, none⟩)] := by
    rw [hw0]; exact (CL.made w [.pointer (some ⟨mb, 0, none⟩), .pointer (some ⟨wb, 0, none⟩), .pointer (some ⟨gb, 0, none⟩), .pointer (some ⟨db, 0, none⟩)] _).alloc (by show 0 < 4; decide) _
  have hO : CL w0 (w.heap.size + 1) [.int .i64 th, .int .i64 st, .int .i64 pr] := by
    rw [hw0]
    refine cast ?_ (CL.made (w.alloc (.cells #[.pointer (some ⟨mb, 0, none⟩), .pointer (some ⟨wb, 0, none⟩), .pointer (some ⟨gb, 0, none⟩), .pointer (some ⟨db, 0, none⟩)] 28)) [.int .i64 th, .int .i64 st, .int .i64 pr] 39)
    congr 1
    simp
  have q1 : ∀ (a : Addr) (w : World), (binOp .eql 23 (.pointer (some a)) (.pointer none)).run Tryz.prog w = .ok (.bool false) w := fun _ _ => rfl
  have q2 : ∀ (a : Addr) (w : World), (binOp .eql 24 (.pointer (some a)) (.pointer none)).run Tryz.prog w = .ok (.bool false) w := fun _ _ => rfl
  have q3 : ∀ (a : Addr) (w : World), (binOp .eql 25 (.pointer (some a)) (.pointer none)).run Tryz.prog w = .ok (.bool false) w := fun _ _ => rfl
  have q4 : ∀ (a : Addr) (w : World), (binOp .eql 26 (.pointer (some a)) (.pointer none)).run Tryz.prog w = .ok (.bool false) w := fun _ _ => rfl
  have hmm := @run_makeMap Tryz.prog
  have hK := mKeeps (hM.keep k0) (hT.keep k0)
  rw [hkp] at hK
  have s0 := hS.c 0 _ rfl
  have s1 := hS.c 1 _ rfl
  have s2 := hS.c 2 _ rfl
  have s3 := hS.c 3 _ rfl
  have o0 := hO.c 0 _ rfl
  have o1 := hO.c 1 _ rfl
  have o2 := hO.c 2 _ rfl
  go_enter Tryz.func6, Tryz.ntmps6
  go_wp2_with fail
  rw [← hw0]
  clear hw0
  refine hK.mono ?_
  rintro e w1 ⟨rfl, k1⟩
  have hS1 := hS.keep (by show 0 < 4; decide) k1 (fun e => e)
  have hO1 := hO.keep (by show 0 < 3; decide) k1 (fun e => e)
  have n1 := h.new (k0.trans k1)
  have hA := Attempt_ok n1.1 hr th st pr
  clear s0 s1 s2 s3 o0 o1 o2 hK
  have s0 := hS1.c 0 _ rfl
  have s1 := hS1.c 1 _ rfl
  have s2 := hS1.c 2 _ rfl
  have s3 := hS1.c 3 _ rfl
  have o0 := hO1.c 0 _ rfl
  have o1 := hO1.c 1 _ rfl
  have o2 := hO1.c 2 _ rfl
  go_wp2_with fail
  refine hA.mono ?_
  rintro e w2 ⟨rfl, ρ2, st2, x2⟩
  have S0 : ¬ Sr u j (ρ w.heap.size) := by rw [h.bnd _ (Nat.le_refl _)]; exact Sr.not0 h
  have S1 : ¬ Sr u j (ρ (w.heap.size + 1)) := by rw [h.bnd _ (by omega)]; exact Sr.not0 h
  have hS2 := hS1.keep (by show 0 < 4; decide) x2.keeps S0
  have hO2 := hO1.keep (by show 0 < 3; decide) x2.keeps S1
  have xx := n1.2.trans x2
  clear s0 s1 s2 s3 o0 o1 o2 hA hS1 hO1 hS hO
  have s0 := hS2.c 0 _ rfl
  have s1 := hS2.c 1 _ rfl
  have s2 := hS2.c 2 _ rfl
  have s3 := hS2.c 3 _ rfl
  have o0 := hO2.c 0 _ rfl
  have o1 := hO2.c 1 _ rfl
  have o2 := hO2.c 2 _ rfl
  go_wp2_with fail
  go_ret2
  have KW := ((Keeps.refl (fun _ => False) w2).alloc (.map #[] 0)).alloc (.cells ((Tx.fresh th st pr s.atts.length rank).cells ⟨mb, wb, gb, db, .slice none 0 0, none, .slice none 0 0, w2.heap.size⟩ (w2.heap.size + 1)).toArray 78)
  have cW : CL ((w2.alloc (.map #[] 0)).alloc (.cells ((Tx.fresh th st pr s.atts.length rank).cells ⟨mb, wb, gb, db, .slice none 0 0, none, .slice none 0 0, w2.heap.size⟩ (w2.heap.size + 1)).toArray 78)) (w2.heap.size + 1) ((Tx.fresh th st pr s.atts.length rank).cells ⟨mb, wb, gb, db, .slice none 0 0, none, .slice none 0 0, w2.heap.size⟩ (w2.heap.size + 1)) := by
    refine cast ?_ (CL.made (w2.alloc (.map #[] 0)) ((Tx.fresh th st pr s.atts.length rank).cells ⟨mb, wb, gb, db, .slice none 0 0, none, .slice none 0 0, w2.heap.size⟩ (w2.heap.size + 1)) 78)
    congr 1
    simp
  have oW := (OM.made w2).keep (S := fun _ => False) ((Keeps.refl _ _).alloc (.cells ((Tx.fresh th st pr s.atts.length rank).cells ⟨mb, wb, gb, db, .slice none 0 0, none, .slice none 0 0, w2.heap.size⟩ (w2.heap.size + 1)).toArray 78)) (fun e => e)
  have sz := xx.keeps.size
  exact ⟨w2.heap.size + 1, w2.heap.size, rfl, by omega, sz, ρ2, ⟨(st2.new KW).1, cW, oW, st2.bnd _ (by omega), st2.bnd _ (Nat.le_refl _), by show w2.heap.size ≠ w2.heap.size + 1; omega⟩, xx.trans (st2.new KW).2⟩
end
end Go.Proofs.YteomlhcllmlkpaaGreatDoor
