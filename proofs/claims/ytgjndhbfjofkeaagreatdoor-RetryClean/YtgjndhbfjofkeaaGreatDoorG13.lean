import Derived.Test.YtgjndhbfjofkeaaGreatDoorG12
namespace Go.Proofs.YtgjndhbfjofkeaaGreatDoor
open Go.RowKit
attribute [local go_sem] Oper.semAt_some run_store_nf run_store_f
inductive Fd | rd | wr | ck | fi
def Fd.no : Fd → Nat
  | .rd => 86
  | .wr => 111
  | .ck => 133
  | .fi => 92
inductive Out | ok (x : Tx) | no (x : Tx)
def Out.tx : Out → Tx
  | .ok x => x
  | .no x => x
def stale4 : Ending := .panicked [{ v := .iface 210 (.int .i64 4), recovered := false }]
def Out.en : Out → Ending
  | .ok _ => .returned (.tuple #[])
  | .no _ => stale4
def Tx.toAcq (x : Tx) : Tx := { x with base := x.current, nx := some 135 }
def Tx.ck (x : Tx) (rs : List Rd) (p : Nat) : Tx := x.from_ rs p 133 134
def Tx.fi (x : Tx) (rs : List Rd) (p : Nat) : Tx := x.from_ rs p 92 93
def Tx.fd (x : Tx) (rs : List Rd) : Fd → Out
  | .rd => if x.status = 1 then .ok x.meet else .ok (({ x with base := x.current } : Tx).ck rs 0)
  | .wr => if x.status = 1 then .ok x.meet else match TB.fnd rs x.object with
    | some e => if e.ver = x.current then .ok x.toAcq else .no x
    | none => .ok x.toAcq
  | .ck => if x.aver = x.current then .ok (x.ck rs (x.place.toNat + 1)) else .no x
  | .fi => if x.status = 1 then .ok x.meet else if x.aver = x.current then .ok (x.fi rs (x.place.toNat + 1)) else .no x
section
variable {w w' : World} {ρ ρ' ρ'' : Nat → Nat} {u j : Nat} {c : Sc} {ab rb n n' : Nat} {x x' : Tx} {f f' : Int → Option Nat} {s s' : Ws} {m m' : Mm} {r r' : Ro}
theorem bne_t {a b : Int} (h : a ≠ b) : (a != b) = true := by simpa using h
theorem bne_f {a b : Int} (h : a = b) : (a != b) = false := by simpa using h
set_option maxHeartbeats 800000 in
set_option maxRecDepth 1000000 in
theorem found_rd_meet (h : CT w c ab x) (hs : x.status = 1) :
    Calls Tryz.prog 86 #[.pointer (some ⟨ab, 0, none⟩)] w fun e w' => e = .returned (.tuple #[]) ∧ CL w' ab (x.meet.cells c ab) ∧ Keeps (fun k => k = ab) w w' := by
  have hm := meets_yes h.cl hs
  go_enter Tryz.func86, Tryz.ntmps86
  go_wp2_with fail
  refine hm.mono ?_
  rintro e w1 ⟨rfl, h1, k1⟩
  go_wp2_with fail
  (try simp only [Exit.then])
  exact bodyPost_ret (results_none rfl _ _ _) rfl ⟨rfl, h1, k1⟩
set_option maxHeartbeats 800000 in
set_option maxRecDepth 1000000 in
theorem found_rd_go (h : CT w c ab x) (hs : x.status ≠ 1) :
    Calls Tryz.prog 86 #[.pointer (some ⟨ab, 0, none⟩)] w fun e w' => e = .returned (.tuple #[]) ∧ CL w' ab ((({ x with base := x.current } : Tx).ck c.rs 0).cells c ab) ∧ Keeps (fun k => k = ab) w w' := by
  have hm := meets_no h.cl (bne_t hs)
  have hc := h.cl
  have f18 := hc.c 18 _ rfl
  have zf18 := hc.z 18 (by show 18 < 36; decide)
  have f29 := hc.c 29 _ rfl
  have zf29 := hc.z 29 (by show 29 < 36; decide)
  have h1 : CT (w.setCell ⟨ab, 18, none⟩ (.int .i64 x.current)) c ab { x with base := x.current } := h.self ((Keeps.refl _ w).setA _ _) (hc.set (o := 18) (by show 18 < 36; decide) _)
  have hK := check_any h1 0
  change Calls Tryz.prog 110 #[.pointer (some ⟨ab, 0, none⟩), .int .i64 0] _ _ at hK
  unfold Tx.ck
  generalize ({ x with base := x.current } : Tx).from_ c.rs 0 133 134 = y at *
  clear hc hs
  go_enter Tryz.func86, Tryz.ntmps86
  go_wp2_with fail
  refine hm.mono ?_
  rintro e w1 ⟨rfl, rfl⟩
  go_wp2_with fail
  refine hK.mono ?_
  rintro e w2 ⟨rfl, h2, k2⟩
  go_wp2_with fail
  go_end0
  exact ⟨rfl, h2, ((Keeps.refl _ w1).setA _ _).trans k2⟩
set_option maxHeartbeats 800000 in
set_option maxRecDepth 1000000 in
theorem found_ck_go (h : CT w c ab x) {p : Nat} (hp : x.place = (p : Int)) (hp2 : p < 1000000000000) (hv : x.aver = x.current) :
    Calls Tryz.prog 133 #[.pointer (some ⟨ab, 0, none⟩)] w fun e w' => e = .returned (.tuple #[]) ∧ CL w' ab ((x.ck c.rs (p + 1)).cells c ab) ∧ Keeps (fun k => k = ab) w w' := by
  have hm := hold_ok h.cl x.aob x.aver x.aord (bne_f hv)
  have hc := h.cl
  have f22 := hc.c 22 _ rfl
  have f23 := hc.c 23 _ rfl
  have f24 := hc.c 24 _ rfl
  have hw1 : IntKind.i64.wrap ((p : Int) + 1) = (p : Int) + 1 := by rw [IntKind.wrap_i64]; omega
  have HP : Hid (x.place = (p : Int)) := hp
  have HK : Hid (∀ W, CT W c ab x → Calls Tryz.prog 110 #[.pointer (some ⟨ab, 0, none⟩), .int .i64 ((p : Int) + 1)] W fun e w' => e = .returned (.tuple #[]) ∧ CL w' ab ((x.ck c.rs (p + 1)).cells c ab) ∧ Keeps (fun k => k = ab) W w') := fun W hW => by
    have := check_any hW (p + 1)
    rw [show ((p + 1 : Nat) : Int) = (p : Int) + 1 by omega] at this
    exact this
  generalize x.ck c.rs (p + 1) = y at *
  clear hc hv hp
  go_enter Tryz.func133, Tryz.ntmps133
  go_wp2_with fail
  refine hm.mono ?_
  rintro e w1 ⟨rfl, k1⟩
  have h1 := h.new k1
  have hK := HK.out w1 h1
  have hc := h1.cl
  have f25 := hc.c 25 _ rfl
  rw [HP.out] at f25
  clear hm HK hc
  go_wp2_with fail
  refine hK.mono ?_
  rintro e w2 ⟨rfl, h2, k2⟩
  go_wp2_with fail
  go_end0
  exact ⟨rfl, h2, (k1.mono (fun _ _ e => e.elim)).trans k2⟩
set_option maxHeartbeats 800000 in
set_option maxRecDepth 1000000 in
theorem found_ck_no (h : CT w c ab x) (hv : x.aver ≠ x.current) :
    Calls Tryz.prog 133 #[.pointer (some ⟨ab, 0, none⟩)] w fun e w' => e = stale4 ∧ CL w' ab (x.cells c ab) ∧ Keeps (fun k => k = ab) w w' := by
  have hm := hold_no h.cl x.aob x.aver x.aord (bne_t hv)
  have hc := h.cl
  have f22 := hc.c 22 _ rfl
  have f23 := hc.c 23 _ rfl
  have f24 := hc.c 24 _ rfl
  clear hc hv
  go_enter Tryz.func133, Tryz.ntmps133
  go_wp2_with fail
  refine hm.mono ?_
  rintro e w1 ⟨rfl, k1⟩
  exact ⟨rfl, rfl, (h.new k1).cl, k1.mono (fun _ _ e => e.elim)⟩
set_option maxHeartbeats 800000 in
set_option maxRecDepth 1000000 in
theorem found_fi_meet (h : CT w c ab x) (hs : x.status = 1) :
    Calls Tryz.prog 92 #[.pointer (some ⟨ab, 0, none⟩)] w fun e w' => e = .returned (.tuple #[]) ∧ CL w' ab (x.meet.cells c ab) ∧ Keeps (fun k => k = ab) w w' := by
  have hm := meets_yes h.cl hs
  go_enter Tryz.func92, Tryz.ntmps92
  go_wp2_with fail
  refine hm.mono ?_
  rintro e w1 ⟨rfl, h1, k1⟩
  go_wp2_with fail
  (try simp only [Exit.then])
  exact bodyPost_ret (results_none rfl _ _ _) rfl ⟨rfl, h1, k1⟩
set_option maxHeartbeats 800000 in
set_option maxRecDepth 1000000 in
theorem found_fi_go (h : CT w c ab x) (hs : x.status ≠ 1) {p : Nat} (hp : x.place = (p : Int)) (hp2 : p < 1000000000000) (hv : x.aver = x.current) :
    Calls Tryz.prog 92 #[.pointer (some ⟨ab, 0, none⟩)] w fun e w' => e = .returned (.tuple #[]) ∧ CL w' ab ((x.fi c.rs (p + 1)).cells c ab) ∧ Keeps (fun k => k = ab) w w' := by
  have hM := meets_no h.cl (bne_t hs)
  have hm := hold_ok h.cl x.aob x.aver x.aord (bne_f hv)
  have hc := h.cl
  have f22 := hc.c 22 _ rfl
  have f23 := hc.c 23 _ rfl
  have f24 := hc.c 24 _ rfl
  have hw1 : IntKind.i64.wrap ((p : Int) + 1) = (p : Int) + 1 := by rw [IntKind.wrap_i64]; omega
  have HP : Hid (x.place = (p : Int)) := hp
  have HK : Hid (∀ W, CT W c ab x → Calls Tryz.prog 69 #[.pointer (some ⟨ab, 0, none⟩), .int .i64 ((p : Int) + 1)] W fun e w' => e = .returned (.tuple #[]) ∧ CL w' ab ((x.fi c.rs (p + 1)).cells c ab) ∧ Keeps (fun k => k = ab) W w') := fun W hW => by
    have := finish_any hW (p + 1)
    rw [show ((p + 1 : Nat) : Int) = (p : Int) + 1 by omega] at this
    exact this
  generalize x.fi c.rs (p + 1) = y at *
  clear hc hv hp hs
  go_enter Tryz.func92, Tryz.ntmps92
  go_wp2_with fail
  refine hM.mono ?_
  rintro e w1 ⟨rfl, rfl⟩
  go_wp2_with fail
  refine hm.mono ?_
  rintro e w2 ⟨rfl, k1⟩
  have h1 := h.new k1
  have hK := HK.out w2 h1
  have hc := h1.cl
  have f25 := hc.c 25 _ rfl
  rw [HP.out] at f25
  clear hm HK hc
  go_wp2_with fail
  refine hK.mono ?_
  rintro e w3 ⟨rfl, h2, k2⟩
  go_wp2_with fail
  go_end0
  exact ⟨rfl, h2, (k1.mono (fun _ _ e => e.elim)).trans k2⟩
set_option maxHeartbeats 800000 in
set_option maxRecDepth 1000000 in
theorem found_fi_no (h : CT w c ab x) (hs : x.status ≠ 1) (hv : x.aver ≠ x.current) :
    Calls Tryz.prog 92 #[.pointer (some ⟨ab, 0, none⟩)] w fun e w' => e = stale4 ∧ CL w' ab (x.cells c ab) ∧ Keeps (fun k => k = ab) w w' := by
  have hM := meets_no h.cl (bne_t hs)
  have hm := hold_no h.cl x.aob x.aver x.aord (bne_t hv)
  have hc := h.cl
  have f22 := hc.c 22 _ rfl
  have f23 := hc.c 23 _ rfl
  have f24 := hc.c 24 _ rfl
  clear hc hv hs
  go_enter Tryz.func92, Tryz.ntmps92
  go_wp2_with fail
  refine hM.mono ?_
  rintro e w1 ⟨rfl, rfl⟩
  go_wp2_with fail
  refine hm.mono ?_
  rintro e w2 ⟨rfl, k1⟩
  exact ⟨rfl, rfl, (h.new k1).cl, k1.mono (fun _ _ e => e.elim)⟩
set_option maxHeartbeats 800000 in
set_option maxRecDepth 1000000 in
theorem found_wr_meet (h : CT w c ab x) (hs : x.status = 1) :
    Calls Tryz.prog 111 #[.pointer (some ⟨ab, 0, none⟩)] w fun e w' => e = .returned (.tuple #[]) ∧ CL w' ab (x.meet.cells c ab) ∧ Keeps (fun k => k = ab) w w' := by
  have hm := meets_yes h.cl hs
  go_enter Tryz.func111, Tryz.ntmps111
  go_wp2_with fail
  refine hm.mono ?_
  rintro e w1 ⟨rfl, h1, k1⟩
  go_wp2_with fail
  (try simp only [Exit.then])
  exact bodyPost_ret (results_none rfl _ _ _) rfl ⟨rfl, h1, k1⟩
end
end Go.Proofs.YtgjndhbfjofkeaaGreatDoor

namespace Go.Proofs.YtgjndhbfjofkeaaGreatDoor
open Go.RowKit
attribute [local go_sem] Oper.semAt_some run_store_nf run_store_f
section
variable {w w' : World} {ρ ρ' ρ'' : Nat → Nat} {u j : Nat} {c : Sc} {ab rb n n' : Nat} {x x' : Tx} {f f' : Int → Option Nat} {s s' : Ws} {m m' : Mm} {r r' : Ro}
set_option maxHeartbeats 1600000 in
set_option maxRecDepth 1000000 in
theorem found_wr_none (h : CT w c ab x) (ho : I64 x.object) (hs : x.status ≠ 1) (hf : TB.fnd c.rs x.object = none) :
    Calls Tryz.prog 111 #[.pointer (some ⟨ab, 0, none⟩)] w fun e w' => e = .returned (.tuple #[]) ∧ CL w' ab (x.toAcq.cells c ab) ∧ Keeps (fun k => k = ab) w w' := by
  have hmf : ∀ (fn : Fn) (first cap : Array Value) (w : World), (Instr.makeFunc fn first cap).run Tryz.prog w = .ok (.func fn first cap) w := fun _ _ _ _ => rfl
  have hm := meets_no h.cl (bne_t hs)
  have hF := fun (W : World) (hW : CT W c ab x) => TB.find_any hW.tv ho
  rw [hf] at hF
  simp only [TB.evo, TB.erz, TB.ev0] at hF
  have hc := h.cl
  have f17 := hc.c 17 _ rfl
  clear hs hf hc
  go_enter Tryz.func111, Tryz.ntmps111
  go_wp2_with fail
  refine hm.mono ?_
  rintro e w1 ⟨rfl, rfl⟩
  go_wp2_with fail
  have hEa : CL (w1.alloc (.cells #[.int .i64 0, .int .i64 0, .int .i64 0] 141)).drew w1.heap.size [.int .i64 0, .int .i64 0, .int .i64 0] := (CL.made w1 [.int .i64 0, .int .i64 0, .int .i64 0] _).drew
  have ka : Keeps (fun _ => False) w1 (w1.alloc (.cells #[.int .i64 0, .int .i64 0, .int .i64 0] 141)).drew := ((Keeps.refl _ w1).alloc _).drew
  have hXa := h.new ka
  have hFa := hF _ hXa
  have hFb := hF _ (h.new (Keeps.refl _ w1).drew)
  have lta : ab < w1.heap.size := h.lt
  have na : ¬ ab = w1.heap.size := by omega
  have na2 : ¬ w1.heap.size = ab := by omega
  clear hF hm
  go_region_held3 (fun w' => w'.cell? ⟨ab, 17, none⟩ = some (.int .i64 x.object)) (go_keep) (first | (go_at_call 83; (with_reducible refine hFa.mono ?_); rintro e w2 ⟨rfl, k2⟩; have h2 := (hXa.new k2).cl; have g17 := h2.c 17 _ rfl; have e2 := hEa.keep (by show 0 < 3; decide) k2 (fun e => e); have K2 := ka.trans k2; have e20 := e2.c 0 _ rfl; have e21 := e2.c 1 _ rfl; have e22 := e2.c 2 _ rfl; have ze20 := e2.z 0 (by show 0 < 3; decide); have ze21 := e2.z 1 (by show 1 < 3; decide); have ze22 := e2.z 2 (by show 2 < 3; decide)) | (go_at_call 83; (with_reducible refine hFb.mono ?_); rintro e w2 ⟨rfl, k2⟩; have h2 := ((h.new (Keeps.refl _ w1).drew).new k2).cl; have g17 := h2.c 17 _ rfl; have K2 := (Keeps.refl (fun _ => False) w1).drew.trans k2))
  · have hX := h2.alloc (by show 0 < 36; decide) (.cells #[.int .i64 0, .int .i64 0, .int .i64 0] 141)
    have KX := K2.alloc (.cells #[.int .i64 0, .int .i64 0, .int .i64 0] 141)
    clear f17 g17 hEa hXa hFa hFb ka h2 k2 K2
    generalize w2.alloc (.cells #[.int .i64 0, .int .i64 0, .int .i64 0] 141) = w3 at *
    have g15 := hX.c 15 _ rfl
    have zg15 := hX.z 15 (by show 15 < 36; decide)
    have g18 := hX.c 18 _ rfl
    have zg18 := hX.z 18 (by show 18 < 36; decide)
    have g29 := hX.c 29 _ rfl
    have zg29 := hX.z 29 (by show 29 < 36; decide)
    go_wp2_with fail
    go_end0
    exact ⟨rfl, (hX.set (o := 18) (by show 18 < 36; decide) _).set (o := 15) (by show 15 < 36; decide) _, ((KX.mono (fun _ _ e => e.elim)).setA _ _).setA _ _⟩
  · have hX := ((h2.other (p := ⟨w1.heap.size, 0, none⟩) na2 (.int .i64 0)).other (p := ⟨w1.heap.size, 1, none⟩) na2 (.int .i64 0)).other (p := ⟨w1.heap.size, 2, none⟩) na2 (.int .i64 0)
    have KX : Keeps (fun _ => False) w1 (((w2.setCell ⟨w1.heap.size, 0, none⟩ (.int .i64 0)).setCell ⟨w1.heap.size, 1, none⟩ (.int .i64 0)).setCell ⟨w1.heap.size, 2, none⟩ (.int .i64 0)) := ((K2.setCell (fun e => absurd e (Nat.lt_irrefl _)) _).setCell (fun e => absurd e (Nat.lt_irrefl _)) _).setCell (fun e => absurd e (Nat.lt_irrefl _)) _
    clear f17 g17 hEa hXa hFa hFb ka h2 k2 K2 e2 e20 e21 e22 ze20 ze21 ze22
    generalize ((w2.setCell ⟨w1.heap.size, 0, none⟩ (.int .i64 0)).setCell ⟨w1.heap.size, 1, none⟩ (.int .i64 0)).setCell ⟨w1.heap.size, 2, none⟩ (.int .i64 0) = w3 at *
    have g15 := hX.c 15 _ rfl
    have zg15 := hX.z 15 (by show 15 < 36; decide)
    have g18 := hX.c 18 _ rfl
    have zg18 := hX.z 18 (by show 18 < 36; decide)
    have g29 := hX.c 29 _ rfl
    have zg29 := hX.z 29 (by show 29 < 36; decide)
    go_wp2_with fail
    go_end0
    exact ⟨rfl, (hX.set (o := 18) (by show 18 < 36; decide) _).set (o := 15) (by show 15 < 36; decide) _, ((KX.mono (fun _ _ e => e.elim)).setA _ _).setA _ _⟩
set_option maxHeartbeats 1600000 in
set_option maxRecDepth 1000000 in
theorem found_wr_ok (h : CT w c ab x) (ho : I64 x.object) (hs : x.status ≠ 1) {en : En} (hf : TB.fnd c.rs x.object = some en) (hv : en.ver = x.current) :
    Calls Tryz.prog 111 #[.pointer (some ⟨ab, 0, none⟩)] w fun e w' => e = .returned (.tuple #[]) ∧ CL w' ab (x.toAcq.cells c ab) ∧ Keeps (fun k => k = ab) w w' := by
  have hmf : ∀ (fn : Fn) (first cap : Array Value) (w : World), (Instr.makeFunc fn first cap).run Tryz.prog w = .ok (.func fn first cap) w := fun _ _ _ _ => rfl
  have hm := meets_no h.cl (bne_t hs)
  have hF := fun (W : World) (hW : CT W c ab x) => TB.find_any hW.tv ho
  rw [hf] at hF
  simp only [TB.evo, TB.erz, TB.ev] at hF
  have HH : Hid (∀ W : World, CL W ab (x.cells c ab) → Calls Tryz.prog 116 #[.pointer (some ⟨ab, 0, none⟩), .agg #[.int .i64 en.ob, .int .i64 en.ver, .int .i64 (en.ord : Int)]] W fun e w' => e = .returned (.tuple #[]) ∧ Keeps (fun _ => False) W w') := fun W hW => hold_ok hW en.ob en.ver (en.ord : Int) (bne_f hv)
  have hc := h.cl
  have f17 := hc.c 17 _ rfl
  clear hs hf hc hv
  go_enter Tryz.func111, Tryz.ntmps111
  go_wp2_with fail
  refine hm.mono ?_
  rintro e w1 ⟨rfl, rfl⟩
  go_wp2_with fail
  have hEa : CL (w1.alloc (.cells #[.int .i64 0, .int .i64 0, .int .i64 0] 141)).drew w1.heap.size [.int .i64 0, .int .i64 0, .int .i64 0] := (CL.made w1 [.int .i64 0, .int .i64 0, .int .i64 0] _).drew
  have ka : Keeps (fun _ => False) w1 (w1.alloc (.cells #[.int .i64 0, .int .i64 0, .int .i64 0] 141)).drew := ((Keeps.refl _ w1).alloc _).drew
  have hXa := h.new ka
  have hFa := hF _ hXa
  have hFb := hF _ (h.new (Keeps.refl _ w1).drew)
  have lta : ab < w1.heap.size := h.lt
  have na : ¬ ab = w1.heap.size := by omega
  have na2 : ¬ w1.heap.size = ab := by omega
  clear hF hm
  go_region_held3 (fun w' => w'.cell? ⟨ab, 17, none⟩ = some (.int .i64 x.object)) (go_keep) (first | (go_at_call 83; (with_reducible refine hFa.mono ?_); rintro e w2 ⟨rfl, k2⟩; have h2 := (hXa.new k2).cl; have g17 := h2.c 17 _ rfl; have e2 := hEa.keep (by show 0 < 3; decide) k2 (fun e => e); have K2 := ka.trans k2; have e20 := e2.c 0 _ rfl; have e21 := e2.c 1 _ rfl; have e22 := e2.c 2 _ rfl; have ze20 := e2.z 0 (by show 0 < 3; decide); have ze21 := e2.z 1 (by show 1 < 3; decide); have ze22 := e2.z 2 (by show 2 < 3; decide)) | (go_at_call 83; (with_reducible refine hFb.mono ?_); rintro e w2 ⟨rfl, k2⟩; have h2 := ((h.new (Keeps.refl _ w1).drew).new k2).cl; have g17 := h2.c 17 _ rfl; have K2 := (Keeps.refl (fun _ => False) w1).drew.trans k2))
  · have hX := h2.alloc (by show 0 < 36; decide) (.cells #[.int .i64 en.ob, .int .i64 en.ver, .int .i64 (en.ord : Int)] 141)
    have KX := K2.alloc (.cells #[.int .i64 en.ob, .int .i64 en.ver, .int .i64 (en.ord : Int)] 141)
    have hQ := CL.made w2 [.int .i64 en.ob, .int .i64 en.ver, .int .i64 (en.ord : Int)] 141
    clear f17 g17 hEa hXa hFa hFb ka h2 k2 K2
    generalize w2.alloc (.cells #[.int .i64 en.ob, .int .i64 en.ver, .int .i64 (en.ord : Int)] 141) = w3 at *
    have q0 := hQ.c 0 _ rfl
    have q1 := hQ.c 1 _ rfl
    have q2 := hQ.c 2 _ rfl
    clear hQ
    have hH := HH.out _ hX
    go_wp2_with fail
    refine hH.mono ?_
    rintro e w4 ⟨rfl, k4⟩
    have hX4 := hX.keep (by show 0 < 36; decide) k4 (fun e => e)
    have g15 := hX4.c 15 _ rfl
    have zg15 := hX4.z 15 (by show 15 < 36; decide)
    have g18 := hX4.c 18 _ rfl
    have zg18 := hX4.z 18 (by show 18 < 36; decide)
    have g29 := hX4.c 29 _ rfl
    have zg29 := hX4.z 29 (by show 29 < 36; decide)
    clear hH HH hX q0 q1 q2
    go_wp2_with fail
    go_end0
    exact ⟨rfl, (hX4.set (o := 18) (by show 18 < 36; decide) _).set (o := 15) (by show 15 < 36; decide) _, (((KX.trans k4).mono (fun _ _ e => e.elim)).setA _ _).setA _ _⟩
  · have hX := ((h2.other (p := ⟨w1.heap.size, 0, none⟩) na2 (.int .i64 en.ob)).other (p := ⟨w1.heap.size, 1, none⟩) na2 (.int .i64 en.ver)).other (p := ⟨w1.heap.size, 2, none⟩) na2 (.int .i64 (en.ord : Int))
    have hQ : CL (((w2.setCell ⟨w1.heap.size, 0, none⟩ (.int .i64 en.ob)).setCell ⟨w1.heap.size, 1, none⟩ (.int .i64 en.ver)).setCell ⟨w1.heap.size, 2, none⟩ (.int .i64 (en.ord : Int))) w1.heap.size [.int .i64 en.ob, .int .i64 en.ver, .int .i64 (en.ord : Int)] := ((e2.set (o := 0) (by show 0 < 3; decide) (.int .i64 en.ob)).set (o := 1) (by show 1 < 3; decide) (.int .i64 en.ver)).set (o := 2) (by show 2 < 3; decide) (.int .i64 (en.ord : Int))
    have KX : Keeps (fun _ => False) w1 (((w2.setCell ⟨w1.heap.size, 0, none⟩ (.int .i64 en.ob)).setCell ⟨w1.heap.size, 1, none⟩ (.int .i64 en.ver)).setCell ⟨w1.heap.size, 2, none⟩ (.int .i64 (en.ord : Int))) := ((K2.setCell (fun e => absurd e (Nat.lt_irrefl _)) _).setCell (fun e => absurd e (Nat.lt_irrefl _)) _).setCell (fun e => absurd e (Nat.lt_irrefl _)) _
    clear f17 g17 hEa hXa hFa hFb ka h2 k2 K2 e2 e20 e21 e22 ze20 ze21 ze22
    generalize ((w2.setCell ⟨w1.heap.size, 0, none⟩ (.int .i64 en.ob)).setCell ⟨w1.heap.size, 1, none⟩ (.int .i64 en.ver)).setCell ⟨w1.heap.size, 2, none⟩ (.int .i64 (en.ord : Int)) = w3 at *
    have q0 := hQ.c 0 _ rfl
    have q1 := hQ.c 1 _ rfl
    have q2 := hQ.c 2 _ rfl
    clear hQ
    have hH := HH.out _ hX
    go_wp2_with fail
    refine hH.mono ?_
    rintro e w4 ⟨rfl, k4⟩
    have hX4 := hX.keep (by show 0 < 36; decide) k4 (fun e => e)
    have g15 := hX4.c 15 _ rfl
    have zg15 := hX4.z 15 (by show 15 < 36; decide)
    have g18 := hX4.c 18 _ rfl
    have zg18 := hX4.z 18 (by show 18 < 36; decide)
    have g29 := hX4.c 29 _ rfl
    have zg29 := hX4.z 29 (by show 29 < 36; decide)
    clear hH HH hX q0 q1 q2
    go_wp2_with fail
    go_end0
    exact ⟨rfl, (hX4.set (o := 18) (by show 18 < 36; decide) _).set (o := 15) (by show 15 < 36; decide) _, (((KX.trans k4).mono (fun _ _ e => e.elim)).setA _ _).setA _ _⟩
set_option maxHeartbeats 1600000 in
set_option maxRecDepth 1000000 in
theorem found_wr_no (h : CT w c ab x) (ho : I64 x.object) (hs : x.status ≠ 1) {en : En} (hf : TB.fnd c.rs x.object = some en) (hv : en.ver ≠ x.current) :
    Calls Tryz.prog 111 #[.pointer (some ⟨ab, 0, none⟩)] w fun e w' => e = stale4 ∧ CL w' ab (x.cells c ab) ∧ Keeps (fun k => k = ab) w w' := by
  have hmf : ∀ (fn : Fn) (first cap : Array Value) (w : World), (Instr.makeFunc fn first cap).run Tryz.prog w = .ok (.func fn first cap) w := fun _ _ _ _ => rfl
  have hm := meets_no h.cl (bne_t hs)
  have hF := fun (W : World) (hW : CT W c ab x) => TB.find_any hW.tv ho
  rw [hf] at hF
  simp only [TB.evo, TB.erz, TB.ev] at hF
  have HH : Hid (∀ W : World, CL W ab (x.cells c ab) → Calls Tryz.prog 116 #[.pointer (some ⟨ab, 0, none⟩), .agg #[.int .i64 en.ob, .int .i64 en.ver, .int .i64 (en.ord : Int)]] W fun e w' => e = stale4 ∧ Keeps (fun _ => False) W w') := fun W hW => hold_no hW en.ob en.ver (en.ord : Int) (bne_t hv)
  have hc := h.cl
  have f17 := hc.c 17 _ rfl
  clear hs hf hc hv
  go_enter Tryz.func111, Tryz.ntmps111
  go_wp2_with fail
  refine hm.mono ?_
  rintro e w1 ⟨rfl, rfl⟩
  go_wp2_with fail
  have hEa : CL (w1.alloc (.cells #[.int .i64 0, .int .i64 0, .int .i64 0] 141)).drew w1.heap.size [.int .i64 0, .int .i64 0, .int .i64 0] := (CL.made w1 [.int .i64 0, .int .i64 0, .int .i64 0] _).drew
  have ka : Keeps (fun _ => False) w1 (w1.alloc (.cells #[.int .i64 0, .int .i64 0, .int .i64 0] 141)).drew := ((Keeps.refl _ w1).alloc _).drew
  have hXa := h.new ka
  have hFa := hF _ hXa
  have hFb := hF _ (h.new (Keeps.refl _ w1).drew)
  have lta : ab < w1.heap.size := h.lt
  have na : ¬ ab = w1.heap.size := by omega
  have na2 : ¬ w1.heap.size = ab := by omega
  clear hF hm
  go_region_held3 (fun w' => w'.cell? ⟨ab, 17, none⟩ = some (.int .i64 x.object)) (go_keep) (first | (go_at_call 83; (with_reducible refine hFa.mono ?_); rintro e w2 ⟨rfl, k2⟩; have h2 := (hXa.new k2).cl; have g17 := h2.c 17 _ rfl; have e2 := hEa.keep (by show 0 < 3; decide) k2 (fun e => e); have K2 := ka.trans k2; have e20 := e2.c 0 _ rfl; have e21 := e2.c 1 _ rfl; have e22 := e2.c 2 _ rfl; have ze20 := e2.z 0 (by show 0 < 3; decide); have ze21 := e2.z 1 (by show 1 < 3; decide); have ze22 := e2.z 2 (by show 2 < 3; decide)) | (go_at_call 83; (with_reducible refine hFb.mono ?_); rintro e w2 ⟨rfl, k2⟩; have h2 := ((h.new (Keeps.refl _ w1).drew).new k2).cl; have g17 := h2.c 17 _ rfl; have K2 := (Keeps.refl (fun _ => False) w1).drew.trans k2))
  · have hX := h2.alloc (by show 0 < 36; decide) (.cells #[.int .i64 en.ob, .int .i64 en.ver, .int .i64 (en.ord : Int)] 141)
    have KX := K2.alloc (.cells #[.int .i64 en.ob, .int .i64 en.ver, .int .i64 (en.ord : Int)] 141)
    have hQ := CL.made w2 [.int .i64 en.ob, .int .i64 en.ver, .int .i64 (en.ord : Int)] 141
    clear f17 g17 hEa hXa hFa hFb ka h2 k2 K2
    generalize w2.alloc (.cells #[.int .i64 en.ob, .int .i64 en.ver, .int .i64 (en.ord : Int)] 141) = w3 at *
    have q0 := hQ.c 0 _ rfl
    have q1 := hQ.c 1 _ rfl
    have q2 := hQ.c 2 _ rfl
    clear hQ
    have hH := HH.out _ hX
    go_wp2_with fail
    refine hH.mono ?_
    rintro e w4 ⟨rfl, k4⟩
    exact ⟨rfl, rfl, hX.keep (by show 0 < 36; decide) k4 (fun e => e), (KX.trans k4).mono (fun _ _ e => e.elim)⟩
  · have hX := ((h2.other (p := ⟨w1.heap.size, 0, none⟩) na2 (.int .i64 en.ob)).other (p := ⟨w1.heap.size, 1, none⟩) na2 (.int .i64 en.ver)).other (p := ⟨w1.heap.size, 2, none⟩) na2 (.int .i64 (en.ord : Int))
    have hQ : CL (((w2.setCell ⟨w1.heap.size, 0, none⟩ (.int .i64 en.ob)).setCell ⟨w1.heap.size, 1, none⟩ (.int .i64 en.ver)).setCell ⟨w1.heap.size, 2, none⟩ (.int .i64 (en.ord : Int))) w1.heap.size [.int .i64 en.ob, .int .i64 en.ver, .int .i64 (en.ord : Int)] := ((e2.set (o := 0) (by show 0 < 3; decide) (.int .i64 en.ob)).set (o := 1) (by show 1 < 3; decide) (.int .i64 en.ver)).set (o := 2) (by show 2 < 3; decide) (.int .i64 (en.ord : Int))
    have KX : Keeps (fun _ => False) w1 (((w2.setCell ⟨w1.heap.size, 0, none⟩ (.int .i64 en.ob)).setCell ⟨w1.heap.size, 1, none⟩ (.int .i64 en.ver)).setCell ⟨w1.heap.size, 2, none⟩ (.int .i64 (en.ord : Int))) := ((K2.setCell (fun e => absurd e (Nat.lt_irrefl _)) _).setCell (fun e => absurd e (Nat.lt_irrefl _)) _).setCell (fun e => absurd e (Nat.lt_irrefl _)) _
    clear f17 g17 hEa hXa hFa hFb ka h2 k2 K2 e2 e20 e21 e22 ze20 ze21 ze22
    generalize ((w2.setCell ⟨w1.heap.size, 0, none⟩ (.int .i64 en.ob)).setCell ⟨w1.heap.size, 1, none⟩ (.int .i64 en.ver)).setCell ⟨w1.heap.size, 2, none⟩ (.int .i64 (en.ord : Int)) = w3 at *
    have q0 := hQ.c 0 _ rfl
    have q1 := hQ.c 1 _ rfl
    have q2 := hQ.c 2 _ rfl
    clear hQ
    have hH := HH.out _ hX
    go_wp2_with fail
    refine hH.mono ?_
    rintro e w4 ⟨rfl, k4⟩
    exact ⟨rfl, rfl, hX.keep (by show 0 < 36; decide) k4 (fun e => e), (KX.trans k4).mono (fun _ _ e => e.elim)⟩
set_option maxHeartbeats 1600000 in
set_option maxRecDepth 1000000 in
theorem Fd.call (d : Fd) : ∀ (args : Array Value) (w : World), (callFunc d.no args).run Tryz.prog w = .ok (.enter d.no args) w := by cases d <;> exact fun _ _ => rfl
theorem fd_any (h : CT w c ab x) (ho : I64 x.object) {p : Nat} (hp : x.place = (p : Int)) (hp2 : p < 1000000000000) (d : Fd) :
    Calls Tryz.prog d.no #[.pointer (some ⟨ab, 0, none⟩)] w fun e w' => e = (x.fd c.rs d).en ∧ CL w' ab ((x.fd c.rs d).tx.cells c ab) ∧ Keeps (fun k => k = ab) w w' := by
  have ep : x.place.toNat = p := by omega
  cases d with
  | rd =>
    simp only [Tx.fd]
    split
    · rename_i hs; exact found_rd_meet h hs
    · rename_i hs; exact found_rd_go h hs
  | ck =>
    simp only [Tx.fd, ep]
    split
    · rename_i hv; exact found_ck_go h hp hp2 hv
    · rename_i hv; exact found_ck_no h hv
  | fi =>
    simp only [Tx.fd, ep]
    split
    · rename_i hs; exact found_fi_meet h hs
    · rename_i hs
      split
      · rename_i hv; exact found_fi_go h hs hp hp2 hv
      · rename_i hv; exact found_fi_no h hs hv
  | wr =>
    simp only [Tx.fd]
    split
    · rename_i hs; exact found_wr_meet h hs
    · rename_i hs
      cases hf : TB.fnd c.rs x.object with
      | none => exact found_wr_none h ho hs hf
      | some en =>
        simp only
        split
        · rename_i hv; exact found_wr_ok h ho hs hf hv
        · rename_i hv; exact found_wr_no h ho hs hf hv
end
end Go.Proofs.YtgjndhbfjofkeaaGreatDoor

