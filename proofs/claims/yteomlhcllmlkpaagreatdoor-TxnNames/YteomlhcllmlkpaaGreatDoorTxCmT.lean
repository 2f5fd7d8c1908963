import Derived.Test.YteomlhcllmlkpaaGreatDoorTxCmG
import Derived.Test.YteomlhcllmlkpaaGreatDoorCmLaid
namespace Go.Proofs.YteomlhcllmlkpaaGreatDoor
open Go.RowKit
theorem results_cell1t {fn : Func} {p : Tmp} {ty : TypeId} (h : fn.results = #[.cell p ty]) (tmps : Array Value) (P : Program) (w : World) :
    (results fn tmps).run P w = ((asAddr (tmps.getD p undef)).run P w).andThen fun a w₁ => (loadVar ty a).run P w₁ := by
  simp only [results, h]
  simp [Sem.run_bind, Result.andThen]
theorem kindOf0 (w : World) (p : Int) : Calls Tryz.prog 158 #[.agg #[.int .i64 p]] w fun e w' => e = .returned (.int .i64 0) ∧ Keeps (fun _ => False) w w' := by
  go_enter Tryz.func158, Tryz.ntmps158
  go_wp2
  go_ret
  exact ⟨rfl, by first | exact (Keeps.refl _ w).alloc _ | exact Keeps.refl _ w⟩
set_option maxHeartbeats 1600000 in
set_option maxRecDepth 1000000 in
theorem trait0 {w : World} {mb : Nat} {p : Int} (hm : w.cell? ⟨mb, 0, none⟩ = some (.iface 154 (.agg #[.int .i64 p]))) (hT : TR w) :
    Calls Tryz.prog 44 #[.pointer (some ⟨mb, 0, none⟩)] w fun e w' => e = .returned (.agg #[.string (nmT 0), .int .i64 (lkT 0), .bool (kpT 0), .bool (flT 0)]) ∧ Keeps (fun _ => False) w w' := by
  obtain ⟨w0, hw0⟩ : ∃ w0, w0 = w.alloc (.cells #[.string ⟨#[]⟩, .int .i64 0, .bool false, .bool false] 125) := ⟨_, rfl⟩
  have K0 : Keeps (fun _ => False) w w0 := by rw [hw0]; exact (Keeps.refl _ w).alloc _
  have m0 := K0.cell hm id
  have hi := isNone_no m0
  have hme : ∀ w : World, (method 328 154 (.agg #[.int .i64 p]) "braid/cm.kind").run Tryz.prog w = .ok (158, .agg #[.int .i64 p]) w := fun _ => by kernel_rfl
  have b0 : w0.cell? ⟨w.heap.size, 0, none⟩ = some (.string ⟨#[]⟩) := by rw [hw0]; simp
  have b1 : w0.cell? ⟨w.heap.size, 1, none⟩ = some (.int .i64 0) := by rw [hw0]; simp
  have b2 : w0.cell? ⟨w.heap.size, 2, none⟩ = some (.bool false) := by rw [hw0]; simp
  have b3 : w0.cell? ⟨w.heap.size, 3, none⟩ = some (.bool false) := by rw [hw0]; simp
  have zz : ∀ o, w0.frozen? ⟨w.heap.size, o, none⟩ = false := by intro o; rw [hw0]; simp
  have hs : w.heap.size < w0.heap.size := World.block_lt_of_cell? _ _ b0
  have hTk : ∀ W, Keeps (fun _ => False) w W → W.cell? ⟨0, 0, none⟩ = some (.string (nmT 0)) ∧ W.cell? ⟨0, 1, none⟩ = some (.int .i64 (lkT 0)) ∧ W.cell? ⟨0, 2, none⟩ = some (.bool (kpT 0)) ∧ W.cell? ⟨0, 3, none⟩ = some (.bool (flT 0)) := fun W kk => (hT.keep kk) 0 (by omega)
  generalize nmT 0 = n at *
  generalize lkT 0 = l at *
  generalize kpT 0 = kp at *
  generalize flT 0 = fl at *
  go_enter Tryz.func44, Tryz.ntmps44
  go_wp2_with fail
  rw [← hw0]
  clear hw0
  refine hi.mono ?_
  clear hi
  rintro e w1 ⟨rfl, rfl⟩
  go_wp2_with fail
  refine (kindOf0 _ _).mono ?_
  rintro e w2 ⟨rfl, k2⟩
  obtain ⟨t0, t1, t2, t3⟩ := hTk _ (K0.trans k2)
  have c0 := k2.cell b0 id
  have c1 := k2.cell b1 id
  have c2 := k2.cell b2 id
  have c3 := k2.cell b3 id
  have z0 := (k2.frozen (p := ⟨w.heap.size, 0, none⟩) hs id).trans (zz 0)
  have z1 := (k2.frozen (p := ⟨w.heap.size, 1, none⟩) hs id).trans (zz 1)
  have z2 := (k2.frozen (p := ⟨w.heap.size, 2, none⟩) hs id).trans (zz 2)
  have z3 := (k2.frozen (p := ⟨w.heap.size, 3, none⟩) hs id).trans (zz 3)
  have KK := K0.trans k2
  clear zz b0 b1 b2 b3 hT m0 K0 k2
  go_wp2_with fail
  have nl : ∀ o, (⟨w.heap.size, o, none⟩ : Addr).block < w.heap.size → False := fun o h => Nat.lt_irrefl _ h
  refine bodyPost_ret (v := .agg #[.string n, .int .i64 l, .bool kp, .bool fl]) ?_ rfl ⟨rfl, (((KK.setCell (p := ⟨w.heap.size, 0, none⟩) (nl 0) _).setCell (p := ⟨w.heap.size, 1, none⟩) (nl 1) _).setCell (p := ⟨w.heap.size, 2, none⟩) (nl 2) _).setCell (p := ⟨w.heap.size, 3, none⟩) (nl 3) _⟩
  rw [results_cell1t rfl]
  go_simp
theorem kindOf1 (w : World) (p : Int) : Calls Tryz.prog 164 #[.agg #[.int .i64 p]] w fun e w' => e = .returned (.int .i64 1) ∧ Keeps (fun _ => False) w w' := by
  go_enter Tryz.func164, Tryz.ntmps164
  go_wp2
  go_ret
  exact ⟨rfl, by first | exact (Keeps.refl _ w).alloc _ | exact Keeps.refl _ w⟩
set_option maxHeartbeats 1600000 in
set_option maxRecDepth 1000000 in
theorem trait1 {w : World} {mb : Nat} {p : Int} (hm : w.cell? ⟨mb, 0, none⟩ = some (.iface 155 (.agg #[.int .i64 p]))) (hT : TR w) :
    Calls Tryz.prog 44 #[.pointer (some ⟨mb, 0, none⟩)] w fun e w' => e = .returned (.agg #[.string (nmT 1), .int .i64 (lkT 1), .bool (kpT 1), .bool (flT 1)]) ∧ Keeps (fun _ => False) w w' := by
  obtain ⟨w0, hw0⟩ : ∃ w0, w0 = w.alloc (.cells #[.string ⟨#[]⟩, .int .i64 0, .bool false, .bool false] 125) := ⟨_, rfl⟩
  have K0 : Keeps (fun _ => False) w w0 := by rw [hw0]; exact (Keeps.refl _ w).alloc _
  have m0 := K0.cell hm id
  have hi := isNone_no m0
  have hme : ∀ w : World, (method 328 155 (.agg #[.int .i64 p]) "braid/cm.kind").run Tryz.prog w = .ok (164, .agg #[.int .i64 p]) w := fun _ => by kernel_rfl
  have b0 : w0.cell? ⟨w.heap.size, 0, none⟩ = some (.string ⟨#[]⟩) := by rw [hw0]; simp
  have b1 : w0.cell? ⟨w.heap.size, 1, none⟩ = some (.int .i64 0) := by rw [hw0]; simp
  have b2 : w0.cell? ⟨w.heap.size, 2, none⟩ = some (.bool false) := by rw [hw0]; simp
  have b3 : w0.cell? ⟨w.heap.size, 3, none⟩ = some (.bool false) := by rw [hw0]; simp
  have zz : ∀ o, w0.frozen? ⟨w.heap.size, o, none⟩ = false := by intro o; rw [hw0]; simp
  have hs : w.heap.size < w0.heap.size := World.block_lt_of_cell? _ _ b0
  have hTk : ∀ W, Keeps (fun _ => False) w W → W.cell? ⟨0, 4, none⟩ = some (.string (nmT 1)) ∧ W.cell? ⟨0, 5, none⟩ = some (.int .i64 (lkT 1)) ∧ W.cell? ⟨0, 6, none⟩ = some (.bool (kpT 1)) ∧ W.cell? ⟨0, 7, none⟩ = some (.bool (flT 1)) := fun W kk => (hT.keep kk) 1 (by omega)
  generalize nmT 1 = n at *
  generalize lkT 1 = l at *
  generalize kpT 1 = kp at *
  generalize flT 1 = fl at *
  go_enter Tryz.func44, Tryz.ntmps44
  go_wp2_with fail
  rw [← hw0]
  clear hw0
  refine hi.mono ?_
  clear hi
  rintro e w1 ⟨rfl, rfl⟩
  go_wp2_with fail
  refine (kindOf1 _ _).mono ?_
  rintro e w2 ⟨rfl, k2⟩
  obtain ⟨t0, t1, t2, t3⟩ := hTk _ (K0.trans k2)
  have c0 := k2.cell b0 id
  have c1 := k2.cell b1 id
  have c2 := k2.cell b2 id
  have c3 := k2.cell b3 id
  have z0 := (k2.frozen (p := ⟨w.heap.size, 0, none⟩) hs id).trans (zz 0)
  have z1 := (k2.frozen (p := ⟨w.heap.size, 1, none⟩) hs id).trans (zz 1)
  have z2 := (k2.frozen (p := ⟨w.heap.size, 2, none⟩) hs id).trans (zz 2)
  have z3 := (k2.frozen (p := ⟨w.heap.size, 3, none⟩) hs id).trans (zz 3)
  have KK := K0.trans k2
  clear zz b0 b1 b2 b3 hT m0 K0 k2
  go_wp2_with fail
  have nl : ∀ o, (⟨w.heap.size, o, none⟩ : Addr).block < w.heap.size → False := fun o h => Nat.lt_irrefl _ h
  refine bodyPost_ret (v := .agg #[.string n, .int .i64 l, .bool kp, .bool fl]) ?_ rfl ⟨rfl, (((KK.setCell (p := ⟨w.heap.size, 0, none⟩) (nl 0) _).setCell (p := ⟨w.heap.size, 1, none⟩) (nl 1) _).setCell (p := ⟨w.heap.size, 2, none⟩) (nl 2) _).setCell (p := ⟨w.heap.size, 3, none⟩) (nl 3) _⟩
  rw [results_cell1t rfl]
  go_simp
theorem kindOf2 (w : World) (p : Int) : Calls Tryz.prog 168 #[.agg #[.int .i64 p]] w fun e w' => e = .returned (.int .i64 2) ∧ Keeps (fun _ => False) w w' := by
  go_enter Tryz.func168, Tryz.ntmps168
  go_wp2
  go_ret
  exact ⟨rfl, by first | exact (Keeps.refl _ w).alloc _ | exact Keeps.refl _ w⟩
set_option maxHeartbeats 1600000 in
set_option maxRecDepth 1000000 in
theorem trait2 {w : World} {mb : Nat} {p : Int} (hm : w.cell? ⟨mb, 0, none⟩ = some (.iface 156 (.agg #[.int .i64 p]))) (hT : TR w) :
    Calls Tryz.prog 44 #[.pointer (some ⟨mb, 0, none⟩)] w fun e w' => e = .returned (.agg #[.string (nmT 2), .int .i64 (lkT 2), .bool (kpT 2), .bool (flT 2)]) ∧ Keeps (fun _ => False) w w' := by
  obtain ⟨w0, hw0⟩ : ∃ w0, w0 = w.alloc (.cells #[.string ⟨#[]⟩, .int .i64 0, .bool false, .bool false] 125) := ⟨_, rfl⟩
  have K0 : Keeps (fun _ => False) w w0 := by rw [hw0]; exact (Keeps.refl _ w).alloc _
  have m0 := K0.cell hm id
  have hi := isNone_no m0
  have hme : ∀ w : World, (method 328 156 (.agg #[.int .i64 p]) "braid/cm.kind").run Tryz.prog w = .ok (168, .agg #[.int .i64 p]) w := fun _ => by kernel_rfl
  have b0 : w0.cell? ⟨w.heap.size, 0, none⟩ = some (.string ⟨#[]⟩) := by rw [hw0]; simp
  have b1 : w0.cell? ⟨w.heap.size, 1, none⟩ = some (.int .i64 0) := by rw [hw0]; simp
  have b2 : w0.cell? ⟨w.heap.size, 2, none⟩ = some (.bool false) := by rw [hw0]; simp
  have b3 : w0.cell? ⟨w.heap.size, 3, none⟩ = some (.bool false) := by rw [hw0]; simp
  have zz : ∀ o, w0.frozen? ⟨w.heap.size, o, none⟩ = false := by intro o; rw [hw0]; simp
  have hs : w.heap.size < w0.heap.size := World.block_lt_of_cell? _ _ b0
  have hTk : ∀ W, Keeps (fun _ => False) w W → W.cell? ⟨0, 8, none⟩ = some (.string (nmT 2)) ∧ W.cell? ⟨0, 9, none⟩ = some (.int .i64 (lkT 2)) ∧ W.cell? ⟨0, 10, none⟩ = some (.bool (kpT 2)) ∧ W.cell? ⟨0, 11, none⟩ = some (.bool (flT 2)) := fun W kk => (hT.keep kk) 2 (by omega)
  generalize nmT 2 = n at *
  generalize lkT 2 = l at *
  generalize kpT 2 = kp at *
  generalize flT 2 = fl at *
  go_enter Tryz.func44, Tryz.ntmps44
  go_wp2_with fail
  rw [← hw0]
  clear hw0
  refine hi.mono ?_
  clear hi
  rintro e w1 ⟨rfl, rfl⟩
  go_wp2_with fail
  refine (kindOf2 _ _).mono ?_
  rintro e w2 ⟨rfl, k2⟩
  obtain ⟨t0, t1, t2, t3⟩ := hTk _ (K0.trans k2)
  have c0 := k2.cell b0 id
  have c1 := k2.cell b1 id
  have c2 := k2.cell b2 id
  have c3 := k2.cell b3 id
  have z0 := (k2.frozen (p := ⟨w.heap.size, 0, none⟩) hs id).trans (zz 0)
  have z1 := (k2.frozen (p := ⟨w.heap.size, 1, none⟩) hs id).trans (zz 1)
  have z2 := (k2.frozen (p := ⟨w.heap.size, 2, none⟩) hs id).trans (zz 2)
  have z3 := (k2.frozen (p := ⟨w.heap.size, 3, none⟩) hs id).trans (zz 3)
  have KK := K0.trans k2
  clear zz b0 b1 b2 b3 hT m0 K0 k2
  go_wp2_with fail
  have nl : ∀ o, (⟨w.heap.size, o, none⟩ : Addr).block < w.heap.size → False := fun o h => Nat.lt_irrefl _ h
  refine bodyPost_ret (v := .agg #[.string n, .int .i64 l, .bool kp, .bool fl]) ?_ rfl ⟨rfl, (((KK.setCell (p := ⟨w.heap.size, 0, none⟩) (nl 0) _).setCell (p := ⟨w.heap.size, 1, none⟩) (nl 1) _).setCell (p := ⟨w.heap.size, 2, none⟩) (nl 2) _).setCell (p := ⟨w.heap.size, 3, none⟩) (nl 3) _⟩
  rw [results_cell1t rfl]
  go_simp
theorem kindOf3 (w : World) (p : Int) : Calls Tryz.prog 170 #[.agg #[.int .i64 p]] w fun e w' => e = .returned (.int .i64 3) ∧ Keeps (fun _ => False) w w' := by
  go_enter Tryz.func170, Tryz.ntmps170
  go_wp2
  go_ret
  exact ⟨rfl, by first | exact (Keeps.refl _ w).alloc _ | exact Keeps.refl _ w⟩
set_option maxHeartbeats 1600000 in
set_option maxRecDepth 1000000 in
theorem trait3 {w : World} {mb : Nat} {p : Int} (hm : w.cell? ⟨mb, 0, none⟩ = some (.iface 157 (.agg #[.int .i64 p]))) (hT : TR w) :
    Calls Tryz.prog 44 #[.pointer (some ⟨mb, 0, none⟩)] w fun e w' => e = .returned (.agg #[.string (nmT 3), .int .i64 (lkT 3), .bool (kpT 3), .bool (flT 3)]) ∧ Keeps (fun _ => False) w w' := by
  obtain ⟨w0, hw0⟩ : ∃ w0, w0 = w.alloc (.cells #[.string ⟨#[]⟩, .int .i64 0, .bool false, .bool false] 125) := ⟨_, rfl⟩
  have K0 : Keeps (fun _ => False) w w0 := by rw [hw0]; exact (Keeps.refl _ w).alloc _
  have m0 := K0.cell hm id
  have hi := isNone_no m0
  have hme : ∀ w : World, (method 328 157 (.agg #[.int .i64 p]) "braid/cm.kind").run Tryz.prog w = .ok (170, .agg #[.int .i64 p]) w := fun _ => by kernel_rfl
  have b0 : w0.cell? ⟨w.heap.size, 0, none⟩ = some (.string ⟨#[]⟩) := by rw [hw0]; simp
  have b1 : w0.cell? ⟨w.heap.size, 1, none⟩ = some (.int .i64 0) := by rw [hw0]; simp
  have b2 : w0.cell? ⟨w.heap.size, 2, none⟩ = some (.bool false) := by rw [hw0]; simp
  have b3 : w0.cell? ⟨w.heap.size, 3, none⟩ = some (.bool false) := by rw [hw0]; simp
  have zz : ∀ o, w0.frozen? ⟨w.heap.size, o, none⟩ = false := by intro o; rw [hw0]; simp
  have hs : w.heap.size < w0.heap.size := World.block_lt_of_cell? _ _ b0
  have hTk : ∀ W, Keeps (fun _ => False) w W → W.cell? ⟨0, 12, none⟩ = some (.string (nmT 3)) ∧ W.cell? ⟨0, 13, none⟩ = some (.int .i64 (lkT 3)) ∧ W.cell? ⟨0, 14, none⟩ = some (.bool (kpT 3)) ∧ W.cell? ⟨0, 15, none⟩ = some (.bool (flT 3)) := fun W kk => (hT.keep kk) 3 (by omega)
  generalize nmT 3 = n at *
  generalize lkT 3 = l at *
  generalize kpT 3 = kp at *
  generalize flT 3 = fl at *
  go_enter Tryz.func44, Tryz.ntmps44
  go_wp2_with fail
  rw [← hw0]
  clear hw0
  refine hi.mono ?_
  clear hi
  rintro e w1 ⟨rfl, rfl⟩
  go_wp2_with fail
  refine (kindOf3 _ _).mono ?_
  rintro e w2 ⟨rfl, k2⟩
  obtain ⟨t0, t1, t2, t3⟩ := hTk _ (K0.trans k2)
  have c0 := k2.cell b0 id
  have c1 := k2.cell b1 id
  have c2 := k2.cell b2 id
  have c3 := k2.cell b3 id
  have z0 := (k2.frozen (p := ⟨w.heap.size, 0, none⟩) hs id).trans (zz 0)
  have z1 := (k2.frozen (p := ⟨w.heap.size, 1, none⟩) hs id).trans (zz 1)
  have z2 := (k2.frozen (p := ⟨w.heap.size, 2, none⟩) hs id).trans (zz 2)
  have z3 := (k2.frozen (p := ⟨w.heap.size, 3, none⟩) hs id).trans (zz 3)
  have KK := K0.trans k2
  clear zz b0 b1 b2 b3 hT m0 K0 k2
  go_wp2_with fail
  have nl : ∀ o, (⟨w.heap.size, o, none⟩ : Addr).block < w.heap.size → False := fun o h => Nat.lt_irrefl _ h
  refine bodyPost_ret (v := .agg #[.string n, .int .i64 l, .bool kp, .bool fl]) ?_ rfl ⟨rfl, (((KK.setCell (p := ⟨w.heap.size, 0, none⟩) (nl 0) _).setCell (p := ⟨w.heap.size, 1, none⟩) (nl 1) _).setCell (p := ⟨w.heap.size, 2, none⟩) (nl 2) _).setCell (p := ⟨w.heap.size, 3, none⟩) (nl 3) _⟩
  rw [results_cell1t rfl]
  go_simp
theorem kindOf4 (w : World) (p : Int) : Calls Tryz.prog 172 #[.agg #[.int .i64 p]] w fun e w' => e = .returned (.int .i64 4) ∧ Keeps (fun _ => False) w w' := by
  go_enter Tryz.func172, Tryz.ntmps172
  go_wp2
  go_ret
  exact ⟨rfl, by first | exact (Keeps.refl _ w).alloc _ | exact Keeps.refl _ w⟩
set_option maxHeartbeats 1600000 in
set_option maxRecDepth 1000000 in
theorem trait4 {w : World} {mb : Nat} {p : Int} (hm : w.cell? ⟨mb, 0, none⟩ = some (.iface 159 (.agg #[.int .i64 p]))) (hT : TR w) :
    Calls Tryz.prog 44 #[.pointer (some ⟨mb, 0, none⟩)] w fun e w' => e = .returned (.agg #[.string (nmT 4), .int .i64 (lkT 4), .bool (kpT 4), .bool (flT 4)]) ∧ Keeps (fun _ => False) w w' := by
  obtain ⟨w0, hw0⟩ : ∃ w0, w0 = w.alloc (.cells #[.string ⟨#[]⟩, .int .i64 0, .bool false, .bool false] 125) := ⟨_, rfl⟩
  have K0 : Keeps (fun _ => False) w w0 := by rw [hw0]; exact (Keeps.refl _ w).alloc _
  have m0 := K0.cell hm id
  have hi := isNone_no m0
  have hme : ∀ w : World, (method 328 159 (.agg #[.int .i64 p]) "braid/cm.kind").run Tryz.prog w = .ok (172, .agg #[.int .i64 p]) w := fun _ => by kernel_rfl
  have b0 : w0.cell? ⟨w.heap.size, 0, none⟩ = some (.string ⟨#[]⟩) := by rw [hw0]; simp
  have b1 : w0.cell? ⟨w.heap.size, 1, none⟩ = some (.int .i64 0) := by rw [hw0]; simp
  have b2 : w0.cell? ⟨w.heap.size, 2, none⟩ = some (.bool false) := by rw [hw0]; simp
  have b3 : w0.cell? ⟨w.heap.size, 3, none⟩ = some (.bool false) := by rw [hw0]; simp
  have zz : ∀ o, w0.frozen? ⟨w.heap.size, o, none⟩ = false := by intro o; rw [hw0]; simp
  have hs : w.heap.size < w0.heap.size := World.block_lt_of_cell? _ _ b0
  have hTk : ∀ W, Keeps (fun _ => False) w W → W.cell? ⟨0, 16, none⟩ = some (.string (nmT 4)) ∧ W.cell? ⟨0, 17, none⟩ = some (.int .i64 (lkT 4)) ∧ W.cell? ⟨0, 18, none⟩ = some (.bool (kpT 4)) ∧ W.cell? ⟨0, 19, none⟩ = some (.bool (flT 4)) := fun W kk => (hT.keep kk) 4 (by omega)
  generalize nmT 4 = n at *
  generalize lkT 4 = l at *
  generalize kpT 4 = kp at *
  generalize flT 4 = fl at *
  go_enter Tryz.func44, Tryz.ntmps44
  go_wp2_with fail
  rw [← hw0]
  clear hw0
  refine hi.mono ?_
  clear hi
  rintro e w1 ⟨rfl, rfl⟩
  go_wp2_with fail
  refine (kindOf4 _ _).mono ?_
  rintro e w2 ⟨rfl, k2⟩
  obtain ⟨t0, t1, t2, t3⟩ := hTk _ (K0.trans k2)
  have c0 := k2.cell b0 id
  have c1 := k2.cell b1 id
  have c2 := k2.cell b2 id
  have c3 := k2.cell b3 id
  have z0 := (k2.frozen (p := ⟨w.heap.size, 0, none⟩) hs id).trans (zz 0)
  have z1 := (k2.frozen (p := ⟨w.heap.size, 1, none⟩) hs id).trans (zz 1)
  have z2 := (k2.frozen (p := ⟨w.heap.size, 2, none⟩) hs id).trans (zz 2)
  have z3 := (k2.frozen (p := ⟨w.heap.size, 3, none⟩) hs id).trans (zz 3)
  have KK := K0.trans k2
  clear zz b0 b1 b2 b3 hT m0 K0 k2
  go_wp2_with fail
  have nl : ∀ o, (⟨w.heap.size, o, none⟩ : Addr).block < w.heap.size → False := fun o h => Nat.lt_irrefl _ h
  refine bodyPost_ret (v := .agg #[.string n, .int .i64 l, .bool kp, .bool fl]) ?_ rfl ⟨rfl, (((KK.setCell (p := ⟨w.heap.size, 0, none⟩) (nl 0) _).setCell (p := ⟨w.heap.size, 1, none⟩) (nl 1) _).setCell (p := ⟨w.heap.size, 2, none⟩) (nl 2) _).setCell (p := ⟨w.heap.size, 3, none⟩) (nl 3) _⟩
  rw [results_cell1t rfl]
  go_simp
theorem trait_any {w : World} {mb k : Nat} {p : Int} (h : Mg w mb k p) (hT : TR w) : Calls Tryz.prog 44 #[.pointer (some ⟨mb, 0, none⟩)] w fun e w' => e = .returned (.agg #[.string (nmT k), .int .i64 (lkT k), .bool (kpT k), .bool (flT k)]) ∧ Keeps (fun _ => False) w w' := by
  obtain ⟨hk, _, hm⟩ := h
  match k, hk with
  | 0, _ => exact trait0 hm hT
  | 1, _ => exact trait1 hm hT
  | 2, _ => exact trait2 hm hT
  | 3, _ => exact trait3 hm hT
  | 4, _ => exact trait4 hm hT
theorem mLook {w : World} {mb k : Nat} {p : Int} (h : Mg w mb k p) (hT : TR w) : Calls Tryz.prog 121 #[.pointer (some ⟨mb, 0, none⟩)] w fun e w' => e = .returned (.int .i64 (lkT k)) ∧ Keeps (fun _ => False) w w' := by
  have hi := trait_any h hT
  generalize nmT k = n at *
  generalize lkT k = l at *
  generalize kpT k = a at *
  generalize flT k = c at *
  have hfld : ∀ w' : World, (Instr.field 125 (.agg #[.string n, .int .i64 l, .bool a, .bool c]) 1).run Tryz.prog w' = .ok (.int .i64 l) w' := fun _ => by kernel_rfl
  go_enter Tryz.func121, Tryz.ntmps121
  go_wp2_with (go_at_call 44; refine hi.mono ?_; rintro e w1 ⟨rfl, k1⟩)
  go_ret
  exact ⟨rfl, k1⟩
theorem mKeeps {w : World} {mb k : Nat} {p : Int} (h : Mg w mb k p) (hT : TR w) : Calls Tryz.prog 19 #[.pointer (some ⟨mb, 0, none⟩)] w fun e w' => e = .returned (.bool (kpT k)) ∧ Keeps (fun _ => False) w w' := by
  have hi := trait_any h hT
  generalize nmT k = n at *
  generalize lkT k = l at *
  generalize kpT k = a at *
  generalize flT k = c at *
  have hfld : ∀ w' : World, (Instr.field 125 (.agg #[.string n, .int .i64 l, .bool a, .bool c]) 2).run Tryz.prog w' = .ok (.bool a) w' := fun _ => by kernel_rfl
  go_enter Tryz.func19, Tryz.ntmps19
  go_wp2_with (go_at_call 44; refine hi.mono ?_; rintro e w1 ⟨rfl, k1⟩)
  go_ret
  exact ⟨rfl, k1⟩
theorem mFlags {w : World} {mb k : Nat} {p : Int} (h : Mg w mb k p) (hT : TR w) : Calls Tryz.prog 127 #[.pointer (some ⟨mb, 0, none⟩)] w fun e w' => e = .returned (.bool (flT k)) ∧ Keeps (fun _ => False) w w' := by
  have hi := trait_any h hT
  generalize nmT k = n at *
  generalize lkT k = l at *
  generalize kpT k = a at *
  generalize flT k = c at *
  have hfld : ∀ w' : World, (Instr.field 125 (.agg #[.string n, .int .i64 l, .bool a, .bool c]) 3).run Tryz.prog w' = .ok (.bool c) w' := fun _ => by kernel_rfl
  go_enter Tryz.func127, Tryz.ntmps127
  go_wp2_with (go_at_call 44; refine hi.mono ?_; rintro e w1 ⟨rfl, k1⟩)
  go_ret
  exact ⟨rfl, k1⟩
end Go.Proofs.YteomlhcllmlkpaaGreatDoor
