import Derived.Test.YteomlhcllmlkpaaGreatDoorTxA
import Derived.Test.YteomlhcllmlkpaaGreatDoorTxMap
import Derived.Test.YteomlhcllmlkpaaGreatDoorLocM
namespace Go.Proofs.YteomlhcllmlkpaaGreatDoor
open Go.RowKit
attribute [local go_sem] Oper.semAt_some run_store_nf run_store_f

/-- A row's numbers. -/
structure Ro where
  step : Int
  thread : Int
  job : Int
  try_ : Int
  no : Int
  kind : Int
  phase : Int
  object : Int
  entry : Int
  enemy : Int
  cell : Int
  seen : Int
  wrote : Int
  done : Bool
  abort : Bool
  timeout : Bool
  wait : Int
  told : Bool
  val : Vl
  puts : Bool
  put : Vl
  fin : Int
def Ro.cells (r : Ro) : List Value :=
  [.int .i64 r.step, .int .i64 r.thread, .int .i64 r.job, .int .i64 r.try_, .int .i64 r.no, .int .i64 r.kind, .int .i64 r.phase, .int .i64 r.object, .int .i64 r.entry, .int .i64 r.enemy, .int .i64 r.cell, .int .i64 r.seen, .int .i64 r.wrote,
   .bool r.done, .bool r.abort, .bool r.timeout, .int .i64 r.wait, .bool r.told, .int .i64 r.val.num, .int .i64 r.val.next, .bool r.val.dead, .bool r.puts, .int .i64 r.put.num, .int .i64 r.put.next, .bool r.put.dead, .int .i64 r.fin]
def Ro.zero : Ro := ⟨0, 0, 0, 0, 0, 0, 0, 0, 0, 0, 0, 0, 0, false, false, false, 0, false, vl0, false, vl0, 0⟩
def Tx.blank (x : Tx) : Ro := { Ro.zero with thread := x.thread, job := -1, no := x.no, phase := x.phase, object := -1, entry := -1, enemy := -1, cell := -1 }

/-- An attempt, its world and its memory. -/
structure AX (w : World) (ρ : Nat → Nat) (u j : Nat) (c : Sc) (ab : Nat) (x : Tx) (n : Nat) (f : Int → Option Nat) (s : Ws) (m : Mm) : Prop where
  st : St w ρ u j c.wb c.mb s m
  cl : CL w ab (x.cells c ab)
  om : OM w c.om n f
  ra : ρ ab = 0
  ro : ρ c.om = 0
  ne : c.om ≠ ab
/-- A row beside an attempt. -/
structure RX (w : World) (ρ : Nat → Nat) (c : Sc) (ab rb : Nat) (r : Ro) : Prop where
  cl : CL w rb r.cells
  rr : ρ rb = 0
  n1 : rb ≠ ab
  n2 : rb ≠ c.om
section
variable {w w' : World} {ρ ρ' : Nat → Nat} {u j : Nat} {c : Sc} {ab rb n n' : Nat} {x x' : Tx} {f f' : Int → Option Nat} {s s' : Ws} {m m' : Mm} {r r' : Ro}
theorem AX.far (h : AX w ρ u j c ab x n f s m) {B : Nat} (k : Keeps (fun i => i = B) w w') (hB : ρ B = 0) (h1 : B ≠ ab) (h2 : B ≠ c.om) : AX w' ρ u j c ab x n f s m :=
  ⟨h.st.wr k hB, h.cl.keep (by show 0 < 36; decide) k (fun e => h1 e.symm), h.om.keep k (fun e => h2 e.symm), h.ra, h.ro, h.ne⟩
theorem AX.new (h : AX w ρ u j c ab x n f s m) (k : Keeps (fun _ => False) w w') : AX w' ρ u j c ab x n f s m :=
  ⟨(h.st.new k).1, h.cl.keep (by show 0 < 36; decide) k (fun e => e), h.om.keep k (fun e => e), h.ra, h.ro, h.ne⟩
theorem AX.self (h : AX w ρ u j c ab x n f s m) (k : Keeps (fun i => i = ab) w w') (hc : CL w' ab (x'.cells c ab)) : AX w' ρ u j c ab x' n f s m :=
  ⟨h.st.wr k h.ra, hc, h.om.keep k h.ne, h.ra, h.ro, h.ne⟩
theorem AX.run (h : AX w ρ u j c ab x n f s m) (h' : St w' ρ' u j c.wb c.mb s' m') (e : Ext (Sr u j) w w' ρ ρ') : AX w' ρ' u j c ab x n f s' m' :=
  have h0 : ¬ Sr u j (ρ ab) := by rw [h.ra]; exact Sr.not0 h.st
  have h2 : ¬ Sr u j (ρ c.om) := by rw [h.ro]; exact Sr.not0 h.st
  ⟨h', h.cl.keep (by show 0 < 36; decide) e.keeps h0, h.om.keep e.keeps h2, (e.old _ (h.cl.lt (by show 0 < 36; decide))).trans h.ra, (e.old _ h.om.lt).trans h.ro, h.ne⟩
theorem AX.alt (h : AX w ρ u j c ab x n f s m) : ab < w.heap.size := h.cl.lt (by show 0 < 36; decide)
theorem RX.lt (h : RX w ρ c ab rb r) : rb < w.heap.size := h.cl.lt (by show 0 < 26; decide)
theorem RX.far (h : RX w ρ c ab rb r) {B : Nat} (k : Keeps (fun i => i = B) w w') (h1 : B ≠ rb) : RX w' ρ c ab rb r :=
  ⟨h.cl.keep (by show 0 < 26; decide) k (fun e => h1 e.symm), h.rr, h.n1, h.n2⟩
theorem RX.new (h : RX w ρ c ab rb r) (k : Keeps (fun _ => False) w w') : RX w' ρ c ab rb r :=
  ⟨h.cl.keep (by show 0 < 26; decide) k (fun e => e), h.rr, h.n1, h.n2⟩
theorem RX.self (h : RX w ρ c ab rb r) (hc : CL w' rb r'.cells) : RX w' ρ c ab rb r' := ⟨hc, h.rr, h.n1, h.n2⟩
theorem RX.run (h : RX w ρ c ab rb r) (hS : ¬ Sr u j 0) (e : Ext (Sr u j) w w' ρ ρ') : RX w' ρ' c ab rb r :=
  ⟨h.cl.keep (by show 0 < 26; decide) e.keeps (by rw [h.rr]; exact hS), (e.old _ h.lt).trans h.rr, h.n1, h.n2⟩

set_option maxHeartbeats 1600000 in
set_option maxRecDepth 1000000 in
theorem state_open (h : CL w ab (x.cells c ab)) (ha : x.alive = true) (hn : x.nx = none) :
    Calls Tryz.prog 28 #[.pointer (some ⟨ab, 0, none⟩)] w fun e w' => e = .returned (.int .i64 1) ∧ w' = w := by
  have f9 := h.c 9 _ rfl
  have f15 := h.c 15 _ rfl
  rw [ha] at f9
  rw [hn] at f15
  simp only [fnv] at f15
  clear h ha hn
  have hp : ∀ w : World, (binOp .eql 34 (.pointer (some ⟨ab, 0, none⟩)) (.pointer none)).run Tryz.prog w = .ok (.bool false) w := fun _ => rfl
  have hq : ∀ w : World, (binOp .eql 68 .nilFunc .nilFunc).run Tryz.prog w = .ok (.bool true) w := fun _ => rfl
  go_enter Tryz.func28, Tryz.ntmps28
  go_wp2
  go_ret
  exact ⟨rfl, rfl⟩
set_option maxHeartbeats 1600000 in
set_option maxRecDepth 1000000 in
theorem state_busy (h : CL w ab (x.cells c ab)) (ha : x.alive = true) {k : Nat} (hn : x.nx = some k) :
    Calls Tryz.prog 28 #[.pointer (some ⟨ab, 0, none⟩)] w fun e w' => e = .returned (.int .i64 2) ∧ w' = w := by
  have f9 := h.c 9 _ rfl
  have f15 := h.c 15 _ rfl
  rw [ha] at f9
  rw [hn] at f15
  simp only [fnv] at f15
  clear h ha hn
  have hp : ∀ w : World, (binOp .eql 34 (.pointer (some ⟨ab, 0, none⟩)) (.pointer none)).run Tryz.prog w = .ok (.bool false) w := fun _ => rfl
  have hq : ∀ w : World, (binOp .eql 68 (.func (.func k) #[.pointer (some ⟨ab, 0, none⟩)] #[]) .nilFunc).run Tryz.prog w = .ok (.bool false) w := fun _ => rfl
  go_enter Tryz.func28, Tryz.ntmps28
  go_wp2
  go_ret
  exact ⟨rfl, rfl⟩
set_option maxHeartbeats 1600000 in
set_option maxRecDepth 1000000 in
theorem refuses_no (h : CL w ab (x.cells c ab)) (ha : x.alive = true) (hn : x.nx = none) :
    Calls Tryz.prog 33 #[.pointer (some ⟨ab, 0, none⟩)] w fun e w' => e = .returned (.int .i64 0) ∧ w' = w := by
  have hs := state_open h ha hn
  clear h ha hn
  go_enter Tryz.func33, Tryz.ntmps33
  go_wp2_with (go_at_call 28; refine hs.mono ?_; clear hs; rintro e w1 ⟨rfl, rfl⟩)
  go_ret
  exact ⟨rfl, rfl⟩
set_option maxHeartbeats 1600000 in
set_option maxRecDepth 1000000 in
theorem refobj_no (h : AX w ρ u j c ab x n f s m) (ha : x.alive = true) (hn : x.nx = none) {o : Nat} (ho : o < s.objs.length) :
    Calls Tryz.prog 22 #[.pointer (some ⟨ab, 0, none⟩), .int .i64 (o : Int)] w fun e w' => e = .returned (.int .i64 0) ∧ w' = w := by
  have hs := refuses_no h.cl ha hn
  have hO := objects_any h.st
  have h := h.cl
  have f1 := h.c 1 _ rfl
  have g1 : ¬ ((o : Int) < 0) := by omega
  have g2 : decide ((s.objs.length : Int) ≤ (o : Int)) = false := decide_eq_false (by omega)
  have g3 : ¬ ((s.objs.length : Int) ≤ (o : Int)) := by omega
  have g4 : decide (s.objs.length ≤ o) = false := decide_eq_false (by omega)
  clear h ha hn ho
  go_enter Tryz.func22, Tryz.ntmps22
  go_wp2_with (first | (go_at_call 33; refine hs.mono ?_; clear hs; rintro e w1 ⟨rfl, rfl⟩) | (go_at_call 35; refine hO.mono ?_; clear hO; rintro e w1 ⟨rfl, rfl⟩))
  go_ret
  exact ⟨rfl, rfl⟩
set_option maxHeartbeats 1600000 in
set_option maxRecDepth 1000000 in
theorem owns_any (h : AX w ρ u j c ab x n f s m) {o : Int} (ho : I64 o) :
    Calls Tryz.prog 24 #[.pointer (some ⟨ab, 0, none⟩), .int .i64 o] w fun e w' => e = .returned (.bool (f o).isSome) ∧ w' = w := by
  have hl := h.om.look ho
  have h := h.cl
  have f14 := h.c 14 _ rfl
  clear h
  have hp : ∀ w : World, (binOp .eql 34 (.pointer (some ⟨ab, 0, none⟩)) (.pointer none)).run Tryz.prog w = .ok (.bool false) w := fun _ => rfl
  go_enter Tryz.func24, Tryz.ntmps24
  go_wp2
  go_ret
  exact ⟨rfl, rfl⟩
/-- The row says where one looks. -/
def Ro.at_ (r : Ro) (x : Tx) : Ro := { r with object := x.aob, entry := x.aord }
set_option maxHeartbeats 1600000 in
set_option maxRecDepth 1000000 in
theorem at_any (h : CL w ab (x.cells c ab)) (hr : CL w rb r.cells) (hne : rb ≠ ab) :
    Calls Tryz.prog 74 #[.pointer (some ⟨ab, 0, none⟩), .pointer (some ⟨rb, 0, none⟩)] w fun e w' => e = .returned (.tuple #[]) ∧ CL w' rb (r.at_ x).cells ∧ Keeps (fun k => k = rb) w w' := by
  have f22 := h.c 22 _ rfl
  have f24 := h.c 24 _ rfl
  have r7 := hr.c 7 _ rfl
  have zr7 := hr.z 7 (by show 7 < 26; decide)
  have r8 := hr.c 8 _ rfl
  have zr8 := hr.z 8 (by show 8 < 26; decide)
  go_enter Tryz.func74, Tryz.ntmps74
  go_region_held3 (fun w' => w'.cell? ⟨ab, 22, none⟩ = some (.int .i64 x.aob) ∧ w'.cell? ⟨ab, 24, none⟩ = some (.int .i64 x.aord)) (go_keep) (fail)
  go_end0
  exact ⟨rfl, ((hr.set (o := 7) (by show 7 < 26; decide) _).set (o := 8) (by show 8 < 26; decide) _).drew, (((Keeps.refl _ w).setA _ _).setA _ _).drew⟩
end
end Go.Proofs.YteomlhcllmlkpaaGreatDoor
