import Derived.Test.YtgjndhbfjofkeaaGreatDoorG10
import Derived.Test.YtgjndhbfjofkeaaGreatDoorG04
namespace Go.Proofs.YtgjndhbfjofkeaaGreatDoor
open Go.RowKit
attribute [local go_sem] Oper.semAt_some run_store_nf run_store_f
structure Ro where
  step : Int
  thread : Int
  job : Int
  try_ : Int
  no : Int
  kind : Int
  phase : Int
  object : Int
  entry : Int
  enemy : Int
  cell : Int
  seen : Int
  wrote : Int
  done : Bool
  abort : Bool
  timeout : Bool
  wait : Int
  told : Bool
  val : Vl
  puts : Bool
  put : Vl
  fin : Int
def Ro.cells (r : Ro) : List Value :=
  [.int .i64 r.step, .int .i64 r.thread, .int .i64 r.job, .int .i64 r.try_, .int .i64 r.no, .int .i64 r.kind, .int .i64 r.phase, .int .i64 r.object, .int .i64 r.entry, .int .i64 r.enemy, .int .i64 r.cell, .int .i64 r.seen, .int .i64 r.wrote,
   .bool r.done, .bool r.abort, .bool r.timeout, .int .i64 r.wait, .bool r.told, .int .i64 r.val.num, .int .i64 r.val.next, .bool r.val.dead, .bool r.puts, .int .i64 r.put.num, .int .i64 r.put.next, .bool r.put.dead, .int .i64 r.fin]
def Ro.zero : Ro := ⟨0, 0, 0, 0, 0, 0, 0, 0, 0, 0, 0, 0, 0, false, false, false, 0, false, vl0, false, vl0, 0⟩
def Tx.blank (x : Tx) : Ro := { Ro.zero with thread := x.thread, job := -1, no := x.no, phase := x.phase, object := -1, entry := -1, enemy := -1, cell := -1 }
def Sc.Q (c : Sc) (k : Nat) : Prop := k = c.om ∨ c.ve.ownBlock = some k ∨ c.vm = some k ∨ c.vf.ownBlock = some k
structure TT (w : World) (c : Sc) : Prop where
  re : w.ownsRow 0 141 3 c.ve (es c.rs).length (TB.fl TB.ecells (es c.rs))
  rf : w.ownsRow 0 218 1 c.vf c.rs.length (TB.fcells c.rs)
  mp : (c.vm = none ∧ c.rs = []) ∨ ∃ mb, c.vm = some mb ∧ OM w mb (es c.rs).length (pl (es c.rs))
  gd : Gd c.rs
  n3 : ∀ g, c.ve.ownBlock = some g → c.vf.ownBlock ≠ some g
  n5 : ∀ g, c.vm = some g → c.ve.ownBlock ≠ some g ∧ c.vf.ownBlock ≠ some g
  n6 : ∀ k, (c.ve.ownBlock = some k ∨ c.vm = some k ∨ c.vf.ownBlock = some k) → k ≠ c.om
theorem TT.keep {w w' : World} {c : Sc} {S : Nat → Prop} (h : TT w c) (k : Keeps S w w') (hS : ∀ i, c.Q i → ¬ S i) : TT w' c := by
  refine ⟨k.owns h.re (fun g e => hS g (.inr (.inl e))), k.owns h.rf (fun g e => hS g (.inr (.inr (.inr e)))), ?_, h.gd, h.n3, h.n5, h.n6⟩
  rcases h.mp with e | ⟨mb, e, hm⟩
  · exact .inl e
  · exact .inr ⟨mb, e, hm.keep k (hS mb (.inr (.inr (.inl e))))⟩
theorem TT.lt {w : World} {c : Sc} (h : TT w c) {k : Nat} (hk : c.ve.ownBlock = some k ∨ c.vm = some k ∨ c.vf.ownBlock = some k) : k < w.heap.size := by
  rcases hk with hk | hk | hk
  · exact owns_lt' h.re k hk
  · rcases h.mp with ⟨e, _⟩ | ⟨mb, e, hm⟩
    · rw [e] at hk; cases hk
    · rw [e] at hk; cases hk; exact hm.lt
  · exact owns_lt' h.rf k hk
structure AX (w : World) (ρ : Nat → Nat) (u j : Nat) (c : Sc) (ab : Nat) (x : Tx) (n : Nat) (f : Int → Option Nat) (s : Ws) (m : Mm) : Prop where
  st : St w ρ u j c.wb c.mb s m
  cl : CL w ab (x.cells c ab)
  om : OM w c.om n f
  tt : TT w c
  ra : ρ ab = 0
  ro : ∀ k, c.Q k → ρ k = 0
  ne : ¬ c.Q ab
structure RX (w : World) (ρ : Nat → Nat) (c : Sc) (ab rb : Nat) (r : Ro) : Prop where
  cl : CL w rb r.cells
  rr : ρ rb = 0
  n1 : rb ≠ ab
  n2 : ¬ c.Q rb
section
variable {w w' : World} {ρ ρ' : Nat → Nat} {u j : Nat} {c : Sc} {ab rb n n' : Nat} {x x' : Tx} {f f' : Int → Option Nat} {s s' : Ws} {m m' : Mm} {r r' : Ro}
theorem AX.qlt (h : AX w ρ u j c ab x n f s m) {k : Nat} (hk : c.Q k) : k < w.heap.size := hk.elim (fun e => e ▸ h.om.lt) (fun e => h.tt.lt e)
theorem AX.far (h : AX w ρ u j c ab x n f s m) {B : Nat} (k : Keeps (fun i => i = B) w w') (hB : ρ B = 0) (h1 : B ≠ ab) (h2 : ¬ c.Q B) : AX w' ρ u j c ab x n f s m :=
  ⟨h.st.wr k hB, h.cl.keep (by show 0 < 36; decide) k (fun e => h1 e.symm), h.om.keep k (fun e => h2 (.inl e.symm)), h.tt.keep k (fun _ hi e => h2 (e ▸ hi)), h.ra, h.ro, h.ne⟩
theorem AX.new (h : AX w ρ u j c ab x n f s m) (k : Keeps (fun _ => False) w w') : AX w' ρ u j c ab x n f s m :=
  ⟨(h.st.new k).1, h.cl.keep (by show 0 < 36; decide) k (fun e => e), h.om.keep k (fun e => e), h.tt.keep k (fun _ _ e => e), h.ra, h.ro, h.ne⟩
theorem AX.self (h : AX w ρ u j c ab x n f s m) (k : Keeps (fun i => i = ab) w w') (hc : CL w' ab (x'.cells c ab)) : AX w' ρ u j c ab x' n f s m :=
  ⟨h.st.wr k h.ra, hc, h.om.keep k (fun e => h.ne (.inl e.symm)), h.tt.keep k (fun _ hi e => h.ne (e ▸ hi)), h.ra, h.ro, h.ne⟩
theorem AX.run (h : AX w ρ u j c ab x n f s m) (h' : St w' ρ' u j c.wb c.mb s' m') (e : Ext (Sr u j) w w' ρ ρ') : AX w' ρ' u j c ab x n f s' m' :=
  have h0 : ¬ Sr u j (ρ ab) := by rw [h.ra]; exact Sr.not0 h.st
  have h2 : ∀ k, c.Q k → ¬ Sr u j (ρ k) := fun k hk => by rw [h.ro k hk]; exact Sr.not0 h.st
  ⟨h', h.cl.keep (by show 0 < 36; decide) e.keeps h0, h.om.keep e.keeps (h2 _ (.inl rfl)), h.tt.keep e.keeps h2, (e.old _ (h.cl.lt (by show 0 < 36; decide))).trans h.ra, fun k hk => (e.old _ (h.qlt hk)).trans (h.ro k hk), h.ne⟩
theorem AX.alt (h : AX w ρ u j c ab x n f s m) : ab < w.heap.size := h.cl.lt (by show 0 < 36; decide)
theorem RX.lt (h : RX w ρ c ab rb r) : rb < w.heap.size := h.cl.lt (by show 0 < 26; decide)
theorem RX.far (h : RX w ρ c ab rb r) {B : Nat} (k : Keeps (fun i => i = B) w w') (h1 : B ≠ rb) : RX w' ρ c ab rb r :=
  ⟨h.cl.keep (by show 0 < 26; decide) k (fun e => h1 e.symm), h.rr, h.n1, h.n2⟩
theorem RX.new (h : RX w ρ c ab rb r) (k : Keeps (fun _ => False) w w') : RX w' ρ c ab rb r :=
  ⟨h.cl.keep (by show 0 < 26; decide) k (fun e => e), h.rr, h.n1, h.n2⟩
theorem RX.self (h : RX w ρ c ab rb r) (hc : CL w' rb r'.cells) : RX w' ρ c ab rb r' := ⟨hc, h.rr, h.n1, h.n2⟩
theorem RX.run (h : RX w ρ c ab rb r) (hS : ¬ Sr u j 0) (e : Ext (Sr u j) w w' ρ ρ') : RX w' ρ' c ab rb r :=
  ⟨h.cl.keep (by show 0 < 26; decide) e.keeps (by rw [h.rr]; exact hS), (e.old _ h.lt).trans h.rr, h.n1, h.n2⟩
set_option maxHeartbeats 1600000 in
set_option maxRecDepth 1000000 in
theorem state_open (h : CL w ab (x.cells c ab)) (ha : x.alive = true) (hn : x.nx = none) :
    Calls Tryz.prog 39 #[.pointer (some ⟨ab, 0, none⟩)] w fun e w' => e = .returned (.int .i64 1) ∧ w' = w := by
  have f9 := h.c 9 _ rfl
  have f15 := h.c 15 _ rfl
  rw [ha] at f9
  rw [hn] at f15
  simp only [fnv] at f15
  clear h ha hn
  have hp : ∀ w : World, (binOp .eql 86 (.pointer (some ⟨ab, 0, none⟩)) (.pointer none)).run Tryz.prog w = .ok (.bool false) w := fun _ => rfl
  have hq : ∀ w : World, (binOp .eql 139 .nilFunc .nilFunc).run Tryz.prog w = .ok (.bool true) w := fun _ => rfl
  go_enter Tryz.func39, Tryz.ntmps39
  go_wp2
  go_ret
  exact ⟨rfl, rfl⟩
set_option maxHeartbeats 1600000 in
set_option maxRecDepth 1000000 in
theorem state_busy (h : CL w ab (x.cells c ab)) (ha : x.alive = true) {k : Nat} (hn : x.nx = some k) :
    Calls Tryz.prog 39 #[.pointer (some ⟨ab, 0, none⟩)] w fun e w' => e = .returned (.int .i64 2) ∧ w' = w := by
  have f9 := h.c 9 _ rfl
  have f15 := h.c 15 _ rfl
  rw [ha] at f9
  rw [hn] at f15
  simp only [fnv] at f15
  clear h ha hn
  have hp : ∀ w : World, (binOp .eql 86 (.pointer (some ⟨ab, 0, none⟩)) (.pointer none)).run Tryz.prog w = .ok (.bool false) w := fun _ => rfl
  have hq : ∀ w : World, (binOp .eql 139 (.func (.func k) #[.pointer (some ⟨ab, 0, none⟩)] #[]) .nilFunc).run Tryz.prog w = .ok (.bool false) w := fun _ => rfl
  go_enter Tryz.func39, Tryz.ntmps39
  go_wp2
  go_ret
  exact ⟨rfl, rfl⟩
set_option maxHeartbeats 1600000 in
set_option maxRecDepth 1000000 in
theorem refuses_no (h : CL w ab (x.cells c ab)) (ha : x.alive = true) (hn : x.nx = none) :
    Calls Tryz.prog 67 #[.pointer (some ⟨ab, 0, none⟩)] w fun e w' => e = .returned (.int .i64 0) ∧ w' = w := by
  have hs := state_open h ha hn
  clear h ha hn
  go_enter Tryz.func67, Tryz.ntmps67
  go_wp2_with (go_at_call 39; refine hs.mono ?_; clear hs; rintro e w1 ⟨rfl, rfl⟩)
  go_ret
  exact ⟨rfl, rfl⟩
set_option maxHeartbeats 1600000 in
set_option maxRecDepth 1000000 in
theorem refobj_no (h : AX w ρ u j c ab x n f s m) (ha : x.alive = true) (hn : x.nx = none) {o : Nat} (ho : o < s.objs.length) :
    Calls Tryz.prog 82 #[.pointer (some ⟨ab, 0, none⟩), .int .i64 (o : Int)] w fun e w' => e = .returned (.int .i64 0) ∧ w' = w := by
  have hs := refuses_no h.cl ha hn
  have hO := objects_any h.st
  have h := h.cl
  have f1 := h.c 1 _ rfl
  have g1 : ¬ ((o : Int) < 0) := by omega
  have g2 : decide ((s.objs.length : Int) ≤ (o : Int)) = false := decide_eq_false (by omega)
  have g3 : ¬ ((s.objs.length : Int) ≤ (o : Int)) := by omega
  have g4 : decide (s.objs.length ≤ o) = false := decide_eq_false (by omega)
  clear h ha hn ho
  go_enter Tryz.func82, Tryz.ntmps82
  go_wp2_with (first | (go_at_call 67; refine hs.mono ?_; clear hs; rintro e w1 ⟨rfl, rfl⟩) | (go_at_call 104; refine hO.mono ?_; clear hO; rintro e w1 ⟨rfl, rfl⟩))
  go_ret
  exact ⟨rfl, rfl⟩
set_option maxHeartbeats 1600000 in
set_option maxRecDepth 1000000 in
theorem owns_any (h : AX w ρ u j c ab x n f s m) {o : Int} (ho : I64 o) :
    Calls Tryz.prog 44 #[.pointer (some ⟨ab, 0, none⟩), .int .i64 o] w fun e w' => e = .returned (.bool (f o).isSome) ∧ w' = w := by
  have hl := h.om.look ho
  have h := h.cl
  have f14 := h.c 14 _ rfl
  clear h
  have hp : ∀ w : World, (binOp .eql 86 (.pointer (some ⟨ab, 0, none⟩)) (.pointer none)).run Tryz.prog w = .ok (.bool false) w := fun _ => rfl
  go_enter Tryz.func44, Tryz.ntmps44
  go_wp2
  go_ret
  exact ⟨rfl, rfl⟩
def Ro.at_ (r : Ro) (x : Tx) : Ro := { r with object := x.aob, entry := x.aord }
set_option maxHeartbeats 1600000 in
set_option maxRecDepth 1000000 in
theorem at_any (h : CL w ab (x.cells c ab)) (hr : CL w rb r.cells) (hne : rb ≠ ab) :
    Calls Tryz.prog 128 #[.pointer (some ⟨ab, 0, none⟩), .pointer (some ⟨rb, 0, none⟩)] w fun e w' => e = .returned (.tuple #[]) ∧ CL w' rb (r.at_ x).cells ∧ Keeps (fun k => k = rb) w w' := by
  have f22 := h.c 22 _ rfl
  have f24 := h.c 24 _ rfl
  have r7 := hr.c 7 _ rfl
  have zr7 := hr.z 7 (by show 7 < 26; decide)
  have r8 := hr.c 8 _ rfl
  have zr8 := hr.z 8 (by show 8 < 26; decide)
  go_enter Tryz.func128, Tryz.ntmps128
  go_region_held3 (fun w' => w'.cell? ⟨ab, 22, none⟩ = some (.int .i64 x.aob) ∧ w'.cell? ⟨ab, 24, none⟩ = some (.int .i64 x.aord)) (go_keep) (fail)
  go_end0
  exact ⟨rfl, ((hr.set (o := 7) (by show 7 < 26; decide) _).set (o := 8) (by show 8 < 26; decide) _).drew, (((Keeps.refl _ w).setA _ _).setA _ _).drew⟩
end
end Go.Proofs.YtgjndhbfjofkeaaGreatDoor

namespace Go.Proofs.YtgjndhbfjofkeaaGreatDoor
open Go.RowKit
attribute [local go_sem] Oper.semAt_some run_store_nf run_store_f
theorem owns_slice {w : World} {base e size : Nat} {v : Value} {n : Nat} {xs : List Value} (h : w.ownsRow base e size v n xs) : ∃ a cap, v = .slice a n cap ∧ (0 < n → ∃ g, a = some ⟨g, 0, none⟩ ∧ v.ownBlock = some g) := by
  rcases h.2 with ⟨rfl, rfl⟩ | ⟨g, cap, cur, rfl, _⟩
  · exact ⟨none, 0, rfl, fun h => by omega⟩
  · exact ⟨_, _, rfl, fun _ => ⟨g, rfl, rfl⟩⟩
def Mm.took (s : Mm) : Rw := if s.begun = false ∨ s.free = true then rw0 else ra s.log (s.log.length - 1)
def Mm.had (s : Mm) : Prop := s.begun = true → s.free = false → 0 < s.log.length
set_option maxHeartbeats 3200000 in
set_option maxRecDepth 1000000 in
theorem took_any {w : World} {mb : Nat} {s : Mm} {B : List Nat} (h : MI w mb s B) (hh : s.had) (hl : s.log.length ≤ 4611686018427387903) :
    Calls Tryz.prog 80 #[.pointer (some ⟨mb, 0, none⟩)] w fun e w' => e = .returned (.agg #[.int .i64 s.took.step, .int .i64 s.took.thread, .int .i64 s.took.kind, .int .i64 s.took.cell, .int .i64 s.took.seen, .int .i64 s.took.wrote, .bool s.took.done]) ∧ Keeps (fun _ => False) w w' := by
  obtain ⟨vc, vl, h, rfl⟩ := h
  have hpq := peq mb
  have K0 : ∀ o, Keeps (fun _ => False) w (w.alloc o) := fun o => (Keeps.refl _ w).alloc o
  have f3 : ∀ o, (w.alloc o).cell? ⟨mb, 4, none⟩ = some (.bool s.begun) := fun o => (K0 o).cell h.f4 (fun e => e)
  have f5 : ∀ o, (w.alloc o).cell? ⟨mb, 5, none⟩ = some (.bool s.free) := fun o => (K0 o).cell h.f5 (fun e => e)
  cases hb : s.begun with
  | false =>
    have e : s.took = rw0 := by simp [Mm.took, hb]
    rw [e]
    rw [hb] at f3
    clear h f5 hh
    go_enter Tryz.func80, Tryz.ntmps80
    go_wp2_with fail
    (try simp only [Exit.inBlock, Exit.then])
    refine bodyPost_ret (v := .agg #[.int .i64 0, .int .i64 0, .int .i64 0, .int .i64 0, .int .i64 0, .int .i64 0, .bool false]) ?_ rfl ⟨rfl, K0 _⟩
    simp [results, Tryz.f80, go_sem]
  | true =>
    rw [hb] at f3
    cases hf : s.free with
    | true =>
      have e : s.took = rw0 := by simp [Mm.took, hf]
      rw [e]
      rw [hf] at f5
      clear h hh
      go_enter Tryz.func80, Tryz.ntmps80
      go_wp2_with fail
      (try simp only [Exit.inBlock, Exit.then])
      refine bodyPost_ret (v := .agg #[.int .i64 0, .int .i64 0, .int .i64 0, .int .i64 0, .int .i64 0, .int .i64 0, .bool false]) ?_ rfl ⟨rfl, K0 _⟩
      simp [results, Tryz.f80, go_sem]
    | false =>
      have hp := hh hb hf
      have e : s.took = ra s.log (s.log.length - 1) := by simp [Mm.took, hb, hf]
      rw [e]
      rw [hf] at f5
      obtain ⟨ag, cg, hvg, hsg⟩ := owns_slice h.rl
      obtain ⟨gg, hag, hgg⟩ := hsg hp
      have f2 : ∀ o, (w.alloc o).cell? ⟨mb, 1, none⟩ = some (.slice (some ⟨gg, 0, none⟩) s.log.length cg) := fun o => by
        have := (K0 o).cell h.f1 (fun e => e); rw [hvg, hag] at this; exact this
      have R := owns_row h.rl hgg (i := s.log.length - 1) (by omega)
      obtain ⟨w0, hw0⟩ : ∃ w0, w0 = w.alloc (.cells #[.int .i64 0, .int .i64 0, .int .i64 0, .int .i64 0, .int .i64 0, .int .i64 0, .bool false] 167) := ⟨_, rfl⟩
      have R0 : RowAt w0 gg ((s.log.length - 1) * 7) (ra s.log (s.log.length - 1)) := by rw [hw0]; exact R.keep (K0 _) (fun e => e)
      have B0 : RowAt w0 w.heap.size 0 rw0 := by rw [hw0]; constructor <;> simp [rw0]
      have Z0 : ∀ o, w0.frozen? ⟨w.heap.size, o, none⟩ = false := fun o => by rw [hw0]; simp
      have KW : Keeps (fun _ => False) w w0 := by rw [hw0]; exact K0 _
      have g2 : w0.cell? ⟨mb, 1, none⟩ = some (.slice (some ⟨gg, 0, none⟩) s.log.length cg) := by rw [hw0]; exact f2 _
      have lg : gg < w.heap.size := owns_lt' h.rl gg hgg
      have r0 := R0.r0
      have r1 := R0.r1
      have r2 := R0.r2
      have r3 := R0.r3
      have r4 := R0.r4
      have r5 := R0.r5
      have r6 := R0.r6
      have b0' := B0.r0
      have b1 := B0.r1
      have b2 := B0.r2
      have b3 := B0.r3
      have b4 := B0.r4
      have b5 := B0.r5
      have b6 := B0.r6
      simp only [rw0, Nat.zero_add] at b0' b1 b2 b3 b4 b5 b6
      have hne : (s.log.length == 0) = false := beq_eq_false_iff_ne.2 (by omega)
      have hneI : ((s.log.length : Int) == 0) = false := beq_eq_false_iff_ne.2 (by omega)
      have hpw : IntKind.i64.wrap ((s.log.length : Int) - 1) = (s.log.length : Int) - 1 := by rw [IntKind.wrap_i64]; omega
      have hpn : ((s.log.length : Int) - 1).toNat = s.log.length - 1 := by omega
      have hp0 : (0 : Int) ≤ (s.log.length : Int) - 1 := by omega
      have hp1 : (s.log.length : Int) - 1 < (s.log.length : Int) := by omega
      have hq1 : (1 : Int) ≤ (s.log.length : Int) := by omega
      have hp2 : s.log.length - 1 < s.log.length := by omega
      have hm1 : 1 ≤ s.log.length := by omega
      have nn : ¬ gg = w.heap.size := by omega
      generalize ra s.log (s.log.length - 1) = r at *
      generalize s.log.length = nl at *
      clear h hh R R0 B0 hvg hag hgg hb hf e
      go_enter Tryz.func80, Tryz.ntmps80
      go_wp2_with fail
      rw [← hw0]
      clear hw0 f2 f3 f5
      go_region
      all_goals
        (try simp only [Exit.then])
        go_wp2_with fail
        (try simp only [Exit.inBlock, Exit.then])
        refine bodyPost_ret (v := .agg #[.int .i64 r.step, .int .i64 r.thread, .int .i64 r.kind, .int .i64 r.cell, .int .i64 r.seen, .int .i64 r.wrote, .bool r.done]) ?_ rfl ⟨rfl, ?_⟩
        · simp [results, Tryz.f80, go_sem, b0', b1, b2, b3, b4, b5, b6]
        · exact (KW.trans' (keeps_set7 w0 w.heap.size (.int .i64 r.step) (.int .i64 r.thread) (.int .i64 r.kind) (.int .i64 r.cell) (.int .i64 r.seen) (.int .i64 r.wrote) (.bool r.done)) (fun _ _ e => e) (fun i hi e => by omega)).drew
section
variable {w w' : World} {ρ ρ' : Nat → Nat} {u j : Nat} {c : Sc} {ab rb n n' : Nat} {x x' : Tx} {f f' : Int → Option Nat} {s s' : Ws} {m m' : Mm} {r r' : Ro}
def Ro.acc (r : Ro) (q : Rw) : Ro := { r with cell := q.cell, seen := q.seen, wrote := q.wrote, done := q.done }
set_option maxHeartbeats 1600000 in
set_option maxRecDepth 1000000 in
theorem atook (h : AX w ρ u j c ab x n f s m) (hr : RX w ρ c ab rb r) (hh : m.had) (hl : m.log.length ≤ 4611686018427387903) :
    Calls Tryz.prog 119 #[.pointer (some ⟨ab, 0, none⟩), .pointer (some ⟨rb, 0, none⟩)] w fun e w' => e = .returned (.tuple #[]) ∧ AX w' ρ u j c ab x n f s m ∧ RX w' ρ c ab rb (r.acc m.took) ∧ Keeps (fun k => k = rb) w w' := by
  obtain ⟨F, hm, _⟩ := h.st.mj
  have ht := took_any hm hh hl
  have hc := h.cl
  have f0 := hc.c 0 _ rfl
  clear hc hm hh hl
  generalize m.took = q at *
  obtain ⟨q0, q1, q2, q3, q4, q5, q6⟩ := q
  go_enter Tryz.func119, Tryz.ntmps119
  go_wp2_with (go_at_call 80; refine ht.mono ?_; clear ht; rintro e w1 ⟨rfl, k1⟩)
  obtain ⟨w2, hw2⟩ : ∃ w2, w2 = w1.alloc (.cells #[.int .i64 q0, .int .i64 q1, .int .i64 q2, .int .i64 q3, .int .i64 q4, .int .i64 q5, .bool q6] 167) := ⟨_, rfl⟩
  have k2 : Keeps (fun _ => False) w w2 := by rw [hw2]; exact k1.alloc _
  have b3 : w2.cell? ⟨w1.heap.size, 3, none⟩ = some (.int .i64 q3) := by rw [hw2]; simp
  have b4 : w2.cell? ⟨w1.heap.size, 4, none⟩ = some (.int .i64 q4) := by rw [hw2]; simp
  have b5 : w2.cell? ⟨w1.heap.size, 5, none⟩ = some (.int .i64 q5) := by rw [hw2]; simp
  have b6 : w2.cell? ⟨w1.heap.size, 6, none⟩ = some (.bool q6) := by rw [hw2]; simp
  have nb : ¬ rb = w1.heap.size := by have := hr.lt; have := k1.size; omega
  have nb' : ¬ w1.heap.size = rb := fun e => nb e.symm
  have hr2 := hr.new k2
  have h2 := h.new k2
  have hq := hr2.cl
  have r10 := hq.c 10 _ rfl
  have zr10 := hq.z 10 (by show 10 < 26; decide)
  have r11 := hq.c 11 _ rfl
  have zr11 := hq.z 11 (by show 11 < 26; decide)
  have r12 := hq.c 12 _ rfl
  have zr12 := hq.z 12 (by show 12 < 26; decide)
  have r13 := hq.c 13 _ rfl
  have zr13 := hq.z 13 (by show 13 < 26; decide)
  rw [← hw2]
  clear hw2 f0
  go_region_held3 (fun w' => w'.cell? ⟨w1.heap.size, 3, none⟩ = some (.int .i64 q3) ∧ w'.cell? ⟨w1.heap.size, 4, none⟩ = some (.int .i64 q4) ∧ w'.cell? ⟨w1.heap.size, 5, none⟩ = some (.int .i64 q5) ∧ w'.cell? ⟨w1.heap.size, 6, none⟩ = some (.bool q6)) (go_keep) (fail)
  go_end0
  have kk : Keeps (fun k => k = rb) w2 _ := (((((Keeps.refl _ w2).setA 10 (.int .i64 q3)).setA 11 (.int .i64 q4)).setA 12 (.int .i64 q5)).setA 13 (.bool q6)).drew
  exact ⟨rfl, h2.far kk hr.rr hr.n1 hr.n2, hr2.self ((((hq.set (o := 10) (by show 10 < 26; decide) _).set (o := 11) (by show 11 < 26; decide) _).set (o := 12) (by show 12 < 26; decide) _).set (o := 13) (by show 13 < 26; decide) _).drew, k2.trans' kk (fun _ _ e => e.elim) (fun _ _ e => e)⟩
set_option maxHeartbeats 1600000 in
set_option maxRecDepth 1000000 in
theorem must_int (w : World) (v : Int) : Calls Tryz.prog 129 #[.int .i64 v, .int .i64 0] w fun e w' => e = .returned (.int .i64 v) ∧ w' = w := by
  go_enter Tryz.func129, Tryz.ntmps129
  go_wp2
  go_ret
  exact ⟨rfl, rfl⟩
set_option maxHeartbeats 1600000 in
set_option maxRecDepth 1000000 in
theorem must_bool (w : World) (v : Bool) : Calls Tryz.prog 117 #[.bool v, .int .i64 0] w fun e w' => e = .returned (.bool v) ∧ w' = w := by
  go_enter Tryz.func117, Tryz.ntmps117
  go_wp2
  go_ret
  exact ⟨rfl, rfl⟩
theorem results_cell1x {fn : Func} {p : Tmp} {ty : TypeId} (h : fn.results = #[.cell p ty]) (tmps : Array Value) (P : Program) (w : World) :
    (results fn tmps).run P w = ((asAddr (tmps.getD p undef)).run P w).andThen fun a w₁ => (loadVar ty a).run P w₁ := by
  simp only [results, h]
  simp [Sem.run_bind, Result.andThen]
set_option maxHeartbeats 1600000 in
set_option maxRecDepth 1000000 in
theorem must_val (w : World) (v : Vl) : Calls Tryz.prog 125 #[vv v, .int .i64 0] w fun e w' => e = .returned (vv v) ∧ Keeps (fun _ => False) w w' := by
  obtain ⟨a, b, d⟩ := v
  show Calls Tryz.prog 125 #[.agg #[.int .i64 a, .int .i64 b, .bool d], .int .i64 0] w fun e w' => e = .returned (.agg #[.int .i64 a, .int .i64 b, .bool d]) ∧ Keeps (fun _ => False) w w'
  go_enter Tryz.func125, Tryz.ntmps125
  go_wp2
  refine bodyPost_ret (v := .agg #[.int .i64 a, .int .i64 b, .bool d]) ?_ rfl ⟨rfl, ((Keeps.refl _ w).alloc _).alloc _⟩
  rw [results_cell1x rfl]
  go_simp
set_option maxHeartbeats 1600000 in
set_option maxRecDepth 1000000 in
theorem must_loc (w : World) (a b d : Int) : Calls Tryz.prog 105 #[.agg #[.int .i64 a, .int .i64 b, .int .i64 d], .int .i64 0] w fun e w' => e = .returned (.agg #[.int .i64 a, .int .i64 b, .int .i64 d]) ∧ Keeps (fun _ => False) w w' := by
  go_enter Tryz.func105, Tryz.ntmps105
  go_wp2
  refine bodyPost_ret (v := .agg #[.int .i64 a, .int .i64 b, .int .i64 d]) ?_ rfl ⟨rfl, ((Keeps.refl _ w).alloc _).alloc _⟩
  rw [results_cell1x rfl]
  go_simp
end
end Go.Proofs.YtgjndhbfjofkeaaGreatDoor

