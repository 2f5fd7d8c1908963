import Derived.Test.YteomlhcllmlkpaaGreatDoorTxC
import Derived.Defers
namespace Go.Proofs.YteomlhcllmlkpaaGreatDoor
open Go.RowKit
attribute [local go_sem] Oper.semAt_some run_store_nf run_store_f
section
variable {w w' : World} {ρ ρ' ρ'' : Nat → Nat} {u j : Nat} {c : Sc} {ab rb n n' : Nat} {x x' : Tx} {f f' : Int → Option Nat} {s s' : Ws} {m m' : Mm} {r r' : Ro}
/-- What a step leaves alone: all blocks but the memory's, the world's and those of A. -/
structure Fr (A : Nat → Prop) (u j : Nat) (w w' : World) (ρ ρ' : Nat → Nat) : Prop where
  keeps : Keeps (fun k => Sr u j (ρ k) ∨ A k) w w'
  old : ∀ k, k < w.heap.size → ρ' k = ρ k
theorem Fr.refl (A : Nat → Prop) (u j : Nat) (w : World) (ρ : Nat → Nat) : Fr A u j w w ρ ρ := ⟨Keeps.refl _ w, fun _ _ => rfl⟩
theorem Fr.trans {A B C : Nat → Prop} {w'' : World} (h : Fr A u j w w' ρ ρ') (k : Fr B u j w' w'' ρ' ρ'') (hA : ∀ i, i < w.heap.size → A i → C i) (hB : ∀ i, i < w.heap.size → B i → C i) : Fr C u j w w'' ρ ρ'' :=
  ⟨h.keeps.trans' k.keeps (fun i hi e => e.imp id (hA i hi)) (fun i hi e => by rw [h.old i hi] at e; exact e.imp id (hB i hi)), fun i hi => (k.old i (Nat.lt_of_lt_of_le hi h.keeps.size)).trans (h.old i hi)⟩
theorem Fr.mono {A B : Nat → Prop} (h : Fr A u j w w' ρ ρ') (hA : ∀ i, i < w.heap.size → A i → B i) : Fr B u j w w' ρ ρ' := ⟨h.keeps.mono (fun i hi e => e.imp id (hA i hi)), h.old⟩
theorem Fr.of_ext {A : Nat → Prop} (h : Ext (Sr u j) w w' ρ ρ') : Fr A u j w w' ρ ρ' := ⟨h.keeps.mono (fun _ _ e => .inl e), h.old⟩
theorem Fr.of_keeps {A B : Nat → Prop} (h : Keeps B w w') (hA : ∀ i, i < w.heap.size → B i → A i) : Fr A u j w w' ρ ρ := ⟨h.mono (fun i hi e => .inr (hA i hi e)), fun _ _ => rfl⟩
/-- The blocks that are an attempt's own, and its row's. -/
def OwnR (c : Sc) (ab rb : Nat) (k : Nat) : Prop := k = ab ∨ k = c.om ∨ k = rb
def Own (c : Sc) (ab : Nat) (k : Nat) : Prop := k = ab ∨ k = c.om

theorem results_cell2x {fn : Func} {p q : Tmp} {ty ty2 : TypeId} (h : fn.results = #[.cell p ty, .cell q ty2]) (tmps : Array Value) (P : Program) (w : World) {a b : Addr} {v1 v2 : Value}
    (ha : tmps[p]?.getD undef = .pointer (some a)) (hb : tmps[q]?.getD undef = .pointer (some b)) (h1 : (loadVar ty a).run P w = .ok v1 w) (h2 : (loadVar ty2 b).run P w = .ok v2 w) : (results fn tmps).run P w = .ok (.tuple #[v1, v2]) w := by
  simp only [results, h]
  simp [Sem.run_bind, Result.andThen, asAddr, ha, hb, h1, h2]
theorem run_row {W : World} {b : Nat} (h : CL W b r.cells) : (loadVar 46 ⟨b, 0, none⟩).run Tryz.prog W = .ok (.agg r.cells.toArray) W :=
  run_loadVar_mid W b 0 46 r.cells _ (fun j v e => by have := h.c j v e; rwa [Nat.zero_add]) Tryz.underlying46 rfl (by rw [i46]; rfl)
set_option maxHeartbeats 600000 in
set_option maxRecDepth 1000000 in
theorem blank_any (h : CL w ab (x.cells c ab)) :
    Calls Tryz.prog 31 #[.pointer (some ⟨ab, 0, none⟩)] w fun e w' => e = .returned (.agg x.blank.cells.toArray) ∧ Keeps (fun _ => False) w w' := by
  obtain ⟨w0, hw0⟩ : ∃ w0, w0 = w.alloc (.cells #[.int .i64 0, .int .i64 0, .int .i64 0, .int .i64 0, .int .i64 0, .int .i64 0, .int .i64 0, .int .i64 0, .int .i64 0, .int .i64 0, .int .i64 0, .int .i64 0, .int .i64 0, .bool false, .bool false, .bool false, .int .i64 0, .bool false, .int .i64 0, .int .i64 0, .bool false, .bool false, .int .i64 0, .int .i64 0, .bool false, .int .i64 0] 46) := ⟨_, rfl⟩
  have k0 : Keeps (fun _ => False) w w0 := by rw [hw0]; exact (Keeps.refl _ w).alloc _
  have h0 := h.keep (by show 0 < 36; decide) k0 (fun e => e)
  have hb : CL w0 w.heap.size Ro.zero.cells := by rw [hw0]; exact CL.made _ _ _
  have f4 := h0.c 4 _ rfl
  have f7 := h0.c 7 _ rfl
  have f16 := h0.c 16 _ rfl
  have lt0 : ¬ w.heap.size < w.heap.size := Nat.lt_irrefl _
  go_enter Tryz.func31, Tryz.ntmps31
  go_wp2_with fail
  rw [← hw0]
  clear hw0
  refine wp_region_held_drew (S := fun w' => w'.cell? ⟨ab, 4, none⟩ = some (.int .i64 x.thread) ∧ w'.cell? ⟨ab, 7, none⟩ = some (.int .i64 (x.no : Int)) ∧ w'.cell? ⟨ab, 16, none⟩ = some (.int .i64 x.phase)) (by kernel_rfl) ⟨f4, f7, f16⟩ (fun hHeld => ?_)
  refine wpAnyH_take (i := 0) (v := ?_) rfl (by kernel_rfl) (by kernel_rfl) (by kernel_rfl) (fun _ _ _ h => h) (Or.inl ⟨by rfl, ?_⟩) (by assumption) ?_
  rotate_left
  · intro wx hSw; (try dsimp only at hSw); go_simp <;> with_reducible rfl
  (try simp only [List.getElem_toArray]); (try simp only [List.getElem_cons_succ]); (try simp only [List.getElem_cons_zero]); (try simp only [Act.put]); (try simp only [List.setIfInBounds_toArray]); (repeat first | simp only [List.set_cons_succ] | simp only [List.set_cons_zero])
  refine wpAnyH_take (i := 1) (v := ?_) rfl (by kernel_rfl) (by kernel_rfl) (by kernel_rfl) (fun _ _ _ h => h) (Or.inl ⟨by rfl, ?_⟩) (by assumption) ?_
  rotate_left
  · intro wx hSw; (try dsimp only at hSw); go_simp <;> with_reducible rfl
  (try simp only [List.getElem_toArray]); (try simp only [List.getElem_cons_succ]); (try simp only [List.getElem_cons_zero]); (try simp only [Act.put]); (try simp only [List.setIfInBounds_toArray]); (repeat first | simp only [List.set_cons_succ] | simp only [List.set_cons_zero])
  refine wpAnyH_take (i := 2) (v := ?_) rfl (by kernel_rfl) (by kernel_rfl) (by kernel_rfl) (fun _ _ _ h => h) (Or.inl ⟨by rfl, ?_⟩) (by assumption) ?_
  rotate_left
  · intro wx hSw; (try dsimp only at hSw); go_simp <;> with_reducible rfl
  (try simp only [List.getElem_toArray]); (try simp only [List.getElem_cons_succ]); (try simp only [List.getElem_cons_zero]); (try simp only [Act.put]); (try simp only [List.setIfInBounds_toArray]); (repeat first | simp only [List.set_cons_succ] | simp only [List.set_cons_zero])
  refine wpAnyH_take (i := 3) (v := ?_) rfl (by kernel_rfl) (by kernel_rfl) (by kernel_rfl) (fun _ _ _ h => h) (Or.inl ⟨by rfl, ?_⟩) (by assumption) ?_
  rotate_left
  · intro wx hSw; (try dsimp only at hSw); go_simp <;> with_reducible rfl
  (try simp only [List.getElem_toArray]); (try simp only [List.getElem_cons_succ]); (try simp only [List.getElem_cons_zero]); (try simp only [Act.put]); (try simp only [List.setIfInBounds_toArray]); (repeat first | simp only [List.set_cons_succ] | simp only [List.set_cons_zero])
  refine wpAnyH_take (i := 4) (v := ?_) rfl (by kernel_rfl) (by kernel_rfl) (by kernel_rfl) (fun _ _ _ h => h) (Or.inl ⟨by rfl, ?_⟩) (by assumption) ?_
  rotate_left
  · intro wx hSw; (try dsimp only at hSw); go_simp <;> with_reducible rfl
  (try simp only [List.getElem_toArray]); (try simp only [List.getElem_cons_succ]); (try simp only [List.getElem_cons_zero]); (try simp only [Act.put]); (try simp only [List.setIfInBounds_toArray]); (repeat first | simp only [List.set_cons_succ] | simp only [List.set_cons_zero])
  refine wpAnyH_take (i := 5) (v := ?_) rfl (by kernel_rfl) (by kernel_rfl) (by kernel_rfl) (fun _ _ _ h => h) (Or.inl ⟨by rfl, ?_⟩) (by assumption) ?_
  rotate_left
  · intro wx hSw; (try dsimp only at hSw); go_simp <;> with_reducible rfl
  (try simp only [List.getElem_toArray]); (try simp only [List.getElem_cons_succ]); (try simp only [List.getElem_cons_zero]); (try simp only [Act.put]); (try simp only [List.setIfInBounds_toArray]); (repeat first | simp only [List.set_cons_succ] | simp only [List.set_cons_zero])
  refine wpAnyH_take (i := 6) (v := ?_) rfl (by kernel_rfl) (by kernel_rfl) (by kernel_rfl) (fun _ _ _ h => h) (Or.inl ⟨by rfl, ?_⟩) (by assumption) ?_
  rotate_left
  · intro wx hSw; (try dsimp only at hSw); go_simp <;> with_reducible rfl
  (try simp only [List.getElem_toArray]); (try simp only [List.getElem_cons_succ]); (try simp only [List.getElem_cons_zero]); (try simp only [Act.put]); (try simp only [List.setIfInBounds_toArray]); (repeat first | simp only [List.set_cons_succ] | simp only [List.set_cons_zero])
  refine wpAnyH_take (i := 7) (v := ?_) rfl (by kernel_rfl) (by kernel_rfl) (by kernel_rfl) (fun _ _ _ h => h) (Or.inl ⟨by rfl, ?_⟩) (by assumption) ?_
  rotate_left
  · intro wx hSw; (try dsimp only at hSw); go_simp <;> with_reducible rfl
  (try simp only [List.getElem_toArray]); (try simp only [List.getElem_cons_succ]); (try simp only [List.getElem_cons_zero]); (try simp only [Act.put]); (try simp only [List.setIfInBounds_toArray]); (repeat first | simp only [List.set_cons_succ] | simp only [List.set_cons_zero])
  refine wpAnyH_take (i := 8) (v := ?_) rfl (by kernel_rfl) (by kernel_rfl) (by kernel_rfl) (fun _ _ _ h => h) (Or.inl ⟨by rfl, ?_⟩) (by assumption) ?_
  rotate_left
  · intro wx hSw; (try dsimp only at hSw); go_simp <;> with_reducible rfl
  (try simp only [List.getElem_toArray]); (try simp only [List.getElem_cons_succ]); (try simp only [List.getElem_cons_zero]); (try simp only [Act.put]); (try simp only [List.setIfInBounds_toArray]); (repeat first | simp only [List.set_cons_succ] | simp only [List.set_cons_zero])
  refine wpAnyH_take (i := 9) (v := ?_) rfl (by kernel_rfl) (by kernel_rfl) (by kernel_rfl) (fun _ _ _ h => h) (Or.inl ⟨by rfl, ?_⟩) (by assumption) ?_
  rotate_left
  · intro wx hSw; (try dsimp only at hSw); go_simp <;> with_reducible rfl
  (try simp only [List.getElem_toArray]); (try simp only [List.getElem_cons_succ]); (try simp only [List.getElem_cons_zero]); (try simp only [Act.put]); (try simp only [List.setIfInBounds_toArray]); (repeat first | simp only [List.set_cons_succ] | simp only [List.set_cons_zero])
  refine wpAnyH_take (i := 10) (v := ?_) rfl (by kernel_rfl) (by kernel_rfl) (by kernel_rfl) (fun _ _ _ h => h) (Or.inl ⟨by rfl, ?_⟩) (by assumption) ?_
  rotate_left
  · intro wx hSw; (try dsimp only at hSw); go_simp <;> with_reducible rfl
  (try simp only [List.getElem_toArray]); (try simp only [List.getElem_cons_succ]); (try simp only [List.getElem_cons_zero]); (try simp only [Act.put]); (try simp only [List.setIfInBounds_toArray]); (repeat first | simp only [List.set_cons_succ] | simp only [List.set_cons_zero])
  refine wpAnyH_take (i := 11) (v := ?_) rfl (by kernel_rfl) (by kernel_rfl) (by kernel_rfl) (fun _ _ _ h => h) (Or.inl ⟨by rfl, ?_⟩) (by assumption) ?_
  rotate_left
  · intro wx hSw; (try dsimp only at hSw); go_simp <;> with_reducible rfl
  (try simp only [List.getElem_toArray]); (try simp only [List.getElem_cons_succ]); (try simp only [List.getElem_cons_zero]); (try simp only [Act.put]); (try simp only [List.setIfInBounds_toArray]); (repeat first | simp only [List.set_cons_succ] | simp only [List.set_cons_zero])
  refine wpAnyH_take (i := 12) (v := ?_) rfl (by kernel_rfl) (by kernel_rfl) (by kernel_rfl) (fun _ _ _ h => h) (Or.inl ⟨by rfl, ?_⟩) (by assumption) ?_
  rotate_left
  · intro wx hSw; (try dsimp only at hSw); go_simp <;> with_reducible rfl
  (try simp only [List.getElem_toArray]); (try simp only [List.getElem_cons_succ]); (try simp only [List.getElem_cons_zero]); (try simp only [Act.put]); (try simp only [List.setIfInBounds_toArray]); (repeat first | simp only [List.set_cons_succ] | simp only [List.set_cons_zero])
  refine wpAnyH_take (i := 13) (v := ?_) rfl (by kernel_rfl) (by kernel_rfl) (by kernel_rfl) (fun _ _ _ h => h) (Or.inl ⟨by rfl, ?_⟩) (by assumption) ?_
  rotate_left
  · intro wx hSw; (try dsimp only at hSw); go_simp <;> with_reducible rfl
  (try simp only [List.getElem_toArray]); (try simp only [List.getElem_cons_succ]); (try simp only [List.getElem_cons_zero]); (try simp only [Act.put]); (try simp only [List.setIfInBounds_toArray]); (repeat first | simp only [List.set_cons_succ] | simp only [List.set_cons_zero])
  refine wpAnyH_take (i := 14) (oi := { dst := some 17, op := Op.build 46 #[(1, Operand.tmp 7), (2, Operand.const (Value.int IntKind.i64 (-1))), (4, Operand.tmp 11), (6, Operand.tmp 16), (7, Operand.const (Value.int IntKind.i64 (-1))), (8, Operand.const (Value.int IntKind.i64 (-1))), (9, Operand.const (Value.int IntKind.i64 (-1))), (10, Operand.const (Value.int IntKind.i64 (-1)))], type := 46, pos := "txn.go:236", after := #[{ on := 4, ground := Ground.data }, { on := 8, ground := Ground.data }, { on := 13, ground := Ground.data }], guard := none }) (v := .agg x.blank.cells.toArray) rfl (by kernel_rfl) (by kernel_rfl) (by kernel_rfl) (fun _ _ _ h => h) (Or.inl ⟨by rfl, ?_⟩) (by assumption) ?_
  · intro wx hSw; kernel_rfl
  simp only [Act.put]; (try simp only [List.setIfInBounds_toArray]); (repeat first | simp only [List.set_cons_succ] | simp only [List.set_cons_zero])
  have kk : Keeps (fun k => k = w.heap.size) w0.drew (w0.drew.setCells w.heap.size 0 x.blank.cells) := (Keeps.refl _ w0.drew).setsA _ _
  have na : ab ≠ w.heap.size := by have := h.lt (by show 0 < 36; decide); omega
  refine wpAnyH_store 15 (by kernel_rfl) rfl rfl 46 _ _ rfl w.heap.size 0 26 x.blank.cells.toArray (by rfl) (by rfl) rfl (hb.drew.there (n := 26) (by show 26 ≤ 26; decide)) i46 (all_oneCell_toArray (by simp [Ro.cells, Value.oneCell'])) ⟨kk.cell (p := ⟨ab, 4, none⟩) hHeld.1 na, kk.cell (p := ⟨ab, 7, none⟩) hHeld.2.1 na, kk.cell (p := ⟨ab, 16, none⟩) hHeld.2.2 na⟩ ?_
  intro hHeld
  refine wpAnyH_done (by kernel_rfl) ?_ _
  have hf : CL (w0.drew.setCells w.heap.size 0 x.blank.cells) w.heap.size x.blank.cells := hb.drew.sets (o := 0) (by show 26 ≤ 26; decide)
  have kf : Keeps (fun _ => False) w (w0.drew.setCells w.heap.size 0 x.blank.cells) := k0.drew.trans' kk (fun _ _ e => e) (fun i hi e => by omega)
  show Exit.then _ _ _ _ (w0.drew.setCells w.heap.size 0 x.blank.cells)
  generalize w0.drew.setCells w.heap.size 0 x.blank.cells = W at *
  go_wp2_with fail
  refine bodyPost_ret (v := .agg x.blank.cells.toArray) ?_ rfl ⟨rfl, kf⟩
  rw [results_cell1x rfl]
  exact run_row hf
set_option maxHeartbeats 800000 in
set_option maxRecDepth 1000000 in
theorem catch_idle (p q r : Addr) (w : World) :
    CallsD Tryz.prog 29 #[.pointer (some p), .pointer (some q), .pointer (some r)] .returning w fun e u' w' => e = .returned (.tuple #[]) ∧ u' = .returning ∧ w' = w := by
  refine callsD_of_wpS Tryz.func29 rfl fun c₀ cs hu => ?_
  apply wpS_seq
  apply wpS_region
  simp [wpOpsS, go_sem, recoverD, hu, Tryz.ntmps29, Exit.thenS]
  apply wpS_seq
  apply wpS_region
  simp [wpOpsS, go_sem, Exit.thenS]
  refine wpS_cond (t := false) (by simp [Act.eval, Array.replicate]) ?_
  simp only [Bool.false_eq_true, if_false]
  refine wpS_of_wp (wp_skip ?_)
  cases c₀
  simp_all [bodyPostS, results, Tryz.results29]
/-- A step that goes through. -/
def Goes (k : Nat) (u j : Nat) (c : Sc) (ab : Nat) (ρ : Nat → Nat) (x x' : Tx) (n n' : Nat) (f f' : Int → Option Nat) (s s' : Ws) (m m' : Mm) (r' : Ro) : Prop :=
  ∀ W rb, AX W ρ u j c ab x n f s m → RX W ρ c ab rb x.blank → Calls Tryz.prog k #[.pointer (some ⟨ab, 0, none⟩), .pointer (some ⟨rb, 0, none⟩)] W fun e W' =>
    e = .returned (.tuple #[]) ∧ ∃ ρ', AX W' ρ' u j c ab x' n' f' s' m' ∧ RX W' ρ' c ab rb r' ∧ Fr (OwnR c ab rb) u j W W' ρ ρ'
/-- The same, from a world on. -/
def GoesK (w : World) (k : Nat) (u j : Nat) (c : Sc) (ab : Nat) (ρ : Nat → Nat) (x x' : Tx) (n n' : Nat) (f f' : Int → Option Nat) (s s' : Ws) (m m' : Mm) (r' : Ro) : Prop :=
  ∀ W rb, w.heap.size ≤ rb → Keeps (fun _ => False) w W → AX W ρ u j c ab x n f s m → RX W ρ c ab rb x.blank → Calls Tryz.prog k #[.pointer (some ⟨ab, 0, none⟩), .pointer (some ⟨rb, 0, none⟩)] W fun e W' =>
    e = .returned (.tuple #[]) ∧ ∃ ρ', AX W' ρ' u j c ab x' n' f' s' m' ∧ RX W' ρ' c ab rb r' ∧ Fr (OwnR c ab rb) u j W W' ρ ρ'
theorem Goes.k {k : Nat} (h : Goes k u j c ab ρ x x' n n' f f' s s' m m' r') (w : World) : GoesK w k u j c ab ρ x x' n n' f f' s s' m m' r' := fun W rb _ _ hA hR => h W rb hA hR
set_option maxHeartbeats 800000 in
set_option maxRecDepth 1000000 in
theorem step_goes (h : AX w ρ u j c ab x n f s m) (ha : x.alive = true) {k : Nat} (hn : x.nx = some k) (hcf : ∀ (args : Array Value) (w : World), (callFunc k args).run Tryz.prog w = .ok (.enter k args) w) (hg : GoesK w k u j c ab ρ x x' n n' f f' s s' m m' r') :
    Calls Tryz.prog 10 #[.pointer (some ⟨ab, 0, none⟩)] w fun e w' => e = .returned (.tuple #[.agg r'.cells.toArray, .int .i64 0]) ∧ ∃ ρ', AX w' ρ' u j c ab x' n' f' s' m' ∧ Fr (Own c ab) u j w w' ρ ρ' := by
  have hmf : ∀ (fn : Fn) (first cap : Array Value) (w : World), (Instr.makeFunc fn first cap).run Tryz.prog w = .ok (.func fn first cap) w := fun _ _ _ _ => rfl
  obtain ⟨w0, hw0⟩ : ∃ w0, w0 = ((w.alloc (.cells #[.pointer (some ⟨ab, 0, none⟩)] 34)).alloc (.cells #[.int .i64 0, .int .i64 0, .int .i64 0, .int .i64 0, .int .i64 0, .int .i64 0, .int .i64 0, .int .i64 0, .int .i64 0, .int .i64 0, .int .i64 0, .int .i64 0, .int .i64 0, .bool false, .bool false, .bool false, .int .i64 0, .bool false, .int .i64 0, .int .i64 0, .bool false, .bool false, .int .i64 0, .int .i64 0, .bool false, .int .i64 0] 46)).alloc (.cells #[.int .i64 0] 35) := ⟨_, rfl⟩
  have k0 : Keeps (fun _ => False) w w0 := by rw [hw0]; exact (((Keeps.refl _ w).alloc _).alloc _).alloc _
  have h0 := h.new k0
  have hb : CL w0 (w.heap.size + 1) Ro.zero.cells := by
    rw [hw0]
    have := CL.made (w.alloc (.cells #[.pointer (some ⟨ab, 0, none⟩)] 34)) Ro.zero.cells 46
    rw [show (w.alloc (.cells #[.pointer (some ⟨ab, 0, none⟩)] 34)).heap.size = w.heap.size + 1 by simp] at this
    exact this.alloc (by show 0 < 26; decide) _
  have ca : CL w0 w.heap.size [.pointer (some ⟨ab, 0, none⟩)] := by
    rw [hw0]
    exact ((CL.made w [.pointer (some ⟨ab, 0, none⟩)] 34).alloc (by show 0 < 1; decide) _).alloc (by show 0 < 1; decide) _
  have ce : CL w0 (w.heap.size + 1 + 1) [.int .i64 0] := by
    rw [hw0]
    refine cast ?_ (CL.made ((w.alloc (.cells #[.pointer (some ⟨ab, 0, none⟩)] 34)).alloc (.cells #[.int .i64 0, .int .i64 0, .int .i64 0, .int .i64 0, .int .i64 0, .int .i64 0, .int .i64 0, .int .i64 0, .int .i64 0, .int .i64 0, .int .i64 0, .int .i64 0, .int .i64 0, .bool false, .bool false, .bool false, .int .i64 0, .bool false, .int .i64 0, .int .i64 0, .bool false, .bool false, .int .i64 0, .int .i64 0, .bool false, .int .i64 0] 46)) [.int .i64 0] 35)
    congr 1
    simp
  have a0 := ca.c 0 _ rfl
  have hs := state_busy h0.cl ha hn
  have nb : ¬ w.heap.size = w.heap.size + 1 := by omega
  have nb2 : ¬ w.heap.size + 1 + 1 = w.heap.size + 1 := by omega
  have hz : ρ (w.heap.size + 1) = 0 := h.st.bnd _ (by omega)
  have na : w.heap.size + 1 ≠ ab := by have := h.alt; omega
  have no : w.heap.size + 1 ≠ c.om := by have := h.om.lt; omega
  go_enter_defers Tryz.func10, Tryz.ntmps10
  go_wp2_with fail
  rw [← hw0]
  clear hw0
  refine hs.mono ?_
  clear hs
  rintro e w1 ⟨rfl, rfl⟩
  go_wp2_with fail
  refine (blank_any h0.cl).mono ?_
  rintro e w2 ⟨rfl, k2⟩
  have h2 := h0.new k2
  have hb2 := hb.keep (by show 0 < 26; decide) k2 (fun e => e)
  have ca2 := ca.keep (by show 0 < 1; decide) k2 (fun e => e)
  have ce2 := ce.keep (by show 0 < 1; decide) k2 (fun e => e)
  have K2 := k0.trans k2
  clear a0 h0 hb ca ce k2 k0
  go_wp2_with (refine wpList_store_cl rfl 46 _ _ rfl (w.heap.size + 1) 0 26 _ rfl rfl rfl hb2 (by show 26 ≤ 26; decide) i46 (all_oneCell_toArray (by simp [Ro.cells, Value.oneCell'])) ?_; intro w3 hb3 k3 _; have h3 := h2.far k3 hz na no; have r3 : RX w3 ρ c ab (w.heap.size + 1) x.blank := ⟨hb3, hz, na, no⟩; have ca3 := ca2.keep (by show 0 < 1; decide) k3 nb; have ce3 := ce2.keep (by show 0 < 1; decide) k3 nb2; have a3 := ca3.c 0 _ rfl; have hc3 := h3.cl; have f15 := hc3.c 15 _ rfl; rw [hn] at f15; simp only [fnv] at f15; clear hc3)
  refine (hg _ _ (by omega) (K2.trans' k3 (fun _ _ e => e) (fun i hi e => by omega)) h3 r3).mono ?_
  rintro e w4 ⟨rfl, ρ', h4, r4, fr4⟩
  have lt1 : w.heap.size + 1 < w3.heap.size := r3.lt
  have b0 : ρ' (w.heap.size + 1) = 0 := (fr4.old _ lt1).trans hz
  have ls : w.heap.size < w3.heap.size := ca3.lt (by show 0 < 1; decide)
  have le : w.heap.size + 1 + 1 < w3.heap.size := ce3.lt (by show 0 < 1; decide)
  have S0 : ¬ Sr u j 0 := Sr.not0 h.st
  have ce4 := ce3.keep (by show 0 < 1; decide) fr4.keeps (fun e => e.elim (fun e => S0 (by rw [h.st.bnd _ (by omega)] at e; exact e)) (fun e => by have := h.alt; have := h.om.lt; unfold OwnR at e; omega))
  have hr4 := run_row r4.cl
  have e4 := ce4.c 0 _ rfl
  clear a3 f15 ca3 ca2 hb2 ce2 hb3 h2 h3 ce3
  go_wp2_with (first | (refine wpList_load_run rfl 46 _ rfl ⟨w.heap.size + 1, 0, none⟩ rfl _ hr4 ?_; clear hr4) | (refine wpList_store_cl rfl 46 _ _ rfl (w.heap.size + 1) 0 26 _ rfl rfl rfl r4.cl (by show 26 ≤ 26; decide) i46 (all_oneCell_toArray (by simp [Ro.cells, Value.oneCell'])) ?_; intro w5 hb5 k5 _; have ce5 := ce4.keep (by show 0 < 1; decide) k5 nb2; have e5 := ce5.c 0 _ rfl; have ze5 := ce5.z 0 (by show 0 < 1; decide); clear e4))
  have hb6 := hb5.other (p := ⟨w.heap.size + 1 + 1, 0, none⟩) nb2 (.int .i64 0)
  have ce6 := ce5.set (o := 0) (by show 0 < 1; decide) (.int .i64 0)
  have k6 : Keeps (fun k => k = w.heap.size + 1 ∨ k = w.heap.size + 1 + 1) w4 (w5.setCell ⟨w.heap.size + 1 + 1, 0, none⟩ (.int .i64 0)) := (k5.mono (fun _ _ e => .inl e)).setCell (fun _ => .inr rfl) _
  have hr6 := run_row (r := r') hb6
  have e6 := ce6.c 0 _ rfl
  clear e5 ze5 hb5 ce5 ce6
  generalize w5.setCell ⟨w.heap.size + 1 + 1, 0, none⟩ (.int .i64 0) = w6 at *
  have h6 : AX w6 ρ' u j c ab x' n' f' s' m' := by
    have l4 : w3.heap.size ≤ w4.heap.size := fr4.keeps.size
    have x6 : Ext (fun r => r = 0) w4 w6 ρ' ρ' := ⟨k6.mono (fun i _ e => e.elim (fun e => by subst e; exact b0) (fun e => by subst e; exact (fr4.old _ le).trans (h.st.bnd _ (by omega)))), fun _ _ => rfl, fun i hi => .inr (h4.st.bnd i hi)⟩
    have n6 : ∀ k, (k = w.heap.size + 1 ∨ k = w.heap.size + 1 + 1) → k ≠ ab ∧ k ≠ c.om := fun k e => by have := h.alt; have := h.om.lt; omega
    exact ⟨⟨fun i hi => h4.st.bnd i (Nat.le_trans k6.size hi), h4.st.mj.ext x6 (fun e => h4.st.u0 e), h4.st.wj.ext x6 (fun r h1 h2 e => h4.st.j0 (by omega)), h4.st.u0, h4.st.j0, h4.st.ap⟩, h4.cl.keep (by show 0 < 36; decide) k6 (fun e => (n6 _ e).1 rfl), h4.om.keep k6 (fun e => (n6 _ e).2 rfl), h4.ra, h4.ro, h4.ne⟩
  have fr6 : Fr (Own c ab) u j w w6 ρ ρ' := by
    have f3 : Fr (fun _ => False) u j w w3 ρ ρ := Fr.of_keeps (B := fun _ => False) (K2.trans' k3 (fun _ _ e => e) (fun i hi e => by omega)) (fun _ _ e => e)
    have f4 : Fr (Own c ab) u j w w4 ρ ρ' := f3.trans fr4 (fun _ _ e => e.elim) (fun i hi e => by unfold OwnR at e; unfold Own; omega)
    exact f4.trans (Fr.of_keeps k6 (fun _ _ e => e)) (fun _ _ e => e) (fun i hi e => by omega)
  refine leaves_cons (f := 29) (args := #[.pointer (some ⟨w.heap.size, 0, none⟩), .pointer (some ⟨w.heap.size + 1, 0, none⟩), .pointer (some ⟨w.heap.size + 1 + 1, 0, none⟩)]) (by simp) (by simp [go_sem]) ?_
  refine (catch_idle _ _ _ _).mono ?_
  rintro e u' w'' ⟨rfl, rfl, rfl⟩
  refine ⟨.tuple #[.agg r'.cells.toArray, .int .i64 0], ?_, rfl, ρ', h6, fr6⟩
  refine results_cell2x Tryz.results10 _ _ _ (a := ⟨w.heap.size + 1, 0, none⟩) (b := ⟨w.heap.size + 1 + 1, 0, none⟩) rfl rfl hr6 ?_
  go_simp
end
end Go.Proofs.YteomlhcllmlkpaaGreatDoor
