import Derived.Test.YtgjndhbfjofkeaaGreatDoorG11
import Derived.Defers
import Derived.Test.YtgjndhbfjofkeaaGreatDoorG07
import Derived.Test.YtgjndhbfjofkeaaGreatDoorG08
import Derived.Laws.ResultCell
namespace Go.Proofs.YtgjndhbfjofkeaaGreatDoor
open Go.RowKit
attribute [local go_sem] Oper.semAt_some run_store_nf run_store_f
section
variable {w w' : World} {ρ ρ' ρ'' : Nat → Nat} {u j : Nat} {c : Sc} {ab rb n n' : Nat} {x x' : Tx} {f f' : Int → Option Nat} {s s' : Ws} {m m' : Mm} {r r' : Ro}
structure Fr (A : Nat → Prop) (u j : Nat) (w w' : World) (ρ ρ' : Nat → Nat) : Prop where
  keeps : Keeps (fun k => Sr u j (ρ k) ∨ A k) w w'
  old : ∀ k, k < w.heap.size → ρ' k = ρ k
theorem Fr.refl (A : Nat → Prop) (u j : Nat) (w : World) (ρ : Nat → Nat) : Fr A u j w w ρ ρ := ⟨Keeps.refl _ w, fun _ _ => rfl⟩
theorem Fr.trans {A B C : Nat → Prop} {w'' : World} (h : Fr A u j w w' ρ ρ') (k : Fr B u j w' w'' ρ' ρ'') (hA : ∀ i, i < w.heap.size → A i → C i) (hB : ∀ i, i < w.heap.size → B i → C i) : Fr C u j w w'' ρ ρ'' :=
  ⟨h.keeps.trans' k.keeps (fun i hi e => e.imp id (hA i hi)) (fun i hi e => by rw [h.old i hi] at e; exact e.imp id (hB i hi)), fun i hi => (k.old i (Nat.lt_of_lt_of_le hi h.keeps.size)).trans (h.old i hi)⟩
theorem Fr.mono {A B : Nat → Prop} (h : Fr A u j w w' ρ ρ') (hA : ∀ i, i < w.heap.size → A i → B i) : Fr B u j w w' ρ ρ' := ⟨h.keeps.mono (fun i hi e => e.imp id (hA i hi)), h.old⟩
theorem Fr.of_ext {A : Nat → Prop} (h : Ext (Sr u j) w w' ρ ρ') : Fr A u j w w' ρ ρ' := ⟨h.keeps.mono (fun _ _ e => .inl e), h.old⟩
theorem Fr.of_keeps {A B : Nat → Prop} (h : Keeps B w w') (hA : ∀ i, i < w.heap.size → B i → A i) : Fr A u j w w' ρ ρ := ⟨h.mono (fun i hi e => .inr (hA i hi e)), fun _ _ => rfl⟩
def OwnR (c : Sc) (ab rb : Nat) (k : Nat) : Prop := k = ab ∨ c.Q k ∨ k = rb
def Own (c : Sc) (ab : Nat) (k : Nat) : Prop := k = ab ∨ c.Q k
theorem results_cell2x {fn : Func} {p q : Tmp} {ty ty2 : TypeId} (h : fn.results = #[.cell p ty, .cell q ty2]) (tmps : Array Value) (P : Program) (w : World) {a b : Addr} {v1 v2 : Value}
    (ha : tmps[p]?.getD undef = .pointer (some a)) (hb : tmps[q]?.getD undef = .pointer (some b)) (h1 : (loadVar ty a).run P w = .ok v1 w) (h2 : (loadVar ty2 b).run P w = .ok v2 w) : (results fn tmps).run P w = .ok (.tuple #[v1, v2]) w := by
  simp only [results, h]
  simp [Sem.run_bind, Result.andThen, asAddr, ha, hb, h1, h2]
theorem run_row {W : World} {b : Nat} (h : CL W b r.cells) : (loadVar 36 ⟨b, 0, none⟩).run Tryz.prog W = .ok (.agg r.cells.toArray) W :=
  run_loadVar_mid W b 0 36 r.cells _ (fun j v e => by have := h.c j v e; rwa [Nat.zero_add]) Tryz.underlying36 rfl (by rw [i46]; rfl)
set_option maxHeartbeats 600000 in
set_option maxRecDepth 1000000 in
theorem blank_any (h : CL w ab (x.cells c ab)) :
    Calls Tryz.prog 99 #[.pointer (some ⟨ab, 0, none⟩)] w fun e w' => e = .returned (.agg x.blank.cells.toArray) ∧ Keeps (fun _ => False) w w' := by
  obtain ⟨w0, hw0⟩ : ∃ w0, w0 = w.alloc (.cells #[.int .i64 0, .int .i64 0, .int .i64 0, .int .i64 0, .int .i64 0, .int .i64 0, .int .i64 0, .int .i64 0, .int .i64 0, .int .i64 0, .int .i64 0, .int .i64 0, .int .i64 0, .bool false, .bool false, .bool false, .int .i64 0, .bool false, .int .i64 0, .int .i64 0, .bool false, .bool false, .int .i64 0, .int .i64 0, .bool false, .int .i64 0] 36) := ⟨_, rfl⟩
  have k0 : Keeps (fun _ => False) w w0 := by rw [hw0]; exact (Keeps.refl _ w).alloc _
  have h0 := h.keep (by show 0 < 36; decide) k0 (fun e => e)
  have hb : CL w0 w.heap.size Ro.zero.cells := by rw [hw0]; exact CL.made _ _ _
  have f4 := h0.c 4 _ rfl
  have f7 := h0.c 7 _ rfl
  have f16 := h0.c 16 _ rfl
  have lt0 : ¬ w.heap.size < w.heap.size := Nat.lt_irrefl _
  go_enter Tryz.func99, Tryz.ntmps99
  go_wp2_with fail
  rw [← hw0]
  clear hw0
  refine wp_region_held_drew (S := fun w' => w'.cell? ⟨ab, 4, none⟩ = some (.int .i64 x.thread) ∧ w'.cell? ⟨ab, 7, none⟩ = some (.int .i64 (x.no : Int)) ∧ w'.cell? ⟨ab, 16, none⟩ = some (.int .i64 x.phase)) (by kernel_rfl) ⟨f4, f7, f16⟩ (fun hHeld => ?_)
  refine wpAnyH_take (i := 0) (v := ?_) rfl (by kernel_rfl) (by kernel_rfl) (by kernel_rfl) (fun _ _ _ h => h) (Or.inl ⟨by rfl, ?_⟩) (by assumption) ?_
  rotate_left
  · intro wx hSw; (try dsimp only at hSw); go_simp <;> with_reducible rfl
  (try simp only [List.getElem_toArray]); (try simp only [List.getElem_cons_succ]); (try simp only [List.getElem_cons_zero]); (try simp only [Act.put]); (try simp only [List.setIfInBounds_toArray]); (repeat first | simp only [List.set_cons_succ] | simp only [List.set_cons_zero])
  refine wpAnyH_take (i := 1) (v := ?_) rfl (by kernel_rfl) (by kernel_rfl) (by kernel_rfl) (fun _ _ _ h => h) (Or.inl ⟨by rfl, ?_⟩) (by assumption) ?_
  rotate_left
  · intro wx hSw; (try dsimp only at hSw); go_simp <;> with_reducible rfl
  (try simp only [List.getElem_toArray]); (try simp only [List.getElem_cons_succ]); (try simp only [List.getElem_cons_zero]); (try simp only [Act.put]); (try simp only [List.setIfInBounds_toArray]); (repeat first | simp only [List.set_cons_succ] | simp only [List.set_cons_zero])
  refine wpAnyH_take (i := 2) (v := ?_) rfl (by kernel_rfl) (by kernel_rfl) (by kernel_rfl) (fun _ _ _ h => h) (Or.inl ⟨by rfl, ?_⟩) (by assumption) ?_
  rotate_left
  · intro wx hSw; (try dsimp only at hSw); go_simp <;> with_reducible rfl
  (try simp only [List.getElem_toArray]); (try simp only [List.getElem_cons_succ]); (try simp only [List.getElem_cons_zero]); (try simp only [Act.put]); (try simp only [List.setIfInBounds_toArray]); (repeat first | simp only [List.set_cons_succ] | simp only [List.set_cons_zero])
  refine wpAnyH_take (i := 3) (v := ?_) rfl (by kernel_rfl) (by kernel_rfl) (by kernel_rfl) (fun _ _ _ h => h) (Or.inl ⟨by rfl, ?_⟩) (by assumption) ?_
  rotate_left
  · intro wx hSw; (try dsimp only at hSw); go_simp <;> with_reducible rfl
  (try simp only [List.getElem_toArray]); (try simp only [List.getElem_cons_succ]); (try simp only [List.getElem_cons_zero]); (try simp only [Act.put]); (try simp only [List.setIfInBounds_toArray]); (repeat first | simp only [List.set_cons_succ] | simp only [List.set_cons_zero])
  refine wpAnyH_take (i := 4) (v := ?_) rfl (by kernel_rfl) (by kernel_rfl) (by kernel_rfl) (fun _ _ _ h => h) (Or.inl ⟨by rfl, ?_⟩) (by assumption) ?_
  rotate_left
  · intro wx hSw; (try dsimp only at hSw); go_simp <;> with_reducible rfl
  (try simp only [List.getElem_toArray]); (try simp only [List.getElem_cons_succ]); (try simp only [List.getElem_cons_zero]); (try simp only [Act.put]); (try simp only [List.setIfInBounds_toArray]); (repeat first | simp only [List.set_cons_succ] | simp only [List.set_cons_zero])
  refine wpAnyH_take (i := 5) (v := ?_) rfl (by kernel_rfl) (by kernel_rfl) (by kernel_rfl) (fun _ _ _ h => h) (Or.inl ⟨by rfl, ?_⟩) (by assumption) ?_
  rotate_left
  · intro wx hSw; (try dsimp only at hSw); go_simp <;> with_reducible rfl
  (try simp only [List.getElem_toArray]); (try simp only [List.getElem_cons_succ]); (try simp only [List.getElem_cons_zero]); (try simp only [Act.put]); (try simp only [List.setIfInBounds_toArray]); (repeat first | simp only [List.set_cons_succ] | simp only [List.set_cons_zero])
  refine wpAnyH_take (i := 6) (v := ?_) rfl (by kernel_rfl) (by kernel_rfl) (by kernel_rfl) (fun _ _ _ h => h) (Or.inl ⟨by rfl, ?_⟩) (by assumption) ?_
  rotate_left
  · intro wx hSw; (try dsimp only at hSw); go_simp <;> with_reducible rfl
  (try simp only [List.getElem_toArray]); (try simp only [List.getElem_cons_succ]); (try simp only [List.getElem_cons_zero]); (try simp only [Act.put]); (try simp only [List.setIfInBounds_toArray]); (repeat first | simp only [List.set_cons_succ] | simp only [List.set_cons_zero])
  refine wpAnyH_take (i := 7) (v := ?_) rfl (by kernel_rfl) (by kernel_rfl) (by kernel_rfl) (fun _ _ _ h => h) (Or.inl ⟨by rfl, ?_⟩) (by assumption) ?_
  rotate_left
  · intro wx hSw; (try dsimp only at hSw); go_simp <;> with_reducible rfl
  (try simp only [List.getElem_toArray]); (try simp only [List.getElem_cons_succ]); (try simp only [List.getElem_cons_zero]); (try simp only [Act.put]); (try simp only [List.setIfInBounds_toArray]); (repeat first | simp only [List.set_cons_succ] | simp only [List.set_cons_zero])
  refine wpAnyH_take (i := 8) (v := ?_) rfl (by kernel_rfl) (by kernel_rfl) (by kernel_rfl) (fun _ _ _ h => h) (Or.inl ⟨by rfl, ?_⟩) (by assumption) ?_
  rotate_left
  · intro wx hSw; (try dsimp only at hSw); go_simp <;> with_reducible rfl
  (try simp only [List.getElem_toArray]); (try simp only [List.getElem_cons_succ]); (try simp only [List.getElem_cons_zero]); (try simp only [Act.put]); (try simp only [List.setIfInBounds_toArray]); (repeat first | simp only [List.set_cons_succ] | simp only [List.set_cons_zero])
  refine wpAnyH_take (i := 9) (v := ?_) rfl (by kernel_rfl) (by kernel_rfl) (by kernel_rfl) (fun _ _ _ h => h) (Or.inl ⟨by rfl, ?_⟩) (by assumption) ?_
  rotate_left
  · intro wx hSw; (try dsimp only at hSw); go_simp <;> with_reducible rfl
  (try simp only [List.getElem_toArray]); (try simp only [List.getElem_cons_succ]); (try simp only [List.getElem_cons_zero]); (try simp only [Act.put]); (try simp only [List.setIfInBounds_toArray]); (repeat first | simp only [List.set_cons_succ] | simp only [List.set_cons_zero])
  refine wpAnyH_take (i := 10) (v := ?_) rfl (by kernel_rfl) (by kernel_rfl) (by kernel_rfl) (fun _ _ _ h => h) (Or.inl ⟨by rfl, ?_⟩) (by assumption) ?_
  rotate_left
  · intro wx hSw; (try dsimp only at hSw); go_simp <;> with_reducible rfl
  (try simp only [List.getElem_toArray]); (try simp only [List.getElem_cons_succ]); (try simp only [List.getElem_cons_zero]); (try simp only [Act.put]); (try simp only [List.setIfInBounds_toArray]); (repeat first | simp only [List.set_cons_succ] | simp only [List.set_cons_zero])
  refine wpAnyH_take (i := 11) (v := ?_) rfl (by kernel_rfl) (by kernel_rfl) (by kernel_rfl) (fun _ _ _ h => h) (Or.inl ⟨by rfl, ?_⟩) (by assumption) ?_
  rotate_left
  · intro wx hSw; (try dsimp only at hSw); go_simp <;> with_reducible rfl
  (try simp only [List.getElem_toArray]); (try simp only [List.getElem_cons_succ]); (try simp only [List.getElem_cons_zero]); (try simp only [Act.put]); (try simp only [List.setIfInBounds_toArray]); (repeat first | simp only [List.set_cons_succ] | simp only [List.set_cons_zero])
  refine wpAnyH_take (i := 12) (v := ?_) rfl (by kernel_rfl) (by kernel_rfl) (by kernel_rfl) (fun _ _ _ h => h) (Or.inl ⟨by rfl, ?_⟩) (by assumption) ?_
  rotate_left
  · intro wx hSw; (try dsimp only at hSw); go_simp <;> with_reducible rfl
  (try simp only [List.getElem_toArray]); (try simp only [List.getElem_cons_succ]); (try simp only [List.getElem_cons_zero]); (try simp only [Act.put]); (try simp only [List.setIfInBounds_toArray]); (repeat first | simp only [List.set_cons_succ] | simp only [List.set_cons_zero])
  refine wpAnyH_take (i := 13) (v := ?_) rfl (by kernel_rfl) (by kernel_rfl) (by kernel_rfl) (fun _ _ _ h => h) (Or.inl ⟨by rfl, ?_⟩) (by assumption) ?_
  rotate_left
  · intro wx hSw; (try dsimp only at hSw); go_simp <;> with_reducible rfl
  (try simp only [List.getElem_toArray]); (try simp only [List.getElem_cons_succ]); (try simp only [List.getElem_cons_zero]); (try simp only [Act.put]); (try simp only [List.setIfInBounds_toArray]); (repeat first | simp only [List.set_cons_succ] | simp only [List.set_cons_zero])
  refine wpAnyH_take (i := 14) (oi := { dst := some 17, op := Op.build 36 #[(1, Operand.tmp 7), (2, Operand.const (Value.int IntKind.i64 (-1))), (4, Operand.tmp 11), (6, Operand.tmp 16), (7, Operand.const (Value.int IntKind.i64 (-1))), (8, Operand.const (Value.int IntKind.i64 (-1))), (9, Operand.const (Value.int IntKind.i64 (-1))), (10, Operand.const (Value.int IntKind.i64 (-1)))], type := 36, pos := "txn.go:236", after := #[{ on := 4, ground := Ground.data }, { on := 8, ground := Ground.data }, { on := 13, ground := Ground.data }], guard := none }) (v := .agg x.blank.cells.toArray) rfl (by kernel_rfl) (by kernel_rfl) (by kernel_rfl) (fun _ _ _ h => h) (Or.inl ⟨by rfl, ?_⟩) (by assumption) ?_
  · intro wx hSw; kernel_rfl
  simp only [Act.put]; (try simp only [List.setIfInBounds_toArray]); (repeat first | simp only [List.set_cons_succ] | simp only [List.set_cons_zero])
  have kk : Keeps (fun k => k = w.heap.size) w0.drew (w0.drew.setCells w.heap.size 0 x.blank.cells) := (Keeps.refl _ w0.drew).setsA _ _
  have na : ab ≠ w.heap.size := by have := h.lt (by show 0 < 36; decide); omega
  refine wpAnyH_store 15 (by kernel_rfl) rfl rfl 36 _ _ rfl w.heap.size 0 26 x.blank.cells.toArray (by rfl) (by rfl) rfl (hb.drew.there (n := 26) (by show 26 ≤ 26; decide)) i46 (all_oneCell_toArray (by simp [Ro.cells, Value.oneCell'])) ⟨kk.cell (p := ⟨ab, 4, none⟩) hHeld.1 na, kk.cell (p := ⟨ab, 7, none⟩) hHeld.2.1 na, kk.cell (p := ⟨ab, 16, none⟩) hHeld.2.2 na⟩ ?_
  intro hHeld
  refine wpAnyH_done (by kernel_rfl) ?_ _
  have hf : CL (w0.drew.setCells w.heap.size 0 x.blank.cells) w.heap.size x.blank.cells := hb.drew.sets (o := 0) (by show 26 ≤ 26; decide)
  have kf : Keeps (fun _ => False) w (w0.drew.setCells w.heap.size 0 x.blank.cells) := k0.drew.trans' kk (fun _ _ e => e) (fun i hi e => by omega)
  show Exit.then _ _ _ _ (w0.drew.setCells w.heap.size 0 x.blank.cells)
  generalize w0.drew.setCells w.heap.size 0 x.blank.cells = W at *
  go_wp2_with fail
  refine bodyPost_ret (v := .agg x.blank.cells.toArray) ?_ rfl ⟨rfl, kf⟩
  rw [results_cell1x rfl]
  exact run_row hf
set_option maxHeartbeats 800000 in
set_option maxRecDepth 1000000 in
theorem catch_idle (p q r : Addr) (w : World) :
    CallsD Tryz.prog 97 #[.pointer (some p), .pointer (some q), .pointer (some r)] .returning w fun e u' w' => e = .returned (.tuple #[]) ∧ u' = .returning ∧ w' = w := by
  refine callsD_of_wpS Tryz.func97 rfl fun c₀ cs hu => ?_
  apply wpS_seq
  apply wpS_region
  simp [wpOpsS, go_sem, recoverD, hu, Tryz.ntmps97, Exit.thenS]
  apply wpS_seq
  apply wpS_region
  simp [wpOpsS, go_sem, Exit.thenS]
  refine wpS_cond (t := false) (by simp [Act.eval, Array.replicate]) ?_
  simp only [Bool.false_eq_true, if_false]
  refine wpS_of_wp (wp_skip ?_)
  cases c₀
  simp_all [bodyPostS, results, Tryz.results97]
structure Sam (c c' : Sc) (rs : List Rd) : Prop where
  mb : c'.mb = c.mb
  wb : c'.wb = c.wb
  gb : c'.gb = c.gb
  db : c'.db = c.db
  om : c'.om = c.om
  rs : c'.rs = rs
theorem Sam.refl (c : Sc) : Sam c c c.rs := ⟨rfl, rfl, rfl, rfl, rfl, rfl⟩
structure Res (w w' : World) (ρ ρ' : Nat → Nat) (u j : Nat) (c c' : Sc) (ab : Nat) (x' : Tx) (rs' : List Rd) (n' : Nat) (f' : Int → Option Nat) (s' : Ws) (m' : Mm) (A : Nat → Prop) : Prop where
  sam : Sam c c' rs'
  ax : AX w' ρ' u j c' ab x' n' f' s' m'
  fr : Fr A u j w w' ρ ρ'
  bk : ∀ k, c'.Q k → c.Q k ∨ w.heap.size ≤ k
def Goes (k : Nat) (u j : Nat) (c : Sc) (ab : Nat) (ρ : Nat → Nat) (x x' : Tx) (n n' : Nat) (f f' : Int → Option Nat) (s s' : Ws) (m m' : Mm) (r' : Ro) : Prop :=
  ∀ W rb, AX W ρ u j c ab x n f s m → RX W ρ c ab rb x.blank → Calls Tryz.prog k #[.pointer (some ⟨ab, 0, none⟩), .pointer (some ⟨rb, 0, none⟩)] W fun e W' =>
    e = .returned (.tuple #[]) ∧ ∃ ρ', AX W' ρ' u j c ab x' n' f' s' m' ∧ RX W' ρ' c ab rb r' ∧ Fr (OwnR c ab rb) u j W W' ρ ρ'
def GoesK (w : World) (k : Nat) (u j : Nat) (c : Sc) (ab : Nat) (ρ : Nat → Nat) (x x' : Tx) (rs' : List Rd) (n n' : Nat) (f f' : Int → Option Nat) (s s' : Ws) (m m' : Mm) (r' : Ro) : Prop :=
  ∀ W rb, w.heap.size ≤ rb → Keeps (fun _ => False) w W → AX W ρ u j c ab x n f s m → RX W ρ c ab rb x.blank → Calls Tryz.prog k #[.pointer (some ⟨ab, 0, none⟩), .pointer (some ⟨rb, 0, none⟩)] W fun e W' =>
    e = .returned (.tuple #[]) ∧ ∃ ρ' c', Res W W' ρ ρ' u j c c' ab x' rs' n' f' s' m' (OwnR c ab rb) ∧ RX W' ρ' c' ab rb r'
theorem Goes.k {k : Nat} (h : Goes k u j c ab ρ x x' n n' f f' s s' m m' r') (w : World) : GoesK w k u j c ab ρ x x' c.rs n n' f f' s s' m m' r' := fun W rb _ _ hA hR => (h W rb hA hR).mono (fun _ _ ⟨h1, ρ', h2, h3, h4⟩ => ⟨h1, ρ', c, ⟨Sam.refl c, h2, h4, fun _ e => .inl e⟩, h3⟩)
set_option maxHeartbeats 800000 in
set_option maxRecDepth 1000000 in
theorem step_goes (h : AX w ρ u j c ab x n f s m) (ha : x.alive = true) {k : Nat} (hn : x.nx = some k) (hcf : ∀ (args : Array Value) (w : World), (callFunc k args).run Tryz.prog w = .ok (.enter k args) w) {rs' : List Rd} (hg : GoesK w k u j c ab ρ x x' rs' n n' f f' s s' m m' r') :
    Calls Tryz.prog 77 #[.pointer (some ⟨ab, 0, none⟩)] w fun e w' => e = .returned (.tuple #[.agg r'.cells.toArray, .int .i64 0]) ∧ ∃ ρ' c', Res w w' ρ ρ' u j c c' ab x' rs' n' f' s' m' (Own c ab) := by
  have hmf : ∀ (fn : Fn) (first cap : Array Value) (w : World), (Instr.makeFunc fn first cap).run Tryz.prog w = .ok (.func fn first cap) w := fun _ _ _ _ => rfl
  obtain ⟨w0, hw0⟩ : ∃ w0, w0 = ((w.alloc (.cells #[.pointer (some ⟨ab, 0, none⟩)] 86)).alloc (.cells #[.int .i64 0, .int .i64 0, .int .i64 0, .int .i64 0, .int .i64 0, .int .i64 0, .int .i64 0, .int .i64 0, .int .i64 0, .int .i64 0, .int .i64 0, .int .i64 0, .int .i64 0, .bool false, .bool false, .bool false, .int .i64 0, .bool false, .int .i64 0, .int .i64 0, .bool false, .bool false, .int .i64 0, .int .i64 0, .bool false, .int .i64 0] 36)).alloc (.cells #[.int .i64 0] 52) := ⟨_, rfl⟩
  have k0 : Keeps (fun _ => False) w w0 := by rw [hw0]; exact (((Keeps.refl _ w).alloc _).alloc _).alloc _
  have h0 := h.new k0
  have hb : CL w0 (w.heap.size + 1) Ro.zero.cells := by
    rw [hw0]
    have := CL.made (w.alloc (.cells #[.pointer (some ⟨ab, 0, none⟩)] 86)) Ro.zero.cells 36
    rw [show (w.alloc (.cells #[.pointer (some ⟨ab, 0, none⟩)] 86)).heap.size = w.heap.size + 1 by simp] at this
    exact this.alloc (by show 0 < 26; decide) _
  have ca : CL w0 w.heap.size [.pointer (some ⟨ab, 0, none⟩)] := by
    rw [hw0]
    exact ((CL.made w [.pointer (some ⟨ab, 0, none⟩)] 86).alloc (by show 0 < 1; decide) _).alloc (by show 0 < 1; decide) _
  have ce : CL w0 (w.heap.size + 1 + 1) [.int .i64 0] := by
    rw [hw0]
    refine cast ?_ (CL.made ((w.alloc (.cells #[.pointer (some ⟨ab, 0, none⟩)] 86)).alloc (.cells #[.int .i64 0, .int .i64 0, .int .i64 0, .int .i64 0, .int .i64 0, .int .i64 0, .int .i64 0, .int .i64 0, .int .i64 0, .int .i64 0, .int .i64 0, .int .i64 0, .int .i64 0, .bool false, .bool false, .bool false, .int .i64 0, .bool false, .int .i64 0, .int .i64 0, .bool false, .bool false, .int .i64 0, .int .i64 0, .bool false, .int .i64 0] 36)) [.int .i64 0] 52)
    congr 1
    simp
  have a0 := ca.c 0 _ rfl
  have hs := state_busy h0.cl ha hn
  have nb : ¬ w.heap.size = w.heap.size + 1 := by omega
  have nb2 : ¬ w.heap.size + 1 + 1 = w.heap.size + 1 := by omega
  have hz : ρ (w.heap.size + 1) = 0 := h.st.bnd _ (by omega)
  have na : w.heap.size + 1 ≠ ab := by have := h.alt; omega
  have no : ¬ c.Q (w.heap.size + 1) := fun e => by have := h.qlt e; omega
  go_enter_defers Tryz.func77, Tryz.ntmps77
  go_wp2_with fail
  rw [← hw0]
  clear hw0
  refine hs.mono ?_
  clear hs
  rintro e w1 ⟨rfl, rfl⟩
  go_wp2_with fail
  refine (blank_any h0.cl).mono ?_
  rintro e w2 ⟨rfl, k2⟩
  have h2 := h0.new k2
  have hb2 := hb.keep (by show 0 < 26; decide) k2 (fun e => e)
  have ca2 := ca.keep (by show 0 < 1; decide) k2 (fun e => e)
  have ce2 := ce.keep (by show 0 < 1; decide) k2 (fun e => e)
  have K2 := k0.trans k2
  clear a0 h0 hb ca ce k2 k0
  go_wp2_with (refine wpList_store_cl rfl 36 _ _ rfl (w.heap.size + 1) 0 26 _ rfl rfl rfl hb2 (by show 26 ≤ 26; decide) i46 (all_oneCell_toArray (by simp [Ro.cells, Value.oneCell'])) ?_; intro w3 hb3 k3 _; have h3 := h2.far k3 hz na no; have r3 : RX w3 ρ c ab (w.heap.size + 1) x.blank := ⟨hb3, hz, na, no⟩; have ca3 := ca2.keep (by show 0 < 1; decide) k3 nb; have ce3 := ce2.keep (by show 0 < 1; decide) k3 nb2; have a3 := ca3.c 0 _ rfl; have hc3 := h3.cl; have f15 := hc3.c 15 _ rfl; rw [hn] at f15; simp only [fnv] at f15; clear hc3)
  refine (hg _ _ (by omega) (K2.trans' k3 (fun _ _ e => e) (fun i hi e => by omega)) h3 r3).mono ?_
  rintro e w4 ⟨rfl, ρ', c', rs4, r4⟩
  have h4 := rs4.ax
  have fr4 := rs4.fr
  have lt1 : w.heap.size + 1 < w3.heap.size := r3.lt
  have b0 : ρ' (w.heap.size + 1) = 0 := (fr4.old _ lt1).trans hz
  have ls : w.heap.size < w3.heap.size := ca3.lt (by show 0 < 1; decide)
  have le : w.heap.size + 1 + 1 < w3.heap.size := ce3.lt (by show 0 < 1; decide)
  have S0 : ¬ Sr u j 0 := Sr.not0 h.st
  have ce4 := ce3.keep (by show 0 < 1; decide) fr4.keeps (fun e => e.elim (fun e => S0 (by rw [h.st.bnd _ (by omega)] at e; exact e)) (fun e => e.elim (fun e => by have := h.alt; omega) (fun e => e.elim (fun e => by have := h.qlt e; omega) (fun e => by omega))))
  have hr4 := run_row r4.cl
  have e4 := ce4.c 0 _ rfl
  clear a3 f15 ca3 ca2 hb2 ce2 hb3 h2 h3 ce3
  go_wp2_with (first | (refine wpList_load_run rfl 36 _ rfl ⟨w.heap.size + 1, 0, none⟩ rfl _ hr4 ?_; clear hr4) | (refine wpList_store_cl rfl 36 _ _ rfl (w.heap.size + 1) 0 26 _ rfl rfl rfl r4.cl (by show 26 ≤ 26; decide) i46 (all_oneCell_toArray (by simp [Ro.cells, Value.oneCell'])) ?_; intro w5 hb5 k5 _; have ce5 := ce4.keep (by show 0 < 1; decide) k5 nb2; have e5 := ce5.c 0 _ rfl; have ze5 := ce5.z 0 (by show 0 < 1; decide); clear e4))
  have hb6 := hb5.other (p := ⟨w.heap.size + 1 + 1, 0, none⟩) nb2 (.int .i64 0)
  have ce6 := ce5.set (o := 0) (by show 0 < 1; decide) (.int .i64 0)
  have k6 : Keeps (fun k => k = w.heap.size + 1 ∨ k = w.heap.size + 1 + 1) w4 (w5.setCell ⟨w.heap.size + 1 + 1, 0, none⟩ (.int .i64 0)) := (k5.mono (fun _ _ e => .inl e)).setCell (fun _ => .inr rfl) _
  have hr6 := run_row (r := r') hb6
  have e6 := ce6.c 0 _ rfl
  clear e5 ze5 hb5 ce5 ce6
  generalize w5.setCell ⟨w.heap.size + 1 + 1, 0, none⟩ (.int .i64 0) = w6 at *
  have h6 : AX w6 ρ' u j c' ab x' n' f' s' m' := by
    have l4 : w3.heap.size ≤ w4.heap.size := fr4.keeps.size
    have x6 : Ext (fun r => r = 0) w4 w6 ρ' ρ' := ⟨k6.mono (fun i _ e => e.elim (fun e => by subst e; exact b0) (fun e => by subst e; exact (fr4.old _ le).trans (h.st.bnd _ (by omega)))), fun _ _ => rfl, fun i hi => .inr (h4.st.bnd i hi)⟩
    have n6 : ∀ k, (k = w.heap.size + 1 ∨ k = w.heap.size + 1 + 1) → k ≠ ab ∧ ¬ c'.Q k := fun k e => ⟨by have := h.alt; omega, fun e' => by
      rcases rs4.bk k e' with e' | e'
      · have := h.qlt e'; omega
      · omega⟩
    exact ⟨⟨fun i hi => h4.st.bnd i (Nat.le_trans k6.size hi), h4.st.mj.ext x6 (fun e => h4.st.u0 e), h4.st.wj.ext x6 (fun r h1 h2 e => h4.st.j0 (by omega)), h4.st.u0, h4.st.j0, h4.st.ap⟩, h4.cl.keep (by show 0 < 36; decide) k6 (fun e => (n6 _ e).1 rfl), h4.om.keep k6 (fun e => (n6 _ e).2 (.inl rfl)), h4.tt.keep k6 (fun i hi e => (n6 _ e).2 hi), h4.ra, h4.ro, h4.ne⟩
  have fr6 : Fr (Own c ab) u j w w6 ρ ρ' := by
    have f3 : Fr (fun _ => False) u j w w3 ρ ρ := Fr.of_keeps (B := fun _ => False) (K2.trans' k3 (fun _ _ e => e) (fun i hi e => by omega)) (fun _ _ e => e)
    have f4 : Fr (Own c ab) u j w w4 ρ ρ' := f3.trans fr4 (fun _ _ e => e.elim) (fun i hi e => by
      rcases e with e | e | e
      · exact .inl e
      · exact .inr e
      · omega)
    exact f4.trans (Fr.of_keeps k6 (fun _ _ e => e)) (fun _ _ e => e) (fun i hi e => by omega)
  refine leaves_cons (f := 97) (args := #[.pointer (some ⟨w.heap.size, 0, none⟩), .pointer (some ⟨w.heap.size + 1, 0, none⟩), .pointer (some ⟨w.heap.size + 1 + 1, 0, none⟩)]) (by simp) (by simp [go_sem]) ?_
  refine (catch_idle _ _ _ _).mono ?_
  rintro e u' w'' ⟨rfl, rfl, rfl⟩
  refine ⟨.tuple #[.agg r'.cells.toArray, .int .i64 0], ?_, rfl, ρ', c', rs4.sam, h6, fr6, fun k hk => (rs4.bk k hk).imp id (fun e => by omega)⟩
  refine results_cell2x Tryz.results77 _ _ _ (a := ⟨w.heap.size + 1, 0, none⟩) (b := ⟨w.heap.size + 1 + 1, 0, none⟩) rfl rfl hr6 ?_
  go_simp
end
end Go.Proofs.YtgjndhbfjofkeaaGreatDoor

namespace Go.Proofs.YtgjndhbfjofkeaaGreatDoor
open Go.RowKit
section
variable {w w' : World} {ρ ρ' : Nat → Nat} {u j wb mb : Nat} {s s' : Ws} {m m' : Mm} {vo va vl vn : Value}
theorem Locator_ok (h : St w ρ u j wb mb s m) {i : Nat} (hi : i < s.locs.length) :
    Calls Tryz.prog 106 #[.pointer (some ⟨wb, 0, none⟩), .int .i64 (i : Int)] w fun e w' => e = .returned (.tuple #[.agg #[.int .i64 ((s.lo i).owner : Int), .int .i64 ((s.lo i).old : Int), .int .i64 ((s.lo i).new : Int)], .int .i64 0]) ∧ Keeps (fun _ => False) w w' := by
  obtain ⟨w0, hw0⟩ : ∃ w0, w0 = w.alloc (.cells #[.int .i64 0, .int .i64 0, .int .i64 0] 157) := ⟨_, rfl⟩
  have K0 : Keeps (fun _ => False) w w0 := by rw [hw0]; exact (Keeps.refl _ w).alloc _
  have b0 : w0.cell? ⟨w.heap.size, 0, none⟩ = some (.int .i64 0) := by rw [hw0]; simp
  have b1 : w0.cell? ⟨w.heap.size, 1, none⟩ = some (.int .i64 0) := by rw [hw0]; simp
  have b2 : w0.cell? ⟨w.heap.size, 2, none⟩ = some (.int .i64 0) := by rw [hw0]; simp
  have bz : ∀ o, w0.frozen? ⟨w.heap.size, o, none⟩ = false := by intro o; rw [hw0]; simp
  have z0 := bz 0
  have z1 := bz 1
  have z2 := bz 2
  have h0 := (h.new K0).1
  obtain ⟨vo, va, vl, vn, hw⟩ := h0.wj
  obtain ⟨gl, hgl, rl, ll, l0, l1, l2, l3⟩ := hw.loc hi
  have ngl : ¬ gl = w.heap.size := fun e => by rw [e, h.bnd _ (Nat.le_refl _)] at rl; omega
  have ha := locator_ok hw hi hgl
  have hq := leq gl (i * 4)
  generalize s.lo i = L at *
  clear h hw h0 bz
  go_enter Tryz.func106, Tryz.ntmps106
  go_wp2_with fail
  rw [← hw0]
  clear hw0
  refine ha.mono ?_
  rintro e w' ⟨rfl, rfl⟩
  go_wp2_with fail
  (try simp only [Exit.inBlock, Exit.then])
  refine bodyPost_ret (v := .tuple #[.agg #[.int .i64 (L.owner : Int), .int .i64 (L.old : Int), .int .i64 (L.new : Int)], .int .i64 0]) ?_ rfl ⟨rfl, ?_⟩
  · rw [results_cell_tmp rfl]
    go_simp
  · exact K0.trans' (keeps_set3 _ w.heap.size _ _ _) (fun _ _ e => e) (fun i hi e => by omega)
theorem Current_2 (h : St w ρ u j wb mb s m) {i : Nat} (hi : i < s.locs.length) :
    Calls Tryz.prog 145 #[.pointer (some ⟨wb, 0, none⟩), .int .i64 (i : Int), .int .i64 2] w fun e w' => e = .returned (.tuple #[.int .i64 ((s.lo i).new : Int), .int .i64 0]) ∧ w = w' := by
  obtain ⟨vo, va, vl, vn, hw⟩ := h.wj
  obtain ⟨gl, hgl, rl, ll, l0, l1, l2, l3⟩ := hw.loc hi
  have ha := locator_ok hw hi hgl
  have hq := leq gl (i * 4)
  generalize s.lo i = L at *
  clear h hw
  go_enter Tryz.func145, Tryz.ntmps145
  go_wp2_with fail
  refine ha.mono ?_
  rintro e w' ⟨rfl, rfl⟩
  go_wp2_with fail
  go_ret2
  exact ⟨rfl, rfl⟩
set_option maxHeartbeats 1600000 in
set_option maxRecDepth 1000000 in
theorem Current_13 (h : St w ρ u j wb mb s m) {i : Nat} {v : Int} (hv : v = 1 ∨ v = 3) (hi : i < s.locs.length) :
    Calls Tryz.prog 145 #[.pointer (some ⟨wb, 0, none⟩), .int .i64 (i : Int), .int .i64 v] w fun e w' => e = .returned (.tuple #[.int .i64 ((s.lo i).old : Int), .int .i64 0]) ∧ w = w' := by
  obtain ⟨vo, va, vl, vn, hw⟩ := h.wj
  obtain ⟨gl, hgl, rl, ll, l0, l1, l2, l3⟩ := hw.loc hi
  have ha := locator_ok hw hi hgl
  have hq := leq gl (i * 4)
  generalize s.lo i = L at *
  clear h hw
  rcases hv with e | e <;> subst e <;>
  · go_enter Tryz.func145, Tryz.ntmps145
    go_wp2_with fail
    refine ha.mono ?_
    rintro e w' ⟨rfl, rfl⟩
    go_wp2_with fail
    go_ret2
    exact ⟨rfl, rfl⟩
end
end Go.Proofs.YtgjndhbfjofkeaaGreatDoor

namespace Go.Proofs.YtgjndhbfjofkeaaGreatDoor
open Go.RowKit
attribute [local go_sem] Oper.semAt_some run_store_nf run_store_f
section
variable {w w' : World} {ρ ρ' ρ'' : Nat → Nat} {u j : Nat} {c : Sc} {ab rb n n' : Nat} {x x' : Tx} {f f' : Int → Option Nat} {s s' : Ws} {m m' : Mm} {r r' : Ro}
theorem had_load (m : Mm) (k : Nat) : (m.load k).had := fun _ _ => by simp [Mm.load, Mm.take]
theorem had_swap (m : Mm) (k : Nat) (a b : Int) : (m.swap k a b).had := fun _ _ => by simp [Mm.swap, Mm.take]
theorem log_load (m : Mm) (k : Nat) : (m.load k).log.length = m.log.length + 1 := by simp [Mm.load, Mm.take]
theorem log_swap (m : Mm) (k : Nat) (a b : Int) : (m.swap k a b).log.length = m.log.length + 1 := by simp [Mm.swap, Mm.take]
theorem Fr.tr {A : Nat → Prop} {w'' : World} (h : Fr A u j w w' ρ ρ') (k : Fr A u j w' w'' ρ' ρ'') : Fr A u j w w'' ρ ρ'' := h.trans k (fun _ _ e => e) (fun _ _ e => e)
def Tx.pointed (x : Tx) (l : Int) : Tx := { x with nx := some 131, loc := l }
set_option maxHeartbeats 400000 in
set_option maxRecDepth 1000000 in
theorem point_goes (hf : Wf s m) {o : Nat} (ho : x.aob = (o : Int)) (hi : o < s.objs.length) (hfr : m.free = true) (hlog : (m.log.length + 1) * 56 ≤ 140737488355328) :
    Goes 108 u j c ab ρ x (x.pointed (ca m.cells (s.ob o)).2) n n f f s s m (m.load (s.ob o)) ((({ x.blank with kind := 5 } : Ro).at_ x).acc (m.load (s.ob o)).took) := by
  intro W rb hA hR
  have hmf : ∀ (fn : Fn) (first cap : Array Value) (w : World), (Instr.makeFunc fn first cap).run Tryz.prog w = .ok (.func fn first cap) w := fun _ _ _ _ => rfl
  have hc := hR.cl
  have r5 := hc.c 5 _ rfl
  have zr5 := hc.z 5 (by show 5 < 26; decide)
  have k1 : Keeps (fun k => k = rb) W (W.setCell ⟨rb, 5, none⟩ (.int .i64 5)) := (Keeps.refl _ W).setA _ _
  have hR1 : RX (W.setCell ⟨rb, 5, none⟩ (.int .i64 5)) ρ c ab rb { x.blank with kind := 5 } := hR.self (hc.set (o := 5) (by show 5 < 26; decide) _)
  have hA1 := hA.far k1 hR.rr hR.n1 hR.n2
  clear hc
  go_enter Tryz.func108, Tryz.ntmps108
  go_wp2_with fail
  generalize W.setCell ⟨rb, 5, none⟩ (.int .i64 5) = W1 at *
  refine (at_any hA1.cl hR1.cl hR.n1).mono ?_
  rintro e W2 ⟨rfl, hc2, k2⟩
  have hA2 := (hA1.far k2 hR.rr hR.n1 hR.n2).new (Keeps.refl _ W2).drew
  have hR2 := (hR1.self hc2).new (Keeps.refl _ W2).drew
  have k12 := k1.trans k2
  clear hA1 hR1 hc2 k1 k2 r5 zr5
  have hc := hA2.cl
  have f1 := hc.c 1 _ rfl
  have zf1 := hc.z 1 (by show 1 < 36; decide)
  have f22 := hc.c 22 _ rfl
  have zf22 := hc.z 22 (by show 22 < 36; decide)
  have f26 := hc.c 26 _ rfl
  have zf26 := hc.z 26 (by show 26 < 36; decide)
  have hL := Load_ok hA2.st hf hi hfr hlog
  rw [← ho] at hL
  clear hc ho
  go_wp2_with fail
  go_region_held3 (fun w' => w'.cell? ⟨ab, 1, none⟩ = some (.pointer (some ⟨c.wb, 0, none⟩)) ∧ w'.cell? ⟨ab, 22, none⟩ = some (.int .i64 x.aob)) (first | go_keep | exact KZ _) (first | (go_at_call 130; refine hL.mono ?_; clear hL; rintro e W3 ⟨rfl, ρ3, s3, x3⟩; have hA3 := hA2.run s3 x3; have hR3 := hR2.run (Sr.not0 hA2.st) x3; have hc3 := hA3.cl; have g1 := hc3.c 1 _ rfl; have g22 := hc3.c 22 _ rfl; have g26 := hc3.c 26 _ rfl; have zg26 := hc3.z 26 (by show 26 < 36; decide); have KZ := fun (v : Value) => And.intro ((hc3.set (o := 26) (by show 26 < 36; decide) v).c 1 _ rfl) ((hc3.set (o := 26) (by show 26 < 36; decide) v).c 22 _ rfl)) | (go_at_call 129; refine (must_int _ _).mono ?_; rintro e W4 ⟨rfl, rfl⟩))
  have hA4 : AX (W4.setCell ⟨ab, 26, none⟩ (.int .i64 (ca m.cells (s.ob o)).2)) ρ3 u j c ab { x with loc := (ca m.cells (s.ob o)).2 } n f s (m.load (s.ob o)) := hA3.self ((Keeps.refl _ W4).setA _ _) (hc3.set (o := 26) (by show 26 < 36; decide) _)
  have hR4 := hR3.far ((Keeps.refl (fun k => k = ab) W4).setA 26 (.int .i64 (ca m.cells (s.ob o)).2)) hR.n1.symm
  have fr4 : Fr (OwnR c ab rb) u j W (W4.setCell ⟨ab, 26, none⟩ (.int .i64 (ca m.cells (s.ob o)).2)) ρ ρ3 := ((Fr.of_keeps k12.drew (fun _ _ e => .inr (.inr e))).tr (Fr.of_ext x3)).tr (Fr.of_keeps ((Keeps.refl (fun k => k = ab) W4).setA 26 _) (fun _ _ e => .inl e))
  clear KZ g1 g22 g26 zg26 hc3 hA3 hR3 s3 x3 hA2 hR2 k12 f1 f22 f26 zf1 zf22 zf26
  generalize W4.setCell ⟨ab, 26, none⟩ (.int .i64 (ca m.cells (s.ob o)).2) = W5 at *
  have hT := atook hA4 hR4 (had_load m (s.ob o)) (by rw [log_load]; omega)
  go_wp2_with fail
  refine hT.mono ?_
  rintro e W6 ⟨rfl, hA6, hR6, k6⟩
  have hc6 := hA6.cl
  have g15 := hc6.c 15 _ rfl
  have zg15 := hc6.z 15 (by show 15 < 36; decide)
  clear hT
  go_wp2_with fail
  go_end0
  exact ⟨rfl, ρ3, hA6.self ((Keeps.refl _ W6).setA _ _) (hc6.set (o := 15) (by show 15 < 36; decide) _), hR6.far ((Keeps.refl (fun k => k = ab) W6).setA 15 _) hR.n1.symm, (fr4.tr (Fr.of_keeps k6 (fun _ _ e => .inr (.inr e)))).tr (Fr.of_keeps ((Keeps.refl (fun k => k = ab) W6).setA 15 _) (fun _ _ e => .inl e))⟩
end
end Go.Proofs.YtgjndhbfjofkeaaGreatDoor

namespace Go.Proofs.YtgjndhbfjofkeaaGreatDoor
open Go.RowKit
attribute [local go_sem] Oper.semAt_some run_store_nf run_store_f
structure CT (w : World) (c : Sc) (ab : Nat) (x : Tx) : Prop where
  cl : CL w ab (x.cells c ab)
  tt : TT w c
  ne : ¬ c.Q ab
section
variable {w w' : World} {ρ ρ' ρ'' : Nat → Nat} {u j : Nat} {c : Sc} {ab rb n n' : Nat} {x x' : Tx} {f f' : Int → Option Nat} {s s' : Ws} {m m' : Mm} {r r' : Ro}
theorem AX.ct (h : AX w ρ u j c ab x n f s m) : CT w c ab x := ⟨h.cl, h.tt, h.ne⟩
theorem CT.new (h : CT w c ab x) (k : Keeps (fun _ => False) w w') : CT w' c ab x := ⟨h.cl.keep (by show 0 < 36; decide) k (fun e => e), h.tt.keep k (fun _ _ e => e), h.ne⟩
theorem CT.self (h : CT w c ab x) (k : Keeps (fun i => i = ab) w w') (hc : CL w' ab (x'.cells c ab)) : CT w' c ab x' := ⟨hc, h.tt.keep k (fun _ hi e => h.ne (e ▸ hi)), h.ne⟩
theorem CT.tv (h : CT w c ab x) : TB.TV w ⟨ab, c.ve, c.vm, c.vf⟩ c.rs :=
  ⟨h.cl.c 11 _ rfl, h.cl.c 12 _ rfl, h.cl.c 13 _ rfl, fun o ho => h.cl.z o ho, h.tt.re, h.tt.rf, h.tt.mp, h.tt.gd, fun e => h.ne (.inr (.inl e)), fun e => h.ne (.inr (.inr (.inr e))), h.tt.n3, fun e => h.ne (.inr (.inr (.inl e))), h.tt.n5⟩
theorem CT.lt (h : CT w c ab x) : ab < w.heap.size := h.cl.lt (by show 0 < 36; decide)
theorem atp_nat (rs : List Rd) (p : Nat) : TB.atp rs (p : Int) = (es rs)[p]? := by
  unfold TB.atp
  split
  · rw [List.getElem?_eq_none (by omega)]
  · simp
def Tx.ent (x : Tx) (e : En) (p fd : Nat) : Tx := { x with nx := some 108, aob := e.ob, aver := e.ver, aord := (e.ord : Int), place := (p : Int), loc := 0, holder := 0, status := 0, current := 0, found := some fd }
def Tx.from_ (x : Tx) (rs : List Rd) (p fd bh : Nat) : Tx := match (es rs)[p]? with
  | some e => x.ent e p fd
  | none => { x with nx := some bh }
set_option maxHeartbeats 800000 in
set_option maxRecDepth 1000000 in
theorem lookent_some (h : CT w c ab x) {p : Nat} {en : En} (he : (es c.rs)[p]? = some en) (fd bh : Nat) :
    Calls Tryz.prog 91 #[.pointer (some ⟨ab, 0, none⟩), .int .i64 (p : Int), .func (.func fd) #[.pointer (some ⟨ab, 0, none⟩)] #[], .func (.func bh) #[.pointer (some ⟨ab, 0, none⟩)] #[]] w fun e w' => e = .returned (.tuple #[]) ∧ CL w' ab ((x.ent en p fd).cells c ab) ∧ Keeps (fun k => k = ab) w w' := by
  have hmf : ∀ (fn : Fn) (first cap : Array Value) (w : World), (Instr.makeFunc fn first cap).run Tryz.prog w = .ok (.func fn first cap) w := fun _ _ _ _ => rfl
  have hT := TB.at_any h.tv (p : Int)
  rw [atp_nat, he] at hT
  simp only [TB.evo, TB.erz, TB.ev] at hT
  go_enter Tryz.func91, Tryz.ntmps91
  go_wp2_with fail
  refine hT.mono ?_
  rintro e w2 ⟨rfl, k2⟩
  have hX := (h.cl.keep (by show 0 < 36; decide) k2 (fun e => e)).alloc (by show 0 < 36; decide) (.cells #[.int .i64 en.ob, .int .i64 en.ver, .int .i64 (en.ord : Int)] 141)
  have KX := k2.alloc (.cells #[.int .i64 en.ob, .int .i64 en.ver, .int .i64 (en.ord : Int)] 141)
  have hE : CL (w2.alloc (.cells #[.int .i64 en.ob, .int .i64 en.ver, .int .i64 (en.ord : Int)] 141)) w2.heap.size [.int .i64 en.ob, .int .i64 en.ver, .int .i64 (en.ord : Int)] := CL.made w2 _ _
  have e0 := hE.c 0 _ rfl
  have e1 := hE.c 1 _ rfl
  have e2 := hE.c 2 _ rfl
  clear hT k2 hE h
  go_wp2_with (refine wpList_store_cl rfl 143 _ _ rfl ab 22 9 _ rfl rfl rfl hX (by show 31 ≤ 36; decide) i72 (by simp [Value.oneCell']) ?_; intro w3 h3 k3 _; have g15 := h3.c 15 _ rfl; have zg15 := h3.z 15 (by show 15 < 36; decide); clear e0 e1 e2)
  go_end0
  exact ⟨rfl, h3.set (o := 15) (by show 15 < 36; decide) _, ((KX.mono (fun _ _ e => e.elim)).trans k3).setA _ _⟩
set_option maxHeartbeats 800000 in
set_option maxRecDepth 1000000 in
theorem lookent_none (h : CT w c ab x) {p : Nat} (he : (es c.rs)[p]? = none) (fd bh : Nat) :
    Calls Tryz.prog 91 #[.pointer (some ⟨ab, 0, none⟩), .int .i64 (p : Int), .func (.func fd) #[.pointer (some ⟨ab, 0, none⟩)] #[], .func (.func bh) #[.pointer (some ⟨ab, 0, none⟩)] #[]] w fun e w' => e = .returned (.tuple #[]) ∧ CL w' ab (({ x with nx := some bh } : Tx).cells c ab) ∧ Keeps (fun k => k = ab) w w' := by
  have hmf : ∀ (fn : Fn) (first cap : Array Value) (w : World), (Instr.makeFunc fn first cap).run Tryz.prog w = .ok (.func fn first cap) w := fun _ _ _ _ => rfl
  have hT := TB.at_any h.tv (p : Int)
  rw [atp_nat, he] at hT
  simp only [TB.evo, TB.erz, TB.ev0] at hT
  go_enter Tryz.func91, Tryz.ntmps91
  go_wp2_with fail
  refine hT.mono ?_
  rintro e w2 ⟨rfl, k2⟩
  have hX := (h.cl.keep (by show 0 < 36; decide) k2 (fun e => e)).alloc (by show 0 < 36; decide) (.cells #[.int .i64 0, .int .i64 0, .int .i64 0] 141)
  have KX := k2.alloc (.cells #[.int .i64 0, .int .i64 0, .int .i64 0] 141)
  have g15 := hX.c 15 _ rfl
  have zg15 := hX.z 15 (by show 15 < 36; decide)
  clear hT k2 h
  go_wp2_with fail
  (try simp only [Exit.then])
  refine bodyPost_ret (results_none rfl _ _ _) rfl ?_
  exact ⟨rfl, hX.set (o := 15) (by show 15 < 36; decide) _, (KX.mono (fun _ _ e => e.elim)).setA _ _⟩
theorem lookent_any (h : CT w c ab x) (p fd bh : Nat) :
    Calls Tryz.prog 91 #[.pointer (some ⟨ab, 0, none⟩), .int .i64 (p : Int), .func (.func fd) #[.pointer (some ⟨ab, 0, none⟩)] #[], .func (.func bh) #[.pointer (some ⟨ab, 0, none⟩)] #[]] w fun e w' => e = .returned (.tuple #[]) ∧ CL w' ab ((x.from_ c.rs p fd bh).cells c ab) ∧ Keeps (fun k => k = ab) w w' := by
  unfold Tx.from_
  cases he : (es c.rs)[p]? with
  | none => exact lookent_none h he fd bh
  | some en => exact lookent_some h he fd bh
set_option maxHeartbeats 800000 in
set_option maxRecDepth 1000000 in
theorem check_any (h : CT w c ab x) (p : Nat) :
    Calls Tryz.prog 110 #[.pointer (some ⟨ab, 0, none⟩), .int .i64 (p : Int)] w fun e w' => e = .returned (.tuple #[]) ∧ CL w' ab ((x.from_ c.rs p 133 134).cells c ab) ∧ Keeps (fun k => k = ab) w w' := by
  have hmf : ∀ (fn : Fn) (first cap : Array Value) (w : World), (Instr.makeFunc fn first cap).run Tryz.prog w = .ok (.func fn first cap) w := fun _ _ _ _ => rfl
  have hL := lookent_any h p 133 134
  generalize x.from_ c.rs p 133 134 = y at *
  go_enter Tryz.func110, Tryz.ntmps110
  go_wp2_with fail
  refine hL.mono ?_
  rintro e w1 ⟨rfl, h1, k1⟩
  go_wp2_with fail
  go_end0
  exact ⟨rfl, h1, k1⟩
set_option maxHeartbeats 800000 in
set_option maxRecDepth 1000000 in
theorem finish_any (h : CT w c ab x) (p : Nat) :
    Calls Tryz.prog 69 #[.pointer (some ⟨ab, 0, none⟩), .int .i64 (p : Int)] w fun e w' => e = .returned (.tuple #[]) ∧ CL w' ab ((x.from_ c.rs p 92 93).cells c ab) ∧ Keeps (fun k => k = ab) w w' := by
  have hmf : ∀ (fn : Fn) (first cap : Array Value) (w : World), (Instr.makeFunc fn first cap).run Tryz.prog w = .ok (.func fn first cap) w := fun _ _ _ _ => rfl
  have hL := lookent_any h p 92 93
  generalize x.from_ c.rs p 92 93 = y at *
  go_enter Tryz.func69, Tryz.ntmps69
  go_wp2_with fail
  refine hL.mono ?_
  rintro e w1 ⟨rfl, h1, k1⟩
  go_wp2_with fail
  go_end0
  exact ⟨rfl, h1, k1⟩
theorem i73 : (Tryz.prog.info? 145).map (·.size) = some 5 := by kernel_rfl
def Tx.meet (x : Tx) : Tx := { x with enemy := x.holder, tries := 0, waited := 0, left := 0, goOn := none, nx := some 132 }
set_option maxHeartbeats 800000 in
set_option maxRecDepth 1000000 in
theorem meets_no (h : CL w ab (x.cells c ab)) (hs : (x.status != 1) = true) :
    Calls Tryz.prog 109 #[.pointer (some ⟨ab, 0, none⟩)] w fun e w' => e = .returned (.bool false) ∧ w' = w := by
  have f28 := h.c 28 _ rfl
  clear h
  go_enter Tryz.func109, Tryz.ntmps109
  go_wp2
  go_ret
  exact ⟨rfl, rfl⟩
set_option maxHeartbeats 800000 in
set_option maxRecDepth 1000000 in
theorem meets_yes (h : CL w ab (x.cells c ab)) (hs : x.status = 1) :
    Calls Tryz.prog 109 #[.pointer (some ⟨ab, 0, none⟩)] w fun e w' => e = .returned (.bool true) ∧ CL w' ab (x.meet.cells c ab) ∧ Keeps (fun k => k = ab) w w' := by
  have hmf : ∀ (fn : Fn) (first cap : Array Value) (w : World), (Instr.makeFunc fn first cap).run Tryz.prog w = .ok (.func fn first cap) w := fun _ _ _ _ => rfl
  have f27 := h.c 27 _ rfl
  have f28 := h.c 28 _ rfl
  rw [hs] at f28
  clear hs
  go_enter Tryz.func109, Tryz.ntmps109
  go_wp2_with (refine wpList_store_cl rfl 145 _ _ rfl ab 31 5 _ rfl rfl rfl h (by show 36 ≤ 36; decide) i73 (by simp [Value.oneCell']) ?_; intro w1 h1 k1 _; have g15 := h1.c 15 _ rfl; have zg15 := h1.z 15 (by show 15 < 36; decide); clear f27 f28)
  go_ret
  exact ⟨rfl, h1.set (o := 15) (by show 15 < 36; decide) _, k1.setA _ _⟩
set_option maxHeartbeats 800000 in
set_option maxRecDepth 1000000 in
theorem hold_ok (h : CL w ab (x.cells c ab)) (a b d : Int) (hb : (b != x.current) = false) :
    Calls Tryz.prog 116 #[.pointer (some ⟨ab, 0, none⟩), .agg #[.int .i64 a, .int .i64 b, .int .i64 d]] w fun e w' => e = .returned (.tuple #[]) ∧ Keeps (fun _ => False) w w' := by
  have K0 : Keeps (fun _ => False) w (w.alloc (.cells #[.int .i64 a, .int .i64 b, .int .i64 d] 141)) := (Keeps.refl _ w).alloc _
  have h0 := (h.keep (by show 0 < 36; decide) K0 (fun e => e)).drew
  have hE := (CL.made w [.int .i64 a, .int .i64 b, .int .i64 d] 141).drew
  have f29 := h0.c 29 _ rfl
  have e1 := hE.c 1 _ rfl
  clear h h0 hE
  go_enter Tryz.func116, Tryz.ntmps116
  go_wp2_with fail
  go_region_held3 (fun w' => w'.cell? ⟨w.heap.size, 1, none⟩ = some (.int .i64 b) ∧ w'.cell? ⟨ab, 29, none⟩ = some (.int .i64 x.current)) (go_keep) (fail)
  go_wp2_with fail
  go_end0
  exact ⟨rfl, K0.drew⟩
set_option maxHeartbeats 800000 in
set_option maxRecDepth 1000000 in
theorem hold_no (h : CL w ab (x.cells c ab)) (a b d : Int) (hb : (b != x.current) = true) :
    Calls Tryz.prog 116 #[.pointer (some ⟨ab, 0, none⟩), .agg #[.int .i64 a, .int .i64 b, .int .i64 d]] w fun e w' => e = .panicked [{ v := .iface 210 (.int .i64 4), recovered := false }] ∧ Keeps (fun _ => False) w w' := by
  have K0 : Keeps (fun _ => False) w (w.alloc (.cells #[.int .i64 a, .int .i64 b, .int .i64 d] 141)) := (Keeps.refl _ w).alloc _
  have h0 := (h.keep (by show 0 < 36; decide) K0 (fun e => e)).drew
  have hE := (CL.made w [.int .i64 a, .int .i64 b, .int .i64 d] 141).drew
  have f29 := h0.c 29 _ rfl
  have e1 := hE.c 1 _ rfl
  have hpn : ∀ (t : TypeId) (v : Value) (w : World), (Instr.panic (.iface t v)).run Tryz.prog w = .halt (.panic (.iface t v)) w := fun _ _ _ => rfl
  clear h h0 hE
  go_enter Tryz.func116, Tryz.ntmps116
  go_wp2_with fail
  go_region_held3 (fun w' => w'.cell? ⟨w.heap.size, 1, none⟩ = some (.int .i64 b) ∧ w'.cell? ⟨ab, 29, none⟩ = some (.int .i64 x.current)) (go_keep) (fail)
  go_wp2_with fail
  exact ⟨rfl, rfl, K0.drew⟩
end
end Go.Proofs.YtgjndhbfjofkeaaGreatDoor

