import Derived.Test.YtgcfckbmmdajhaaLiA
import Derived.Maps.OwnSet
namespace Go.Proofs.Ytgcfckbmmdajhaa
open Go.RowKit Go.Maps Go.ChangeMaps Go.MapKept Go.WideShapes
theorem underL : Try.prog.underlying 2 = some (.int .i64) := by kernel_rfl
theorem underS : Try.prog.underlying 53 = some (.map 2 67) := by kernel_rfl
theorem zeroS (w : World) : (zeroValue 67).run Try.prog w = .ok (.agg #[]) w := by kernel_rfl
theorem keyedL : Keyed Try.prog 2 := int_keyed underL
theorem key_l {k : Int} (h : I64 k) : keyOf Try.prog 2 (.int .i64 k) = some (.int .i64 k) := keyOf_int_mk underL (wf_of_i64 h)
theorem tightS {H : Type} {P : Program} {k : TypeId} {R : Value → Option (DataW H × List MemPlace)} {w : World} {b n : Nat} {D : DataW H} (h : w.ownsMap P k R b n D) : w.ownsMap P k R b (Maps.size D) D := by
  obtain ⟨es, clock, hb, F, hs, rfl⟩ := h
  exact ⟨es, clock, hb, F, by simp [Maps.size, length_sorted], rfl⟩
theorem keeps_turnedS {w w' : World} {b : Nat} (h : w.mapTurned w' b) : Keeps (fun k => k = b) w w' := (Keeps.refl _ w).grown h.grown (fun _ _ e => by cases e; rfl)
theorem ne_keyS {a b : Int} (h : a ≠ b) : (Lit.int .i64 a) ≠ (Lit.int .i64 b) := fun e => h (by cases e; rfl)
theorem results_cell1 {fn : Func} {p : Tmp} {ty : TypeId} (h : fn.results = #[.cell p ty]) (tmps : Array Value) (P : Program) (w : World) :
    (results fn tmps).run P w = ((asAddr (tmps.getD p undef)).run P w).andThen fun a w₁ => (loadVar ty a).run P w₁ := by
  simp only [results, h]
  simp [Sem.run_bind, Result.andThen]
/-- A set of numbers in memory. -/
def SV (w : World) (mb n : Nat) (f : Int → Bool) : Prop :=
  ∃ D : DataW Unit, w.ownsMap Try.prog 2 unitElem mb n D ∧ Maps.size D = n ∧ ∀ k, I64 k → Maps.has D (.int .i64 k) = f k
theorem SV.lt {w : World} {mb n : Nat} {f : Int → Bool} (h : SV w mb n f) : mb < w.heap.size := by
  obtain ⟨D, h, _⟩ := h
  exact h.lt
theorem SV.same {w w' : World} {mb n : Nat} {f : Int → Bool} (h : SV w mb n f) (hb : w'.heap[mb]? = w.heap[mb]?) : SV w' mb n f := by
  obtain ⟨D, ⟨es, c, hb', r⟩, r'⟩ := h
  exact ⟨D, ⟨es, c, hb.trans hb', r⟩, r'⟩
theorem SV.keep {w w' : World} {mb n : Nat} {f : Int → Bool} {S : Nat → Prop} (h : SV w mb n f) (k : Keeps S w w') (hS : ¬ S mb) : SV w' mb n f := h.same (k.block mb h.lt hS)
theorem SV.made (w : World) : SV (w.alloc (.map #[] 0)) w.heap.size 0 (fun _ => false) := ⟨.map [], World.ownsMap_made w _ _ _, rfl, fun _ _ => rfl⟩
def upN (b : Bool) (n : Nat) : Nat := if b then n else n + 1
def dnN (b : Bool) (n : Nat) : Nat := if b then n - 1 else n
def putF (f : Int → Bool) (k : Int) : Int → Bool := fun x => if x = k then true else f x
def delF (f : Int → Bool) (k : Int) : Int → Bool := fun x => if x = k then false else f x
theorem sv_put {w' : World} {mb n : Nat} {f : Int → Bool} {D : DataW Unit} {m : Nat} {k : Int} (hk : I64 k) (h1 : ∃ w : World, w.ownsMap Try.prog 2 unitElem mb n D) (h2 : Maps.size D = n) (h3 : ∀ k, I64 k → Maps.has D (.int .i64 k) = f k) (h : w'.ownsMap Try.prog 2 unitElem mb m (D.put (.int .i64 k) (.agg []))) : SV w' mb (upN (f k) n) (putF f k) := by
  obtain ⟨w, h1⟩ := h1
  have hT := h1.tidy keyedL
  have e := size_put (k := .int .i64 k) hT (.agg [])
  rw [h3 k hk, h2] at e
  have e3 : Maps.size (D.put (.int .i64 k) (.agg [])) = upN (f k) n := e
  refine ⟨_, ?_, e3, fun x hx => ?_⟩
  · rw [← e3]
    exact tightS h
  · unfold putF
    by_cases c : x = k
    · subst c
      rw [if_pos rfl, has_put_same h1.isMap (show WideAt.IsKeyLit (.int .i64 x) from trivial)]
    · rw [if_neg c, has_put_other (ne_keyS c)]
      exact h3 x hx
theorem sv_del {w' : World} {mb n : Nat} {f : Int → Bool} {D : DataW Unit} {m : Nat} {k : Int} (hk : I64 k) (h1 : ∃ w : World, w.ownsMap Try.prog 2 unitElem mb n D) (h2 : Maps.size D = n) (h3 : ∀ k, I64 k → Maps.has D (.int .i64 k) = f k) (h : w'.ownsMap Try.prog 2 unitElem mb m (D.del (.int .i64 k))) : SV w' mb (dnN (f k) n) (delF f k) := by
  obtain ⟨w, h1⟩ := h1
  have hT := h1.tidy keyedL
  have e := size_del (k := .int .i64 k) hT
  rw [h3 k hk, h2] at e
  have e2 : Maps.size (D.del (.int .i64 k)) = dnN (f k) n := by
    unfold dnN
    cases hc : f k <;> rw [hc] at e <;> simp at e ⊢ <;> omega
  refine ⟨_, ?_, e2, fun x hx => ?_⟩
  · rw [← e2]
    exact tightS h
  · unfold delF
    by_cases c : x = k
    · subst c
      rw [if_pos rfl, has_del_same]
    · rw [if_neg c, has_del_other (ne_keyS c)]
      exact h3 x hx
set_option maxHeartbeats 600000 in
set_option maxRecDepth 100000 in
theorem has_any {w : World} {mb n : Nat} {f : Int → Bool} (h : SV w mb n f) {k : Int} (hk : I64 k) : Calls Try.prog 34 #[.map (some mb), .int .i64 k] w fun e w' => e = .returned (.bool (f k)) ∧ Keeps (fun _ => False) w w' := by
  obtain ⟨D, h1, h2, h3⟩ := h
  have hf := h3 k hk
  have hkey := key_l hk
  go_enter Try.func34, Try.ntmps34
  go_wp2_with (at_lookup; refine wpList_lookup_own_unit _ rfl _ _ 53 rfl 2 67 keyedL underS (zeroS _) mb n D rfl h1 _ _ rfl hkey ?_; (try simp only [Act.put, List.setIfInBounds_toArray, List.set_cons_zero, List.set_cons_succ]); rw [hf])
  go_ret
  exact ⟨rfl, (Keeps.refl _ w).alloc _⟩
set_option maxHeartbeats 600000 in
set_option maxRecDepth 100000 in
theorem putS_any {w : World} {mb n : Nat} {f : Int → Bool} (h : SV w mb n f) {k : Int} (hk : I64 k) (hn : n < 9223372036854775807) : Calls Try.prog 35 #[.map (some mb), .int .i64 k] w fun e w' => e = .returned (.tuple #[]) ∧ SV w' mb (upN (f k) n) (putF f k) ∧ Keeps (fun i => i = mb) w w' := by
  obtain ⟨D, h1, h2, h3⟩ := h
  have hkey := key_l hk
  have hP : ∀ w' : World, w'.ownsMap Try.prog 2 unitElem mb (n + 1) (D.put (.int .i64 k) (.agg [])) → SV w' mb (upN (f k) n) (putF f k) := fun w' h => sv_put hk ⟨w, h1⟩ h2 h3 h
  have HP : Hid _ := hP
  clear hP h3
  go_enter Try.func35, Try.ntmps35
  go_wp2_with (refine wpList_mapUpdate_in _ rfl _ _ _ 53 rfl 2 67 keyedL underS unitElem mb n D rfl h1 (by unfold maxLen; omega) _ _ _ rfl rfl hkey (.agg []) [] unitElem_mk ?_; intro w1 hown1 hturn1)
  go_end0
  exact ⟨rfl, HP.out _ hown1, keeps_turnedS hturn1⟩
set_option maxHeartbeats 600000 in
set_option maxRecDepth 100000 in
theorem take_any {w : World} {mb n : Nat} {f : Int → Bool} (h : SV w mb n f) {k : Int} (hk : I64 k) : Calls Try.prog 36 #[.map (some mb), .int .i64 k] w fun e w' => e = .returned (.agg #[.bool (f k), .int .i64 0]) ∧ SV w' mb (dnN (f k) n) (delF f k) ∧ Keeps (fun i => i = mb) w w' := by
  have lt := h.lt
  obtain ⟨W1, hW1⟩ : ∃ W1, W1 = w.alloc (.cells #[.bool false, .int .i64 0] 61) := ⟨_, rfl⟩
  have k1 : Keeps (fun _ => False) w W1 := by rw [hW1]; exact (Keeps.refl _ w).alloc _
  have hB1 : CL W1 w.heap.size [.bool false, .int .i64 0] := by rw [hW1]; exact CL.made w [.bool false, .int .i64 0] _
  have hha := has_any (h.keep k1 (fun e => e)) hk
  have hkey := key_l hk
  have HTK : Hid (∀ W, Keeps (fun _ => False) w W → ∃ D : DataW Unit, W.ownsMap Try.prog 2 unitElem mb n D ∧ Hid (∀ w' : World, w'.ownsMap Try.prog 2 unitElem mb n (D.del (.int .i64 k)) → SV w' mb (dnN (f k) n) (delF f k))) := fun W kW => by
    obtain ⟨D, h1, h2, h3⟩ := h.keep kW (fun e => e)
    exact ⟨D, h1, fun w' hw => sv_del hk ⟨W, h1⟩ h2 h3 hw⟩
  have HW1 : Hid (W1 = w.alloc (.cells #[.bool false, .int .i64 0] 61)) := hW1
  clear h hW1
  generalize f k = fk at *
  go_enter Try.func36, Try.ntmps36
  refine wp_seq_k (fun KK hKK => ?_)
  have hKH : Hid _ := hKK
  clear hKK
  go_wp2_with fail
  refine hKH.out _ _ ?_
  clear hKH KK
  rw [← HW1.out]
  clear HW1
  go_wp2_with (first | (go_at_call 34; refine hha.mono ?_; clear hha; rintro e w2 ⟨rfl, k2⟩; obtain ⟨D, h1, HD⟩ := HTK.out w2 (k1.trans k2); have hB2 := hB1.keep (by show 0 < 2; decide) k2 (fun e => e)) | (at_delete; refine wpList_delete_own _ rfl _ _ 53 2 rfl 67 keyedL underS unitElem mb n D rfl h1 _ _ rfl hkey ?_; intro w3 hown3 hturn3; have k3 := keeps_turnedS hturn3; have hB3 := hB2.keep (by show 0 < 2; decide) k3 (fun e => (by have e : w.heap.size = mb := e; omega))) | (refine wpList_store_cl rfl 61 _ _ rfl w.heap.size 0 2 _ rfl rfl rfl hB3 (by show 2 ≤ 2; decide) (by kernel_rfl) (by simp [Value.oneCell']) ?_; intro w4 hc4 k4 z4; have hI4 : CL w4 w.heap.size [.bool fk, .int .i64 0] := hc4; have d0 := hI4.c 0 _ rfl; have d1 := hI4.c 1 _ rfl))
  refine bodyPost_ret (v := .agg #[.bool fk, .int .i64 0]) (by rw [results_cell1 rfl]; go_simp) rfl ⟨rfl, HD.out _ ?_, ?_⟩
  · obtain ⟨es, c, hb, r⟩ := hown3
    exact ⟨es, c, (k4.block mb (by have := k1.size; have := k2.size; have := k3.size; omega) (fun e => by have e : mb = w.heap.size := e; omega)).trans hb, r⟩
  · exact ((k1.trans k2).trans' k3 (U := fun i => i = mb) (fun _ _ e => e.elim) (fun _ _ e => e)).trans' k4 (fun _ _ e => e) (fun i hi e => by have e : i = w.heap.size := e; omega)
end Go.Proofs.Ytgcfckbmmdajhaa
