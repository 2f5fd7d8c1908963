import Derived.Test.YtagplkgjdaojnaaTabG
namespace Go.Proofs.Ytagplkgjdaojnaa
open Go.RowKit
attribute [local go_sem] Oper.semAt_some

set_option maxHeartbeats 2000000 in
theorem mapClone_any {w : World} {b : Nat} {es : Array MapEntry} {c : Nat} (hb : w.heap[b]? = some (.map es c)) : Calls Try.prog 28 #[.map (some b)] w fun e w' => e = .returned (.map (some w.heap.size)) ∧ w' = w.alloc (.map es c) := by
  have hq := fun w => run_eql_map_nil_sl (P := Try.prog) w 47 _ _ (some b) underM
  go_enter Try.func28, Try.ntmps28
  go_wp2
  rw [run_callFunc_extern Try.func40 (by kernel_rfl) (by kernel_rfl) (by kernel_rfl) (e := Extern.MapsClone.clone) (by kernel_rfl), run_maps_clone_sl w 47 hb]
  simp only [Result.andThen]
  rw [Oper.upon_value]
  go_wp2
  rw [run_typeAssert_map_sl _ 47 _ _ _ _ underM]
  simp only [Result.andThen]
  rw [Oper.upon_value]
  go_wp2
  go_ret
  exact ⟨rfl, rfl⟩
set_option maxHeartbeats 2000000 in
theorem mapClone_nil (w : World) : Calls Try.prog 28 #[.map none] w fun e w' => e = .returned (.map none) ∧ w' = w := by
  have hq := fun w => run_eql_map_nil_sl (P := Try.prog) w 47 _ _ none underM
  go_enter Try.func28, Try.ntmps28
  go_wp2
  go_ret
  exact ⟨rfl, rfl⟩

theorem owns_base {w : World} {base ty size n : Nat} {v : Value} {xs : List Value} (h : w.ownsRow base ty size v n xs) : w.ownsRow 0 ty size v n xs := by
  refine ⟨h.1, h.2.imp id ?_⟩
  rintro ⟨g, cap, cur, e, _, r⟩
  exact ⟨g, cap, cur, e, Nat.zero_le _, r⟩
/-- A copy of the map. -/
theorem mapClone_tv {w : World} {T : Tk} {rs : List Rd} (h : TV w T rs) : Calls Try.prog 28 #[.map T.vm] w fun e w' => ∃ vm', e = .returned (.map vm') ∧ ((vm' = none ∧ rs = []) ∨ ∃ mb, vm' = some mb ∧ w.heap.size ≤ mb ∧ MI w' mb (es rs).length (pl (es rs))) ∧ Keeps (fun _ => False) w w' := by
  rcases h.mp with ⟨hv, hr⟩ | ⟨mb, hv, hm⟩
  · rw [hv]
    refine (mapClone_nil w).mono ?_
    rintro e w' ⟨rfl, rfl⟩
    exact ⟨none, rfl, .inl ⟨rfl, hr⟩, Keeps.refl _ _⟩
  · rw [hv]
    obtain ⟨es', c, hb⟩ := hm.isMap
    refine (mapClone_any hb).mono ?_
    rintro e w' ⟨rfl, rfl⟩
    exact ⟨_, rfl, .inr ⟨_, rfl, Nat.le_refl _, hm.clone hb⟩, (Keeps.refl _ w).alloc _⟩

set_option maxHeartbeats 3200000 in
set_option maxRecDepth 1000000 in
theorem copy_any {w : World} {T : Tk} {rs : List Rd} (h : TV w T rs) (hn : rs.length ≤ 4398046511200) : Calls Try.prog 18 #[.pointer (some ⟨T.tb, 0, none⟩)] w fun e w' => ∃ T', e = .returned (.pointer (some ⟨T'.tb, 0, none⟩)) ∧ TV w' T' rs ∧ Keeps (fun _ => False) w w' ∧ ∀ k, T'.Blk k → w.heap.size ≤ k := by
  have c1 : ∀ W, Keeps (fun _ => False) w W → Calls Try.prog 25 #[T.ve] W fun e w' => ∃ a c, e = .returned (.slice a (es rs).length c) ∧ w'.ownsRow W.heap.size 36 3 (.slice a (es rs).length c) (es rs).length (fl ecells (es rs)) ∧ Keeps (fun _ => False) W w' := fun W K => by
    refine (cloneE_any (h.new K).re (ecells_one _) (Nat.le_trans (es_len rs) hn)).mono ?_
    rintro e w' ⟨v', rfl, ho, k⟩
    obtain ⟨a, c, rfl, -⟩ := owns_form ho
    exact ⟨a, c, rfl, ho, k⟩
  have c2 : ∀ W, Keeps (fun _ => False) w W → Calls Try.prog 28 #[.map T.vm] W fun e w' => ∃ vm', e = .returned (.map vm') ∧ ((vm' = none ∧ rs = []) ∨ ∃ mb, vm' = some mb ∧ W.heap.size ≤ mb ∧ MI w' mb (es rs).length (pl (es rs))) ∧ Keeps (fun _ => False) W w' := fun W K => mapClone_tv (h.new K)
  have c3 : ∀ W, Keeps (fun _ => False) w W → Calls Try.prog 29 #[T.vf] W fun e w' => ∃ a c, e = .returned (.slice a rs.length c) ∧ w'.ownsRow W.heap.size 27 1 (.slice a rs.length c) rs.length (fcells rs) ∧ Keeps (fun _ => False) W w' := fun W K => by
    refine (cloneF_any (h.new K).rf (fcells_one _) hn).mono ?_
    rintro e w' ⟨v', rfl, ho, k⟩
    obtain ⟨a, c, rfl, -⟩ := owns_form ho
    exact ⟨a, c, rfl, ho, k⟩
  have f0 := h.f0
  have f1 := h.f1
  have f2 := h.f2
  have gd := h.gd
  obtain ⟨ae, ce, hve, -⟩ := h.eform
  obtain ⟨af, cf, hvf, -⟩ := h.fform
  rw [hve] at f0 c1
  rw [hvf] at f2 c3
  have HEND : Hid (∀ (W1 W2 W3 : World) (a1 a3 : Option Addr) (c1 c3 : Nat) (vm' : Option Nat), Keeps (fun _ => False) w W1 → W1.ownsRow w.heap.size 36 3 (.slice a1 (es rs).length c1) (es rs).length (fl ecells (es rs)) → ((vm' = none ∧ rs = []) ∨ ∃ mb, vm' = some mb ∧ W1.heap.size ≤ mb ∧ MI W2 mb (es rs).length (pl (es rs))) → Keeps (fun _ => False) W1 W2 → W3.ownsRow W2.heap.size 27 1 (.slice a3 rs.length c3) rs.length (fcells rs) → Keeps (fun _ => False) W2 W3 →
      ∃ T', (⟨T'.tb, 0, none⟩ : Addr) = ⟨W3.heap.size, 0, none⟩ ∧ TV (W3.alloc (.cells #[.slice a1 (es rs).length c1, .map vm', .slice a3 rs.length c3] 50)) T' rs ∧ Keeps (fun _ => False) w (W3.alloc (.cells #[.slice a1 (es rs).length c1, .map vm', .slice a3 rs.length c3] 50)) ∧ ∀ k, T'.Blk k → w.heap.size ≤ k) := fun W1 W2 W3 a1 a3 c1 c3 vm' k1 o1 m2 k2 o3 k3 => by
    have kA : Keeps (fun _ => False) W3 (W3.alloc (.cells #[.slice a1 (es rs).length c1, .map vm', .slice a3 rs.length c3] 50)) := (Keeps.refl _ W3).alloc _
    have s1 := k1.size
    have s2 := k2.size
    have s3 := k3.size
    have l1 := o1.lt
    have l3 := o3.lt
    refine ⟨⟨W3.heap.size, .slice a1 (es rs).length c1, vm', .slice a3 rs.length c3⟩, rfl, ⟨?_, ?_, ?_, fun o ho => ?_, ((k2.trans k3).trans kA).owns (owns_base o1) (fun _ _ e => e), kA.owns (owns_base o3) (fun _ _ e => e), ?_, gd, fun e => ?_, fun e => ?_, fun g e e' => ?_, fun e => ?_, fun g e => ?_⟩, ((k1.trans k2).trans k3).trans kA, fun k hk => ?_⟩
    · simp
    · simp
    · simp
    · simp
    · rcases m2 with e | ⟨mb, e, hle, hm⟩
      · exact .inl e
      · exact .inr ⟨mb, e, hm.keep (k3.trans kA) (fun e => e)⟩
    · have := (l1 _ e).2; simp only at this; omega
    · have := (l3 _ e).2; simp only at this; omega
    · have := (l1 g e).2; have := (l3 g e').1; omega
    · rcases m2 with ⟨e', _⟩ | ⟨mb, e', hle, hm⟩
      · simp only at e; rw [e'] at e; cases e
      · simp only at e; rw [e'] at e; have e2 := Option.some.inj e; have := hm.lt; omega
    · rcases m2 with ⟨e', _⟩ | ⟨mb, e', hle, hm⟩
      · simp only at e; rw [e'] at e; cases e
      · simp only at e; rw [e'] at e
        have e2 := Option.some.inj e
        have := hm.lt
        refine ⟨fun x => ?_, fun x => ?_⟩
        · have := (l1 g x).2; omega
        · have := (l3 g x).1; omega
    · rcases hk with e | e | e | e
      · simp only at e; omega
      · exact (l1 k e).1
      · rcases m2 with ⟨e', _⟩ | ⟨mb, e', hle, hm⟩
        · simp only at e; rw [e'] at e; cases e
        · simp only at e; rw [e'] at e; have e2 := Option.some.inj e; omega
      · have := (l3 k e).1; omega
  have lt := h.tlt
  have C1 := c1 w.drew ((Keeps.refl _ w).drew)
  have hd : w.drew.heap.size = w.heap.size := rfl
  rw [hd] at C1
  have kd : Keeps (fun _ => False) w w.drew := (Keeps.refl _ w).drew
  clear h hve hvf c1 hn gd
  generalize (es rs).length = L at *
  generalize rs.length = N at *
  generalize hE : fl ecells (es rs) = XE at *
  generalize hF : fcells rs = XF at *
  go_enter Try.func18, Try.ntmps18
  go_wp2_with fail
  go_region_held3 (fun w' => w'.cell? ⟨T.tb, 0, none⟩ = some (.slice ae L ce) ∧ w'.cell? ⟨T.tb, 1, none⟩ = some (.map T.vm) ∧ w'.cell? ⟨T.tb, 2, none⟩ = some (.slice af N cf)) (go_keep) (first | (go_at_call 25; (with_reducible refine C1.mono ?_); rintro e w1 ⟨a1, d1, rfl, o1, k1⟩; have x1 := kd.trans k1; have f0a := x1.cell f0 (fun e => e); have f1a := x1.cell f1 (fun e => e); have f2a := x1.cell f2 (fun e => e)) | (go_at_call 28; (with_reducible refine (c2 _ x1).mono ?_); rintro e w2 ⟨vm', rfl, m2, k2⟩; have x2 := x1.trans k2; have f0b := x2.cell f0 (fun e => e); have f1b := x2.cell f1 (fun e => e); have f2b := x2.cell f2 (fun e => e)) | (go_at_call 29; (with_reducible refine (c3 _ x2).mono ?_); rintro e w3 ⟨a3, d3, rfl, o3, k3⟩; have x3 := x2.trans k3; have f0c := x3.cell f0 (fun e => e); have f1c := x3.cell f1 (fun e => e); have f2c := x3.cell f2 (fun e => e)))
  rename_i hHeld
  clear hHeld
  obtain ⟨T', e, hT, hK, hB⟩ := HEND.out w1 w2 w3 a1 a3 d1 d3 vm' x1 o1 m2 k2 o3 k3
  have HT : Hid (TV (w3.alloc (.cells #[.slice a1 L d1, .map vm', .slice a3 N d3] 50)) T' rs ∧ Keeps (fun _ => False) w (w3.alloc (.cells #[.slice a1 L d1, .map vm', .slice a3 N d3] 50)) ∧ ∀ k, T'.Blk k → w.heap.size ≤ k) := ⟨hT, hK, hB⟩
  have HE : Hid ((⟨T'.tb, 0, none⟩ : Addr) = ⟨w3.heap.size, 0, none⟩) := e
  clear e hT hK hB HEND
  go_wp2_with fail
  go_ret
  exact ⟨T', by rw [HE.out]; rfl, HT.out⟩
end Go.Proofs.Ytagplkgjdaojnaa
