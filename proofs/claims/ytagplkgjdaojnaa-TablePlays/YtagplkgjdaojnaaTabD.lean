import Derived.Test.YtagplkgjdaojnaaTabC
import Derived.Lib.SliceRun
namespace Go.Proofs.Ytagplkgjdaojnaa
open Go.RowKit
attribute [local go_sem] Oper.semAt_some

/-- An append whose run is known, as a step of a region that draws its order. -/
theorem step_append_run {P : Program} {ops : Array Oper} {o : Oper} {a : Act} {w : World} {K : Act → World → Prop} {Q : Exit → Act → World → Prop} {E : Prop} (hgd : o.guard = none) (s x : Operand) (t : TypeId)
    (ho : o.op = .call { callee := .builtin .append, args := #[s, x], argTypes := #[t, t] }) (v src v' : Value) (w' : World) (hs : a.eval s = v) (hx : a.eval x = src)
    (hr : (Builtin.append_ #[t, t] o.type #[v, src]).run P w = .ok v' w') (h : K (a.put o.dst v') w') : if Region.wanted o (yielded ops a.tmps) = true then Oper.wp P o a w K Q else E := by
  have hw : Region.wanted o (yielded ops a.tmps) = true := by simp [Region.wanted, hgd]
  rw [if_pos hw]
  unfold Oper.wp execOp
  simp only [ho, resolve, invoke, builtin, Sem.run_bind, Sem.run_pure, Result.andThen_ok, List.map_toArray, List.map_cons, List.map_nil, hs, hx, hr]
  exact h

/-- One entry is cleared. -/
theorem run_clear_en (w : World) (ty : TypeId) (b o c : Nat) (hc : ∀ j, j < 3 → (w.cell? ⟨b, o + j, none⟩).isSome = true) (hf : ∀ j, j < 3 → w.frozen? ⟨b, o + j, none⟩ = false) :
    (Builtin.clear_ #[42] ty #[.slice (some ⟨b, o, none⟩) 1 c]).run Try.prog w = .ok (.tuple #[]) (w.setCells b o [.int .i64 0, .int .i64 0, .int .i64 0]) := by
  have hzc : (Builtin.zeroCells (Value.agg #[.int .i64 0, .int .i64 0, .int .i64 0]).cells 1).toList = [.int .i64 0, .int .i64 0, .int .i64 0] := by kernel_rfl
  have hst := run_storeCells_cells (P := Try.prog) b o [.int .i64 0, .int .i64 0, .int .i64 0] 0 w (by simpa using hc) (by simpa using hf) (by intro v hv; simp at hv; subst hv; rfl)
  simp only [Nat.add_zero] at hst
  simp [Builtin.clear_, run_underlying underE, hzc, hst]

/-- What Delete leaves. -/
theorem delete_world {w : World} {g cap : Nat} {A B : List En} {e : En} (h : w.ownsRow 0 36 3 (.slice (some ⟨g, 0, none⟩) (A.length + B.length + 1) cap) (A.length + B.length + 1) (fl ecells (A ++ e :: B))) :
    ∃ ad W1 W2, (if cap = A.length + 1 then some (⟨g, 0, none⟩ : Addr) else some ⟨g, (A.length + 1) * 3, none⟩) = some ad ∧
      (Builtin.append_ #[42, 42] 42 #[.slice (some ⟨g, 0, none⟩) A.length cap, .slice (some ad) B.length (cap - (A.length + 1))]).run Try.prog w.drew = .ok (.slice (some ⟨g, 0, none⟩) (A.length + B.length) cap) W1 ∧
      (∀ ty c, (Builtin.clear_ #[42] ty #[.slice (some ⟨g, (A.length + B.length) * 3, none⟩) 1 c]).run Try.prog W1 = .ok (.tuple #[]) W2) ∧
      W2.ownsRow 0 36 3 (.slice (some ⟨g, 0, none⟩) (A.length + B.length) cap) (A.length + B.length) (fl ecells (A ++ B)) ∧ Keeps (fun i => i = g) w W2 := by
  obtain ⟨i0, hi0, hz0, hz1, hz2⟩ := info_parts infoE
  have hcap := owns_cap h
  have hfl : fl ecells (A ++ e :: B) = fl ecells A ++ (ecells e ++ fl ecells B) := by rw [fl_append]; rfl
  have lA := fl_length ecells_len A
  have lB := fl_length ecells_len B
  have own : w.drew.ownsRow 0 36 3 (.slice (some ⟨g, 0, none⟩) A.length cap) A.length (fl ecells A) := by
    refine ⟨lA, .inr ?_⟩
    rcases h.2 with ⟨h', _⟩ | ⟨g', cap', cur, h', hb, hg, hnc, hcm, hcs, htake⟩
    · cases h'
    · cases h'
      refine ⟨g, cap, cur, rfl, hb, hg, by omega, hcm, hcs, ?_⟩
      have := congrArg (List.take (A.length * 3)) htake
      rw [List.take_take, Nat.min_eq_left (by omega), hfl, List.take_append_of_le_length (by omega), List.take_of_length_le (l := fl ecells A) (by omega)] at this
      exact this
  obtain ⟨ad, had, hnews⟩ : ∃ ad : Addr, (if cap = A.length + 1 then some (⟨g, 0, none⟩ : Addr) else some ⟨g, (A.length + 1) * 3, none⟩) = some ad ∧ ∀ j u, (fl ecells B)[j]? = some u → w.drew.cell? (ad.add j) = some u := by
    by_cases hc : cap = A.length + 1
    · refine ⟨⟨g, 0, none⟩, by rw [if_pos hc], fun j u hu => ?_⟩
      have : B.length = 0 := by omega
      rw [List.length_eq_zero_iff.1 this] at hu
      simp [fl] at hu
    · refine ⟨⟨g, (A.length + 1) * 3, none⟩, by rw [if_neg hc], fun j u hu => ?_⟩
      have := owns_cell h rfl (j := (A.length + 1) * 3 + j) (u := u) (by
        rw [hfl, List.getElem?_append_right (by omega), lA, show (A.length + 1) * 3 + j - A.length * 3 = 3 + j by omega, List.getElem?_append_right (by simp [ecells])]
        simpa [ecells] using hu)
      rw [show ((⟨g, (A.length + 1) * 3, none⟩ : Addr).add j) = ⟨g, (A.length + 1) * 3 + j, none⟩ by unfold Addr.add; split <;> simp_all]
      exact this
  obtain ⟨W1, hr1, ho1, hg1⟩ := run_append_fits (P := Try.prog) w.drew 0 42 42 36 i0 3 underE hi0 hz1 g A.length cap (fl ecells A) own ad B.length (cap - (A.length + 1)) (fl ecells B) lB hnews (ecells_one B) (by omega)
  have hso : ∀ j, j < 3 → (W1.cell? ⟨g, (A.length + B.length) * 3 + j, none⟩).isSome = true := fun j hj => by
    rcases ho1.2 with ⟨h', _⟩ | ⟨g', cap', cur, h', hb, hg, hnc, hcm, hcs, htake⟩
    · cases h'
    · cases h'
      have : (A.length + B.length) * 3 + j < cur.size := by rw [hcs]; omega
      simp [World.cell?, hg, this]
  have hcl := fun ty c => run_clear_en W1 ty g ((A.length + B.length) * 3) c hso (fun j hj => ho1.frozenAt _)
  have s1 := ho1.stored ((A.length + B.length) * 3) (.int .i64 0)
  have s2 := s1.1.stored ((A.length + B.length) * 3 + 1) (.int .i64 0)
  have s3 := s2.1.stored ((A.length + B.length) * 3 + 1 + 1) (.int .i64 0)
  have lAB : (fl ecells A ++ fl ecells B).length = (A.length + B.length) * 3 := by rw [List.length_append]; omega
  refine ⟨ad, W1, _, had, hr1, hcl, ?_, ?_⟩
  · have := s3.1
    rw [List.set_eq_of_length_le (by simp [lAB] <;> omega), List.set_eq_of_length_le (by simp [lAB] <;> omega), List.set_eq_of_length_le (by simp [lAB] <;> omega)] at this
    rw [fl_append]
    exact this
  · have k1 : Keeps (fun i => i = g) w W1 := ((Keeps.refl (fun i => i = g) w).drew).grown hg1 (fun _ _ e => by cases e; rfl)
    have k2 := k1.grown s1.2 (fun _ _ e => by cases e; rfl)
    have k3 := k2.grown s2.2 (fun _ _ e => by cases e; rfl)
    exact k3.grown s3.2 (fun _ _ e => by cases e; rfl)

set_option maxHeartbeats 3200000 in
set_option maxRecDepth 1000000 in
theorem delete_any {w : World} {g cap : Nat} {A B : List En} {e : En} (h : w.ownsRow 0 36 3 (.slice (some ⟨g, 0, none⟩) (A.length + B.length + 1) cap) (A.length + B.length + 1) (fl ecells (A ++ e :: B))) :
    Calls Try.prog 41 #[.slice (some ⟨g, 0, none⟩) (A.length + B.length + 1) cap, .int .i64 (A.length : Int), .int .i64 ((A.length : Int) + 1)] w fun e w' => e = .returned (.slice (some ⟨g, 0, none⟩) (A.length + B.length) cap) ∧ w'.ownsRow 0 36 3 (.slice (some ⟨g, 0, none⟩) (A.length + B.length) cap) (A.length + B.length) (fl ecells (A ++ B)) ∧ Keeps (fun i => i = g) w w' := by
  obtain ⟨ad, W1, W2, had, hr1, hcl, hO, hK⟩ := delete_world h
  have hcap := owns_cap h
  have HO : Hid (W2.ownsRow 0 36 3 (.slice (some ⟨g, 0, none⟩) (A.length + B.length) cap) (A.length + B.length) (fl ecells (A ++ B))) := hO
  have HK : Hid (Keeps (fun i => i = g) w W2) := hK
  clear h hO hK
  generalize A.length = p at *
  generalize B.length = q at *
  have hc1 : p ≤ cap := by omega
  have hc2 : p + 1 ≤ cap := by omega
  have hc3 : p + q ≤ cap := by omega
  have hc4 : p + 1 ≤ p + q + 1 := by omega
  have hc5 : p + q + 1 - (p + 1) = q := by omega
  have hc6 : ¬ cap = p + q := by omega
  have hc7 : (0 : Int) ≤ (p : Int) + 1 := by omega
  have hc8 : (p : Int) ≤ (p : Int) + (q : Int) := by omega
  have hc9 : (0 : Int) ≤ (p : Int) + (q : Int) := by omega
  go_enter Try.func41, Try.ntmps41
  go_wp2_with fail
  go_region_law (refine step_append_run rfl (.tmp 22) (.tmp 25) 42 rfl (.slice (some ⟨g, 0, none⟩) p cap) (.slice (some ad) q (cap - (p + 1))) (.slice (some ⟨g, 0, none⟩) (p + q) cap) W1 (by simp [Act.eval, Act.put]) (by simp [Act.eval, Act.put]) hr1 ?_)
  go_wp2
  go_ret
  exact ⟨rfl, HO.out, HK.out⟩
end Go.Proofs.Ytagplkgjdaojnaa
