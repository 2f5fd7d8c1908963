import Derived.Test.YtmcchconnfoffaaDoorCmLaid
import Derived.Laws.Rows
namespace Go.Proofs.YtmcchconnfoffaaDoor
open Go.ChangeShapes Go.WideShapes Go.ChangeAt Go.RowKit
/-- The first place from i on, of n, that holds s; else none. -/
def look (s : ByteArray) : Nat → Nat → Option Nat
  | _, 0 => none
  | i, n + 1 => if (nmT i).toList == s.toList then some i else look s (i + 1) n
theorem look_hit (s : ByteArray) (i n : Nat) (h : ((nmT i).toList == s.toList) = true) : look s i (n + 1) = some i := by
  show (if (nmT i).toList == s.toList then some i else _) = some i; rw [if_pos h]
theorem look_miss (s : ByteArray) (i n : Nat) (h : ((nmT i).toList == s.toList) = false) : look s i (n + 1) = look s (i + 1) n := by
  show (if (nmT i).toList == s.toList then some i else _) = _; rw [if_neg (by simp [h])]
def lkK (o : Option Nat) : Int := match o with | some k => (k : Int) | none => 0
def lkE (o : Option Nat) : Int := match o with | some _ => 0 | none => 60
theorem wpList_load_run {P : Program} {w : World} {ops : Array Oper} {rest : List Oper} {o : Oper} {a : Act} {Q : Exit → Act → World → Prop} (hgd : o.guard = none) (ty : TypeId) (x : Operand) (ho : o.op = .load ty x) (ad : Addr) (hx : a.eval x = .pointer (some ad)) (v : Value)
    (hr : (loadVar ty ad).run P w = .ok v w) (h : wpList P ops Q rest (a.put o.dst v) w) : wpList P ops Q (o :: rest) a w :=
  wpList_plain hgd fun _ hK => by
    unfold Oper.wp execOp
    simp only [ho, hx, Instr.loadAt, Instr.sureAddr, Sem.run_bind, Sem.run_pure, Result.andThen_ok, hr]
    exact hK _ _ h
/-- A value of so many cells that stand in a row. -/
theorem run_load_cells {P : Program} (w : World) (b : Nat) (ty : TypeId) (cs : List Value) (d : TypeDesc) (hc : ∀ (j : Nat) (v : Value), cs[j]? = some v → w.cell? ⟨b, j, none⟩ = some v)
    (hu : P.underlying ty = some d) (hd : (match d with | .struct _ | .array _ _ => true | _ => false) = true) (hi : (P.info? ty).map (·.size) = some cs.length) :
    (loadVar ty ⟨b, 0, none⟩).run P w = .ok (.agg cs.toArray) w := by
  have hl : (loadCells ⟨b, 0, none⟩ cs.length).run P w = .ok cs.toArray w :=
    run_loadCells_list (P := P) w ⟨b, 0, none⟩ cs (fun j v hv => by
      have hadd : (⟨b, 0, none⟩ : Addr).add j = ⟨b, j, none⟩ := by unfold Addr.add; split <;> simp_all
      rw [hadd]
      exact hc j v hv)
  cases hq : P.info? ty with
  | none => simp [hq] at hi
  | some i =>
    have hs : i.size = cs.length := by simpa [hq] using hi
    have hagg : (isAgg ty).run P w = .ok true w := by
      unfold isAgg
      rw [Sem.run_bind, run_underlying hu w]
      cases d <;> simp_all
    simp [loadVar, Sem.run_bind, hagg, sizeOf, typeInfo, hq, hs, hl]
theorem tr_load {w : World} (hT : TR w) : (loadVar 46 ⟨0, 0, none⟩).run Tryd.prog w = .ok (.agg #[.string (nmT 0), .int .i64 (lkT 0), .bool (kpT 0), .bool (flT 0), .string (nmT 1), .int .i64 (lkT 1), .bool (kpT 1), .bool (flT 1), .string (nmT 2), .int .i64 (lkT 2), .bool (kpT 2), .bool (flT 2), .string (nmT 3), .int .i64 (lkT 3), .bool (kpT 3), .bool (flT 3), .string (nmT 4), .int .i64 (lkT 4), .bool (kpT 4), .bool (flT 4)]) w := by
  refine run_load_cells w 0 _ [.string (nmT 0), .int .i64 (lkT 0), .bool (kpT 0), .bool (flT 0), .string (nmT 1), .int .i64 (lkT 1), .bool (kpT 1), .bool (flT 1), .string (nmT 2), .int .i64 (lkT 2), .bool (kpT 2), .bool (flT 2), .string (nmT 3), .int .i64 (lkT 3), .bool (kpT 3), .bool (flT 3), .string (nmT 4), .int .i64 (lkT 4), .bool (kpT 4), .bool (flT 4)] _ (fun j v hv => ?_) Tryd.underlying46 rfl (by kernel_rfl)
  match j, hv with
  | 0, hv => cases hv; exact (hT 0 (by omega)).1
  | 1, hv => cases hv; exact (hT 0 (by omega)).2.1
  | 2, hv => cases hv; exact (hT 0 (by omega)).2.2.1
  | 3, hv => cases hv; exact (hT 0 (by omega)).2.2.2
  | 4, hv => cases hv; exact (hT 1 (by omega)).1
  | 5, hv => cases hv; exact (hT 1 (by omega)).2.1
  | 6, hv => cases hv; exact (hT 1 (by omega)).2.2.1
  | 7, hv => cases hv; exact (hT 1 (by omega)).2.2.2
  | 8, hv => cases hv; exact (hT 2 (by omega)).1
  | 9, hv => cases hv; exact (hT 2 (by omega)).2.1
  | 10, hv => cases hv; exact (hT 2 (by omega)).2.2.1
  | 11, hv => cases hv; exact (hT 2 (by omega)).2.2.2
  | 12, hv => cases hv; exact (hT 3 (by omega)).1
  | 13, hv => cases hv; exact (hT 3 (by omega)).2.1
  | 14, hv => cases hv; exact (hT 3 (by omega)).2.2.1
  | 15, hv => cases hv; exact (hT 3 (by omega)).2.2.2
  | 16, hv => cases hv; exact (hT 4 (by omega)).1
  | 17, hv => cases hv; exact (hT 4 (by omega)).2.1
  | 18, hv => cases hv; exact (hT 4 (by omega)).2.2.1
  | 19, hv => cases hv; exact (hT 4 (by omega)).2.2.2
  | n + 20, hv => simp at hv
set_option maxHeartbeats 1600000 in
theorem named_any (w : World) (hT : TR w) (s : ByteArray) : Calls Tryd.prog 5 #[.string s] w fun e w' => e = .returned (.tuple #[.int .i64 (lkK (look s 0 5)), .int .i64 (lkE (look s 0 5))]) ∧ Keeps (fun _ => False) w w' := by
  have hl := tr_load hT
  obtain ⟨n0, e0⟩ : ∃ n0, nmT 0 = n0 := ⟨_, rfl⟩
  obtain ⟨n1, e1⟩ : ∃ n1, nmT 1 = n1 := ⟨_, rfl⟩
  obtain ⟨n2, e2⟩ : ∃ n2, nmT 2 = n2 := ⟨_, rfl⟩
  obtain ⟨n3, e3⟩ : ∃ n3, nmT 3 = n3 := ⟨_, rfl⟩
  obtain ⟨n4, e4⟩ : ∃ n4, nmT 4 = n4 := ⟨_, rfl⟩
  rw [e0, e1, e2, e3, e4] at hl
  generalize lkT 0 = l0, lkT 1 = l1, lkT 2 = l2, lkT 3 = l3, lkT 4 = l4, kpT 0 = k0, kpT 1 = k1, kpT 2 = k2, kpT 3 = k3, kpT 4 = k4, flT 0 = f0, flT 1 = f1, flT 2 = f2, flT 3 = f3, flT 4 = f4 at hl
  have HE : Hid (nmT 0 = n0 ∧ nmT 1 = n1 ∧ nmT 2 = n2 ∧ nmT 3 = n3 ∧ nmT 4 = n4) := ⟨e0, e1, e2, e3, e4⟩
  clear e0 e1 e2 e3 e4 hT
  go_enter Tryd.func5, Tryd.ntmps5
  go_wp2_with (refine wpList_load_run rfl 46 _ rfl ⟨0, 0, none⟩ rfl _ hl ?_; clear hl)
  go_loopw [7] (fun iv W => ∃ k : Nat, k ≤ 5 ∧ iv = .int .i64 (k : Int) ∧ look s 0 5 = look s k (5 - k) ∧ Keeps (fun _ => False) w W) (fun iv _ => 5 - (intOf iv).toNat)
  case atStart => exact ⟨0, by omega, rfl, rfl, Keeps.refl _ w⟩
  case round =>
    obtain ⟨k, hk, rfl, hlk, K1⟩ := hrel
    have HL : Hid _ := hlk
    clear hlk
    match k, hk with
    | 0, _ =>
      simp only [show ((0 : Nat) : Int) = 0 from rfl]
      have hidx : ∀ w' : World, (Instr.index 46 (.agg #[.string n0, .int .i64 l0, .bool k0, .bool f0, .string n1, .int .i64 l1, .bool k1, .bool f1, .string n2, .int .i64 l2, .bool k2, .bool f2, .string n3, .int .i64 l3, .bool k3, .bool f3, .string n4, .int .i64 l4, .bool k4, .bool f4]) (.int .i64 0)).run Tryd.prog w' = .ok (.agg #[.string n0, .int .i64 l0, .bool k0, .bool f0]) w' := fun _ => by kernel_rfl
      have eN : nmT 0 = n0 := HE.out.1
      have HL1 : Hid (look s 0 5 = look s 0 (4 - 0 + 1)) := HL.out
      cases hm : (n0.toList == s.toList)
      · have HN : Hid (look s 0 5 = look s (0 + 1) (5 - (0 + 1))) := by
          show _ = _
          rw [HL1.out, look_miss _ _ _ (by rw [eN]; exact hm)]
        clear HL HL1 eN
        go_wp2_with fail
        go_roundw
        case rel => exact ⟨0 + 1, by omega, by go_num, HN.out, K1.alloc _⟩
        case measure => simp [intOf]
      · have HN : Hid (look s 0 5 = some 0) := by
          show _ = _
          rw [HL1.out, look_hit _ _ _ (by rw [eN]; exact hm)]
        clear HL HL1 eN
        go_wp2_with fail
        go_ret2
        refine ⟨?_, K1.alloc _⟩
        rw [HN.out]
        rfl
    | 1, _ =>
      simp only [show ((1 : Nat) : Int) = 1 from rfl]
      have hidx : ∀ w' : World, (Instr.index 46 (.agg #[.string n0, .int .i64 l0, .bool k0, .bool f0, .string n1, .int .i64 l1, .bool k1, .bool f1, .string n2, .int .i64 l2, .bool k2, .bool f2, .string n3, .int .i64 l3, .bool k3, .bool f3, .string n4, .int .i64 l4, .bool k4, .bool f4]) (.int .i64 1)).run Tryd.prog w' = .ok (.agg #[.string n1, .int .i64 l1, .bool k1, .bool f1]) w' := fun _ => by kernel_rfl
      have eN : nmT 1 = n1 := HE.out.2.1
      have HL1 : Hid (look s 0 5 = look s 1 (4 - 1 + 1)) := HL.out
      cases hm : (n1.toList == s.toList)
      · have HN : Hid (look s 0 5 = look s (1 + 1) (5 - (1 + 1))) := by
          show _ = _
          rw [HL1.out, look_miss _ _ _ (by rw [eN]; exact hm)]
        clear HL HL1 eN
        go_wp2_with fail
        go_roundw
        case rel => exact ⟨1 + 1, by omega, by go_num, HN.out, K1.alloc _⟩
        case measure => simp [intOf]
      · have HN : Hid (look s 0 5 = some 1) := by
          show _ = _
          rw [HL1.out, look_hit _ _ _ (by rw [eN]; exact hm)]
        clear HL HL1 eN
        go_wp2_with fail
        go_ret2
        refine ⟨?_, K1.alloc _⟩
        rw [HN.out]
        rfl
    | 2, _ =>
      simp only [show ((2 : Nat) : Int) = 2 from rfl]
      have hidx : ∀ w' : World, (Instr.index 46 (.agg #[.string n0, .int .i64 l0, .bool k0, .bool f0, .string n1, .int .i64 l1, .bool k1, .bool f1, .string n2, .int .i64 l2, .bool k2, .bool f2, .string n3, .int .i64 l3, .bool k3, .bool f3, .string n4, .int .i64 l4, .bool k4, .bool f4]) (.int .i64 2)).run Tryd.prog w' = .ok (.agg #[.string n2, .int .i64 l2, .bool k2, .bool f2]) w' := fun _ => by kernel_rfl
      have eN : nmT 2 = n2 := HE.out.2.2.1
      have HL1 : Hid (look s 0 5 = look s 2 (4 - 2 + 1)) := HL.out
      cases hm : (n2.toList == s.toList)
      · have HN : Hid (look s 0 5 = look s (2 + 1) (5 - (2 + 1))) := by
          show _ = _
          rw [HL1.out, look_miss _ _ _ (by rw [eN]; exact hm)]
        clear HL HL1 eN
        go_wp2_with fail
        go_roundw
        case rel => exact ⟨2 + 1, by omega, by go_num, HN.out, K1.alloc _⟩
        case measure => simp [intOf]
      · have HN : Hid (look s 0 5 = some 2) := by
          show _ = _
          rw [HL1.out, look_hit _ _ _ (by rw [eN]; exact hm)]
        clear HL HL1 eN
        go_wp2_with fail
        go_ret2
        refine ⟨?_, K1.alloc _⟩
        rw [HN.out]
        rfl
    | 3, _ =>
      simp only [show ((3 : Nat) : Int) = 3 from rfl]
      have hidx : ∀ w' : World, (Instr.index 46 (.agg #[.string n0, .int .i64 l0, .bool k0, .bool f0, .string n1, .int .i64 l1, .bool k1, .bool f1, .string n2, .int .i64 l2, .bool k2, .bool f2, .string n3, .int .i64 l3, .bool k3, .bool f3, .string n4, .int .i64 l4, .bool k4, .bool f4]) (.int .i64 3)).run Tryd.prog w' = .ok (.agg #[.string n3, .int .i64 l3, .bool k3, .bool f3]) w' := fun _ => by kernel_rfl
      have eN : nmT 3 = n3 := HE.out.2.2.2.1
      have HL1 : Hid (look s 0 5 = look s 3 (4 - 3 + 1)) := HL.out
      cases hm : (n3.toList == s.toList)
      · have HN : Hid (look s 0 5 = look s (3 + 1) (5 - (3 + 1))) := by
          show _ = _
          rw [HL1.out, look_miss _ _ _ (by rw [eN]; exact hm)]
        clear HL HL1 eN
        go_wp2_with fail
        go_roundw
        case rel => exact ⟨3 + 1, by omega, by go_num, HN.out, K1.alloc _⟩
        case measure => simp [intOf]
      · have HN : Hid (look s 0 5 = some 3) := by
          show _ = _
          rw [HL1.out, look_hit _ _ _ (by rw [eN]; exact hm)]
        clear HL HL1 eN
        go_wp2_with fail
        go_ret2
        refine ⟨?_, K1.alloc _⟩
        rw [HN.out]
        rfl
    | 4, _ =>
      simp only [show ((4 : Nat) : Int) = 4 from rfl]
      have hidx : ∀ w' : World, (Instr.index 46 (.agg #[.string n0, .int .i64 l0, .bool k0, .bool f0, .string n1, .int .i64 l1, .bool k1, .bool f1, .string n2, .int .i64 l2, .bool k2, .bool f2, .string n3, .int .i64 l3, .bool k3, .bool f3, .string n4, .int .i64 l4, .bool k4, .bool f4]) (.int .i64 4)).run Tryd.prog w' = .ok (.agg #[.string n4, .int .i64 l4, .bool k4, .bool f4]) w' := fun _ => by kernel_rfl
      have eN : nmT 4 = n4 := HE.out.2.2.2.2
      have HL1 : Hid (look s 0 5 = look s 4 (4 - 4 + 1)) := HL.out
      cases hm : (n4.toList == s.toList)
      · have HN : Hid (look s 0 5 = look s (4 + 1) (5 - (4 + 1))) := by
          show _ = _
          rw [HL1.out, look_miss _ _ _ (by rw [eN]; exact hm)]
        clear HL HL1 eN
        go_wp2_with fail
        go_roundw
        case rel => exact ⟨4 + 1, by omega, by go_num, HN.out, K1.alloc _⟩
        case measure => simp [intOf]
      · have HN : Hid (look s 0 5 = some 4) := by
          show _ = _
          rw [HL1.out, look_hit _ _ _ (by rw [eN]; exact hm)]
        clear HL HL1 eN
        go_wp2_with fail
        go_ret2
        refine ⟨?_, K1.alloc _⟩
        rw [HN.out]
        rfl
    | 5, _ =>
      have HN : Hid (look s 0 5 = none) := HL.out
      clear HL
      go_wp2_with fail
      go_ret2
      refine ⟨?_, K1⟩
      rw [HN.out]
      rfl
theorem rname_any (w : World) {k : Nat} (hk : k < 5) : Calls Tryd.prog 6 #[.int .i64 (k : Int)] w fun e w' => e = .returned (.string (nmT k)) ∧ w' = w := by
  match k, hk with
  | 0, _ | 1, _ | 2, _ | 3, _ | 4, _ =>
    go_enter Tryd.func6, Tryd.ntmps6
    go_wp2
    go_ret
    exact ⟨rfl, rfl⟩
end Go.Proofs.YtmcchconnfoffaaDoor
