import Derived.Test.YtehblpbefkopbaaGreatDoorXaE
import Derived.Laws.Rows
import Derived.Lib.SmallJoins
import Derived.Lib.IndexMore
import Derived.Lib.LastIndexByte
namespace Go.Proofs.YtehblpbefkopbaaGreatDoor
open Go.RowKit Go.ChangeShapes Go.WideShapes Go.ChangeAt
attribute [local go_sem] Oper.semAt_some run_store_nf run_store_f
theorem Keeps.ofBelow {w w' : World} (h : Below w.heap.size w w') : Keeps (fun _ => False) w w' := ⟨h.os, h.tape, h.output, h.size, fun k hk _ => h.block k hk⟩
/-- A table of the package's own: its cells. -/
def bndC : List Value := bnds.flatMap fun x => [.string (bs x.1), .int .i64 (x.2.1 : Int), .int .i64 (x.2.2 : Int)]
def usC : List Value := [false, false, false, false, false, true, true, false, false, false, false, true, true, false, false, false, true, false, false, false, false, true, false, true, true, false, true, false, true, false, false, false, false, false, false, false, true, false, false, false].map Value.bool
structure SG (w : World) : Prop where
  sg : ∀ i v, (sgs.map fun x => Value.string (bs x))[i]? = some v → w.cell? ⟨1, i, none⟩ = some v
  kw : ∀ i v, (kpt.map fun x => Value.string (bs x))[i]? = some v → w.cell? ⟨3, i, none⟩ = some v
  bn : ∀ i v, bndC[i]? = some v → w.cell? ⟨2, i, none⟩ = some v
  us : ∀ i v, usC[i]? = some v → w.cell? ⟨0, i, none⟩ = some v
  er : ErrIs w
  mx : ∃ m : Int, w.cell? ⟨4, 0, none⟩ = some (.int .i64 m)
theorem gER : Tryz.prog.globalNamed "strconv.ErrRange" = some 8 := by kernel_rfl
theorem errIs_keepS {S : Nat → Prop} {w w' : World} (h : ErrIs w) (k : Keeps S w w') (hS : ∀ i, i < 12 → ¬ S i) : ErrIs w' := by
  obtain ⟨tp, p, h⟩ := h
  refine ⟨tp, p, ?_⟩
  unfold World.var? at h ⊢
  rw [gER] at h ⊢
  simp only [Option.bind_some] at h ⊢
  have hlt : 8 < w.heap.size := by
    rcases Nat.lt_or_ge 8 w.heap.size with h' | h'
    · exact h'
    · rw [Array.getElem?_eq_none h'] at h; cases h
  rw [k.block _ hlt (hS _ (by decide))]
  exact h
theorem SG.keep {S : Nat → Prop} {w w' : World} (h : SG w) (k : Keeps S w w') (hS : ∀ i, i < 12 → ¬ S i) : SG w' :=
  ⟨fun i v e => k.cell (h.sg i v e) (hS 1 (by decide)), fun i v e => k.cell (h.kw i v e) (hS 3 (by decide)), fun i v e => k.cell (h.bn i v e) (hS 2 (by decide)), fun i v e => k.cell (h.us i v e) (hS 0 (by decide)),
    errIs_keepS h.er k hS, by obtain ⟨m, hm⟩ := h.mx; exact ⟨m, k.cell hm (hS 4 (by decide))⟩⟩
/-- A value of so many cells that stand in a row. -/
theorem run_load_cells {P : Program} (w : World) (b : Nat) (ty : TypeId) (cs : List Value) (d : TypeDesc) (hc : ∀ (j : Nat) (v : Value), cs[j]? = some v → w.cell? ⟨b, j, none⟩ = some v)
    (hu : P.underlying ty = some d) (hd : (match d with | .struct _ | .array _ _ => true | _ => false) = true) (hi : (P.info? ty).map (·.size) = some cs.length) :
    (loadVar ty ⟨b, 0, none⟩).run P w = .ok (.agg cs.toArray) w := by
  have hl : (loadCells ⟨b, 0, none⟩ cs.length).run P w = .ok cs.toArray w :=
    run_loadCells_list (P := P) w ⟨b, 0, none⟩ cs (fun j v hv => by
      have hadd : (⟨b, 0, none⟩ : Addr).add j = ⟨b, j, none⟩ := by unfold Addr.add; split <;> simp_all
      rw [hadd]
      exact hc j v hv)
  cases hq : P.info? ty with
  | none => simp [hq] at hi
  | some i =>
    have hs : i.size = cs.length := by simpa [hq] using hi
    have hagg : (isAgg ty).run P w = .ok true w := by
      unfold isAgg
      rw [Sem.run_bind, run_underlying hu w]
      cases d <;> simp_all
    simp [loadVar, Sem.run_bind, hagg, sizeOf, typeInfo, hq, hs, hl]
def sgV : Value := .agg (sgs.map fun x => Value.string (bs x)).toArray
def kwV : Value := .agg (kpt.map fun x => Value.string (bs x)).toArray
def bnV : Value := .agg bndC.toArray
theorem sg_load {w : World} (h : SG w) : (loadVar 126 ⟨1, 0, none⟩).run Tryz.prog w = .ok sgV w := run_load_cells w _ _ _ _ h.sg Tryz.underlying126 rfl (by kernel_rfl)
theorem kw_load {w : World} (h : SG w) : (loadVar 128 ⟨3, 0, none⟩).run Tryz.prog w = .ok kwV w := run_load_cells w _ _ _ _ h.kw Tryz.underlying128 rfl (by kernel_rfl)
theorem bn_load {w : World} (h : SG w) : (loadVar 127 ⟨2, 0, none⟩).run Tryz.prog w = .ok bnV w := run_load_cells w _ _ _ _ h.bn Tryz.underlying127 rfl (by kernel_rfl)
theorem sg_ix (w : World) : ∀ k : Nat, k < 28 → (Instr.index 126 sgV (.int .i64 (k : Int))).run Tryz.prog w = .ok (.string (bs (sgs.getD k []))) w
  | 0, _ => by kernel_rfl
  | 1, _ => by kernel_rfl
  | 2, _ => by kernel_rfl
  | 3, _ => by kernel_rfl
  | 4, _ => by kernel_rfl
  | 5, _ => by kernel_rfl
  | 6, _ => by kernel_rfl
  | 7, _ => by kernel_rfl
  | 8, _ => by kernel_rfl
  | 9, _ => by kernel_rfl
  | 10, _ => by kernel_rfl
  | 11, _ => by kernel_rfl
  | 12, _ => by kernel_rfl
  | 13, _ => by kernel_rfl
  | 14, _ => by kernel_rfl
  | 15, _ => by kernel_rfl
  | 16, _ => by kernel_rfl
  | 17, _ => by kernel_rfl
  | 18, _ => by kernel_rfl
  | 19, _ => by kernel_rfl
  | 20, _ => by kernel_rfl
  | 21, _ => by kernel_rfl
  | 22, _ => by kernel_rfl
  | 23, _ => by kernel_rfl
  | 24, _ => by kernel_rfl
  | 25, _ => by kernel_rfl
  | 26, _ => by kernel_rfl
  | 27, _ => by kernel_rfl
  | n + 28, h => absurd h (by omega)
theorem kw_ix (w : World) : ∀ k : Nat, k < 9 → (Instr.index 128 kwV (.int .i64 (k : Int))).run Tryz.prog w = .ok (.string (bs (kpt.getD k []))) w
  | 0, _ => by kernel_rfl
  | 1, _ => by kernel_rfl
  | 2, _ => by kernel_rfl
  | 3, _ => by kernel_rfl
  | 4, _ => by kernel_rfl
  | 5, _ => by kernel_rfl
  | 6, _ => by kernel_rfl
  | 7, _ => by kernel_rfl
  | 8, _ => by kernel_rfl
  | n + 9, h => absurd h (by omega)
theorem bn_ix (w : World) : ∀ k : Nat, k < 20 → (Instr.index 127 bnV (.int .i64 (k : Int))).run Tryz.prog w = .ok (.agg #[.string (bs (bnds.getD k ([], 0, 0)).1), .int .i64 ((bnds.getD k ([], 0, 0)).2.1 : Int), .int .i64 ((bnds.getD k ([], 0, 0)).2.2 : Int)]) w
  | 0, _ => by kernel_rfl
  | 1, _ => by kernel_rfl
  | 2, _ => by kernel_rfl
  | 3, _ => by kernel_rfl
  | 4, _ => by kernel_rfl
  | 5, _ => by kernel_rfl
  | 6, _ => by kernel_rfl
  | 7, _ => by kernel_rfl
  | 8, _ => by kernel_rfl
  | 9, _ => by kernel_rfl
  | 10, _ => by kernel_rfl
  | 11, _ => by kernel_rfl
  | 12, _ => by kernel_rfl
  | 13, _ => by kernel_rfl
  | 14, _ => by kernel_rfl
  | 15, _ => by kernel_rfl
  | 16, _ => by kernel_rfl
  | 17, _ => by kernel_rfl
  | 18, _ => by kernel_rfl
  | 19, _ => by kernel_rfl
  | n + 20, h => absurd h (by omega)
theorem getD_step {α : Type} (L : List α) (d : α) (k : Nat) (h : k < L.length) : L.drop k = L.getD k d :: L.drop (k + 1) := by
  rw [List.drop_eq_getElem_cons h, List.getD_eq_getElem?_getD, List.getElem?_eq_getElem h]; rfl
set_option maxHeartbeats 800000 in
theorem fsg_any (l : Bs) {w : World} (hG : SG w) : Calls Tryz.prog 66 #[.string (bs l)] w fun e w' => e = .returned (.string (bs (fsgL sgs l))) ∧ w' = w := by
  have hr := sg_load hG
  have hix := sg_ix
  have hP : ∀ (p : Bs) W, Calls Tryz.prog 60 #[.string (bs l), .string (bs p)] W fun e w' => e = .returned (.bool (p.isPrefixOf l)) ∧ w' = W := fun p W => Tryz.strings_HasPrefix (bs l) (bs p) W
  generalize sgV = V at *
  go_enter Tryz.func66, Tryz.ntmps66
  go_wp2_with (refine wpList_load_run rfl 126 _ rfl ⟨1, 0, none⟩ rfl _ hr ?_; clear hr)
  go_loopw [6] (fun iv Wr => ∃ k : Nat, iv = .int .i64 (k : Int) ∧ k ≤ 28 ∧ fsgL (sgs.drop k) l = fsgL sgs l ∧ w = Wr) (fun iv _ => 30 - (intOf iv).toNat)
  case atStart => exact ⟨0, rfl, by omega, rfl, rfl⟩
  case round =>
    obtain ⟨k, rfl, hk1, hk2, rfl⟩ := hrel
    by_cases hk : k < 28
    · have hd : decide ((k : Int) < 28) = true := by simp; omega
      have hd2 : decide (k < 28) = true := by simp; omega
      have hi := fun W => hix W k hk
      clear hix
      have hst := getD_step sgs [] k (by rw [show sgs.length = 28 from rfl]; exact hk)
      rw [hst, fsgL] at hk2
      have hPk := hP (sgs.getD k [])
      generalize sgs.getD k [] = s at *
      have hm : (k : Int) + 1 ≤ 9223372036854775807 := by omega
      cases hp : s.isPrefixOf l
      · rw [if_neg (by rw [hp]; decide)] at hk2
        rw [hp] at hPk
        have HT : Hid (_ = _) := hk2
        clear hk2 hst hp
        go_wp2_with (go_at_call 60; refine (hPk _).mono ?_; rintro e w' ⟨rfl, rfl⟩)
        go_roundw
        case rel => exact ⟨k + 1, by go_num, by omega, HT.out, trivial⟩
        case measure => simp [intOf]; omega
      · rw [if_pos hp] at hk2
        rw [hp] at hPk
        have HT : Hid (_ = _) := hk2
        clear hk2 hst hp
        go_wp2_with (go_at_call 60; refine (hPk _).mono ?_; rintro e w' ⟨rfl, rfl⟩)
        go_ret
        exact ⟨congrArg (fun x => Ending.returned (.string (bs x))) HT.out, rfl⟩
    · obtain rfl : k = 28 := by omega
      have HT : Hid (_ = _) := hk2
      clear hk2
      go_wp2_with fail
      go_ret
      exact ⟨congrArg (fun x => Ending.returned (.string (bs x))) HT.out, rfl⟩
theorem bs_nil : bs [] = { data := #[] } := rfl
set_option maxHeartbeats 800000 in
theorem first_any (l : Bs) (hl : l.length ≤ 32768) {w : World} (hG : SG w) : Calls Tryz.prog 45 #[.string (bs l)] w fun e w' => e = .returned (.string (bs (tok l))) ∧ Below w.heap.size w w' := by
  cases l with
  | nil =>
    have e0 : (bs []).toList.isEmpty = true := by rw [bs_toList]; rfl
    rw [show tok [] = [] from rfl]
    have ex : Hid (bs [] = { data := #[] }) := rfl
    generalize bs [] = x at *
    go_enter Tryz.func45, Tryz.ntmps45
    go_wp2
    go_ret
    exact ⟨congrArg (fun y => Ending.returned (.string y)) ex.out.symm, Below.refl _ _⟩
  | cons b r =>
    have e0 : (bs (b :: r)).toList.isEmpty = false := by rw [bs_toList]; rfl
    have hsz : 0 < (bs (b :: r)).size := by rw [bs_size]; simp
    have hg : (bs (b :: r))[0] = b := rfl
    have hL := fun W => isL_any W b
    have hD := fun W => isD_any W b
    have h1 := fwd_any (b :: r) (Nat.le_trans hl (by decide)) w
    have h2 := fnm_any (b :: r) (Nat.le_trans hl (by decide)) w hG.er
    have h3 := fsg_any (b :: r) hG
    rw [tok_cons]
    generalize fwd (b :: r) = y1 at *
    generalize fnm (b :: r) = y2 at *
    generalize fsgL sgs (b :: r) = y3 at *
    cases hb : isL b
    · rw [hb] at hL
      rw [if_neg (by decide)]
      cases hb2 : digB b
      · rw [hb2] at hD
        rw [if_neg (by decide)]
        clear hb hb2
        go_enter Tryz.func45, Tryz.ntmps45
        go_wp2_with (first | (go_at_call 62; refine (hL _).mono ?_; rintro e w' ⟨rfl, rfl⟩) | (go_at_call 64; refine (hD _).mono ?_; rintro e w' ⟨rfl, rfl⟩) | (go_at_call 66; refine h3.mono ?_; rintro e w' ⟨rfl, rfl⟩))
        go_ret
        exact ⟨rfl, Below.refl _ _⟩
      · rw [hb2] at hD
        rw [if_pos rfl]
        clear hb hb2
        go_enter Tryz.func45, Tryz.ntmps45
        go_wp2_with (first | (go_at_call 62; refine (hL _).mono ?_; rintro e w' ⟨rfl, rfl⟩) | (go_at_call 64; refine (hD _).mono ?_; rintro e w' ⟨rfl, rfl⟩) | (go_at_call 65; refine h2.mono ?_; rintro e w1 ⟨rfl, b1⟩))
        go_ret
        exact ⟨rfl, b1⟩
    · rw [hb] at hL
      rw [if_pos rfl]
      clear hb
      go_enter Tryz.func45, Tryz.ntmps45
      go_wp2_with (first | (go_at_call 62; refine (hL _).mono ?_; rintro e w' ⟨rfl, rfl⟩) | (go_at_call 63; refine h1.mono ?_; rintro e w' ⟨rfl, rfl⟩))
      go_ret
      exact ⟨rfl, Below.refl _ _⟩
end Go.Proofs.YtehblpbefkopbaaGreatDoor
