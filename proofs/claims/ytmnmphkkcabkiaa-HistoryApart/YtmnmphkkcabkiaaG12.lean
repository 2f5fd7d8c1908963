import Derived.Test.YtmnmphkkcabkiaaG11
import Derived.Deep.OwnRows
namespace Go.Proofs.Ytmnmphkkcabkiaa
open Go.RowKit
attribute [local go_sem] Oper.semAt_some run_store_nf run_store_f
set_option maxHeartbeats 1000000 in
set_option maxRecDepth 100000 in
theorem txs_no {w : World} {a : Option Addr} {cap i : Nat} {l : List Rw} (hl : RSL w a l) (hlen : l.length ≤ 980000000000) (hf : fstP l 0 (f0 6) = some i) : Calls Try.prog 12 #[.slice a l.length cap] w fun e w' => e = .returned (.tuple #[.slice none 0 0, .int .i64 150]) ∧ Keeps (fun _ => False) w w' := by
  have hck := check_any (cap := cap) hl (by omega)
  rw [hf] at hck
  unfold ansP at hck
  dsimp only at hck
  clear hl hf
  generalize l.length = N at *
  go_enter Try.func12, Try.ntmps12
  go_wp2_with (go_at_call 23; refine hck.mono ?_; clear hck; rintro e w1 ⟨rfl, k1⟩)
  go_ret2
  exact ⟨rfl, k1⟩
theorem wpList_buildTx {ops : Array Oper} {rest : List Oper} {o : Oper} {a : Act} {w : World} {Q : Exit → Act → World → Prop} (hg : o.guard = none) (x : Operand) (ho : o.op = .buildSlice 35 1 #[(0, x)]) (cs : Array Value) (hc : cs.size = 11) (hx : a.eval x = .agg cs)
    (h : wpList Try.prog ops Q rest (a.put o.dst (.slice (some ⟨w.heap.size, 0, none⟩) 1 1)) (w.alloc (.cells cs 42))) : wpList Try.prog ops Q (o :: rest) a w :=
  wpList_plain hg fun _ hK => wp_buildTx x ho cs hc hx (hK _ _ h)
theorem pcl_cell {pb : Nat → Nat} {n i : Nat} (h : i < n) : (pcl pb n)[i]? = some (.pointer (some ⟨pb i, 0, none⟩)) := by
  unfold pcl
  rw [List.getElem?_map, List.getElem?_range h]
  rfl
set_option maxHeartbeats 1000000 in
set_option maxRecDepth 100000 in
theorem txs_ok {w : World} {a : Option Addr} {cap : Nat} {l : List Rw} (hN0 : SortNone) (hl : RSL w a l) (hlen : l.length ≤ 980000000000) (hf : fstP l 0 (f0 6) = none) (hi64 : ∀ k, k < l.length → I64 (l.getD k rw0).object ∧ I64 (l.getD k rw0).entry) : Calls Try.prog 12 #[.slice a l.length cap] w fun e w' => ∃ base lv sv wv ρ, e = .returned (.tuple #[lv, .int .i64 0]) ∧ w.heap.size ≤ base ∧ TL base w' lv (txD l) sv wv ρ l.length ∧ Keeps (fun _ => False) w w' := by
  have hck := check_any (cap := cap) hl (by omega)
  rw [hf] at hck
  unfold ansP at hck
  dsimp only at hck
  have HTV := tvi_inv hf hi64 l.length (Nat.le_refl _)
  have HAT : Hid (∀ W, Keeps (fun _ => False) w W → Calls Try.prog 24 #[.slice a l.length cap] W fun e w' => ∃ lv pb sv wb rb ρ, e = .returned lv ∧ AT (W.heap.size + 1) w' lv (txK l l.length).1.length pb (fun i => (txK l l.length).1.getD i tv0) sv wb rb (cK l l.length) ρ l.length ∧ Keeps (fun _ => False) W w') := fun W k => attempts_any (hl.keep k) rfl hlen hf hi64
  have hTD := telL_txD hf hi64
  have hle := txK_le l l.length
  clear hl hf hi64
  generalize txD l = TD at *
  generalize cK l l.length = cc at *
  generalize (txK l l.length).1.length = n at *
  generalize hTT : (fun i => (txK l l.length).1.getD i tv0) = T at *
  have HTI : Hid (∀ i, i < n → TvI (T i)) := fun i hi => by rw [← hTT]; exact HTV i hi
  clear HTV hTT
  generalize l.length = N at *
  have HTD : Hid (telL T cc n = TD) := hTD
  clear hTD
  go_enter Try.func12, Try.ntmps12
  go_wp2_with (first | (go_at_call 23; refine hck.mono ?_; clear hck; rintro e w1 ⟨rfl, k1⟩) | (go_at_call 24; refine (HAT.out w1 k1).mono ?_; clear HAT; rintro e X ⟨pv, pb, sv, wb, rb, ρ, rfl, hX, kX⟩; obtain ⟨ap, cp, rfl, hpc, -⟩ := own_slice hX.o))
  have kwX := k1.trans kX
  have HX : Hid (AT (w1.heap.size + 1) X (.slice ap n cp) n pb T sv wb rb cc ρ N) := hX
  have z1 := k1.size
  clear hX hpc k1 kX
  go_loopw [6, 20] (fun lv kv Wr => ∃ (k : Nat) (wv : Nat → Value) (τ : Nat → Nat), kv = .int .i64 (k : Int) ∧ k ≤ n ∧ TT (w1.heap.size + 1) X.heap.size Wr k n (.slice ap n cp) pb T sv wb rb cc N lv wv τ ∧ Keeps (fun _ => False) w Wr) (fun _ kv _ => n - (intOf kv).toNat)
  case atStart => exact ⟨0, _, _, rfl, Nat.zero_le _, TT.start HX.out, kwX⟩
  case round =>
    obtain ⟨k, wv, τ, rfl, hk, hT, kr⟩ := hrel
    by_cases hkn : k < n
    · have m1 : decide ((k : Int) < (n : Int)) = true := decide_eq_true (by omega)
      have m1' : decide (k < n) = true := decide_eq_true hkn
      have m2 : (k : Int) < (n : Int) := by omega
      have m3 : (0 : Int) ≤ (k : Int) := by omega
      obtain ⟨g, rfl⟩ : ∃ g, ap = some ⟨g, 0, none⟩ := by
        rcases hT.p.2 with ⟨_, h0⟩ | ⟨g', _, _, e, _⟩
        · omega
        · injection e with e _ _
          exact ⟨g', e⟩
      have hpk := (own_cl hT.p).c k _ (pcl_cell hkn)
      have hti := HTI.out k hkn
      have hat := atell_any (hT.a k (Nat.le_refl _) hkn) (fun s hs => (hti.s s hs).2) hlen (fun W hM => tell_any hN0 hM (Nat.le_trans (HX.out.a k hkn).ls.2 hlen) hti.i hti.w)
      obtain ⟨al, cl, el, -⟩ := own_slice hT.o
      subst el
      have HT2 : Hid (∀ W1 wk, W1.ownsRow (w1.heap.size + 1) 44 9 (sv k) (T k).saws.length (scl ((T k).saws.map (telG (cc k)))) → W1.ownsRow wr.heap.size 46 4 wk (T k).wrs.length (wcl (T k).wrs) → Keeps (fun b => (sv k).ownBlock = some b) wr W1 → ∃ al' cl' W2, (Builtin.append_ #[35, 35] 35 #[.slice al k cl, .slice (some ⟨W1.heap.size, 0, none⟩) 1 1]).run Try.prog (W1.alloc (.cells ((T k).cells (sv k) wk).toArray 42)) = .ok (.slice al' (k + 1) cl') W2 ∧
      TT (w1.heap.size + 1) X.heap.size W2 (k + 1) n (.slice (some ⟨g, 0, none⟩) n cp) pb T sv wb rb cc N (.slice al' (k + 1) cl') (fun i => if i = k then wk else wv i) (fun b => if b < wr.heap.size then τ b else if wk.ownBlock = some b then 3 + 2 * k else 1) ∧ Keeps (fun b => w1.heap.size + 1 ≤ b) wr W2) := fun W1 wk h1 h2 h3 => by
        obtain ⟨lv', W2, e1, e2, e3⟩ := TT.next HX.out hT hkn h1 h2 h3 (by omega)
        obtain ⟨al', cl', el', -⟩ := own_slice e2.o
        subst el'
        exact ⟨al', cl', W2, e1, e2, e3⟩
      clear hti
      go_wp2_with (first | (go_at_call 25; refine hat.mono ?_; clear hat; rintro e W1 ⟨wk, rfl, hs1, hw1, k2⟩; obtain ⟨al', cl', W2, hr2, hT2, k3⟩ := HT2.out W1 wk hs1 hw1 k2; clear HT2) | (refine wpList_buildTx rfl _ rfl ((T k).cells (sv k) wk).toArray rfl rfl ?_; (try simp only [Act.put, List.setIfInBounds_toArray, List.set_cons_zero, List.set_cons_succ])) | (at_builtin; refine wpList_append_t rfl _ _ _ rfl _ _ _ W2 rfl rfl hr2 ?_; clear hr2))
      have K2 : Keeps (fun _ => False) w W2 := kr.trans' k3 (fun _ _ e => e) (fun i hi e => by have e : w1.heap.size + 1 ≤ i := e; omega)
      go_roundw
      case rel => exact ⟨k + 1, _, _, by go_num, by omega, hT2, K2⟩
      case measure => simp [intOf]; omega
    · have m1 : decide ((k : Int) < (n : Int)) = false := decide_eq_false (by omega)
      have m1' : decide (k < n) = false := decide_eq_false hkn
      obtain rfl : k = n := by omega
      have hTL := TT.done HX.out hT
      rw [HTD.out] at hTL
      go_wp2_with fail
      go_ret2
      exact ⟨_, _, _, _, _, rfl, by omega, hTL, kr⟩
end Go.Proofs.Ytmnmphkkcabkiaa

namespace Go.Proofs.Ytmnmphkkcabkiaa
open Go.RowKit
theorem wpQuiet_neq {P : Program} {ops : Array Oper} {C : World → Prop} {Q : Act → Prop} {rest : List Oper} {o : Oper} {a : Act} (hw : Region.wanted o (yielded ops a.tmps) = true) (ty t2 : TypeId) (x y : Operand) (ho : o.op = .binOp .neq ty x y t2) (xs ys : Array Value) (hx : a.eval x = .agg xs) (hy : a.eval y = .agg ys) (b : Bool)
    (hm : P.eqGuardType P.depth ty = false) (hr : ∀ w, (Op.equalIn 10000 ty (.agg xs) (.agg ys)).run P w = .ok b w) (h : wpQuiet P ops C Q rest (a.put o.dst (.bool (!b)))) : wpQuiet P ops C Q (o :: rest) a :=
  BigFrame.wpQuiet_want hw fun K hK => ⟨.bool (!b), fun w hC => by
    unfold Oper.quietAt execOp
    simp only [ho, hx, hy, Sem.run_bind, Sem.run_pure, Result.andThen_ok, run_eqGuard_agg _ _ _ _ _ _ _ hm, run_neq_struct, hr]
    exact ⟨rfl, rfl⟩, hK _ h⟩
theorem eql_sw (s : Sw) (w : World) : (Op.equalIn 10000 44 (.agg s.cells.toArray) (.agg s.cells.toArray)).run Try.prog w = .ok true w := by
  rw [run_equalIn_agg w 9999 _ _ _ (by kernel_rfl) (by kernel_rfl)]
  unfold Program.fieldsOf
  rw [Try.underlying44]
  unfold Sw.cells
  go_simp
theorem eql_wo (s : Wo) (w : World) : (Op.equalIn 10000 46 (.agg s.cells.toArray) (.agg s.cells.toArray)).run Try.prog w = .ok true w := by
  rw [run_equalIn_agg w 9999 _ _ _ (by kernel_rfl) (by kernel_rfl)]
  unfold Program.fieldsOf
  rw [Try.underlying46]
  unfold Wo.cells
  go_simp
def SWL (w : World) (a : Option Addr) (l : List Sw) : Prop := ∀ i x, l[i]? = some x → ∃ b, a = some ⟨b, 0, none⟩ ∧ ∀ j v, x.cells[j]? = some v → w.cell? ⟨b, i * 9 + j, none⟩ = some v
theorem SWL.keep {w w' : World} {a : Option Addr} {l : List Sw} (h : SWL w a l) (k : Keeps (fun _ => False) w w') : SWL w' a l := fun i x hx => by
  obtain ⟨b, e, hc⟩ := h i x hx
  exact ⟨b, e, fun j v hv => k.cell (hc j v hv) (fun e => e)⟩
theorem swl_of {W : World} {base n : Nat} {v : Value} {l : List Sw} (h : W.ownsRow base 44 9 v n (scl l)) : ∃ a cap, v = .slice a n cap ∧ SWL W a l ∧ n = l.length := by
  have hl := h.1
  rw [scl_len] at hl
  obtain ⟨a, cap, rfl, hc, _⟩ := own_slice h
  refine ⟨a, cap, rfl, fun i x hx => ?_, by omega⟩
  obtain ⟨g, rfl, _⟩ := hc (i * 9 + 0) _ (scl_get l i x hx 0 _ rfl)
  refine ⟨g, rfl, fun j v hv => ?_⟩
  obtain ⟨g', e', hc'⟩ := hc (i * 9 + j) _ (scl_get l i x hx j v hv)
  cases e'
  exact hc'
set_option maxHeartbeats 1000000 in
set_option maxRecDepth 100000 in
theorem sameSaws_ok {w : World} {a b : Option Addr} {xs : List Sw} (ca cb : Nat) (ha : SWL w a xs) (hb : SWL w b xs) (hn : xs.length ≤ 4611686018427387904) : Calls Try.prog 26 #[.slice a xs.length ca, .slice b xs.length cb] w fun e w' => e = .returned (.bool true) ∧ Keeps (fun _ => False) w w' := by
  have hnn : ((xs.length : Int) != (xs.length : Int)) = false := by simp
  generalize hN : xs.length = N at *
  go_enter Try.func26, Try.ntmps26
  go_wp2
  go_loopw [5] (fun iv Wr => ∃ k : Nat, iv = .int .i64 (k : Int) ∧ k ≤ N ∧ Keeps (fun _ => False) w Wr) (fun iv _ => N - (intOf iv).toNat)
  case atStart => exact ⟨0, rfl, Nat.zero_le _, Keeps.refl _ w⟩
  case round =>
    obtain ⟨k, rfl, hk, kr⟩ := hrel
    by_cases hlt : k < N
    · have hltI : decide ((k : Int) < (N : Int)) = true := by simp; omega
      have hltJ : (k : Int) < (N : Int) := by omega
      have hk0 : (0 : Int) ≤ (k : Int) := by omega
      have hw1 : IntKind.i64.wrap ((k : Int) + 1) = (k : Int) + 1 := by rw [IntKind.wrap_i64]; omega
      obtain ⟨ba, rfl, c1⟩ := ha k _ (List.getElem?_eq_getElem (by omega))
      obtain ⟨bb, rfl, c2⟩ := hb k _ (List.getElem?_eq_getElem (by omega))
      generalize xs[k]'(by omega) = x at *
      have HR1 : Hid (∀ w', (∃ u : KS wr, w' = u.1) → (loadVar 44 ⟨ba, k * 9, none⟩).run Try.prog w' = .ok (.agg x.cells.toArray) w') := by
        rintro _ ⟨u, rfl⟩
        exact run_swAt (fun j v e => u.property.cell (kr.cell (c1 j v e) (fun e => e)) (fun e => e))
      have HR2 : Hid (∀ w', (∃ u : KS wr, w' = u.1) → (loadVar 44 ⟨bb, k * 9, none⟩).run Try.prog w' = .ok (.agg x.cells.toArray) w') := by
        rintro _ ⟨u, rfl⟩
        exact run_swAt (fun j v e => u.property.cell (kr.cell (c2 j v e) (fun e => e)) (fun e => e))
      have HE : Hid (∀ w, (Op.equalIn 10000 44 (.agg x.cells.toArray) (.agg x.cells.toArray)).run Try.prog w = .ok true w) := fun w => eql_sw x w
      have hNE : Nonempty (KS wr) := ⟨⟨wr, Keeps.refl _ wr⟩⟩
      clear c1 c2 ha hb
      go_wp2_with fail
      refine wp_region_ks (by kernel_rfl) (by kernel_rfl) ?_
      (repeat (first | go_big_quiet_skip | (refine wpQuiet_load (by kernel_rfl) 44 _ rfl ⟨ba, k * 9, none⟩ rfl _ HR1.out ?_; clear HR1; (try simp only [Act.put, List.setIfInBounds_toArray, List.set_cons_zero, List.set_cons_succ])) | (refine wpQuiet_load (by kernel_rfl) 44 _ rfl ⟨bb, k * 9, none⟩ rfl _ HR2.out ?_; clear HR2; (try simp only [Act.put, List.setIfInBounds_toArray, List.set_cons_zero, List.set_cons_succ])) | (refine wpQuiet_neq (by kernel_rfl) 44 _ _ _ rfl _ _ rfl rfl true (by kernel_rfl) HE.out ?_; (try simp only [Act.put, List.setIfInBounds_toArray, List.set_cons_zero, List.set_cons_succ])) | (go_big_quiet_step (fail))))
      refine wpQuiet_nil ?_
      rintro _ ⟨u, rfl⟩
      have ku := kr.trans u.property
      generalize u.val = wu at *
      go_wp2
      go_roundw
      case rel => exact ⟨k + 1, by go_num, by omega, ku⟩
      case measure => simp [intOf]; omega
    · have hltI : decide ((k : Int) < (N : Int)) = false := by simp; omega
      clear ha hb
      go_wp2
      go_ret
      exact ⟨rfl, kr⟩
theorem iWoK : (Try.prog.info? 46).map (·.size) = some 4 := by kernel_rfl
theorem run_woAt {W : World} {b o : Nat} {s : Wo} (hc : ∀ j v, s.cells[j]? = some v → W.cell? ⟨b, o + j, none⟩ = some v) : (loadVar 46 ⟨b, o, none⟩).run Try.prog W = .ok (.agg s.cells.toArray) W :=
  run_loadVar_mid W b o 46 s.cells _ (fun j v e => hc j v e) Try.underlying46 rfl (by rw [iWoK]; rfl)
set_option maxHeartbeats 1000000 in
set_option maxRecDepth 100000 in
theorem sameWrites_ok {w : World} {a b : Option Addr} {xs : List Wo} (ca cb : Nat) (ha : WRL w a xs) (hb : WRL w b xs) (hn : xs.length ≤ 4611686018427387904) : Calls Try.prog 27 #[.slice a xs.length ca, .slice b xs.length cb] w fun e w' => e = .returned (.bool true) ∧ Keeps (fun _ => False) w w' := by
  have hnn : ((xs.length : Int) != (xs.length : Int)) = false := by simp
  generalize hN : xs.length = N at *
  go_enter Try.func27, Try.ntmps27
  go_wp2
  go_loopw [5] (fun iv Wr => ∃ k : Nat, iv = .int .i64 (k : Int) ∧ k ≤ N ∧ Keeps (fun _ => False) w Wr) (fun iv _ => N - (intOf iv).toNat)
  case atStart => exact ⟨0, rfl, Nat.zero_le _, Keeps.refl _ w⟩
  case round =>
    obtain ⟨k, rfl, hk, kr⟩ := hrel
    by_cases hlt : k < N
    · have hltI : decide ((k : Int) < (N : Int)) = true := by simp; omega
      have hltJ : (k : Int) < (N : Int) := by omega
      have hk0 : (0 : Int) ≤ (k : Int) := by omega
      have hw1 : IntKind.i64.wrap ((k : Int) + 1) = (k : Int) + 1 := by rw [IntKind.wrap_i64]; omega
      obtain ⟨ba, rfl, c1⟩ := ha k _ (List.getElem?_eq_getElem (by omega))
      obtain ⟨bb, rfl, c2⟩ := hb k _ (List.getElem?_eq_getElem (by omega))
      generalize xs[k]'(by omega) = x at *
      have HR1 : Hid (∀ w', (∃ u : KS wr, w' = u.1) → (loadVar 46 ⟨ba, k * 4, none⟩).run Try.prog w' = .ok (.agg x.cells.toArray) w') := by
        rintro _ ⟨u, rfl⟩
        exact run_woAt (fun j v e => u.property.cell (kr.cell (c1 j v e) (fun e => e)) (fun e => e))
      have HR2 : Hid (∀ w', (∃ u : KS wr, w' = u.1) → (loadVar 46 ⟨bb, k * 4, none⟩).run Try.prog w' = .ok (.agg x.cells.toArray) w') := by
        rintro _ ⟨u, rfl⟩
        exact run_woAt (fun j v e => u.property.cell (kr.cell (c2 j v e) (fun e => e)) (fun e => e))
      have HE : Hid (∀ w, (Op.equalIn 10000 46 (.agg x.cells.toArray) (.agg x.cells.toArray)).run Try.prog w = .ok true w) := fun w => eql_wo x w
      have hNE : Nonempty (KS wr) := ⟨⟨wr, Keeps.refl _ wr⟩⟩
      clear c1 c2 ha hb
      go_wp2_with fail
      refine wp_region_ks (by kernel_rfl) (by kernel_rfl) ?_
      (repeat (first | go_big_quiet_skip | (refine wpQuiet_load (by kernel_rfl) 46 _ rfl ⟨ba, k * 4, none⟩ rfl _ HR1.out ?_; clear HR1; (try simp only [Act.put, List.setIfInBounds_toArray, List.set_cons_zero, List.set_cons_succ])) | (refine wpQuiet_load (by kernel_rfl) 46 _ rfl ⟨bb, k * 4, none⟩ rfl _ HR2.out ?_; clear HR2; (try simp only [Act.put, List.setIfInBounds_toArray, List.set_cons_zero, List.set_cons_succ])) | (refine wpQuiet_neq (by kernel_rfl) 46 _ _ _ rfl _ _ rfl rfl true (by kernel_rfl) HE.out ?_; (try simp only [Act.put, List.setIfInBounds_toArray, List.set_cons_zero, List.set_cons_succ])) | (go_big_quiet_step (fail))))
      refine wpQuiet_nil ?_
      rintro _ ⟨u, rfl⟩
      have ku := kr.trans u.property
      generalize u.val = wu at *
      go_wp2
      go_roundw
      case rel => exact ⟨k + 1, by go_num, by omega, ku⟩
      case measure => simp [intOf]; omega
    · have hltI : decide ((k : Int) < (N : Int)) = false := by simp; omega
      clear ha hb
      go_wp2
      go_ret
      exact ⟨rfl, kr⟩
end Go.Proofs.Ytmnmphkkcabkiaa

namespace Go.Proofs.Ytmnmphkkcabkiaa
open Go.RowKit
set_option maxHeartbeats 1000000 in
set_option maxRecDepth 100000 in
theorem sameTx_ok {w : World} (t : Tv) {a1 a2 b1 b2 : Option Addr} (c1 c2 d1 d2 : Nat) (hs1 : SWL w a1 t.saws) (hs2 : SWL w a2 t.saws) (hw1 : WRL w b1 t.wrs) (hw2 : WRL w b2 t.wrs) (l1 : t.saws.length ≤ 4611686018427387904) (l2 : t.wrs.length ≤ 4611686018427387904) :
    Calls Try.prog 15 #[.agg (t.cells (.slice a1 t.saws.length c1) (.slice b1 t.wrs.length d1)).toArray, .agg (t.cells (.slice a2 t.saws.length c2) (.slice b2 t.wrs.length d2)).toArray] w fun e w' => e = .returned (.bool true) ∧ Keeps (fun _ => False) w w' := by
  obtain ⟨X, hX⟩ : ∃ X, X = (w.alloc (.cells (t.cells (.slice a1 t.saws.length c1) (.slice b1 t.wrs.length d1)).toArray 42)).alloc (.cells (t.cells (.slice a2 t.saws.length c2) (.slice b2 t.wrs.length d2)).toArray 42) := ⟨_, rfl⟩
  have kX : Keeps (fun _ => False) w X := by rw [hX]; exact ((Keeps.refl _ w).alloc _).alloc _
  have hA : CL X w.heap.size (t.cells (.slice a1 t.saws.length c1) (.slice b1 t.wrs.length d1)) := by
    rw [hX]
    exact (CL.made w (t.cells (.slice a1 t.saws.length c1) (.slice b1 t.wrs.length d1)) 42).alloc (by show 0 < 11; decide) _
  have hB : CL X (w.heap.size + 1) (t.cells (.slice a2 t.saws.length c2) (.slice b2 t.wrs.length d2)) := by
    rw [hX]
    have := CL.made (w.alloc (.cells (t.cells (.slice a1 t.saws.length c1) (.slice b1 t.wrs.length d1)).toArray 42)) (t.cells (.slice a2 t.saws.length c2) (.slice b2 t.wrs.length d2)) 42
    simpa using this
  have hss := sameSaws_ok c1 c2 (hs1.keep kX) (hs2.keep kX) l1
  have HWW : Hid (∀ W, Keeps (fun _ => False) X W → Calls Try.prog 27 #[.slice b1 t.wrs.length d1, .slice b2 t.wrs.length d2] W fun e w' => e = .returned (.bool true) ∧ Keeps (fun _ => False) W w') := fun W k => sameWrites_ok d1 d2 ((hw1.keep kX).keep k) ((hw2.keep kX).keep k) l2
  have HX : Hid (_ = _) := hX
  clear hX hs1 hs2 hw1 hw2 l1 l2
  generalize t.saws.length = ns at *
  generalize t.wrs.length = nw at *
  obtain ⟨th, jb, tr, no, st, bg, fn, en, ou, sa, wr⟩ := t
  have p0 := hA.c 0 _ rfl
  have q0 := hB.c 0 _ rfl
  have p1 := hA.c 1 _ rfl
  have q1 := hB.c 1 _ rfl
  have p2 := hA.c 2 _ rfl
  have q2 := hB.c 2 _ rfl
  have p3 := hA.c 3 _ rfl
  have q3 := hB.c 3 _ rfl
  have p4 := hA.c 4 _ rfl
  have q4 := hB.c 4 _ rfl
  have p5 := hA.c 5 _ rfl
  have q5 := hB.c 5 _ rfl
  have p6 := hA.c 6 _ rfl
  have q6 := hB.c 6 _ rfl
  have p7 := hA.c 7 _ rfl
  have q7 := hB.c 7 _ rfl
  have p8 := hA.c 8 _ rfl
  have q8 := hB.c 8 _ rfl
  have p9 := hA.c 9 _ rfl
  have q9 := hB.c 9 _ rfl
  have p10 := hA.c 10 _ rfl
  have q10 := hB.c 10 _ rfl
  dsimp only at p0 p1 p2 p3 p4 p5 p6 p7 p8 p9 p10 q0 q1 q2 q3 q4 q5 q6 q7 q8 q9 q10
  clear hA hB
  go_enter Try.func15, Try.ntmps15
  refine wp_seq_k (fun KK hKK => ?_)
  have hKH : Hid _ := hKK
  clear hKK
  go_wp2_with fail
  refine hKH.out _ _ ?_
  clear hKH KK
  rw [← HX.out]
  clear HX
  have n1 : (th != th) = false := by simp
  have n2 : (jb != jb) = false := by simp
  have n3 : (tr != tr) = false := by simp
  have n4 : (no != no) = false := by simp
  have n5 : (st != st) = false := by simp
  have n6 : (bg != bg) = false := by simp
  have n7 : (fn != fn) = false := by simp
  have n8 : (en != en) = false := by simp
  have n9 : (ou != ou) = false := by simp
  go_wp2_with (first | (go_at_call 26; refine hss.mono ?_; clear hss; rintro e w2 ⟨rfl, k2⟩; have p10 := k2.cell p10 (fun e => e); have q10 := k2.cell q10 (fun e => e)) | (go_at_call 27; refine (HWW.out w2 k2).mono ?_; clear HWW; rintro e w3 ⟨rfl, k3⟩))
  go_ret
  exact ⟨rfl, (kX.trans k2).trans k3⟩
theorem TL.at {base m i : Nat} {W : World} {v : Value} {ts : List Tv} {sv wv : Nat → Value} {ρ : Nat → Nat} (h : TL base W v ts sv wv ρ m) (hi : i < ts.length) : ∃ g cap, v = .slice (some ⟨g, 0, none⟩) ts.length cap ∧ ∀ W', Keeps (fun _ => False) W W' → (loadVar 42 ⟨g, i * 11, none⟩).run Try.prog W' = .ok (.agg ((ts.getD i tv0).cells (sv i) (wv i)).toArray) W' := by
  rcases h.o.2 with ⟨_, h0⟩ | ⟨g, cap, cur, e, _⟩
  · omega
  subst e
  refine ⟨g, cap, rfl, fun W' k => run_tx (fun j u hu => ?_)⟩
  exact k.cell ((own_cl h.o).c _ _ (gcl_get (fun _ _ => rfl) hi j u hu)) (fun e => e)
theorem TL.sl {base m : Nat} {W : World} {v : Value} {ts : List Tv} {sv wv : Nat → Value} {ρ : Nat → Nat} (h : TL base W v ts sv wv ρ m) : ∃ a cap, v = .slice a ts.length cap := by
  obtain ⟨a, cap, e, -⟩ := own_slice h.o
  exact ⟨a, cap, e⟩
theorem TL.sln {base m n : Nat} {W : World} {v : Value} {ts : List Tv} {sv wv : Nat → Value} {ρ : Nat → Nat} (h : TL base W v ts sv wv ρ m) (hn : ts.length = n) : ∃ a cap, v = .slice a n cap := by
  obtain ⟨a, cap, e⟩ := h.sl
  rw [hn] at e
  exact ⟨a, cap, e⟩
theorem TL.same {base base2 m m2 i : Nat} {W : World} {v v2 : Value} {ts : List Tv} {sv wv sv2 wv2 : Nat → Value} {ρ ρ2 : Nat → Nat} (h : TL base W v ts sv wv ρ m) (h2 : TL base2 W v2 ts sv2 wv2 ρ2 m2) (hi : i < ts.length) (hm : m ≤ 4611686018427387904) :
    Calls Try.prog 15 #[.agg ((ts.getD i tv0).cells (sv i) (wv i)).toArray, .agg ((ts.getD i tv0).cells (sv2 i) (wv2 i)).toArray] W fun e w' => e = .returned (.bool true) ∧ Keeps (fun _ => False) W w' := by
  obtain ⟨a1, c1, e1, s1, -⟩ := swl_of (h.s i hi)
  obtain ⟨a2, c2, e2, s2, -⟩ := swl_of (h2.s i hi)
  obtain ⟨b1, d1, e3, r1, -⟩ := wrl_of (h.w i hi)
  obtain ⟨b2, d2, e4, r2, -⟩ := wrl_of (h2.w i hi)
  rw [e1, e2, e3, e4]
  exact sameTx_ok _ c1 c2 d1 d2 s1 s2 r1 r2 (Nat.le_trans (h.ls i hi).1 hm) (Nat.le_trans (h.ls i hi).2 hm)
end Go.Proofs.Ytmnmphkkcabkiaa

namespace Go.Proofs.Ytmnmphkkcabkiaa
open Go.RowKit
attribute [local go_sem] Oper.semAt_some run_store_nf run_store_f
theorem iVl : (Try.prog.info? 27).map (·.size) = some 3 := by kernel_rfl
theorem run_vlAt {W : World} {b o : Nat} {v : V3} (hc : ∀ j u, v.cells[j]? = some u → W.cell? ⟨b, o + j, none⟩ = some u) : (loadVar 27 ⟨b, o, none⟩).run Try.prog W = .ok (.agg v.cells.toArray) W :=
  run_loadVar_mid W b o 27 v.cells _ hc Try.underlying27 rfl (by rw [iVl]; rfl)
theorem one_v3a (v : V3) : v.cells.toArray.all (·.oneCell') = true := all_oneCell_toArray (by simp [V3.cells, Value.oneCell'])
def SD (wb k : Nat) (x : Wo) (W : World) : Prop := ∀ j v, x.cells[j]? = some v → W.cell? ⟨wb, k * 4 + j, none⟩ = some v
end Go.Proofs.Ytmnmphkkcabkiaa

namespace Go.Proofs.Ytmnmphkkcabkiaa
open Go.RowKit Go.Maps Go.ChangeMaps Go.MapKept Go.WideShapes
attribute [local go_sem] Oper.semAt_some run_store_nf run_store_f
set_option maxHeartbeats 1000000 in
set_option maxRecDepth 100000 in
theorem upTo_no {w : World} {a : Option Addr} {cap i : Nat} {s : Int} {l : List Rw} (hl : RSL w a l) (hlen : l.length ≤ 980000000000) (hf : fstP l 0 (f0 6) = some i) : Calls Try.prog 20 #[.slice a l.length cap, .int .i64 s] w fun e w' => e = .returned (.tuple #[.slice none 0 0, .int .i64 150]) ∧ Keeps (fun _ => False) w w' := by
  have hck := check_any (cap := cap) hl (by omega)
  rw [hf] at hck
  unfold ansP at hck
  dsimp only at hck
  clear hl hf
  generalize l.length = N at *
  go_enter Try.func20, Try.ntmps20
  go_wp2_with (go_at_call 23; refine hck.mono ?_; clear hck; rintro e w1 ⟨rfl, k1⟩)
  go_ret2
  exact ⟨rfl, k1⟩
set_option maxHeartbeats 1000000 in
set_option maxRecDepth 100000 in
theorem upTo_ok {w : World} {a : Option Addr} {cap k : Nat} {s : Int} {l : List Rw} (hl : RSL w a l) (hlen : l.length ≤ 980000000000) (hcap : l.length ≤ cap) (hz : a = none → cap = 0) (hf : fstP l 0 (f0 6) = none) (hs : -1 ≤ s ∧ s < (l.length : Int)) (hk : s + 1 = (k : Int)) : Calls Try.prog 20 #[.slice a l.length cap, .int .i64 s] w fun e w' => e = .returned (.tuple #[.slice a k cap, .int .i64 0]) ∧ Keeps (fun _ => False) w w' := by
  have hck := check_any (cap := cap) hl (by omega)
  rw [hf] at hck
  unfold ansP at hck
  dsimp only at hck
  have m1 : decide (s < -1) = false := decide_eq_false (by omega)
  have m2 : decide ((l.length : Int) ≤ s) = false := decide_eq_false (by omega)
  have hkc : k ≤ cap := by omega
  have hw : IntKind.i64.wrap (s + 1) = (k : Int) := by rw [IntKind.wrap_i64]; omega
  have k1 : (0 : Int) ≤ (k : Int) := by omega
  have k2 : (k : Int) ≤ (cap : Int) := by omega
  clear hl hf
  generalize l.length = N at *
  have HK : Hid (s + 1 = (k : Int)) := hk
  clear hk
  cases a with
  | none =>
    have hc0 := hz rfl
    subst hc0
    obtain rfl : k = 0 := by omega
    go_enter Try.func20, Try.ntmps20
    go_wp2_with (go_at_call 23; refine hck.mono ?_; clear hck; rintro e w1 ⟨rfl, k1⟩)
    go_ret2
    exact ⟨rfl, k1⟩
  | some ad =>
    clear hz
    go_enter Try.func20, Try.ntmps20
    go_wp2_with (go_at_call 23; refine hck.mono ?_; clear hck; rintro e w1 ⟨rfl, k1⟩)
    go_ret2
    exact ⟨rfl, k1⟩
set_option maxHeartbeats 1000000 in
set_option maxRecDepth 100000 in
theorem clone_v {w : World} {fa : Option Addr} {n fc : Nat} {F0 : Nat → V3} (hv : VS w fa n F0) (hz : fa = none → fc = 0) (hn : n * 24 ≤ 140737488355328) : Calls Try.prog 21 #[.slice fa n fc] w fun e w' => ∃ v, e = .returned v ∧ w'.ownsRow w.heap.size 27 3 v n (gvl F0 n) ∧ Keeps (fun _ => False) w w' := by
  obtain ⟨v', W', h1, h2, h3⟩ := copy_v fc hv hz hn
  cases fa with
  | none =>
    have h0 : n = 0 := by
      cases n with
      | zero => rfl
      | succ m => obtain ⟨b, off, e, _⟩ := hv 0 (by omega); cases e
    subst h0
    have hc0 := hz rfl
    subst hc0
    have hq : ∀ w : World, (binOp .eql 22 (.slice none 0 0) (.slice none 0 0)).run Try.prog w = .ok (.bool true) w := fun w => by kernel_rfl
    clear h1 h2 h3 hv hz
    go_enter Try.func21, Try.ntmps21
    go_wp2
    go_ret
    exact ⟨_, rfl, World.ownsRow_nil _ _ _ _, Keeps.refl _ _⟩
  | some ad =>
    have hq : ∀ w : World, (binOp .eql 22 (.slice (some ad) n fc) (.slice none 0 0)).run Try.prog w = .ok (.bool false) w := fun w => by kernel_rfl
    clear hv hz
    go_enter Try.func21, Try.ntmps21
    go_wp2_with (at_builtin; refine wpList_append_run rfl _ _ _ rfl _ _ _ W' rfl rfl h1 ?_; clear h1)
    go_ret
    exact ⟨_, rfl, h2, h3⟩
end Go.Proofs.Ytmnmphkkcabkiaa

namespace Go.Proofs.Ytmnmphkkcabkiaa
open Go.RowKit Go.Maps Go.ChangeMaps Go.MapKept Go.WideShapes
attribute [local go_sem] Oper.semAt_some run_store_nf run_store_f
def LA (ws : List Wo) (left : Lit → Bool) (n : Nat) (F0 F : Nat → V3) : Prop := ∀ i, i < n → F i = if left (.int .i64 (i : Int)) then F0 i else (wov ws (i : Int)).getD (F0 i)
theorem same_int (a b : Int) : (Lit.int .i64 a).sameKey (.int .i64 b) = decide (a = b) := by
  by_cases h : a = b
  · subst h
    simp [Lit.sameKey]
  · simp [Lit.sameKey, h]
theorem LA.put {ws : List Wo} {left : Lit → Bool} {n xi : Nat} {F0 F : Nat → V3} {y : Wo} (h : LA ws left n F0 F) (hy : wov ws (xi : Int) = some y.v3) : LA ws (fun z => left z && !z.sameKey (.int .i64 (xi : Int))) n F0 (fun j => if j = xi then y.v3 else F j) := fun i hi => by
  have hh := h i hi
  by_cases e : i = xi
  · subst e
    simp [same_int, hy]
  · simp [same_int, e, show ¬ (i : Int) = (xi : Int) by omega]
    exact hh
theorem LA.skip {ws : List Wo} {left : Lit → Bool} {n xi : Nat} {F0 F : Nat → V3} (h : LA ws left n F0 F) (hx : n ≤ xi) : LA ws (fun z => left z && !z.sameKey (.int .i64 (xi : Int))) n F0 F := fun i hi => by
  have hh := h i hi
  simp [same_int, show ¬ (i : Int) = (xi : Int) by omega]
  exact hh
theorem left_next {ws : List Wo} {left : Lit → Bool} {x : Int} (h : ∀ o, I64 o → left (.int .i64 o) = true → (wof ws o).isSome = true) : ∀ o, I64 o → (fun z : Lit => left z && !z.sameKey (.int .i64 x)) (.int .i64 o) = true → (wof ws o).isSome = true := fun o ho e => by
  simp only [Bool.and_eq_true] at e
  exact h o ho e.1
set_option maxHeartbeats 1000000 in
set_option maxRecDepth 100000 in
theorem lay_any {base b m : Nat} {w : World} {ws : List Wo} {n : Nat} {v : Value} {F0 : Nat → V3} (hM : MV w b m (wof ws)) (hpos : ∀ x ∈ ws, 0 ≤ x.object) (hO : w.ownsRow base 27 3 v n (gvl F0 n)) (hb : ∀ g, v.ownBlock = some g → g ≠ b) (hn : n ≤ 9223372036854775807) : Calls Try.prog 22 #[.map (some b), v] w fun e w' => e = .returned (.tuple #[]) ∧ w'.ownsRow base 27 3 v n (gvl (layF ws F0) n) ∧ Keeps (fun g => v.ownBlock = some g) w w' := by
  obtain ⟨D, h1, h2, h3⟩ := hM
  have hbl := h1.lt
  have HD3 : Hid (∀ k, I64 k → Maps.has D (.int .i64 k) = (wof ws k).isSome ∧ ∀ u, wof ws k = some u → ∀ z, D.atKey (.int .i64 k) z = .held u) := h3
  clear h3
  obtain ⟨ao, co, rfl, -⟩ := own_slice hO
  have hgl : ∀ g, (Value.slice ao n co).ownBlock = some g → g < w.heap.size := fun g e => owns_lt' hO g e
  have HPO : Hid (∀ x ∈ ws, 0 ≤ x.object) := hpos
  clear hpos
  go_enter Try.func22, Try.ntmps22
  go_wp2_with (refine wpList_range_own w rfl _ 64 rfl 3 27 keyed underW Rh b m D rfl h1 ?_; intro w1 hr1 hg1 hz1)
  (try simp only [List.getElem_toArray]); (try simp only [List.getElem_cons_succ]); (try simp only [List.getElem_cons_zero]); (try simp only [Act.put]); (try simp only [List.setIfInBounds_toArray]); (repeat first | simp only [List.set_cons_succ] | simp only [List.set_cons_zero])
  have k1 : Keeps (fun _ => False) w w1 := (Keeps.refl _ w).grown hg1 (fun _ _ e => by cases e)
  rw [h2] at hr1
  have hO1 := k1.owns hO (fun _ _ e => e)
  go_loopw [] (fun Wr => ∃ (left : Lit → Bool) (cnt : Nat) (F : Nat → V3), Wr.ranges Try.prog 3 Rh b w.heap.size m D left cnt ∧ Wr.ownsRow base 27 3 (.slice ao n co) n (gvl F n) ∧ LA ws left n F0 F ∧ (∀ o, I64 o → left (.int .i64 o) = true → (wof ws o).isSome = true) ∧ Keeps (fun g => (Value.slice ao n co).ownBlock = some g) w Wr) (fun Wr => Wr.rangeLeft b w.heap.size)
  case atStart =>
    refine ⟨_, _, F0, hr1, hO1, fun i hi => ?_, fun o ho h => ?_, k1.mono (fun _ _ e => e.elim)⟩
    · have h := (HD3.out (i : Int) ⟨by omega, by omega⟩).1
      by_cases hh : Maps.has D (.int .i64 (i : Int)) = true
      · rw [if_pos hh]
      · rw [if_neg hh]
        have hh : Maps.has D (.int .i64 (i : Int)) = false := by simpa using hh
        rw [hh, wov_some] at h
        cases e : wov ws (i : Int) with
        | none => rfl
        | some u => rw [e] at h; cases h
    · rw [← (HD3.out o ho).1]
      exact h
  case round =>
    obtain ⟨left, cnt, F, hrg, hown, hL, hLs, kr⟩ := hrel
    clear hr1 k1 hg1 hz1 hO1 hO
    have hle := hrg.left_eq
    have hrl := hrg.lt
    by_cases hc : cnt = 0
    · go_wp2_with (refine wpList_next_ranges wr rfl _ rfl 3 keyed Rh (Value.int .i64) id (fun key kl hk => by obtain ⟨x, rfl, _⟩ := Maps.keyOf_int_inv underI hk; exact ⟨x, rfl⟩) (fun v y _ => ⟨v, rfl⟩) b w.heap.size m D left cnt rfl hrg (fun _ hl => ?_) (fun _ _ _ _ _ _ _ _ _ _ _ hlt => absurd hlt (by omega)))
      have e : gvl F n = gvl (layF ws F0) n := gvl_congr (fun i hi => by rw [hL i hi, hl]; rfl)
      rw [e] at hown
      go_end0
      exact ⟨rfl, hown, kr⟩
    · have hne : ¬ b = w.heap.size := by omega
      have HL : Hid (LA ws left n F0 F) := hL
      have HLS : Hid (∀ o, I64 o → left (.int .i64 o) = true → (wof ws o).isSome = true) := hLs
      have HY : Hid (∀ x, I64 x → left (.int .i64 x) = true → ∀ cv, (∀ zd, D.atKey (.int .i64 x) zd = .held cv) → ∃ y : Wo, y.object = x ∧ cv = y.val ∧ wof ws x = some y.val ∧ 0 ≤ x) := fun x hx hl cv hcv => by
        have hs := hLs x hx hl
        obtain ⟨u, hu⟩ := Option.isSome_iff_exists.1 hs
        obtain ⟨y, hy, e1, e2⟩ := wof_mem hu
        have e3 := (HD3.out x hx).2 u hu (.held (.int .i64 0))
        rw [hcv] at e3
        exact ⟨y, e1, by rw [DataW.held.inj e3, e2], by rw [hu, e2], by rw [← e1]; exact HPO.out y hy⟩
      clear hL hLs
      by_cases hn0 : n = 0
      · subst hn0
        go_wp2_with (first | (refine wpList_next_ranges wr rfl _ rfl 3 keyed Rh (Value.int .i64) id (fun key kl hk => by obtain ⟨x, rfl, _⟩ := Maps.keyOf_int_inv underI hk; exact ⟨x, rfl⟩) (fun v y _ => ⟨v, rfl⟩) b w.heap.size m D left cnt rfl hrg (fun h0 => absurd h0 hc) ?_; intro x cv kl yy w2 cnt2 hkey hlk hy hat hrg2 hlt2 hgr2 hsz2 hen2; clear hsz2; obtain ⟨x', ex, ek, hwx⟩ := Maps.keyOf_int_inv underI hkey; injection ex with _ ex; subst ex; subst ek; have hat' : ∀ zd, D.atKey (.int .i64 x) zd = .held cv := fun zd => (hat zd).trans (congrArg Prod.fst (Option.some.inj hy)).symm; obtain ⟨y, ey, rfl, hyv, hx0⟩ := HY.out x (i64_wf hwx) hlk cv hat'; have k2 : Keeps (fun i => i = w.heap.size) wr w2 := (Keeps.refl _ wr).grown hgr2 (fun _ _ e => by cases e; rfl); unfold Wo.val at hen2; dsimp only [id] at hen2; obtain ⟨xi, exi⟩ : ∃ xi : Nat, x = (xi : Int) := ⟨x.toNat, by omega⟩; subst exi; have hyw := wov_at hyv; clear hyv ey hat hat' hy hkey hwx HY; have k4 : Keeps (fun _ => False) w2 (w2.alloc (.cells #[.int .i64 y.vN, .int .i64 y.vX, .bool y.vD] 27)) := (Keeps.refl _ w2).alloc _; have hown4 := k4.owns (k2.owns hown (fun g e1 e2 => by have := hgl g e1; have e2 : g = w.heap.size := e2; omega)) (fun _ _ e => e); have hrg4 := ranges_keep hrg2 k4 (fun e => e) (fun e => e); have K4 : Keeps (fun g => (Value.slice ao 0 co).ownBlock = some g) w (w2.alloc (.cells #[.int .i64 y.vN, .int .i64 y.vX, .bool y.vD] 27)) := (kr.trans' k2 (fun _ _ e => e) (fun i hi e => by have e : i = w.heap.size := e; omega)).trans' k4 (fun _ _ e => e) (fun _ _ e => e.elim); have hx9 : decide ((xi : Int) < (0 : Int)) = false := decide_eq_false (by omega)))
        refine ⟨⟨_, _, F, hrg4, hown4, HL.out.skip (Nat.zero_le _), left_next HLS.out, K4⟩, ?_⟩
        rw [hrg4.left_eq, hle]
        exact hlt2
      · obtain ⟨go, rfl⟩ : ∃ go, ao = some ⟨go, 0, none⟩ := by
          rcases hown.2 with ⟨_, h0⟩ | ⟨g', _, _, e, _⟩
          · omega
          · injection e with e _ _
            exact ⟨g', e⟩
        have hgo := hgl go rfl
        have hgb := hb go rfl
        go_wp2_with (first | (refine wpList_next_ranges wr rfl _ rfl 3 keyed Rh (Value.int .i64) id (fun key kl hk => by obtain ⟨x, rfl, _⟩ := Maps.keyOf_int_inv underI hk; exact ⟨x, rfl⟩) (fun v y _ => ⟨v, rfl⟩) b w.heap.size m D left cnt rfl hrg (fun h0 => absurd h0 hc) ?_; intro x cv kl yy w2 cnt2 hkey hlk hy hat hrg2 hlt2 hgr2 hsz2 hen2; clear hsz2; obtain ⟨x', ex, ek, hwx⟩ := Maps.keyOf_int_inv underI hkey; injection ex with _ ex; subst ex; subst ek; have hat' : ∀ zd, D.atKey (.int .i64 x) zd = .held cv := fun zd => (hat zd).trans (congrArg Prod.fst (Option.some.inj hy)).symm; obtain ⟨y, ey, rfl, hyv, hx0⟩ := HY.out x (i64_wf hwx) hlk cv hat'; have k2 : Keeps (fun i => i = w.heap.size) wr w2 := (Keeps.refl _ wr).grown hgr2 (fun _ _ e => by cases e; rfl); unfold Wo.val at hen2; dsimp only [id] at hen2; obtain ⟨xi, exi⟩ : ∃ xi : Nat, x = (xi : Int) := ⟨x.toNat, by omega⟩; subst exi; have hyw := wov_at hyv; clear hyv ey hat hat' hy hkey hwx HY; have k4 : Keeps (fun _ => False) w2 (w2.alloc (.cells #[.int .i64 y.vN, .int .i64 y.vX, .bool y.vD] 27)) := (Keeps.refl _ w2).alloc _; have hown4 := k4.owns (k2.owns hown (fun g e1 e2 => by have := hgl g e1; have e2 : g = w.heap.size := e2; omega)) (fun _ _ e => e); have hrg4 := ranges_keep hrg2 k4 (fun e => e) (fun e => e); have K4 : Keeps (fun g => (Value.slice (some ⟨go, 0, none⟩) n co).ownBlock = some g) w (w2.alloc (.cells #[.int .i64 y.vN, .int .i64 y.vX, .bool y.vD] 27)) := (kr.trans' k2 (fun _ _ e => e) (fun i hi e => by have e : i = w.heap.size := e; omega)).trans' k4 (fun _ _ e => e) (fun _ _ e => e.elim); have HTH : Hid (xi < n → (w2.alloc (.cells #[.int .i64 y.vN, .int .i64 y.vX, .bool y.vD] 27)).there go (xi * 3) 3) := fun h => (own_cl hown4).there (by rw [gvl_len]; omega); have HK9 : Hid (Keeps (fun g => g = go) (w2.alloc (.cells #[.int .i64 y.vN, .int .i64 y.vX, .bool y.vD] 27)) ((w2.alloc (.cells #[.int .i64 y.vN, .int .i64 y.vX, .bool y.vD] 27)).setCells go (xi * 3) y.v3.cells)) := (Keeps.refl _ _).setsA _ _) | (refine wpList_store_mid rfl 27 _ _ rfl go (xi * 3) #[.int .i64 y.vN, .int .i64 y.vX, .bool y.vD] rfl rfl (HTH.out (by omega)) (by rw [iVl]; rfl) (one_val y) ?_))
        · have hlt9 : xi < n := by omega
          have hO9 := owns_sets y.v3.cells (xi * 3) hown4 (by rw [gvl_len]; show xi * 3 + 3 ≤ _; omega)
          rw [gvl_sets hlt9] at hO9
          have k9 := HK9.out
          have hrg9 := ranges_keep hrg4 k9 (fun e => by have e : b = go := e; omega) (fun e => by have e : w.heap.size = go := e; omega)
          have K9 := K4.trans' k9 (U := fun g => (Value.slice (some ⟨go, 0, none⟩) n co).ownBlock = some g) (fun _ _ e => e) (fun g _ e => by have e : g = go := e; rw [e]; rfl)
          refine ⟨⟨_, ⟨_, hrg9⟩, _, hO9, HL.out.put hyw, left_next HLS.out, K9⟩, ?_⟩
          have h9 := hrg9.left_eq
          (try rw [hle])
          exact Nat.lt_of_le_of_lt (Nat.le_of_eq h9) hlt2
        · refine ⟨⟨_, _, F, hrg4, hown4, HL.out.skip (by omega), left_next HLS.out, K4⟩, ?_⟩
          rw [hrg4.left_eq, hle]
          exact hlt2
end Go.Proofs.Ytmnmphkkcabkiaa

