import Derived.Test.YtdpnknleobobkaaGreatDoorXgA
import Derived.Deep.Slices
import Derived.ChangeArms
import Derived.ChangeSlices
import Derived.DataReads
import Derived.OpenShut
import Derived.Test.YtdpnknleobobkaaGreatDoorXfF
import Derived.Test.YtdpnknleobobkaaGreatDoorXgD
namespace Go.Proofs.YtdpnknleobobkaaGreatDoor
open Go.RowKit Go.Deep Go.ChangeShapes Go.WideShapes Go.ChangeAt
attribute [local go_sem] Oper.semAt_some run_store_nf run_store_f
section
variable {H : Type} {enc : TypeId × Value → H} {W : World}
theorem wt_mem {P : Program} {e : TypeId} : ∀ {l : List (DataW H)} {d : DataW H} {q : Nat}, d ∈ l → q ∈ DataW.weights P e d → q ∈ DataW.weightsAll P e l
  | [], _, _, h, _ => by cases h
  | a :: r, d, q, h, k => by
    rw [DataW.weightsAll]
    rcases List.mem_cons.1 h with rfl | h
    · exact List.mem_append_left _ k
    · exact List.mem_append_right _ (wt_mem h k)
/-- A list that was handed in, place by place. -/
theorem slice_at {P : Program} {t e : TypeId} {fuel sz by_ : Nat} {cs : List Value} {x : DataW H × List MemPlace} (ht : P.underlying t = some (.slice e)) (ce : P.cellsOf e = sz) (hby : P.bytesOf e = by_) (hsz : 0 < sz) (h : DataW.trod enc P W 0 (fun _ => true) true fuel t cs = some x) (hw : ∀ q ∈ DataW.weights P t x.1, q ≤ reachBytes) :
    ∃ p len c, cs = [.slice p len c] ∧ (len = 0 ∨ (len * by_ ≤ reachBytes ∧ ∃ b o m, fuel = m + 1 ∧ p = some ⟨b, o, none⟩ ∧ ∀ i, i < len → ∃ cs y, DataW.trod enc P W 0 (fun _ => true) true m e cs = some y ∧ (∀ q ∈ DataW.weights P e y.1, q ≤ reachBytes) ∧ cs.length = sz ∧ ∀ j v, cs[j]? = some v → W.cell? ⟨b, o + i * sz + j, none⟩ = some v)) := by
  rcases DataW.trod_slice ht h with ⟨rfl, -⟩ | ⟨a, len, cap, elems, rest, m, rfl, rfl, rfl, hb, hl, hm, hel, hx, -, -⟩
  · exact ⟨none, 0, 0, rfl, .inl rfl⟩
  refine ⟨some a, len, cap, rfl, ?_⟩
  by_cases h0 : len = 0
  · exact .inl h0
  right
  rw [show DataW.weights P t (.slice (elems.map (·.1)) (rest.map (·.1))) = ((elems.map (·.1)).length + (rest.map (·.1)).length) * P.bytesOf e :: (DataW.weightsAll P e (elems.map (·.1)) ++ DataW.weightsAll P e (rest.map (·.1))) from by rw [DataW.weights]; simp only [ht]] at hw
  refine ⟨?_, ?_⟩
  · have h1 := hw _ (List.mem_cons_self ..)
    rw [hby, List.length_map, List.length_map, hel] at h1
    exact Nat.le_trans (Nat.mul_le_mul_right _ (by omega)) h1
  obtain ⟨b, off, spot⟩ := a
  have each : ∀ i, i < len → ∃ cs y, W.cells? 0 ((⟨b, off, spot⟩ : Addr).add (i * sz)) sz = some cs ∧ DataW.trod enc P W 0 (fun _ => true) true m e cs = some y ∧ y ∈ elems := fun i hi => by
    have h1 := hx i hi
    rw [ce, List.getElem?_eq_getElem (by omega : i < elems.length), Option.bind_eq_some_iff] at h1
    obtain ⟨cs, h2, h3⟩ := h1
    exact ⟨cs, _, h2, h3, List.getElem_mem _⟩
  have hspot : spot = none := by
    obtain ⟨cs, y, h2, -, -⟩ := each 0 (by omega)
    obtain ⟨_, hlen, hcell⟩ := World.cells?_some h2
    have e0 := hcell 0 hsz
    rw [List.getElem?_eq_getElem (by omega)] at e0
    simpa [Addr.add] using World.cell?_spot e0
  subst hspot
  refine ⟨b, off, m, rfl, rfl, fun i hi => ?_⟩
  obtain ⟨cs, y, h2, h3, h4⟩ := each i hi
  obtain ⟨_, hlen, hcell⟩ := World.cells?_some h2
  refine ⟨cs, y, h3, fun q hq => hw q (List.mem_cons_of_mem _ (List.mem_append_left _ (wt_mem (List.mem_map_of_mem h4) hq))), hlen, fun j v hv => ?_⟩
  have hj : j < sz := by rw [← hlen]; exact (List.getElem?_eq_some_iff.1 hv).1
  have := hcell j hj
  rw [add_atT, add_atT] at this
  rw [this]
  exact hv
theorem cI : Tryz.prog.cellsOf 3 = 1 := by kernel_rfl
theorem cL : Tryz.prog.cellsOf 2 = 1 := by kernel_rfl
theorem cW : Tryz.prog.cellsOf 9 = 1 := by kernel_rfl
theorem cRE : Tryz.prog.cellsOf 40 = 4 := by kernel_rfl
theorem cRS : Tryz.prog.cellsOf 42 = 12 := by kernel_rfl
theorem cRl : Tryz.prog.cellsOf 38 = 1 := by kernel_rfl
theorem cRm : Tryz.prog.cellsOf 33 = 1 := by kernel_rfl
theorem yRE : Tryz.prog.bytesOf 40 = 56 := by kernel_rfl
theorem yRS : Tryz.prog.bytesOf 42 = 184 := by kernel_rfl
theorem wRE (a b c d : DataW H) : DataW.weights Tryz.prog 40 (.agg [a, b, c, d]) = DataW.weights Tryz.prog 3 a ++ (DataW.weights Tryz.prog 2 b ++ (DataW.weights Tryz.prog 9 c ++ (DataW.weights Tryz.prog 38 d ++ []))) := by
  rw [DataW.weights]
  simp only [Tryz.underlying40]
  simp only [List.map_cons, List.map_nil, DataW.weightsEach]
theorem wRS (a b c d e f : DataW H) : DataW.weights Tryz.prog 42 (.agg [a, b, c, d, e, f]) = DataW.weights Tryz.prog 3 a ++ (DataW.weights Tryz.prog 9 b ++ (DataW.weights Tryz.prog 40 c ++ (DataW.weights Tryz.prog 40 d ++ (DataW.weights Tryz.prog 33 e ++ (DataW.weights Tryz.prog 33 f ++ []))))) := by
  rw [DataW.weights]
  simp only [Tryz.underlying42]
  simp only [List.map_cons, List.map_nil, DataW.weightsEach]
set_option maxRecDepth 100000 in
/-- An expression that was handed in. -/
theorem open_ex : ∀ (F fuel : Nat) (cs : List Value) (x : DataW H × List MemPlace), fuel ≤ F → DataW.trod enc Tryz.prog W 0 (fun _ => true) true fuel 40 cs = some x → (∀ q ∈ DataW.weights Tryz.prog 40 x.1, q ≤ reachBytes) → ∃ t, IE W t cs ∧ FtE t
  | 0, fuel, cs, x, hF, h, hw => by
    obtain ⟨_, k, rfl, _⟩ := DataW.trod_struct Tryz.underlying40 h
    omega
  | F + 1, fuel, cs, x, hF, h, hw => by
    obtain ⟨xs, k, rfl, rfl, hlen, hxl, hf⟩ := DataW.trod_struct Tryz.underlying40 h
    rw [cRE] at hlen
    match xs, hxl, cs, hlen with
    | [z0, z1, z2, z3], _, [v0, v1, v2, v3], _ =>
      have h0 : DataW.trod enc Tryz.prog W 0 (fun _ => true) true k 3 (([v0, v1, v2, v3].drop 0).take (Tryz.prog.cellsOf 3)) = some z0 := hf 0 _ rfl
      have h1 : DataW.trod enc Tryz.prog W 0 (fun _ => true) true k 2 (([v0, v1, v2, v3].drop 1).take (Tryz.prog.cellsOf 2)) = some z1 := hf 1 _ rfl
      have h2 : DataW.trod enc Tryz.prog W 0 (fun _ => true) true k 9 (([v0, v1, v2, v3].drop 2).take (Tryz.prog.cellsOf 9)) = some z2 := hf 2 _ rfl
      have h3 : DataW.trod enc Tryz.prog W 0 (fun _ => true) true k 38 (([v0, v1, v2, v3].drop 3).take (Tryz.prog.cellsOf 38)) = some z3 := hf 3 _ rfl
      rw [cI] at h0
      rw [cL] at h1
      rw [cW] at h2
      rw [cRl] at h3
      obtain ⟨n0, e0, -, w0⟩ := DataW.trod_int Tryz.underlying3 h0
      obtain ⟨n1, e1, -, w1⟩ := DataW.trod_int Tryz.underlying2 h1
      obtain ⟨s, e2, rfl, -⟩ := DataW.trod_string Tryz.underlying9 h2
      have w2 : s.data.toList.length ≤ reachBytes := hw _ (by
        show _ ∈ DataW.weights Tryz.prog 40 (.agg [z0.1, z1.1, .lit (.string s.data.toList), z3.1])
        rw [wRE]
        exact List.mem_append_right _ (List.mem_append_right _ (List.mem_append_left _ (by rw [DataW.weights]; exact List.mem_cons_self ..))))
      have hw3 : ∀ q ∈ DataW.weights Tryz.prog 38 z3.1, q ≤ reachBytes := fun q hq => hw q (by
        show q ∈ DataW.weights Tryz.prog 40 (.agg [z0.1, z1.1, .lit (.string s.data.toList), z3.1])
        rw [wRE]
        exact List.mem_append_right _ (List.mem_append_right _ (List.mem_append_right _ (List.mem_append_left _ hq))))
      obtain ⟨p, len, c, e3, hs⟩ := slice_at Tryz.underlying38 cRE yRE (by decide) h3 hw3
      simp at e0 e1 e2 e3
      subst e0 e1 e2 e3
      have hg : ∃ ts xs, ts.length = len ∧ len * 56 ≤ 140737488355327 ∧ IL W ts xs ∧ FtL ts ∧ Rd W p xs := by
        rcases hs with rfl | ⟨hby, b, o, m, hk, rfl, hi⟩
        · exact ⟨[], [], rfl, by decide, by unfold IL; rfl, by unfold FtL; trivial, fun j u e => by cases e⟩
        · obtain ⟨ts, xs, g1, -, g3, g4, g5⟩ := il_gather (w := W) (b := b) (o := o) len (fun i hl => by
            obtain ⟨cs, y, q1, q2, q3, q4⟩ := hi i hl
            obtain ⟨t, r1, r2⟩ := open_ex F m cs y (by omega) q1 q2
            exact ⟨t, cs, r1, r2, q4⟩)
          exact ⟨ts, xs, g1, Nat.le_trans hby (by decide), g3, g4, g5⟩
      obtain ⟨ts, xs, rfl, g2, g3, g4, g5⟩ := hg
      refine ⟨.mk n0 n1 s.data.toList ts, ?_, ?_⟩
      · unfold IE
        exact ⟨i64_of_wf w0, i64_of_wf w1, Nat.le_trans w2 (by decide), p, c, xs, rfl, g5, g3⟩
      · unfold FtE
        exact ⟨g2, g4⟩
set_option maxRecDepth 100000 in
/-- A statement, and a list of them. -/
theorem open_st : ∀ (F fuel : Nat) (cs : List Value) (x : DataW H × List MemPlace), fuel ≤ F → DataW.trod enc Tryz.prog W 0 (fun _ => true) true fuel 42 cs = some x → (∀ q ∈ DataW.weights Tryz.prog 42 x.1, q ≤ reachBytes) → ∃ t, IS W t cs ∧ FtS t
  | 0, fuel, cs, x, hF, h, hw => by
    obtain ⟨_, k, rfl, _⟩ := DataW.trod_struct Tryz.underlying42 h
    omega
  | F + 1, fuel, cs, x, hF, h, hw => by
    obtain ⟨xs, k, rfl, rfl, hlen, hxl, hf⟩ := DataW.trod_struct Tryz.underlying42 h
    rw [cRS] at hlen
    match xs, hxl, cs, hlen with
    | [z0, z1, z2, z3, z4, z5], _, [v0, v1, v2, v3, v4, v5, v6, v7, v8, v9, v10, v11], _ =>
      have h0 : DataW.trod enc Tryz.prog W 0 (fun _ => true) true k 3 (([v0, v1, v2, v3, v4, v5, v6, v7, v8, v9, v10, v11].drop 0).take (Tryz.prog.cellsOf 3)) = some z0 := hf 0 _ rfl
      have h1 : DataW.trod enc Tryz.prog W 0 (fun _ => true) true k 9 (([v0, v1, v2, v3, v4, v5, v6, v7, v8, v9, v10, v11].drop 1).take (Tryz.prog.cellsOf 9)) = some z1 := hf 1 _ rfl
      have h2 : DataW.trod enc Tryz.prog W 0 (fun _ => true) true k 40 (([v0, v1, v2, v3, v4, v5, v6, v7, v8, v9, v10, v11].drop 2).take (Tryz.prog.cellsOf 40)) = some z2 := hf 2 _ rfl
      have h3 : DataW.trod enc Tryz.prog W 0 (fun _ => true) true k 40 (([v0, v1, v2, v3, v4, v5, v6, v7, v8, v9, v10, v11].drop 6).take (Tryz.prog.cellsOf 40)) = some z3 := hf 3 _ rfl
      have h4 : DataW.trod enc Tryz.prog W 0 (fun _ => true) true k 33 (([v0, v1, v2, v3, v4, v5, v6, v7, v8, v9, v10, v11].drop 10).take (Tryz.prog.cellsOf 33)) = some z4 := hf 4 _ rfl
      have h5 : DataW.trod enc Tryz.prog W 0 (fun _ => true) true k 33 (([v0, v1, v2, v3, v4, v5, v6, v7, v8, v9, v10, v11].drop 11).take (Tryz.prog.cellsOf 33)) = some z5 := hf 5 _ rfl
      rw [cI] at h0
      rw [cW] at h1
      rw [cRE] at h2 h3
      rw [cRm] at h4 h5
      obtain ⟨n0, e0, -, w0⟩ := DataW.trod_int Tryz.underlying3 h0
      obtain ⟨s, e1, rfl, -⟩ := DataW.trod_string Tryz.underlying9 h1
      have w1 : s.data.toList.length ≤ reachBytes := hw _ (by
        show _ ∈ DataW.weights Tryz.prog 42 (.agg [z0.1, .lit (.string s.data.toList), z2.1, z3.1, z4.1, z5.1])
        rw [wRS]
        exact List.mem_append_right _ (List.mem_append_left _ (by rw [DataW.weights]; exact List.mem_cons_self ..)))
      have mem : ∀ q, (q ∈ DataW.weights Tryz.prog 40 z2.1 ∨ q ∈ DataW.weights Tryz.prog 40 z3.1 ∨ q ∈ DataW.weights Tryz.prog 33 z4.1 ∨ q ∈ DataW.weights Tryz.prog 33 z5.1) → q ≤ reachBytes := fun q hq => hw q (by
        show q ∈ DataW.weights Tryz.prog 42 (.agg [z0.1, .lit (.string s.data.toList), z2.1, z3.1, z4.1, z5.1])
        rw [wRS]
        simp only [List.mem_append]
        rcases hq with q | q | q | q
        · exact .inr (.inr (.inl q))
        · exact .inr (.inr (.inr (.inl q)))
        · exact .inr (.inr (.inr (.inr (.inl q))))
        · exact .inr (.inr (.inr (.inr (.inr (.inl q))))))
      obtain ⟨a, a1, a2⟩ := open_ex k k _ _ (Nat.le_refl _) h2 (fun q hq => mem q (.inl hq))
      obtain ⟨b, b1, b2⟩ := open_ex k k _ _ (Nat.le_refl _) h3 (fun q hq => mem q (.inr (.inl hq)))
      obtain ⟨p, len, c, e4, hs⟩ := slice_at Tryz.underlying33 cRS yRS (by decide) h4 (fun q hq => mem q (.inr (.inr (.inl hq))))
      obtain ⟨p', len', c', e5, hs'⟩ := slice_at Tryz.underlying33 cRS yRS (by decide) h5 (fun q hq => mem q (.inr (.inr (.inr hq))))
      simp at e0 e1 e4 e5
      subst e0 e1 e4 e5
      have gather : ∀ (p : Option Addr) (len : Nat), (len = 0 ∨ (len * 184 ≤ reachBytes ∧ ∃ b o m, k = m + 1 ∧ p = some ⟨b, o, none⟩ ∧ ∀ i, i < len → ∃ cs y, DataW.trod enc Tryz.prog W 0 (fun _ => true) true m 42 cs = some y ∧ (∀ q ∈ DataW.weights Tryz.prog 42 y.1, q ≤ reachBytes) ∧ cs.length = 12 ∧ ∀ j v, cs[j]? = some v → W.cell? ⟨b, o + i * 12 + j, none⟩ = some v)) → ∃ ts xs, ts.length = len ∧ len * 184 ≤ 140737488355327 ∧ ISL W ts xs ∧ FtSL ts ∧ Rd W p xs := fun p len hs => by
        rcases hs with rfl | ⟨hby, b, o, m, hk, rfl, hi⟩
        · exact ⟨[], [], rfl, by decide, by unfold ISL; rfl, by unfold FtSL; trivial, fun j u e => by cases e⟩
        · obtain ⟨ts, xs, g1, -, g3, g4, g5⟩ := isl_gather (w := W) (b := b) (o := o) len (fun i hl => by
            obtain ⟨cs, y, q1, q2, q3, q4⟩ := hi i hl
            obtain ⟨t, r1, r2⟩ := open_st F m cs y (by omega) q1 q2
            exact ⟨t, cs, r1, r2, q4⟩)
          exact ⟨ts, xs, g1, Nat.le_trans hby (by decide), g3, g4, g5⟩
      obtain ⟨ts, xs, rfl, g2, g3, g4, g5⟩ := gather p len hs
      obtain ⟨us, ys, rfl, k2, k3, k4, k5⟩ := gather p' len' hs'
      refine ⟨.mk n0 s.data.toList a b ts us, ?_, ?_⟩
      · unfold IS
        exact ⟨i64_of_wf w0, Nat.le_trans w1 (by decide), _, _, p, c, p', c', xs, ys, rfl, a1, b1, g5, g3, k5, k3⟩
      · unfold FtS
        exact ⟨a2, b2, g2, g4, k2, k4⟩
/-- The document's list of statements, handed in. -/
theorem open_prog {fuel : Nat} {cs : List Value} {x : DataW H × List MemPlace} (h : DataW.trod enc Tryz.prog W 0 (fun _ => true) true fuel 33 cs = some x) (hw : ∀ q ∈ DataW.weights Tryz.prog 33 x.1, q ≤ reachBytes) :
    ∃ l p c xs, cs = [.slice p l.length c] ∧ l.length * 184 ≤ 140737488355327 ∧ ISL W l xs ∧ FtSL l ∧ Rd W p xs := by
  obtain ⟨p, len, c, rfl, hs⟩ := slice_at Tryz.underlying33 cRS yRS (by decide) h hw
  rcases hs with rfl | ⟨hby, b, o, m, hk, rfl, hi⟩
  · exact ⟨[], p, c, [], rfl, by decide, by unfold ISL; rfl, by unfold FtSL; trivial, fun j u e => by cases e⟩
  · obtain ⟨ts, xs, rfl, -, g3, g4, g5⟩ := isl_gather (w := W) (b := b) (o := o) len (fun i hl => by
      obtain ⟨cs, y, q1, q2, q3, q4⟩ := hi i hl
      obtain ⟨t, r1, r2⟩ := open_st m m cs y (Nat.le_refl _) q1 q2
      exact ⟨t, cs, r1, r2, q4⟩)
    exact ⟨ts, _, c, xs, rfl, Nat.le_trans hby (by decide), g3, g4, g5⟩
end
theorem chkM_wr {l : List St} (h : chkM l = 0) : wrSL l = false ∧ (mzSL l).2 ≤ 512 := by
  unfold chkM at h
  split at h
  · cases h
  · rename_i h1
    split at h
    · cases h
    · split at h
      · cases h
      · split at h
        · cases h
        · exact ⟨by simpa using h1, by omega⟩
theorem chkM_zero {l : List St} (h : chkM l = 0) (hw : WfL l) : chk l = 0 ∧ bgSL l ≤ 1536 := by
  have h2 := (chkM_wr h).2
  rw [mzSL_snd] at h2
  have := (bg_all (bgSL l)).2 l (Nat.le_refl _) hw h2
  have hb : bgSL l ≤ 1536 := by omega
  exact ⟨by rw [← chkM_eq (by omega)]; exact h, hb⟩
set_option maxHeartbeats 1000000 in
set_option maxRecDepth 100000 in
theorem print_no {w : World} {l : List St} {p : Option Addr} {c : Nat} (hG : PG w) (h : PtL w w.heap.size p c l) (hF : FtSL l) (hN : l.length * 184 ≤ 140737488355327) (hc : chkM l ≠ 0) : Calls Tryz.prog 8 #[.slice p l.length c] w fun e w' => e = .returned (.tuple #[.string { data := #[] }, .int .i64 (chkM l)]) ∧ Keeps (fun _ => False) w w' := by
  obtain ⟨xs, h1, h2⟩ := h
  have hC := check_M hG.g hG.h h1 h2 hF hN
  obtain ⟨n, hn⟩ : ∃ n, n = l.length := ⟨_, rfl⟩
  rw [← hn] at hC ⊢
  obtain ⟨C, hC0⟩ : ∃ C, C = chkM l := ⟨_, rfl⟩
  rw [← hC0] at hC hc ⊢
  have e0 : (C != 0) = true := bne_iff_ne.2 hc
  clear hn h1 h2 hG hF hN hC0 hc
  go_enter Tryz.func8, Tryz.ntmps8
  go_wp2_with (go_at_call 7; refine hC.mono ?_; clear hC; rintro e w1 ⟨rfl, k1⟩)
  go_ret2
  exact ⟨rfl, k1⟩
set_option maxHeartbeats 1500000 in
set_option maxRecDepth 100000 in
theorem round_law {w : World} (hG : PG w) {l : List St} {p : Option Addr} {c : Nat} {xs : List Value} (hR : Rd w p xs) (hI : ISL w l xs) (hF : FtSL l) (hN : l.length * 184 ≤ 140737488355327) : Calls Tryz.prog 4 #[.slice p l.length c] w fun e w' => e = .returned (.bool true) ∧ Below w.heap.size w w' := by
  have hFx := fixed_ok hG.g hG.h
  have hPg := fun W (k : Keeps (fun _ => False) w W) => pg_all (bgSL l + 1) l (by omega) hF hN W p c xs (hR.keep k) (hI.keep k)
  have hCk := fun W (k : Keeps (fun _ => False) w W) (p : Option Addr) (c : Nat) (xs : List Value) (ho : OwnP W (fun g => g < W.heap.size) 56 12 (.slice p l.length c) l.length xs) (hx : SL W (fun g => g < W.heap.size) 54 56 l xs) => check_M (w := W) (hG.keep k).g (hG.keep k).h ho hx hF hN
  by_cases hc : chkM l = 0
  · have hP := fun W (k : Keeps (fun _ => False) w W) (p : Option Addr) (c : Nat) (xs : List Value) (ho : OwnP W (fun g => g < W.heap.size) 56 12 (.slice p l.length c) l.length xs) (hx : SL W (fun g => g < W.heap.size) 54 56 l xs) => print_any (w := W) (hG.keep k) (l := l) (p := p) (c := c) ⟨xs, ho, hx⟩ (chkM_zero hc (hx.wf (chkM_wr hc).1)).1 (hx.wf (chkM_wr hc).1)
    have hS : WfL l → (pL [] l).length ≤ 32768 ∧ prX (pL [] l) = .ok l ∧ bgSL l ≤ 1536 := fun hw => by
      obtain ⟨hc0, hbg⟩ := chkM_zero hc hw
      have hlen := pL_len hw hc0
      refine ⟨hlen, ?_, hbg⟩
      unfold prX
      rw [if_neg (by omega), prs0_pL hw (by omega)]
      show (if chk l = 0 then Except.ok l else Except.error (chk l, 0, 0)) = _
      rw [if_pos hc0]
    have hPa := fun W (k : Keeps (fun _ => False) w W) => parse_v (w := W) (pL [] l) (hG.keep k).g (hG.keep k).h
    have hBk := fun (hb : bgSL l ≤ 1536) (W : World) (P : Nat → Prop) (p : Option Addr) (c : Nat) (xs : List Value) => bk_all 1048576 l (by omega) (Nat.le_refl _) W P p c xs
    have hSm := fun (hb : bgSL l ≤ 1536) (W : World) (p : Option Addr) (c : Nat) (xs : List Value) (p' : Option Addr) (c' : Nat) (xs' : List Value) => smI_all 1048576 l (by omega) (Nat.le_refl _) W p c xs p' c' xs'
    have hwf := fun (W : World) (P : Nat → Prop) (e s : TypeId) (xs : List Value) (hx : SL W P e s l xs) => hx.wf (chkM_wr hc).1
    rw [hc] at hCk
    obtain ⟨n, hn⟩ : ∃ n, l.length = n := ⟨_, rfl⟩
    obtain ⟨S, hSS⟩ : ∃ S, S = bs (pL [] l) := ⟨_, rfl⟩
    simp only [hn] at hPg hCk hP hBk hSm ⊢
    simp only [← hSS] at hP hPa
    have HN : Hid (l.length = n) := hn
    have HSS : Hid (S = bs (pL [] l)) := hSS
    have HS : Hid _ := hS
    have HCk : Hid _ := hCk
    have HP : Hid _ := hP
    have HPg : Hid _ := hPg
    have HPa : Hid _ := hPa
    have HBk : Hid _ := hBk
    have HSm : Hid _ := hSm
    have Hwf : Hid _ := hwf
    have HR : Hid (Rd w p xs) := hR
    have HI : Hid (ISL w l xs) := hI
    clear hn hSS hS hCk hP hPg hPa hBk hSm hwf hR hI hF hN hc hG
    go_enter Tryz.func4, Tryz.ntmps4
    refine wp_seq_k (fun KK hKK => ?_)
    have hKH : Hid _ := hKK
    clear hKK
    go_wp2_with fail
    refine hKH.out _ _ ?_
    clear hKH KK
    refine wp_seq_k (fun KK hKK => ?_)
    have hKH : Hid _ := hKK
    clear hKK
    go_wp2_with (go_at_call 5; refine hFx.mono ?_; clear hFx; rintro e w1 ⟨rfl, k1⟩)
    refine hKH.out _ _ ?_
    clear hKH KK
    have hg1 := HPg.out w1 k1
    refine wp_seq_k (fun KK hKK => ?_)
    have hKH : Hid _ := hKK
    clear hKK
    go_wp2_with (first | (go_at_call 11; refine hg1.mono ?_; clear hg1; rintro e w2 ⟨p2, c2, x2, rfl, O2, X2, k2⟩; have hc2 := HCk.out w2 (k1.trans k2) p2 c2 x2 (O2.lt.mono (fun _ hg => hg.2)) (X2.lt.mono (fun _ hg => hg.2)); clear O2 HCk) | (go_at_call 7; refine hc2.mono ?_; clear hc2; rintro e w3 ⟨rfl, k3⟩))
    refine hKH.out _ _ ?_
    clear hKH KK
    have hw := Hwf.out _ _ _ _ _ X2
    obtain ⟨hlen, hpr, hbg⟩ := HS.out hw
    have k13 := (k1.trans k2).trans k3
    clear X2 k2 k3 k1 Hwf HS
    have hg3 := HPg.out w3 k13
    clear HPg
    refine wp_seq_k (fun KK hKK => ?_)
    have hKH : Hid _ := hKK
    clear hKK
    go_wp2_with (first | (go_at_call 11; refine hg3.mono ?_; clear hg3; rintro e w4 ⟨p4, c4, x4, rfl, O4, X4, k4⟩; have hp4 := HP.out w4 (k13.trans k4) p4 c4 x4 (O4.lt.mono (fun _ hg => hg.2)) (X4.lt.mono (fun _ hg => hg.2)); clear O4 X4 HP) | (go_at_call 8; refine hp4.mono ?_; clear hp4; rintro e w5 ⟨rfl, k5⟩))
    refine hKH.out _ _ ?_
    clear hKH KK
    have k15 := (k13.trans k4).trans k5
    clear k13 k4 k5
    have hp6 := HPa.out w5 k15
    clear HPa
    rw [hpr] at hp6
    unfold PrsV at hp6
    simp only [ftX', lsX', HN.out] at hp6
    refine wp_seq_k (fun KK hKK => ?_)
    have hKH : Hid _ := hKK
    clear hKK
    go_wp2_with fail
    refine hKH.out _ _ ?_
    clear hKH KK
    refine wp_seq_k (fun KK hKK => ?_)
    have hKH : Hid _ := hKK
    clear hKK
    go_wp2_with (go_at_call 6; refine hp6.mono ?_; clear hp6; rintro e v6 ⟨p6, c6, x6, rfl, Ov6, Xv6, k6⟩)
    refine hKH.out _ _ ?_
    clear hKH KK
    obtain ⟨w6, hw6⟩ : ∃ w6, w6 = v6.alloc (.cells #[.int .i64 0, .int .i64 0, .int .i64 0] 26) := ⟨_, rfl⟩
    have kw6 : Keeps (fun _ => False) v6 w6 := by rw [hw6]; exact (Keeps.refl _ v6).alloc _
    have cw6 : CL w6 v6.heap.size [.int .i64 0, .int .i64 0, .int .i64 0] := by rw [hw6]; exact CL.made v6 _ _
    rw [show v6.alloc (.cells #[.int .i64 0, .int .i64 0, .int .i64 0] 26) = w6 from hw6.symm]
    clear hw6
    have O6 := Ov6.stay (kw6.stay (fun _ _ _ e => e))
    have X6 := Xv6.stay (kw6.stay (fun _ _ _ e => e))
    have k16 := (k15.trans k6).trans kw6
    have hB := HBk.out hbg w6 _ p6 c6 x6 O6 X6
    have g0 := cw6.c 0 _ rfl
    have g1 := cw6.c 1 _ rfl
    have g2 := cw6.c 2 _ rfl
    have eS : decide ((S.size : Int) ≤ 32768) = true := decide_eq_true (by rw [HSS.out, bs_size]; omega)
    have HSm2 : Hid _ := HSm.out hbg
    clear HBk HSm hbg hlen hpr hw O6 X6 Ov6 Xv6 cw6 k15 k6 kw6 HSS
    go_wp2_with (first | (go_at_call 10; refine hB.mono ?_; clear hB; rintro e w8 ⟨p8, c8, x8, rfl, O8, X8, k8⟩; have hS2 := HSm2.out w8 p8 c8 x8 p c xs O8.rd X8.toI (Rd.keep HR.out (k16.trans k8)) (ISL.keep (k16.trans k8) HI.out); clear HSm2 O8 X8) | (go_at_call 9; refine hS2.mono ?_; clear hS2; rintro e w9 ⟨rfl, k9⟩))
    go_ret
    exact ⟨rfl, ((k16.trans k8).trans k9).below (Nat.le_refl _) (fun _ _ e => e)⟩
  · have hP := fun W (k : Keeps (fun _ => False) w W) (p : Option Addr) (c : Nat) (xs : List Value) (ho : OwnP W (fun g => g < W.heap.size) 56 12 (.slice p l.length c) l.length xs) (hx : SL W (fun g => g < W.heap.size) 54 56 l xs) => print_no (w := W) (hG.keep k) (l := l) (p := p) (c := c) ⟨xs, ho, hx⟩ hF hN hc
    obtain ⟨n, hn⟩ : ∃ n, l.length = n := ⟨_, rfl⟩
    obtain ⟨C, hC⟩ : ∃ C, chkM l = C := ⟨_, rfl⟩
    simp only [hn] at hPg hCk hP ⊢
    simp only [hC] at hCk hP hc
    have e0 : (C != 0) = true := bne_iff_ne.2 hc
    have HCk : Hid _ := hCk
    have HP : Hid _ := hP
    have HPg : Hid _ := hPg
    clear hn hC hCk hP hPg hR hI hF hN hc hG
    go_enter Tryz.func4, Tryz.ntmps4
    refine wp_seq_k (fun KK hKK => ?_)
    have hKH : Hid _ := hKK
    clear hKK
    go_wp2_with fail
    refine hKH.out _ _ ?_
    clear hKH KK
    refine wp_seq_k (fun KK hKK => ?_)
    have hKH : Hid _ := hKK
    clear hKK
    go_wp2_with (go_at_call 5; refine hFx.mono ?_; clear hFx; rintro e w1 ⟨rfl, k1⟩)
    refine hKH.out _ _ ?_
    clear hKH KK
    have hg1 := HPg.out w1 k1
    refine wp_seq_k (fun KK hKK => ?_)
    have hKH : Hid _ := hKK
    clear hKK
    go_wp2_with (first | (go_at_call 11; refine hg1.mono ?_; clear hg1; rintro e w2 ⟨p2, c2, x2, rfl, O2, X2, k2⟩; have hc2 := HCk.out w2 (k1.trans k2) p2 c2 x2 (O2.lt.mono (fun _ hg => hg.2)) (X2.lt.mono (fun _ hg => hg.2)); clear O2 X2 HCk) | (go_at_call 7; refine hc2.mono ?_; clear hc2; rintro e w3 ⟨rfl, k3⟩))
    refine hKH.out _ _ ?_
    clear hKH KK
    have k13 := (k1.trans k2).trans k3
    clear k2 k3 k1
    have hg3 := HPg.out w3 k13
    clear HPg
    refine wp_seq_k (fun KK hKK => ?_)
    have hKH : Hid _ := hKK
    clear hKK
    go_wp2_with (first | (go_at_call 11; refine hg3.mono ?_; clear hg3; rintro e w4 ⟨p4, c4, x4, rfl, O4, X4, k4⟩; have hp4 := HP.out w4 (k13.trans k4) p4 c4 x4 (O4.lt.mono (fun _ hg => hg.2)) (X4.lt.mono (fun _ hg => hg.2)); clear O4 X4 HP) | (go_at_call 8; refine hp4.mono ?_; clear hp4; rintro e w5 ⟨rfl, k5⟩))
    refine hKH.out _ _ ?_
    clear hKH KK
    have e1 : (C == C) = true := by simp
    go_wp2_with fail
    go_ret
    exact ⟨rfl, ((k13.trans k4).trans k5).below (Nat.le_refl _) (fun _ _ e => e)⟩
end Go.Proofs.YtdpnknleobobkaaGreatDoor
