import Derived.Test.YtehblpbefkopbaaDoorYaP
import Derived.Test.YtehblpbefkopbaaDoorXqB
import Derived.Test.YtehblpbefkopbaaDoorYaQ
namespace Go.Proofs.YtehblpbefkopbaaDoor
open Go.RowKit Go.ChangeShapes Go.WideShapes Go.ChangeAt Go.Deep
attribute [local go_sem] Oper.semAt_some run_store_nf run_store_f
/-! The document's count. -/
theorem run_store_in {w : World} {b o : Nat} (hc : (w.cell? ⟨b, o, none⟩).isSome = true) (hz : w.frozen? ⟨b, o, none⟩ = false) (x : Int) : (storeVar 3 ⟨b, o, none⟩ (.int .i64 x)).run Tryd.prog w = .ok () (w.setCell ⟨b, o, none⟩ (.int .i64 x)) := by
  obtain ⟨u, hu⟩ := Option.isSome_iff_exists.1 hc
  go_simp
theorem wpList_store_in {w : World} {ops : Array Oper} {rest : List Oper} {o : Oper} {a : Act} {Q : Exit → Act → World → Prop} (hgd : o.guard = none) (hd : o.dst = none) (x y : Operand) (ho : o.op = .store 3 x y) (b off : Nat) (hx : a.eval x = .pointer (some ⟨b, off, none⟩)) (z : Int) (hy : a.eval y = .int .i64 z)
    {l : List Value} (hB : CL w b l) (hl : off < l.length) (h : ∀ w1, CL w1 b (l.set off (.int .i64 z)) → Keeps (fun k => k = b) w w1 → w1.heap.size = w.heap.size → wpList Tryd.prog ops Q rest a w1) : wpList Tryd.prog ops Q (o :: rest) a w :=
  wpList_plain hgd fun _ hK => by
    unfold Oper.wp execOp
    simp only [ho, hx, hy, Instr.storeAt, Instr.sureAddr, Sem.run_bind, Sem.run_pure, Result.andThen_ok, run_store_in (by rw [hB.c off _ (List.getElem?_eq_getElem hl)]; rfl) (hB.z off hl) z]
    refine hK _ _ ?_
    have e : a.put o.dst undef = a := by rw [hd]; rfl
    rw [e]
    exact h _ (hB.set hl _) ((Keeps.refl (fun k => k = b) w).setCell (p := ⟨b, off, none⟩) (fun _ => rfl) _) (by simp)
theorem wpList_store_sl {w : World} {ops : Array Oper} {rest : List Oper} {o : Oper} {a : Act} {Q : Exit → Act → World → Prop} (hgd : o.guard = none) (hd : o.dst = none) (x y : Operand) (ho : o.op = .store 50 x y) (b off : Nat) (hx : a.eval x = .pointer (some ⟨b, off, none⟩)) (p : Option Addr) (m c : Nat) (hy : a.eval y = .slice p m c)
    {l : List Value} (hB : CL w b l) (hl : off < l.length) (h : ∀ w1, CL w1 b (l.set off (.slice p m c)) → Keeps (fun k => k = b) w w1 → w1.heap.size = w.heap.size → wpList Tryd.prog ops Q rest a w1) : wpList Tryd.prog ops Q (o :: rest) a w :=
  wpList_plain hgd fun _ hK => by
    unfold Oper.wp execOp
    simp only [ho, hx, hy, Instr.storeAt, Instr.sureAddr, Sem.run_bind, Sem.run_pure, Result.andThen_ok, run_store_ss (by rw [hB.c off _ (List.getElem?_eq_getElem hl)]; rfl) (hB.z off hl) p m c]
    refine hK _ _ ?_
    have e : a.put o.dst undef = a := by rw [hd]; rfl
    rw [e]
    exact h _ (hB.set hl _) ((Keeps.refl (fun k => k = b) w).setCell (p := ⟨b, off, none⟩) (fun _ => rfl) _) (by simp)
theorem wpList_buildStr {ops : Array Oper} {rest : List Oper} {o : Oper} {a : Act} {w : World} {Q : Exit → Act → World → Prop} (hg : o.guard = none) (x : Operand) (ho : o.op = .buildSlice 50 1 #[(0, x)]) (s : ByteArray) (hx : a.eval x = .string s)
    (h : wpList Tryd.prog ops Q rest (a.put o.dst (.slice (some ⟨w.heap.size, 0, none⟩) 1 1)) (w.alloc (.cells #[.string s] 9))) : wpList Tryd.prog ops Q (o :: rest) a w :=
  wpList_plain hg fun _ hK => wp_buildStr x ho s hx (hK _ _ h)
/-- What the count may write. -/
def cS (g : Nat) (v : Value) (i : Nat) : Prop := i = g ∨ v.ownBlock = some i
/-- The count in memory: everything of it from a block B on. -/
structure CN (W : World) (B g : Nat) (c : Ct) (p : Option Addr) (cap : Nat) : Prop where
  cl : CL W g [.int .i64 (c.1 : Int), .int .i64 (c.2.1 : Int), .slice p c.2.2.length cap]
  nm : OwnP W (fun x => B ≤ x ∧ x ≠ g) 9 1 (.slice p c.2.2.length cap) c.2.2.length (stl c.2.2)
  lo : B ≤ g
/-- How a call leaves it. -/
def CNT (W : World) (B g : Nat) (p : Option Addr) (c : Ct) (cap : Nat) (W' : World) (c' : Ct) : Prop :=
  ∃ p' cap', CN W' B g c' p' cap' ∧ (∀ x, (Value.slice p' c'.2.2.length cap').ownBlock = some x → (Value.slice p c.2.2.length cap).ownBlock = some x ∨ W.heap.size ≤ x) ∧ Keeps (cS g (.slice p c.2.2.length cap)) W W'
section
variable {W W1 W2 W' : World} {B g : Nat} {c c1 c2 : Ct} {p p1 : Option Addr} {cap cap1 : Nat} {S : Nat → Prop}
theorem CN.keep (h : CN W B g c p cap) (k : Keeps S W W') (hS : ∀ i, cS g (.slice p c.2.2.length cap) i → ¬ S i) : CN W' B g c p cap :=
  ⟨h.cl.keep (by show 0 < 3; decide) k (hS _ (.inl rfl)), ⟨k.owns h.nm.1 (fun x hx => hS x (.inr hx)), h.nm.2⟩, h.lo⟩
theorem CN.keep0 (h : CN W B g c p cap) (k : Keeps (fun _ => False) W W') : CN W' B g c p cap := h.keep k (fun _ _ e => e)
theorem CN.low (h : CN W B g c p cap) : ∀ i, cS g (.slice p c.2.2.length cap) i → B ≤ i ∧ i < W.heap.size := by
  rintro i (rfl | hi)
  · exact ⟨h.lo, h.cl.lt (by show 0 < 3; decide)⟩
  · exact ⟨(h.nm.2 i hi).1, owns_lt' h.nm.1 i hi⟩
theorem CNT.refl (h : CN W B g c p cap) : CNT W B g p c cap W c := ⟨p, cap, h, fun _ e => .inl e, Keeps.refl _ _⟩
theorem CNT.k0 (h : CNT W B g p c cap W1 c1) (k : Keeps (fun _ => False) W1 W2) : CNT W B g p c cap W2 c1 := by
  obtain ⟨p', cap', h1, h2, h3⟩ := h
  exact ⟨p', cap', h1.keep0 k, h2, h3.trans (k.mono (fun _ _ e => e.elim))⟩
/-- On from where a call has left it. -/
theorem CNT.get (V : CN W B g c p cap) (h : CNT W B g p c cap W1 c1) : ∃ p' cap', CN W1 B g c1 p' cap' ∧ (∀ i, cS g (.slice p' c1.2.2.length cap') i → cS g (.slice p c.2.2.length cap) i ∨ W.heap.size ≤ i) ∧ Keeps (cS g (.slice p c.2.2.length cap)) W W1 ∧ ∀ {W2 : World} {c2 : Ct}, CNT W1 B g p' c1 cap' W2 c2 → CNT W B g p c cap W2 c2 := by
  obtain ⟨p', cap', h1, h2, h3⟩ := h
  have hz := h3.size
  have hlow : ∀ i, cS g (.slice p' c1.2.2.length cap') i → cS g (.slice p c.2.2.length cap) i ∨ W.heap.size ≤ i := by
    rintro i (rfl | hi)
    · exact .inl (.inl rfl)
    · rcases h2 i hi with q | q
      · exact .inl (.inr q)
      · exact .inr q
  refine ⟨p', cap', h1, hlow, h3, fun h4 => ?_⟩
  obtain ⟨p2, cap2, g1, g2, g3⟩ := h4
  refine ⟨p2, cap2, g1, fun x hx => ?_, h3.trans' g3 (fun _ _ e => e) (fun i hi e => ?_)⟩
  · rcases g2 x hx with q | q
    · exact h2 x q
    · exact .inr (by omega)
  · rcases hlow i e with q | q
    · exact q
    · omega
theorem CNT.cl (h : CNT W B g p c cap W1 c1) {x : Nat} {l : List Value} (hl : 0 < l.length) (hx : CL W x l) (hn : ¬ cS g (.slice p c.2.2.length cap) x) : CL W1 x l := by
  obtain ⟨p', cap', h1, h2, h3⟩ := h
  exact hx.keep hl h3 hn
theorem CNT.keepB (V : CN W B g c p cap) (h : CNT W B g p c cap W1 c1) : Keeps (fun i => B ≤ i) W W1 := by
  obtain ⟨p', cap', h1, h2, h3⟩ := h
  exact h3.mono (fun i _ e => (V.low i e).1)
end
theorem Rd.keepB {w w' : World} {p : Option Addr} {xs : List Value} (h : Rd w p xs) (k : Keeps (fun i => w.heap.size ≤ i) w w') : Rd w' p xs := fun j u e => by
  obtain ⟨b, o, h1, h2⟩ := h j u e
  have hb : b < w.heap.size := World.block_lt_of_cell? _ _ h2
  exact ⟨b, o, h1, k.cell h2 (fun e => by have e : w.heap.size ≤ b := e; omega)⟩
mutual
theorem IE.keepB {w w' : World} (k : Keeps (fun i => w.heap.size ≤ i) w w') : ∀ {t : Tr} {l : List Value}, IE w t l → IE w' t l
  | .mk kd n wd ps, l, h => by
    unfold IE at h ⊢
    obtain ⟨h1, h2, h3, p, c, xs, h4, h5, h6⟩ := h
    exact ⟨h1, h2, h3, p, c, xs, h4, h5.keepB k, IL.keepB k h6⟩
theorem IL.keepB {w w' : World} (k : Keeps (fun i => w.heap.size ≤ i) w w') : ∀ {t : List Tr} {l : List Value}, IL w t l → IL w' t l
  | [], l, h => by unfold IL at h ⊢; exact h
  | t :: r, l, h => by
    unfold IL at h ⊢
    obtain ⟨ys, zs, h1, h2, h3⟩ := h
    exact ⟨ys, zs, h1, IE.keepB k h2, IL.keepB k h3⟩
end
theorem ctL_snoc (t : Tr) (d : Nat) : ∀ (l : List Tr) (c : Ct), ctL d (l ++ [t]) c = ctE d t (ctL d l c)
  | [], c => by rw [List.nil_append]; unfold ctL; unfold ctL; rfl
  | a :: r, c => by rw [List.cons_append]; unfold ctL; exact ctL_snoc t d r _
theorem ctSL_snoc (t : St) (d : Nat) : ∀ (l : List St) (c : Ct), ctSL d (l ++ [t]) c = ctS d t (ctSL d l c)
  | [], c => by rw [List.nil_append]; unfold ctSL; unfold ctSL; rfl
  | a :: r, c => by rw [List.cons_append]; unfold ctSL; exact ctSL_snoc t d r _
theorem bgL_tk : ∀ (l : List Tr) (i : Nat) (t : Tr), l[i]? = some t → bgL (l.take i) + bgE t ≤ bgL l
  | [], i, t, h => by cases h
  | a :: r, 0, t, h => by injection h with h; subst h; rw [List.take_zero]; unfold bgL; omega
  | a :: r, i + 1, t, h => by
    have := bgL_tk r i t h
    rw [List.take_succ_cons]; unfold bgL; omega
theorem bgSL_tk : ∀ (l : List St) (i : Nat) (t : St), l[i]? = some t → bgSL (l.take i) + bgS t ≤ bgSL l
  | [], i, t, h => by cases h
  | a :: r, 0, t, h => by injection h with h; subst h; rw [List.take_zero]; unfold bgSL; omega
  | a :: r, i + 1, t, h => by
    have := bgSL_tk r i t h
    rw [List.take_succ_cons]; unfold bgSL; omega
/-- How much is counted in a run of calls stays small. -/
def Sm (M : Nat) (c : Ct) : Prop := c.1 ≤ M ∧ c.2.1 ≤ M ∧ c.2.2.length ≤ M
set_option maxHeartbeats 1500000 in
set_option maxRecDepth 100000 in
theorem node_any {W : World} {B g : Nat} {c : Ct} {p : Option Addr} {cap : Nat} (V : CN W B g c p cap) (d : Nat) (wd : Bs) (hc : Sm 1099511627776 c) (_hd : d ≤ 1099511627776) : Calls Tryd.prog 33 #[pR g, .int .i64 (d : Int), .string (bs wd)] W fun e w' => e = .returned (.tuple #[]) ∧ CNT W B g p c cap w' (nod d wd c) := by
  obtain ⟨n, m, ns⟩ := c
  obtain ⟨c1, c2, c3⟩ := hc
  simp only at c1 c2 c3
  have hVc : CL W g [.int .i64 (n : Int), .int .i64 (m : Int), .slice p ns.length cap] := V.cl
  have hlow := V.low
  have y0 := hVc.c 0 _ rfl
  have hn1 : (n : Int) + 1 ≤ 9223372036854775807 := by omega
  obtain ⟨U, hU⟩ : ∃ U, U = bs wd := ⟨_, rfl⟩
  rw [← hU]
  have HU : Hid (U = bs wd) := hU
  clear hU
  suffices H : ∀ PP : World → Prop, (∀ w', CNT W B g p (n, m, ns) cap w' (nod d wd (n, m, ns)) → PP w') → Calls Tryd.prog 33 #[pR g, .int .i64 (d : Int), .string U] W fun e w' => e = .returned (.tuple #[]) ∧ PP w' from H _ (fun _ h => h)
  intro PP hPP
  have HP : Hid (∀ w', CNT W B g p (n, m, ns) cap w' (nod d wd (n, m, ns)) → PP w') := hPP
  clear hPP
  go_enter Tryd.func33, Tryd.ntmps33
  refine wp_seq_k (fun KK hKK => ?_)
  have hKH : Hid _ := hKK
  clear hKK
  go_wp2_with (refine wpList_store_in rfl rfl _ _ rfl g 0 rfl ((n : Int) + 1) rfl hVc (by show 0 < 3; decide) ?_; intro w1 c1' k1 z1)
  refine hKH.out _ _ ?_
  clear hKH KK y0
  have C1 : CL w1 g [.int .i64 ((n : Int) + 1), .int .i64 (m : Int), .slice p ns.length cap] := c1'
  clear c1'
  have x1 := C1.c 1 _ rfl
  refine wp_seq_k (fun KK hKK => ?_)
  have rest : ∀ (v3 v4 v5 v6 v7 v8 v9 v10 v11 v12 v13 v14 v15 v16 v17 v18 v19 v20 v21 v22 v23 v24 v25 v26 v27 v28 v29 v30 v31 v32 v33 v34 v35 v36 v37 v38 v39 v40 v41 v42 v43 v44 v45 v46 v47 v48 v49 v50 v51 v52 v53 : Value) (w2 : World), CL w2 g [.int .i64 ((n : Int) + 1), .int .i64 ((max m d : Nat) : Int), .slice p ns.length cap] → Keeps (fun i => i = g) w1 w2 → KK { tmps := ((.pointer (some ⟨g, 0, none⟩)) :: (.int .i64 (d : Int)) :: (.string U) :: (v3) :: (v4) :: (v5) :: (v6) :: (v7) :: (v8) :: (v9) :: (v10) :: (v11) :: (v12) :: (v13) :: (v14) :: (v15) :: (v16) :: (v17) :: (v18) :: (v19) :: (v20) :: (v21) :: (v22) :: (v23) :: (v24) :: (v25) :: (v26) :: (v27) :: (v28) :: (v29) :: (v30) :: (v31) :: (v32) :: (v33) :: (v34) :: (v35) :: (v36) :: (v37) :: (v38) :: (v39) :: (v40) :: (v41) :: (v42) :: (v43) :: (v44) :: (v45) :: (v46) :: (v47) :: (v48) :: (v49) :: (v50) :: (v51) :: (v52) :: (v53) :: []).toArray, defers := [] } w2 := by
    intro v3 v4 v5 v6 v7 v8 v9 v10 v11 v12 v13 v14 v15 v16 v17 v18 v19 v20 v21 v22 v23 v24 v25 v26 v27 v28 v29 v30 v31 v32 v33 v34 v35 v36 v37 v38 v39 v40 v41 v42 v43 v44 v45 v46 v47 v48 v49 v50 v51 v52 v53 w2 C2 k2
    have hKH : Hid _ := hKK
    clear hKK
    refine hKH.out _ _ ?_
    clear hKH x1
    have z2 := k2.size
    have k12 : Keeps (fun i => i = g) W w2 := k1.trans k2
    have V2 : CN w2 B g (n + 1, max m d, ns) p cap := ⟨by show CL w2 g [.int .i64 ((n + 1 : Nat) : Int), .int .i64 ((max m d : Nat) : Int), .slice p ns.length cap]; rw [Int.natCast_add]; exact C2, ⟨k12.owns V.nm.1 (fun x hx e => (V.nm.2 x hx).2 e), V.nm.2⟩, V.lo⟩
    obtain ⟨R, hR⟩ : ∃ R, R = ns.contains wd := ⟨_, rfl⟩
    have HR : Hid (R = ns.contains wd) := hR
    have HN : Hid (nod d wd (n, m, ns) = (n + 1, max m d, if R then ns else if wd = [] then ns else ns ++ [wd])) := by rw [hR]; rfl
    clear hR
    have own2 : OwnP w2 (fun x => B ≤ x ∧ x ≠ g) 9 1 (.slice p ns.length cap) ns.length (stl ns) := V2.nm
    have kS : Keeps (cS g (.slice p ns.length cap)) W w2 := k12.mono (fun i _ e => .inl e)
    have y2 := C2.c 2 _ rfl
    obtain ⟨a, cap0, e, hcel, -, -⟩ := own_slice own2.1
    injection e with e1 e2 e3
    subst e1 e3
    clear e2
    clear C1 k1 z1 k2 hVc
    go_wp2_with fail
    go_loopw [6] (fun iv Wr => ∃ k : Nat, iv = .int .i64 (k : Int) ∧ k ≤ ns.length ∧ Hid ((ns.drop k).contains wd = R) ∧ w2 = Wr) (fun iv _ => ns.length + 1 - (intOf iv).toNat)
    case atStart => exact ⟨0, rfl, by omega, (by show _ = _; rw [HR.out]; rfl), rfl⟩
    case round =>
      obtain ⟨k, rfl, hk1, HI, rfl⟩ := hrel
      by_cases hk : k < ns.length
      · have hdd : decide ((k : Int) < (ns.length : Int)) = true := decide_eq_true (by omega)
        have hd2 : decide (k < ns.length) = true := decide_eq_true hk
        have hk0 : (0 : Int) ≤ (k : Int) := by omega
        have hkL : (k : Int) < (ns.length : Int) := by omega
        have hm : (k : Int) + 1 ≤ 9223372036854775807 := by omega
        have hI := HI.out
        have hst : ns.drop k = ns[k] :: ns.drop (k + 1) := List.drop_eq_getElem_cons hk
        rw [hst, List.contains_cons] at hI
        obtain ⟨gg, rfl, hg⟩ := hcel k (.string (bs ns[k])) (by rw [List.getElem?_map, List.getElem?_eq_getElem hk]; rfl)
        have hL := eqL ns[k] wd
        rw [← HU.out] at hL
        generalize ns[k] = x at *
        clear hst HI
        cases hp : (x == wd)
        · have hp2 : (wd == x) = false := by rw [beq_eq_false_iff_ne] at hp ⊢; exact fun e => hp e.symm
          rw [hp] at hL
          rw [hp2, Bool.false_or] at hI
          have HT : Hid (_ = R) := hI
          clear hI hp hp2
          go_wp2_with fail
          go_roundw
          case rel => exact ⟨k + 1, by go_num, by omega, HT.out, trivial⟩
          case measure => simp [intOf]; omega
        · have hp2 : (wd == x) = true := by rw [beq_iff_eq] at hp ⊢; exact hp.symm
          rw [hp] at hL
          rw [hp2, Bool.true_or] at hI
          have HT : Hid (true = R) := hI
          clear hI hp hp2
          go_wp2_with fail
          (try simp only [Exit.inBlock, Exit.then]); refine bodyPost_ret (results_none rfl _ _ _) rfl ?_
          refine ⟨rfl, HP.out _ ?_⟩
          rw [HN.out, ← HT.out, if_pos rfl]
          exact ⟨some ⟨gg, 0, none⟩, cap, V2, fun x hx => .inl hx, kS⟩
      · obtain rfl : k = ns.length := by omega
        have hdd : decide ((ns.length : Int) < (ns.length : Int)) = false := decide_eq_false (by omega)
        have hd2 : decide (ns.length < ns.length) = false := decide_eq_false (by omega)
        have HT : Hid (false = R) := by
          have := HI.out
          rw [List.drop_length] at this
          exact this
        clear HI
        by_cases hwd : wd = []
        · have eU : U.toList.isEmpty = true := by rw [HU.out, bs_toList, hwd]; rfl
          have eU' : (U.toList != []) = false := by rw [HU.out, bs_toList, hwd]; rfl
          go_wp2_with fail
          go_end0
          refine ⟨rfl, HP.out _ ?_⟩
          rw [HN.out, ← HT.out, if_neg (by simp), if_pos hwd]
          exact ⟨p, cap, V2, fun x hx => .inl hx, kS⟩
        · have eU : U.toList.isEmpty = false := by rw [HU.out, bs_toList]; cases wd; exact absurd rfl hwd; rfl
          have eU' : (U.toList != []) = true := by rw [HU.out, bs_toList]; cases wd; exact absurd rfl hwd; rfl
          obtain ⟨q', W2, hr1, ho1, kq, hbl⟩ := append_sz uStr iStr rfl (by decide) own2.1 (Nat.zero_le _) (by decide) (by omega) [.string U] rfl (fun u hu => by simp at hu; rw [hu]; rfl)
          obtain ⟨p', c', rfl, -⟩ := own_slice ho1
          have nv : ¬ (Value.slice p ns.length cap).ownBlock = some g := fun e => (V2.nm.2 g e).2 rfl
          have C3 := C2.keep (by show 0 < 3; decide) kq nv
          go_wp2_with (first | (refine wpList_buildStr rfl _ rfl U rfl ?_; (try simp only [Act.put, List.setIfInBounds_toArray, List.set_cons_zero, List.set_cons_succ])) | (refine wpList_append_tL rfl _ _ 50 rfl _ _ _ W2 rfl rfl hr1 ?_; clear hr1) | (refine wpList_store_sl rfl rfl _ _ rfl g 2 rfl p' (ns.length + 1) c' rfl C3 (by show 2 < 3; decide) ?_; intro w4 c4 k4 z4))
          go_end0
          refine ⟨rfl, HP.out _ ?_⟩
          rw [HN.out, ← HT.out, if_neg (by simp), if_neg hwd]
          have elen : (ns ++ [wd]).length = ns.length + 1 := by simp
          have no2 : ∀ x, (Value.slice p' (ns.length + 1) c').ownBlock = some x → (Value.slice p ns.length cap).ownBlock = some x ∨ w2.heap.size < x := fun x hx => by
            rcases hbl with q | q
            · rw [q] at hx; exact .inl hx
            · rw [q] at hx; cases hx; exact .inr (by omega)
          have lowg := (hlow g (.inl rfl)).2
          have nd2 : ∀ x, (Value.slice p' (ns.length + 1) c').ownBlock = some x → B ≤ x ∧ x ≠ g := fun x hx => by
            rcases no2 x hx with q | q
            · exact V2.nm.2 x q
            · have := k12.size; have := V.lo; exact ⟨by omega, by omega⟩
          refine ⟨p', c', ⟨?_, ?_, V.lo⟩, fun x hx => ?_, ?_⟩
          · show CL w4 g [.int .i64 ((n + 1 : Nat) : Int), .int .i64 ((max m d : Nat) : Int), .slice p' (ns ++ [wd]).length c']
            rw [elen, Int.natCast_add]
            exact c4
          · show OwnP w4 _ 9 1 (.slice p' (ns ++ [wd]).length c') (ns ++ [wd]).length (stl (ns ++ [wd]))
            rw [elen, show stl (ns ++ [wd]) = stl ns ++ [.string U] by rw [HU.out]; simp]
            exact ⟨k4.owns ho1 (fun x hx => (nd2 x hx).2), nd2⟩
          · have hx : (Value.slice p' (ns ++ [wd]).length c').ownBlock = some x := hx
            rw [elen] at hx
            rcases no2 x hx with q | q
            · exact .inl q
            · have := k12.size; exact .inr (by omega)
          · exact (kS.trans' kq (fun _ _ e => e) (fun i _ e => .inr e)).trans' k4 (fun _ _ e => e) (fun i _ e => .inl e)
  clear hKK
  by_cases hmd : m < d
  · have e1 : decide ((m : Int) < (d : Int)) = true := decide_eq_true (by omega)
    have e2 : decide (m < d) = true := decide_eq_true hmd
    go_wp2_with (refine wpList_store_in rfl rfl _ _ rfl g 1 rfl (d : Int) rfl C1 (by show 1 < 3; decide) ?_; intro w2 c2' k2 z2)
    have C2 : CL w2 g [.int .i64 ((n : Int) + 1), .int .i64 ((max m d : Nat) : Int), .slice p ns.length cap] := by rw [Nat.max_eq_right (by omega)]; exact c2'
    exact rest _ _ _ _ _ _ _ _ _ _ _ _ _ _ _ _ _ _ _ _ _ _ _ _ _ _ _ _ _ _ _ _ _ _ _ _ _ _ _ _ _ _ _ _ _ _ _ _ _ _ _ w2 C2 k2
  · have e1 : decide ((m : Int) < (d : Int)) = false := decide_eq_false (by omega)
    have e2 : decide (m < d) = false := decide_eq_false hmd
    go_wp2_with fail
    exact rest _ _ _ _ _ _ _ _ _ _ _ _ _ _ _ _ _ _ _ _ _ _ _ _ _ _ _ _ _ _ _ _ _ _ _ _ _ _ _ _ _ _ _ _ _ _ _ _ _ _ _ w1 (by rw [Nat.max_eq_left (by omega)]; exact C1) (Keeps.refl _ _)
theorem CNT.of0 {W W1 W2 : World} {B g : Nat} {c c2 : Ct} {p : Option Addr} {cap : Nat} (k : Keeps (fun _ => False) W W1) (h : CNT W1 B g p c cap W2 c2) : CNT W B g p c cap W2 c2 := by
  obtain ⟨p', cap', h1, h2, h3⟩ := h
  have := k.size
  exact ⟨p', cap', h1, fun x hx => (h2 x hx).imp (fun q => q) (fun q => by omega), (k.mono (fun _ _ e => e.elim)).trans h3⟩
/-- There is room for as much again. -/
def Rm (M d : Nat) (c : Ct) : Prop := c.1 + M ≤ 1099511627776 ∧ c.2.1 ≤ 1099511627776 ∧ c.2.2.length + M ≤ 1099511627776 ∧ d + M ≤ 1099511627776
theorem Rm.sm {M d : Nat} {c : Ct} (h : Rm M d c) : Sm 1099511627776 c ∧ d ≤ 1099511627776 := by
  obtain ⟨h1, h2, h3, h4⟩ := h
  exact ⟨⟨by omega, by omega, by omega⟩, by omega⟩
theorem Rm.expr {k n : Int} {w u : Bs} {ps : List Tr} {d i : Nat} {c : Ct} {t : Tr} (h : Rm (bgE (.mk k n w ps)) d c) (ht : ps[i]? = some t) : Rm (bgE t) (d + 1) (ctL (d + 1) (ps.take i) (nod d u c)) := by
  have h0 := bgL_tk ps i t ht
  obtain ⟨h1, h2, h3, h4⟩ := h
  unfold bgE at h1 h3 h4
  obtain ⟨n1, n2, n3⟩ := nod_le d u c
  obtain ⟨g1, g2, g3⟩ := ctL_le (ps.take i) (d + 1) (nod d u c)
  generalize nod d u c = c' at *
  generalize ctL (d + 1) (ps.take i) c' = c'' at *
  exact ⟨by omega, by omega, by omega, by omega⟩
def CxE (t : Tr) : Prop := ∀ (W0 W : World) (g : Nat) (c : Ct) (p : Option Addr) (cap : Nat) (L : List Value) (d : Nat), IE W0 t L → Keeps (fun i => W0.heap.size ≤ i) W0 W → CN W W0.heap.size g c p cap → Rm (bgE t) d c → Calls Tryd.prog 34 #[pR g, .agg L.toArray, .int .i64 (d : Int)] W fun e w' => e = .returned (.tuple #[]) ∧ CNT W W0.heap.size g p c cap w' (ctE d t c)
set_option maxHeartbeats 1500000 in
set_option maxRecDepth 100000 in
theorem cexpr_all : ∀ (N : Nat) (t : Tr), bgE t ≤ N → CxE t
  | 0, t, h => absurd h (by have := bgE_pos t; omega)
  | N + 1, .mk k n wd ps, h => by
    have hbg : bgL ps ≤ N := by unfold bgE at h; omega
    have IH := fun t (ht : bgE t ≤ N) => cexpr_all N t ht
    clear h
    intro W0 W g c p cap L d ht k0 V hR
    have hRm := fun (i : Nat) (t : Tr) (u : Bs) (hi : ps[i]? = some t) => hR.expr (u := u) hi
    have hSm := hR.sm
    have hm40 : ps.length + d + 1 ≤ 1099511627776 := by have h4 := hR.2.2.2; have := bgL_len ps; unfold bgE at h4; omega
    clear hR
    unfold IE at ht
    obtain ⟨-, -, hwd, q, cq, xs, rfl, hget, hx⟩ := ht
    suffices H : ∀ PP : World → Prop, (∀ w', CNT W W0.heap.size g p c cap w' (ctE d (.mk k n wd ps) c) → PP w') → Calls Tryd.prog 34 #[pR g, .agg #[.int .i64 k, .int .i64 n, .string (bs wd), .slice q ps.length cq], .int .i64 (d : Int)] W fun e w' => e = .returned (.tuple #[]) ∧ PP w' from H _ (fun _ h => h)
    intro PP hPP
    obtain ⟨m, hm⟩ : ∃ m, m = ps.length := ⟨_, rfl⟩
    have HN : Hid (m = ps.length) := hm
    rw [← hm] at hm40 ⊢
    clear hm
    obtain ⟨U, hU⟩ : ∃ U, U = bs wd := ⟨_, rfl⟩
    rw [← hU]
    have HU : Hid (U = bs wd) := hU
    clear hU
    have ka := (Keeps.refl (fun _ => False) W).alloc (.cells ([.int .i64 k, .int .i64 n, .string U, .slice q m cq] : List Value).toArray 40)
    have qb := CL.made W [.int .i64 k, .int .i64 n, .string U, .slice q m cq] 40
    have zs : (W.alloc (.cells ([.int .i64 k, .int .i64 n, .string U, .slice q m cq] : List Value).toArray 40)).heap.size = W.heap.size + 1 := World.size_alloc _ _
    have y0 := qb.c 0 _ rfl
    have y2 := qb.c 2 _ rfl
    by_cases hk0 : k = 0
    · have HP : Hid (∀ w', CNT W W0.heap.size g p c cap w' c → PP w') := fun w' hw => hPP w' (by unfold ctE; rw [if_pos hk0]; exact hw)
      subst hk0
      clear hPP hRm IH
      go_enter Tryd.func34, Tryd.ntmps34
      go_wp2_with fail
      (try simp only [Exit.inBlock, Exit.then]); refine bodyPost_ret (results_none rfl _ _ _) rfl ?_
      exact ⟨rfl, HP.out _ ((CNT.refl V).k0 ka)⟩
    · have e0 : (k == 0) = false := beq_eq_false_iff_ne.2 hk0
      have V1 := V.keep0 ka
      have hlow : ∀ i, cS g (.slice p c.2.2.length cap) i → i ≠ W.heap.size := fun i hi e => by have := (V.low i hi).2; omega
      have k01 : Keeps (fun i => W0.heap.size ≤ i) W0 (W.alloc (.cells ([.int .i64 k, .int .i64 n, .string U, .slice q m cq] : List Value).toArray 40)) := k0.trans (ka.mono (fun _ _ e => e.elim))
      obtain ⟨u, hu⟩ : ∃ u, u = if k = 2 then wd else [] := ⟨_, rfl⟩
      have hND := node_any V1 d u hSm.1 hSm.2
      have HP : Hid (∀ w', CNT W W0.heap.size g p c cap w' (ctL (d + 1) ps (nod d u c)) → PP w') := fun w' hw => hPP w' (by unfold ctE; rw [if_neg hk0, ← hu]; exact hw)
      clear hPP
      by_cases hk2 : k = 2
      · have e2 : (k == 2) = true := by rw [hk2]; rfl
        have hU2 : bs u = U := by rw [hu, if_pos hk2, ← HU.out]
        rw [hU2] at hND
        clear hU2 hk2 hu hk0
        go_enter Tryd.func34, Tryd.ntmps34
        refine wp_seq_k (fun KK hKK => ?_)
        have hKH : Hid _ := hKK
        clear hKK
        go_wp2_with fail
        refine hKH.out _ _ ?_
        clear hKH KK
        generalize W.alloc (.cells #[.int .i64 k, .int .i64 n, .string U, .slice q m cq] 40) = W1 at *
        go_wp2_with (go_at_call 33; refine hND.mono ?_; clear hND; rintro e w2 ⟨rfl, T2⟩)
        have cb := T2.cl (by show 0 < 4; decide) qb (fun e => hlow _ e rfl)
        have HK : Hid (Keeps (fun _ => False) W W1) := ka
        clear y0 y2 qb ka
        go_loopw [7] (fun iv Wr => ∃ i : Nat, iv = .int .i64 (i : Int) ∧ i ≤ m ∧ CNT W1 W0.heap.size g p c cap Wr (ctL (d + 1) (ps.take i) (nod d u c)) ∧ CL Wr W.heap.size [.int .i64 k, .int .i64 n, .string U, .slice q m cq]) (fun iv _ => m - (intOf iv).toNat)
        case atStart => exact ⟨0, rfl, Nat.zero_le _, (by rw [List.take_zero]; exact T2), cb⟩
        case round =>
          clear T2 cb
          obtain ⟨i, rfl, hi, hT, hC⟩ := hrel
          have y3 := hC.c 3 _ rfl
          by_cases hlt : i < m
          · have d1 : decide ((i : Int) < (m : Int)) = true := decide_eq_true (by omega)
            have d2 : decide (i < m) = true := decide_eq_true hlt
            have i0 : (0 : Int) ≤ (i : Int) := by omega
            have i1 : (i : Int) < (m : Int) := by omega
            have i2 : (i : Int) + 1 ≤ 9223372036854775807 := by omega
            have dd : (d : Int) + 1 ≤ 9223372036854775807 := by omega
            have dc : ((d + 1 : Nat) : Int) = (d : Int) + 1 := Int.natCast_add d 1
            have hip : i < ps.length := by rw [← HN.out]; exact hlt
            obtain ⟨t, htt⟩ : ∃ t, t = ps[i] := ⟨_, rfl⟩
            have hgt : ps[i]? = some t := by rw [htt]; exact List.getElem?_eq_getElem hip
            have hbt : bgE t ≤ N := Nat.le_trans (bgA ps i t hgt) hbg
            have htk : Hid (ctL (d + 1) (ps.take (i + 1)) (nod d u c) = ctE (d + 1) t (ctL (d + 1) (ps.take i) (nod d u c))) := by show _ = _; rw [take_snoc hgt, ctL_snoc]
            have hRi := hRm i t u hgt
            obtain ⟨us, hty, hyc⟩ := hx.at i t hgt
            obtain ⟨k2, n2, s2, p2, m2, c2, rfl⟩ := hty.shapeR
            obtain ⟨g1, o, rfl, -⟩ := hget (i * 4) _ (hyc 0 _ rfl)
            obtain ⟨p3, cap3, V3, low3, kk3, join3⟩ := hT.get V1
            have kr : Keeps (fun i => W0.heap.size ≤ i) W0 wr := k01.trans (hT.keepB V1)
            have hq : ∀ (j : Nat) (u : Value), [Value.int .i64 k2, .int .i64 n2, .string s2, .slice p2 m2 c2][j]? = some u → wr.cell? ⟨g1, o + i * 4 + j, none⟩ = some u := fun j u e => by
              obtain ⟨g', o', eg, h6⟩ := hget _ _ (hyc j u e)
              injection eg with eg; injection eg with eg eo _; subst eg eo
              rw [Nat.add_assoc]
              have hb := World.block_lt_of_cell? _ _ h6
              exact kr.cell h6 (fun e => by have e : W0.heap.size ≤ g1 := e; have hb : g1 < W0.heap.size := hb; omega)
            have hR1 := run_er hq
            have hP := IH t hbt W0 wr g _ p3 cap3 _ (d + 1) hty kr V3 hRi
            rw [dc] at hP
            have hnx : ¬ cS g (.slice p3 (ctL (d + 1) (ps.take i) (nod d u c)).2.2.length cap3) W.heap.size := fun e => by
              rcases low3 _ e with q | q
              · exact hlow _ q rfl
              · omega
            clear hq hyc hgt htt hip hbt hty hRi
            go_wp2_with (first | (refine wpList_load_runL rfl 40 _ rfl ⟨g1, o + i * 4, none⟩ rfl _ hR1 ?_; clear hR1) | (go_at_call 34; refine hP.mono ?_; clear hP; rintro e w4 ⟨rfl, T4⟩))
            go_roundw
            case rel => exact ⟨i + 1, by go_num, by omega, (by rw [htk.out]; exact join3 T4), T4.cl (by show 0 < 4; decide) hC hnx⟩
            case measure => simp [intOf]; omega
          · obtain rfl : i = m := by omega
            have d1 : decide ((i : Int) < (i : Int)) = false := decide_eq_false (by omega)
            have d2 : decide (i < i) = false := decide_eq_false (by omega)
            go_wp2_with fail
            go_end0
            refine ⟨rfl, HP.out _ (CNT.of0 HK.out ?_)⟩
            have e : ps.take i = ps := by rw [HN.out]; exact List.take_length
            rw [e] at hT
            exact hT
      · have e2 : (k == 2) = false := beq_eq_false_iff_ne.2 hk2
        have hU2 : bs u = ⟨#[]⟩ := by rw [hu, if_neg hk2]; rfl
        rw [hU2] at hND
        clear hU2 hk2 hu hk0
        go_enter Tryd.func34, Tryd.ntmps34
        refine wp_seq_k (fun KK hKK => ?_)
        have hKH : Hid _ := hKK
        clear hKK
        go_wp2_with fail
        refine hKH.out _ _ ?_
        clear hKH KK
        generalize W.alloc (.cells #[.int .i64 k, .int .i64 n, .string U, .slice q m cq] 40) = W1 at *
        go_wp2_with (go_at_call 33; refine hND.mono ?_; clear hND; rintro e w2 ⟨rfl, T2⟩)
        have cb := T2.cl (by show 0 < 4; decide) qb (fun e => hlow _ e rfl)
        have HK : Hid (Keeps (fun _ => False) W W1) := ka
        clear y0 y2 qb ka
        go_loopw [7] (fun iv Wr => ∃ i : Nat, iv = .int .i64 (i : Int) ∧ i ≤ m ∧ CNT W1 W0.heap.size g p c cap Wr (ctL (d + 1) (ps.take i) (nod d u c)) ∧ CL Wr W.heap.size [.int .i64 k, .int .i64 n, .string U, .slice q m cq]) (fun iv _ => m - (intOf iv).toNat)
        case atStart => exact ⟨0, rfl, Nat.zero_le _, (by rw [List.take_zero]; exact T2), cb⟩
        case round =>
          clear T2 cb
          obtain ⟨i, rfl, hi, hT, hC⟩ := hrel
          have y3 := hC.c 3 _ rfl
          by_cases hlt : i < m
          · have d1 : decide ((i : Int) < (m : Int)) = true := decide_eq_true (by omega)
            have d2 : decide (i < m) = true := decide_eq_true hlt
            have i0 : (0 : Int) ≤ (i : Int) := by omega
            have i1 : (i : Int) < (m : Int) := by omega
            have i2 : (i : Int) + 1 ≤ 9223372036854775807 := by omega
            have dd : (d : Int) + 1 ≤ 9223372036854775807 := by omega
            have dc : ((d + 1 : Nat) : Int) = (d : Int) + 1 := Int.natCast_add d 1
            have hip : i < ps.length := by rw [← HN.out]; exact hlt
            obtain ⟨t, htt⟩ : ∃ t, t = ps[i] := ⟨_, rfl⟩
            have hgt : ps[i]? = some t := by rw [htt]; exact List.getElem?_eq_getElem hip
            have hbt : bgE t ≤ N := Nat.le_trans (bgA ps i t hgt) hbg
            have htk : Hid (ctL (d + 1) (ps.take (i + 1)) (nod d u c) = ctE (d + 1) t (ctL (d + 1) (ps.take i) (nod d u c))) := by show _ = _; rw [take_snoc hgt, ctL_snoc]
            have hRi := hRm i t u hgt
            obtain ⟨us, hty, hyc⟩ := hx.at i t hgt
            obtain ⟨k2, n2, s2, p2, m2, c2, rfl⟩ := hty.shapeR
            obtain ⟨g1, o, rfl, -⟩ := hget (i * 4) _ (hyc 0 _ rfl)
            obtain ⟨p3, cap3, V3, low3, kk3, join3⟩ := hT.get V1
            have kr : Keeps (fun i => W0.heap.size ≤ i) W0 wr := k01.trans (hT.keepB V1)
            have hq : ∀ (j : Nat) (u : Value), [Value.int .i64 k2, .int .i64 n2, .string s2, .slice p2 m2 c2][j]? = some u → wr.cell? ⟨g1, o + i * 4 + j, none⟩ = some u := fun j u e => by
              obtain ⟨g', o', eg, h6⟩ := hget _ _ (hyc j u e)
              injection eg with eg; injection eg with eg eo _; subst eg eo
              rw [Nat.add_assoc]
              have hb := World.block_lt_of_cell? _ _ h6
              exact kr.cell h6 (fun e => by have e : W0.heap.size ≤ g1 := e; have hb : g1 < W0.heap.size := hb; omega)
            have hR1 := run_er hq
            have hP := IH t hbt W0 wr g _ p3 cap3 _ (d + 1) hty kr V3 hRi
            rw [dc] at hP
            have hnx : ¬ cS g (.slice p3 (ctL (d + 1) (ps.take i) (nod d u c)).2.2.length cap3) W.heap.size := fun e => by
              rcases low3 _ e with q | q
              · exact hlow _ q rfl
              · omega
            clear hq hyc hgt htt hip hbt hty hRi
            go_wp2_with (first | (refine wpList_load_runL rfl 40 _ rfl ⟨g1, o + i * 4, none⟩ rfl _ hR1 ?_; clear hR1) | (go_at_call 34; refine hP.mono ?_; clear hP; rintro e w4 ⟨rfl, T4⟩))
            go_roundw
            case rel => exact ⟨i + 1, by go_num, by omega, (by rw [htk.out]; exact join3 T4), T4.cl (by show 0 < 4; decide) hC hnx⟩
            case measure => simp [intOf]; omega
          · obtain rfl : i = m := by omega
            have d1 : decide ((i : Int) < (i : Int)) = false := decide_eq_false (by omega)
            have d2 : decide (i < i) = false := decide_eq_false (by omega)
            go_wp2_with fail
            go_end0
            refine ⟨rfl, HP.out _ (CNT.of0 HK.out ?_)⟩
            have e : ps.take i = ps := by rw [HN.out]; exact List.take_length
            rw [e] at hT
            exact hT
end Go.Proofs.YtehblpbefkopbaaDoor
namespace Go.Proofs.YtehblpbefkopbaaDoor
open Go.RowKit Go.ChangeShapes Go.WideShapes Go.ChangeAt Go.Deep
attribute [local go_sem] Oper.semAt_some run_store_nf run_store_f
/-! The document's count of statements. -/
theorem Rm.stmts {l : List St} {d i : Nat} {c : Ct} {k : Int} {wd : Bs} {a b : Tr} {th el : List St} (h : Rm (bgSL l) d c) (ht : l[i]? = some (.mk k wd a b th el)) :
    Rm 1 d (ctSL d (l.take i) c) ∧ Rm (bgE a) (d + 1) (nod d wd (ctSL d (l.take i) c)) ∧ Rm (bgE b) (d + 1) (ctE (d + 1) a (nod d wd (ctSL d (l.take i) c))) ∧ Rm (bgSL th) (d + 1) (ctE (d + 1) b (ctE (d + 1) a (nod d wd (ctSL d (l.take i) c)))) ∧ Rm (bgSL el) (d + 1) (ctSL (d + 1) th (ctE (d + 1) b (ctE (d + 1) a (nod d wd (ctSL d (l.take i) c))))) := by
  have h0 := bgSL_tk l i _ ht
  obtain ⟨h1, h2, h3, h4⟩ := h
  obtain ⟨g1, g2, g3⟩ := ctSL_le (l.take i) d c
  generalize ctSL d (l.take i) c = c0 at *
  unfold bgS at h0
  obtain ⟨n1, n2, n3⟩ := nod_le d wd c0
  generalize nod d wd c0 = c1 at *
  obtain ⟨a1, a2, a3⟩ := ctE_le a (d + 1) c1
  generalize ctE (d + 1) a c1 = c2 at *
  obtain ⟨b1, b2, b3⟩ := ctE_le b (d + 1) c2
  generalize ctE (d + 1) b c2 = c3 at *
  obtain ⟨t1, t2, t3⟩ := ctSL_le th (d + 1) c3
  generalize ctSL (d + 1) th c3 = c4 at *
  have := bgE_pos a
  have := bgE_pos b
  refine ⟨⟨by omega, by omega, by omega, by omega⟩, ⟨by omega, by omega, by omega, by omega⟩, ⟨by omega, by omega, by omega, by omega⟩, ⟨by omega, by omega, by omega, by omega⟩, ⟨by omega, by omega, by omega, by omega⟩⟩
def CxL (l : List St) : Prop := ∀ (W0 W : World) (g : Nat) (c : Ct) (p : Option Addr) (cap : Nat) (q : Option Addr) (cq : Nat) (xs : List Value) (d : Nat), Rd W0 q xs → ISL W0 l xs → Keeps (fun i => W0.heap.size ≤ i) W0 W → CN W W0.heap.size g c p cap → Rm (bgSL l) d c → Calls Tryd.prog 21 #[pR g, .slice q l.length cq, .int .i64 (d : Int)] W fun e w' => e = .returned (.tuple #[]) ∧ CNT W W0.heap.size g p c cap w' (ctSL d l c)
set_option maxHeartbeats 1500000 in
set_option maxRecDepth 100000 in
theorem cstmts_all : ∀ (n : Nat) (l : List St), bgSL l < n → CxL l
  | 0, l, h => absurd h (by omega)
  | n + 1, l, h => by
    have IH := fun l (ht : bgSL l < n) => cstmts_all n l ht
    intro W0 W g c p cap q cq xs d hget hx k0 V hR
    have hRm := fun (i : Nat) (k : Int) (wd : Bs) (a b : Tr) (th el : List St) (hi : l[i]? = some (.mk k wd a b th el)) => hR.stmts hi
    have hm40 : l.length + d ≤ 1099511627776 := by have h4 := hR.2.2.2; have := bgSL_len l; omega
    clear hR
    suffices H : ∀ PP : World → Prop, (∀ w', CNT W W0.heap.size g p c cap w' (ctSL d l c) → PP w') → Calls Tryd.prog 21 #[pR g, .slice q l.length cq, .int .i64 (d : Int)] W fun e w' => e = .returned (.tuple #[]) ∧ PP w' from H _ (fun _ h => h)
    intro PP hPP
    have HP : Hid (∀ w', CNT W W0.heap.size g p c cap w' (ctSL d l c) → PP w') := hPP
    clear hPP
    obtain ⟨N, hN⟩ : ∃ N, N = l.length := ⟨_, rfl⟩
    have HN : Hid (N = l.length) := hN
    rw [← hN] at hm40 ⊢
    clear hN
    go_enter Tryd.func21, Tryd.ntmps21
    go_wp2_with fail
    go_loopw [6] (fun iv Wr => ∃ i : Nat, iv = .int .i64 (i : Int) ∧ i ≤ N ∧ CNT W W0.heap.size g p c cap Wr (ctSL d (l.take i) c)) (fun iv _ => N - (intOf iv).toNat)
    case atStart => exact ⟨0, rfl, Nat.zero_le _, (by rw [List.take_zero]; exact CNT.refl V)⟩
    case round =>
      obtain ⟨i, rfl, hi, hT⟩ := hrel
      by_cases hlt : i < N
      · have d1 : decide ((i : Int) < (N : Int)) = true := decide_eq_true (by omega)
        have d2 : decide (i < N) = true := decide_eq_true hlt
        have i0 : (0 : Int) ≤ (i : Int) := by omega
        have i1 : (i : Int) < (N : Int) := by omega
        have i2 : (i : Int) + 1 ≤ 9223372036854775807 := by omega
        have dd : (d : Int) + 1 ≤ 9223372036854775807 := by omega
        have dc : ((d + 1 : Nat) : Int) = (d : Int) + 1 := Int.natCast_add d 1
        have hip : i < l.length := by rw [← HN.out]; exact hlt
        obtain ⟨t, htt⟩ : ∃ t, t = l[i] := ⟨_, rfl⟩
        have hgt : l[i]? = some t := by rw [htt]; exact List.getElem?_eq_getElem hip
        have hbt : bgS t ≤ bgSL l := bgSA l i t hgt
        have htk : ctSL d (l.take (i + 1)) c = ctS d t (ctSL d (l.take i) c) := by rw [take_snoc hgt, ctSL_snoc]
        obtain ⟨us, hty, hyc⟩ := hx.at i t hgt
        obtain ⟨k, wd, a, b, th, el⟩ := t
        obtain ⟨R0, R1, R2, R3, R4⟩ := hRm i k wd a b th el hgt
        unfold bgS at hbt
        unfold ctS at htk
        have HTK : Hid _ := htk
        obtain ⟨-, hwd, ka, na, sa, pa, ma, ca, kb, nb, sb, pb, mb, cb, pt, ct, pe, ce, xt, xe, rfl, Ta, Tb, ot, st1, oe, se1⟩ := hty.parts
        clear hty hgt htt hip htk
        obtain ⟨p0, cap0, V0, low0, kk0, join0⟩ := hT.get V
        have kr : Keeps (fun i => W0.heap.size ≤ i) W0 wr := k0.trans (hT.keepB V)
        clear hT
        generalize ctSL d (l.take i) c = c0 at *
        have hN0 := node_any V0 d wd R0.sm.1 R0.sm.2
        have IHA := cexpr_all (bgE a) a (Nat.le_refl _)
        have IHB := cexpr_all (bgE b) b (Nat.le_refl _)
        have IHT := IH th (by omega)
        have IHE := IH el (by omega)
        obtain ⟨g1, og, rfl, -⟩ := hget (i * 12) _ (hyc 0 _ rfl)
        have hcell : ∀ W', Keeps (fun i => W0.heap.size ≤ i) W0 W' → ∀ (j : Nat) (u : Value), ([.int .i64 k, .string (bs wd), .int .i64 ka, .int .i64 na, .string sa, .slice pa ma ca, .int .i64 kb, .int .i64 nb, .string sb, .slice pb mb cb, .slice pt th.length ct, .slice pe el.length ce] : List Value)[j]? = some u → W'.cell? ⟨g1, og + i * 12 + j, none⟩ = some u := fun W' kW j u e => by
          obtain ⟨g', o', eg, h6⟩ := hget _ _ (hyc j u e)
          injection eg with eg; injection eg with eg eo _; subst eg eo
          rw [Nat.add_assoc]
          have hb := World.block_lt_of_cell? _ _ h6
          exact kW.cell h6 (fun e => by have e : W0.heap.size ≤ g1 := e; have hb : g1 < W0.heap.size := hb; omega)
        clear hyc hbt
        obtain ⟨s, hs⟩ : ∃ s, s = bs wd := ⟨_, rfl⟩
        rw [← hs] at hcell hN0
        clear hs
        have z1 := hcell wr kr 1 _ rfl
        refine wp_seq_k (fun KK hKK => ?_)
        have hKH : Hid _ := hKK
        clear hKK
        go_wp2_with fail
        refine hKH.out _ _ ?_
        clear hKH KK
        refine wp_seq_k (fun KK hKK => ?_)
        have hKH : Hid _ := hKK
        clear hKK
        refine wp_block ?_
        refine wp_seq_k (fun K2 hK2 => ?_)
        have hKI : Hid _ := hK2
        clear hK2
        go_wp2_with (go_at_call 33; refine hN0.mono ?_; clear hN0; rintro e w1 ⟨rfl, T1⟩)
        refine hKI.out _ _ ?_
        clear hKI K2 z1
        have k1 : Keeps (fun i => W0.heap.size ≤ i) W0 w1 := kr.trans (T1.keepB V0)
        obtain ⟨p1, cap1, V1, low1, kk1, join1⟩ := T1.get V0
        clear T1
        have hA := IHA W0 w1 g _ p1 cap1 _ (d + 1) Ta k1 V1 R1
        rw [dc] at hA
        have hRa : (loadVar 40 ⟨g1, og + i * 12 + 2, none⟩).run Tryd.prog w1 = .ok (.agg #[.int .i64 ka, .int .i64 na, .string sa, .slice pa ma ca]) w1 := run_er (fun j v e => by
          rw [Nat.add_assoc]
          refine hcell w1 k1 (2 + j) v ?_
          rw [← List.getElem?_drop, ← e]
          exact List.getElem?_append_left (l₂ := [.int .i64 kb, .int .i64 nb, .string sb, .slice pb mb cb, .slice pt th.length ct, .slice pe el.length ce]) (List.getElem?_eq_some_iff.1 e).1)
        refine wp_seq_k (fun K2 hK2 => ?_)
        have hKI : Hid _ := hK2
        clear hK2
        go_wp2_with (first | (refine wpList_load_runL rfl 40 _ rfl ⟨g1, og + i * 12 + 2, none⟩ rfl _ hRa ?_; clear hRa) | (go_at_call 34; refine hA.mono ?_; clear hA; rintro e w2 ⟨rfl, T2⟩))
        refine hKI.out _ _ ?_
        clear hKI K2
        have k2 : Keeps (fun i => W0.heap.size ≤ i) W0 w2 := k1.trans (T2.keepB V1)
        obtain ⟨p2, cap2, V2, low2, kk2, join2⟩ := T2.get V1
        clear T2
        have hB := IHB W0 w2 g _ p2 cap2 _ (d + 1) Tb k2 V2 R2
        rw [dc] at hB
        have hRb : (loadVar 40 ⟨g1, og + i * 12 + 6, none⟩).run Tryd.prog w2 = .ok (.agg #[.int .i64 kb, .int .i64 nb, .string sb, .slice pb mb cb]) w2 := run_er (fun j v e => by
          rw [Nat.add_assoc]
          refine hcell w2 k2 (6 + j) v ?_
          rw [← List.getElem?_drop, ← e]
          exact List.getElem?_append_left (l₂ := [.slice pt th.length ct, .slice pe el.length ce]) (List.getElem?_eq_some_iff.1 e).1)
        refine wp_seq_k (fun K2 hK2 => ?_)
        have hKI : Hid _ := hK2
        clear hK2
        go_wp2_with (first | (refine wpList_load_runL rfl 40 _ rfl ⟨g1, og + i * 12 + 6, none⟩ rfl _ hRb ?_; clear hRb) | (go_at_call 34; refine hB.mono ?_; clear hB; rintro e w3 ⟨rfl, T3⟩))
        refine hKI.out _ _ ?_
        clear hKI K2
        have k3 : Keeps (fun i => W0.heap.size ≤ i) W0 w3 := k2.trans (T3.keepB V2)
        obtain ⟨p3, cap3, V3, low3, kk3, join3⟩ := T3.get V2
        clear T3
        have hTh := IHT W0 w3 g _ p3 cap3 pt ct _ (d + 1) ot st1 k3 V3 R3
        rw [dc] at hTh
        have z10 := hcell w3 k3 10 _ rfl
        refine wp_seq_k (fun K2 hK2 => ?_)
        have hKI : Hid _ := hK2
        clear hK2
        go_wp2_with (go_at_call 21; refine hTh.mono ?_; clear hTh; rintro e w4 ⟨rfl, T4⟩)
        refine hKI.out _ _ ?_
        clear hKI K2 z10
        have k4 : Keeps (fun i => W0.heap.size ≤ i) W0 w4 := k3.trans (T4.keepB V3)
        obtain ⟨p4, cap4, V4, low4, kk4, join4⟩ := T4.get V3
        clear T4
        have hEl := IHE W0 w4 g _ p4 cap4 pe ce _ (d + 1) oe se1 k4 V4 R4
        rw [dc] at hEl
        have z11 := hcell w4 k4 11 _ rfl
        go_wp2_with (go_at_call 21; refine hEl.mono ?_; clear hEl; rintro e w5 ⟨rfl, T5⟩)
        refine hKH.out _ _ ?_
        clear hKH
        have HT : Hid (CNT W W0.heap.size g p c cap w5 (ctSL d (l.take (i + 1)) c)) := by
          show CNT _ _ _ _ _ _ _ _
          rw [HTK.out]
          exact join0 (join1 (join2 (join3 (join4 T5))))
        clear z11 join0 join1 join2 join3 join4 T5 V0 V1 V2 V3 V4
        go_wp2_with fail
        go_roundw
        case rel => exact ⟨i + 1, by go_num, by omega, HT.out⟩
        case measure => simp [intOf]; omega
      · obtain rfl : i = N := by omega
        have d1 : decide ((i : Int) < (i : Int)) = false := decide_eq_false (by omega)
        have d2 : decide (i < i) = false := decide_eq_false (by omega)
        go_wp2_with fail
        go_end0
        refine ⟨rfl, HP.out _ ?_⟩
        have e : l.take i = l := by rw [HN.out]; exact List.take_length
        rw [e] at hT
        exact hT
end Go.Proofs.YtehblpbefkopbaaDoor
namespace Go.Proofs.YtehblpbefkopbaaDoor
open Go.RowKit Go.ChangeShapes Go.WideShapes Go.ChangeAt Go.Deep
attribute [local go_sem] Oper.semAt_some run_store_nf run_store_f
/-! The document's Check and Names. -/
theorem wr_chk {l : List St} (h : wrSL l = true) : chk l = 235 := by unfold chk; rw [h]; rfl
theorem Rm.small {l : List St} (h : bgSL l < 1048576) : Rm (bgSL l) 1 (0, 0, []) := by
  exact ⟨by show 0 + _ ≤ _; omega, by show 0 ≤ _; omega, by show 0 + _ ≤ _; omega, by omega⟩
/-- A new count. -/
theorem CN.new (W : World) : CN (W.alloc (.cells #[.int .i64 0, .int .i64 0, .slice none 0 0] 65)) W.heap.size W.heap.size (0, 0, []) none 0 :=
  ⟨CL.made W [.int .i64 0, .int .i64 0, .slice none 0 0] 65, ⟨⟨by simp, .inl ⟨rfl, rfl⟩⟩, fun x hx => by cases hx⟩, Nat.le_refl _⟩
theorem CNT.keep0 {W W1 : World} {p : Option Addr} {cap : Nat} {c c1 : Ct} {g : Nat} (V : CN (W.alloc (.cells #[.int .i64 0, .int .i64 0, .slice none 0 0] 65)) W.heap.size g c p cap) (h : CNT (W.alloc (.cells #[.int .i64 0, .int .i64 0, .slice none 0 0] 65)) W.heap.size g p c cap W1 c1) : Keeps (fun _ => False) W W1 :=
  ((Keeps.refl (fun _ => False) W).alloc _).trans' (h.keepB V) (fun _ _ e => e) (fun i hi e => by have e : W.heap.size ≤ i := e; omega)
set_option maxHeartbeats 1500000 in
set_option maxRecDepth 100000 in
theorem rCheck_any {w : World} {l : List St} {p : Option Addr} {c : Nat} {xs : List Value} (hA : AllS l) (hb : bgSL l < 1048576) (hR : Rd w p xs) (hI : ISL w l xs) : Calls Tryd.prog 12 #[.slice p l.length c] w fun e w' => e = .returned (.int .i64 (chk l)) ∧ Keeps (fun _ => False) w w' := by
  have hAl := hA w p c xs hR hI
  have hS := fun W (k : Keeps (fun _ => False) w W) => cstmts_all (bgSL l + 1) l (by omega) W _ W.heap.size (0, 0, []) none 0 p c xs 1 (hR.keep k) (hI.keep k) ((Keeps.refl _ W).alloc _) (CN.new W) (Rm.small hb)
  have hC := chR_eq l
  unfold chR at hC
  have hle := ctSL_le l 1 (0, 0, [])
  have hct : ctSL 1 l (0, 0, []) = ct0 l := rfl
  rw [hct] at hle
  simp only [hct] at hS
  clear hct hA
  obtain ⟨n, hn⟩ : ∃ n, n = l.length := ⟨_, rfl⟩
  rw [← hn] at hAl ⊢
  simp only [← hn] at hS
  clear hn
  cases hw : wrSL l
  · rw [hw] at hAl hC
    rw [if_neg (by simp)] at hC
    rw [← hC]
    clear hC hw hI hR
    generalize ct0 l = ct at *
    obtain ⟨cn, cd, ns⟩ := ct
    have l3 : ns.length ≤ 0 + bgSL l := hle.2.2
    have l1 : cn ≤ 0 + bgSL l := hle.1
    have l2 : cd ≤ max 0 (1 + bgSL l) := hle.2.1
    clear hle
    suffices H : ∀ PP : Int → World → Prop, (∀ w' , Keeps (fun _ => False) w w' → PP (if 8 < ns.length then 232 else if 24 < cd then 233 else if 512 < cn then 234 else 0) w') → Calls Tryd.prog 12 #[.slice p n c] w fun e w' => ∃ r, e = .returned (.int .i64 r) ∧ PP r w' from (H (fun r w' => r = (if 8 < ns.length then 232 else if 24 < cd then 233 else if 512 < cn then 234 else 0) ∧ Keeps (fun _ => False) w w') (fun _ h => ⟨rfl, h⟩)).mono (fun e w' ⟨r, h1, h2, h3⟩ => ⟨by rw [h1, h2], h3⟩)
    intro PP hPP
    have HP : Hid _ := hPP
    clear hPP
    have g1 : decide ((8 : Int) < (ns.length : Int)) = decide (8 < ns.length) := by by_cases h : 8 < ns.length <;> simp [h] <;> omega
    have g2 : decide ((24 : Int) < (cd : Int)) = decide (24 < cd) := by by_cases h : 24 < cd <;> simp [h] <;> omega
    have g3 : decide ((512 : Int) < (cn : Int)) = decide (512 < cn) := by by_cases h : 512 < cn <;> simp [h] <;> omega
    go_enter Tryd.func12, Tryd.ntmps12
    refine wp_seq_k (fun KK hKK => ?_)
    have hKH : Hid _ := hKK
    clear hKK
    go_wp2_with fail
    refine hKH.out _ _ ?_
    clear hKH KK
    refine wp_seq_k (fun KK hKK => ?_)
    have hKH : Hid _ := hKK
    clear hKK
    go_wp2_with (go_at_call 20; refine hAl.mono ?_; clear hAl; rintro e w1 ⟨rfl, k1⟩)
    refine hKH.out _ _ ?_
    clear hKH KK
    have hS1 := hS w1 k1
    have V1 := CN.new w1
    have hK1 := fun W2 (T : CNT _ w1.heap.size w1.heap.size none (0, 0, []) 0 W2 (cn, cd, ns)) => CNT.keep0 V1 T
    clear hS
    refine wp_seq_k (fun KK hKK => ?_)
    have hKH : Hid _ := hKK
    clear hKK
    go_wp2_with fail
    refine hKH.out _ _ ?_
    clear hKH KK
    generalize w1.alloc (.cells #[.int .i64 0, .int .i64 0, .slice none 0 0] 65) = w2 at *
    refine wp_seq_k (fun KK hKK => ?_)
    have hKH : Hid _ := hKK
    clear hKK
    go_wp2_with (go_at_call 21; refine hS1.mono ?_; clear hS1; rintro e w3 ⟨rfl, T3⟩)
    refine hKH.out _ _ ?_
    clear hKH KK
    have k3 := k1.trans (hK1 _ T3)
    obtain ⟨p', cap', V3, -, -⟩ := T3
    have C3 : CL w3 w1.heap.size [.int .i64 (cn : Int), .int .i64 (cd : Int), .slice p' ns.length cap'] := V3.cl
    have y0 := C3.c 0 _ rfl
    have y1 := C3.c 1 _ rfl
    have y2 := C3.c 2 _ rfl
    clear V1 V3 C3 hK1
    by_cases h8 : 8 < ns.length
    · rw [decide_eq_true h8] at g1
      have b1 := decide_eq_true h8
      go_wp2_with fail
      go_ret
      exact ⟨_, rfl, by have := HP.out _ k3; rw [if_pos h8] at this; exact this⟩
    · rw [decide_eq_false h8] at g1
      have b1 := decide_eq_false h8
      by_cases h24 : 24 < cd
      · rw [decide_eq_true h24] at g2
        have b2 := decide_eq_true h24
        go_wp2_with fail
        go_ret
        exact ⟨_, rfl, by have := HP.out _ k3; rw [if_neg h8, if_pos h24] at this; exact this⟩
      · rw [decide_eq_false h24] at g2
        have b2 := decide_eq_false h24
        by_cases h5 : 512 < cn
        · rw [decide_eq_true h5] at g3
          have b3 := decide_eq_true h5
          go_wp2_with fail
          go_ret
          exact ⟨_, rfl, by have := HP.out _ k3; rw [if_neg h8, if_neg h24, if_pos h5] at this; exact this⟩
        · rw [decide_eq_false h5] at g3
          have b3 := decide_eq_false h5
          go_wp2_with fail
          go_ret
          exact ⟨_, rfl, by have := HP.out _ k3; rw [if_neg h8, if_neg h24, if_neg h5] at this; exact this⟩
  · rw [hw] at hAl
    rw [wr_chk hw]
    clear hS hC hw hle hI hR
    go_enter Tryd.func12, Tryd.ntmps12
    go_wp2_with (go_at_call 20; refine hAl.mono ?_; clear hAl; rintro e w1 ⟨rfl, k1⟩)
    go_ret
    exact ⟨rfl, k1⟩
/-- Names, of a list that may be. -/
def NmR (l : List St) (w : World) (e : Ending) (w' : World) : Prop := ∃ (p : Option Addr) (m c : Nat), e = .returned (.tuple #[.slice p m c, .int .i64 (chk l)]) ∧ (chk l ≠ 0 → m = 0) ∧ (chk l = 0 → m = (nmSL l []).length ∧ OwnP w' (fun g => w.heap.size ≤ g) 9 1 (.slice p (nmSL l []).length c) (nmSL l []).length (stl (nmSL l []))) ∧ Keeps (fun _ => False) w w'
end Go.Proofs.YtehblpbefkopbaaDoor
