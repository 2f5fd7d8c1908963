import Derived.Test.YtlglhmmlebjidaaLjB
import Derived.Laws.OwnMore
namespace Go.Proofs.Ytlglhmmlebjidaa
open Go.RowKit
/-- A place laid into a list at k. -/
def mlP (A : List Nat) (k i : Nat) : List Nat := A.take k ++ i :: A.drop k
theorem mlP_len {A : List Nat} {k i : Nat} : (mlP A k i).length = A.length + 1 := by
  unfold mlP
  rw [List.length_append, List.length_cons, List.length_take, List.length_drop]
  omega
theorem mlP_all (A : List Nat) (i : Nat) : mlP A A.length i = A ++ [i] := by unfold mlP; simp
theorem mlP_at {A : List Nat} {k i : Nat} (h : k ≤ A.length) : (mlP A k i).getD k 0 = i := by
  unfold mlP
  rw [List.getD_eq_getElem?_getD, List.getElem?_append_right (by rw [List.length_take]; omega), List.length_take, show k - min k A.length = 0 by omega]
  rfl
theorem mlP_before {A : List Nat} {k i : Nat} (h : k < A.length) : (mlP A (k + 1) i).getD k 0 = A.getD k 0 := by
  unfold mlP
  rw [List.getD_eq_getElem?_getD, List.getElem?_append_left (by rw [List.length_take]; omega), List.getElem?_take_of_lt (by omega), List.getD_eq_getElem?_getD]
theorem mlP_swap {A : List Nat} {k i : Nat} (h : k < A.length) : ((mlP A (k + 1) i).set (k + 1) (A.getD k 0)).set k i = mlP A k i := by
  apply List.ext_getElem?
  intro j
  have e1 : A.take (k + 1) = A.take k ++ [A.getD k 0] := take_nextP h
  have e2 : A.drop k = A.getD k 0 :: A.drop (k + 1) := by
    rw [List.drop_eq_getElem_cons h, List.getD_eq_getElem?_getD, List.getElem?_eq_getElem h]
    rfl
  have e3 : mlP A (k + 1) i = A.take k ++ (A.getD k 0 :: i :: A.drop (k + 1)) := by
    unfold mlP
    rw [e1, List.append_assoc]
    rfl
  have e4 : mlP A k i = A.take k ++ (i :: A.getD k 0 :: A.drop (k + 1)) := by
    unfold mlP
    rw [e2]
  have hl : (A.take k).length = k := by rw [List.length_take]; omega
  rw [e3, e4, List.set_append_right _ _ (by omega), List.set_append_right _ _ (by omega), hl, show k + 1 - k = 1 by omega, Nat.sub_self]
  rfl
theorem insP_at (f : Nat → Int) : ∀ {A : List Nat} {k i : Nat}, k ≤ A.length → (∀ x ∈ A.take k, ¬ f i < f x) → (∀ x ∈ A.drop k, f i < f x) → insP f A i = mlP A k i
  | [], k, i, hk, _, _ => by
    obtain rfl : k = 0 := by simpa using hk
    rfl
  | a :: A, 0, i, _, _, h => by
    unfold insP
    rw [if_pos (h a (by simp))]
    rfl
  | a :: A, k + 1, i, hk, h1, h2 => by
    unfold insP
    rw [if_neg (h1 a (by simp)), insP_at f (A := A) (k := k) (by simpa using hk) (fun x hx => h1 x (by simp [hx])) (fun x hx => h2 x (by simpa using hx))]
    rfl
theorem wpList_store_row {w : World} {ops : Array Oper} {rest : List Oper} {o : Oper} {a : Act} {Q : Exit → Act → World → Prop} (hgd : o.guard = none) (hd : o.dst = none) (x y : Operand) (ho : o.op = .store 3 x y) (g j : Nat) (hx : a.eval x = .pointer (some ⟨g, j, none⟩)) (v : Nat) (hy : a.eval y = .int .i64 (v : Int))
    {base n cap : Nat} {L : List Nat} (hO : w.ownsRow base 3 1 (.slice (some ⟨g, 0, none⟩) n cap) n (pvs L)) (hj : j < L.length) (h : ∀ w1, w1.ownsRow base 3 1 (.slice (some ⟨g, 0, none⟩) n cap) n (pvs (L.set j v)) → Keeps (fun k => k = g) w w1 → wpList Try.prog ops Q rest a w1) : wpList Try.prog ops Q (o :: rest) a w := by
  have hB := own_clL hO
  have hl : j < (pvs L).length := by rw [pvs_len]; exact hj
  exact wpList_plain hgd fun _ hK => by
    unfold Oper.wp execOp
    simp only [ho, hx, hy, Instr.storeAt, Instr.sureAddr, Sem.run_bind, Sem.run_pure, Result.andThen_ok, run_store_oneL (by rw [hB.c j _ (List.getElem?_eq_getElem hl)]; rfl) (hB.z j hl) (v : Int)]
    refine hK _ _ ?_
    rw [hd]
    refine h _ ?_ ((Keeps.refl (fun k => k = g) w).setCell (p := ⟨g, j, none⟩) (fun _ => rfl) _)
    have := (hO.stored j (.int .i64 (v : Int))).1
    have e : pvs (L.set j v) = (pvs L).set j (.int .i64 (v : Int)) := by unfold pvs; rw [List.map_set]
    rw [e]
    exact this
set_option maxHeartbeats 1000000 in
set_option maxRecDepth 100000 in
theorem rbyPoint_any {w : World} {a : Option Addr} {cap : Nat} {l : List Cl} (hl : CSL w a l) (hn : l.length ≤ 2199023255552) (hM : MayL l) : Calls Try.prog 31 #[.slice a l.length cap] w fun e w' => ∃ v, e = .returned v ∧ w'.ownsRow w.heap.size 3 1 v (byP l l.length).length (pvs (byP l l.length)) ∧ Keeps (fun _ => False) w w' := by
  have HL : Hid (CSL w a l) := hl
  have HMM : Hid (MayL l) := hM
  clear hl hM
  generalize hN : l.length = N at *
  have HN : Hid (l.length = N) := hN
  clear hN
  go_enter Try.func31, Try.ntmps31
  go_wp2_with fail
  go_loopg [3, 4] N (fun g lv iv Wr => ∃ (k : Nat), k + g = N ∧ iv = .int .i64 (k : Int) ∧ Wr.ownsRow w.heap.size 3 1 lv (byP l k).length (pvs (byP l k)) ∧ Keeps (fun _ => False) w Wr)
  case atStart => exact ⟨0, by omega, rfl, World.ownsRow_nil _ _ _ _, Keeps.refl _ _⟩
  case round =>
    obtain ⟨k, hkg, rfl, hO, kr⟩ := hrel
    obtain ⟨al, cl, rfl, -⟩ := own_slice hO
    have HO : Hid (wr.ownsRow w.heap.size 3 1 (.slice al (byP l k).length cl) (byP l k).length (pvs (byP l k))) := hO
    have HBL : Hid ((byP l k).length ≤ k) := byP_len l k
    clear hO
    cases gk with
    | zero =>
      have j1 : decide ((k : Int) < (N : Int)) = false := decide_eq_false (by omega)
      have j2 : decide (k < N) = false := decide_eq_false (by omega)
      obtain rfl : k = N := by omega
      go_wp2_with fail
      go_ret
      exact ⟨_, rfl, HO.out, kr⟩
    | succ g =>
      have j1 : decide ((k : Int) < (N : Int)) = true := decide_eq_true (by omega)
      have j2 : decide (k < N) = true := decide_eq_true (by omega)
      have j3 : (k : Int) < (N : Int) := by omega
      have j4 : (0 : Int) ≤ (k : Int) := by omega
      have hwi : IntKind.i64.wrap ((k : Int) + 1) = (k : Int) + 1 := by rw [IntKind.wrap_i64]; omega
      have hkL : k < l.length := by rw [HN.out]; omega
      obtain ⟨b, off, rfl, hc⟩ := HL.out k hkL
      have c6 : wr.cell? ⟨b, off + k * 8 + 6, none⟩ = some (.int .i64 (ptOf l k)) := kr.cell (hc 6 _ rfl) (fun e => e)
      have hbw : b < w.heap.size := World.block_lt_of_cell? _ _ (hc 6 _ rfl)
      clear hc hkL
      have HPX : Hid (ptOf l k = -1 → byP l (k + 1) = byP l k) := fun h => by
        show (if ptOf l k = -1 then byP l k else _) = _
        rw [if_pos h]
      have HPY : Hid (ptOf l k ≠ -1 → byP l (k + 1) = insP (ptOf l) (byP l k) k) := fun h => by
        show (if ptOf l k = -1 then byP l k else _) = _
        rw [if_neg h]
      have HSO : Hid ((byP l k).Pairwise (fun i j => ptOf l i < ptOf l j)) := rise_byP (fun i j h1 h2 h3 => HMM.out.2 i j h1 (by rw [HN.out]; omega) h3)
      have HIN : Hid (∀ i ∈ byP l k, i < k) := fun i hi => ((mem_byP l k i).1 hi).1
      obtain ⟨A, hA⟩ : ∃ A, A = byP l k := ⟨_, rfl⟩
      rw [← hA] at HO HBL HPX HPY HSO HIN
      rw [← hA]
      clear hA
      have hAl : A.length ≤ k := HBL.out
      obtain ⟨M, hM⟩ : ∃ M, M = A.length := ⟨_, rfl⟩
      rw [← hM] at hAl
      have HM : Hid (M = A.length) := hM
      rw [← hM] at HO
      rw [← hM]
      clear hM HBL
      obtain ⟨x, hx⟩ : ∃ x, x = ptOf l k := ⟨_, rfl⟩
      rw [← hx] at c6 HPX HPY
      have HX : Hid (x = ptOf l k) := hx
      clear hx
      by_cases hx1 : x = -1
      · have s1 : (x == -1) = true := by simp [hx1]
        have HE : Hid (byP l (k + 1) = A) := HPX.out hx1
        clear hx1 HPX HPY
        go_wp2_with fail
        go_roundg g
        case measure => omega
        case rel => exact ⟨k + 1, by omega, by go_num, by rw [HE.out, ← HM.out]; exact HO.out, kr⟩
      · have s1 : (x == -1) = false := by simp [hx1]
        have HE : Hid (byP l (k + 1) = insP (ptOf l) A k) := HPY.out hx1
        clear hx1 HPX HPY
        obtain ⟨a7, c7, W7, hr7, hO7, k7, -⟩ := append_pl HO.out kr.size (by omega) k
        obtain ⟨a8, c8, e8, hce8, hob8, -⟩ := own_slice hO7
        injection e8 with e81 _ e83
        subst e81 e83
        obtain ⟨gb, egb, -⟩ := hce8 0 _ (pvs_get (L := A ++ [k]) (by simp))
        subst egb
        have hgb : w.heap.size ≤ gb := owns_baseT hO7 gb rfl
        have K7 : Keeps (fun _ => False) w W7 := kr.trans' k7 (fun _ _ e => e) (fun i hi e => by have := owns_baseT HO.out i e; omega)
        have HO7 : Hid (W7.ownsRow w.heap.size 3 1 (.slice (some ⟨gb, 0, none⟩) (M + 1) c7) (M + 1) (pvs (mlP A A.length k))) := by rw [mlP_all]; exact hO7
        clear hO7 hce8 hob8 k7
        have hw7 : IntKind.i64.wrap ((M : Int) + 1 - 1) = (M : Int) := by rw [IntKind.wrap_i64]; omega
        go_wp2_with (at_builtin; refine wpList_append_tL rfl _ _ _ rfl _ _ _ W7 rfl rfl hr7 ?_; clear hr7)
        go_loopg [5] M (fun q iv Wx => iv = .int .i64 (q : Int) ∧ q ≤ M ∧ Wx.ownsRow w.heap.size 3 1 (.slice (some ⟨gb, 0, none⟩) (M + 1) c7) (M + 1) (pvs (mlP A q k)) ∧ (∀ y ∈ A.drop q, x < ptOf l y) ∧ Keeps (fun i => i = gb) W7 Wx)
        case atStart => exact ⟨by go_num, Nat.le_refl _, by rw [HM.out]; rw [HM.out] at HO7; exact HO7.out, fun y hy => by rw [HM.out] at hy; simp at hy, Keeps.refl _ _⟩
        case round =>
          obtain ⟨rfl, hq, hOx, hdr, kx⟩ := hrel
          have HOX : Hid (wr.ownsRow w.heap.size 3 1 (.slice (some ⟨gb, 0, none⟩) (M + 1) c7) (M + 1) (pvs (mlP A gk k))) := hOx
          have HDR : Hid (∀ y ∈ A.drop gk, x < ptOf l y) := hdr
          clear hOx hdr
          have Kw : Keeps (fun _ => False) w wr := K7.trans' kx (fun _ _ e => e) (fun i hi e => by have e : i = gb := e; omega)
          haveI : Nonempty (KS wr) := ⟨⟨wr, Keeps.refl _ _⟩⟩
          cases gk with
          | zero =>
            have HINS : Hid (insP (ptOf l) A k = mlP A 0 k) := insP_at (ptOf l) (Nat.zero_le _) (fun y hy => by simp at hy) (fun y hy => by rw [← HX.out]; exact HDR.out y hy)
            go_wp2_with fail
            refine wp_region_ks (by kernel_rfl) (by kernel_rfl) ?_
            (repeat (first | go_big_quiet_skip | go_big_quiet_step (fail)))
            refine wpQuiet_nil ?_
            rintro _ ⟨u, rfl⟩
            have ku := u.property
            generalize u.val = wu at *
            go_wp2
            go_roundg g
            case measure => omega
            case rel => exact ⟨k + 1, by omega, by go_num, by rw [HE.out, HINS.out, mlP_len, ← HM.out]; exact ku.owns HOX.out (fun _ _ e => e), Kw.trans ku⟩
          | succ q =>
            have hqA : q < A.length := by rw [← HM.out]; omega
            have q1 : decide (((q + 1 : Nat) : Int) > 0) = true := decide_eq_true (by omega)
            have q2 : decide ((0 : Int) < (q : Int) + 1) = true := decide_eq_true (by omega)
            have q3 : decide ((q : Int) + 1 > 0) = true := decide_eq_true (by omega)
            have q4 : (q : Int) + 1 < (M : Int) + 1 := by omega
            have q5 : (q : Int) < (M : Int) + 1 := by omega
            have q6 : (0 : Int) ≤ (q : Int) + 1 := by omega
            have hwq : IntKind.i64.wrap ((q : Int) + 1 - 1) = (q : Int) := by rw [IntKind.wrap_i64]; omega
            have hcl := own_clL HOX.out
            have e1 : wr.cell? ⟨gb, q + 1, none⟩ = some (.int .i64 (k : Int)) := by
              have := hcl.c (q + 1) _ (pvs_get (by rw [mlP_len]; omega))
              rw [mlP_at (by omega)] at this
              exact this
            have e2 : wr.cell? ⟨gb, q, none⟩ = some (.int .i64 ((A.getD q 0 : Nat) : Int)) := by
              have := hcl.c q _ (pvs_get (by rw [mlP_len]; omega))
              rw [mlP_before hqA] at this
              exact this
            have HYK : Hid (A.getD q 0 < k) := HIN.out _ (getD_mem hqA)
            obtain ⟨b', off', eb, hcy⟩ := HL.out (A.getD q 0) (by rw [HN.out]; have := HYK.out; omega)
            injection eb with eb
            injection eb with eb1 eb2 _
            subst eb1 eb2
            have e3 : wr.cell? ⟨b, off + A.getD q 0 * 8 + 6, none⟩ = some (.int .i64 (ptOf l (A.getD q 0))) := Kw.cell (hcy 6 _ rfl) (fun e => e)
            obtain ⟨b'', off'', eb, hck⟩ := HL.out k (by rw [HN.out]; omega)
            injection eb with eb
            injection eb with eb1 eb2 _
            subst eb1 eb2
            have e4 : wr.cell? ⟨b, off + k * 8 + 6, none⟩ = some (.int .i64 x) := by rw [HX.out]; exact Kw.cell (hck 6 _ rfl) (fun e => e)
            have HSW : Hid (((mlP A (q + 1) k).set (q + 1) (A.getD q 0)).set q k = mlP A q k) := mlP_swap hqA
            have HDN : Hid (x < ptOf l (A.getD q 0) → ∀ y ∈ A.drop q, x < ptOf l y) := fun h y hy => by
              rw [List.drop_eq_getElem_cons hqA] at hy
              rcases List.mem_cons.1 hy with e | hy
              · rw [e]
                rw [List.getD_eq_getElem?_getD, List.getElem?_eq_getElem hqA] at h
                exact h
              · exact HDR.out y hy
            have HINS : Hid (¬ x < ptOf l (A.getD q 0) → insP (ptOf l) A k = mlP A (q + 1) k) := fun h => insP_at (ptOf l) (by omega) (fun y hy => by
              rw [← HX.out]
              rw [take_nextP hqA] at hy
              rcases List.mem_append.1 hy with hy | hy
              · have hs := HSO.out
                rw [← List.take_append_drop (q + 1) A, take_nextP hqA] at hs
                have := (List.pairwise_append.1 (List.pairwise_append.1 hs).1).2.2 y hy (A.getD q 0) (by simp)
                omega
              · simp at hy
                rw [hy]
                have e : A.getD q 0 = A[q]?.getD 0 := List.getD_eq_getElem?_getD ..
                rw [← e]
                exact h) (fun y hy => by rw [← HX.out]; exact HDR.out y hy)
            have hMLl : q + 1 < (mlP A (q + 1) k).length := by rw [mlP_len]; omega
            have HML : Hid (q + 1 < (mlP A (q + 1) k).length) := hMLl
            clear hcl hcy hck hMLl
            obtain ⟨y, hy⟩ : ∃ y, y = A.getD q 0 := ⟨_, rfl⟩
            rw [← hy] at e2 e3 HYK HSW HDN HINS
            clear hy
            obtain ⟨py, hpy⟩ : ∃ py, py = ptOf l y := ⟨_, rfl⟩
            rw [← hpy] at e3 HDN HINS
            clear hpy
            have hyk : y < k := HYK.out
            have y1 : (y : Int) < (N : Int) := by omega
            have p1 := ks_cell e1
            have p2 := ks_cell e2
            have p3 := ks_cell e3
            have p4 := ks_cell e4
            go_wp2_with fail
            refine wp_region_ks (by kernel_rfl) (by kernel_rfl) ?_
            (repeat (first | go_big_quiet_skip | go_big_quiet_step (fail)))
            refine wpQuiet_nil ?_
            rintro _ ⟨u, rfl⟩
            have ku := u.property
            have e1u := p1 u
            have e2u := p2 u
            have HOU : Hid (u.val.ownsRow w.heap.size 3 1 (.slice (some ⟨gb, 0, none⟩) (M + 1) c7) (M + 1) (pvs (mlP A (q + 1) k))) := ku.owns HOX.out (fun _ _ e => e)
            clear p1 p2 p3 p4
            generalize u.val = wu at *
            generalize hdB : decide (x < py) = dB
            cases dB with
            | true =>
              have HDX : Hid (∀ y ∈ A.drop q, x < ptOf l y) := HDN.out (of_decide_eq_true hdB)
              clear hdB HDN HINS
              go_wp2_with (first | (refine wpList_store_row rfl rfl _ _ rfl gb (q + 1) rfl y rfl HOU.out HML.out ?_; intro w8 hO8 k8; have HO8 : Hid (w8.ownsRow w.heap.size 3 1 (.slice (some ⟨gb, 0, none⟩) (M + 1) c7) (M + 1) (pvs ((mlP A (q + 1) k).set (q + 1) y))) := hO8; clear hO8) | (refine wpList_store_row rfl rfl _ _ rfl gb q rfl k rfl HO8.out (by rw [List.length_set]; have := HML.out; omega) ?_; intro w9 hO9 k9))
              go_roundg q
              case measure => omega
              case rel => exact ⟨by go_num, by omega, by rw [← HSW.out]; exact hO9, HDX.out, ((kx.trans' ku (U := fun i => i = gb) (fun _ _ e => e) (fun _ _ e => e.elim)).trans' k8 (U := fun i => i = gb) (fun _ _ e => e) (fun _ _ e => e)).trans' k9 (fun _ _ e => e) (fun _ _ e => e)⟩
            | false =>
              have HII : Hid (insP (ptOf l) A k = mlP A (q + 1) k) := HINS.out (by have := of_decide_eq_false hdB; omega)
              clear hdB HDN HINS
              go_wp2
              go_roundg g
              case measure => omega
              case rel => exact ⟨k + 1, by omega, by go_num, by rw [HE.out, HII.out, mlP_len, ← HM.out]; exact HOU.out, Kw.trans ku⟩
end Go.Proofs.Ytlglhmmlebjidaa
