import Derived.Test.YtchbhmolnoggfaaGreatDoorG03
import Derived.ScopeJumps
import Derived.Defers
import Derived.Recover
namespace Go.Proofs.YtchbhmolnoggfaaGreatDoor
open Go.RowKit Go.Deep Go.ChangeShapes Go.WideShapes Go.ChangeAt
attribute [local go_sem] Oper.semAt_some run_store_nf run_store_f
theorem wpList_append_run' {P : Program} {w : World} {ops : Array Oper} {rest : List Oper} {o : Oper} {a : Act} {Q : Exit → Act → World → Prop} (hgd : o.guard = none) (s x : Operand) (t : TypeId)
    (ho : o.op = .call { callee := .builtin .append, args := #[s, x], argTypes := #[t, t] }) (v src v' : Value) (w' : World) (hs : a.eval s = v) (hx : a.eval x = src)
    (hr : (Builtin.append_ #[t, t] o.type #[v, src]).run P w = .ok v' w') (h : wpList P ops Q rest (a.put o.dst v') w') : wpList P ops Q (o :: rest) a w :=
  wpList_plain hgd fun K hK => by
    unfold Oper.wp execOp
    simp only [ho, resolve, invoke, builtin, Sem.run_bind, Sem.run_pure, Result.andThen_ok, List.map_toArray, List.map_cons, List.map_nil, hs, hx, hr]
    exact hK _ _ h
theorem qI : Tryz.prog.underlying 70 = some (.slice 73) := by kernel_rfl
theorem qI0 : (Tryz.prog.info? 73).map (fun i => (i.zero, i.size, i.bytes)) = some (some (.agg #[.string ⟨#[]⟩, .int .i64 0, .int .i64 0]), 3, 32) := by kernel_rfl
theorem qIi : ∃ i, Tryz.prog.info? 73 = some i ∧ i.zero = some (.agg #[.string ⟨#[]⟩, .int .i64 0, .int .i64 0]) ∧ i.size = 3 ∧ i.bytes = 32 := by
  have h := qI0
  cases hq : Tryz.prog.info? 73 with
  | none => rw [hq] at h; cases h
  | some i =>
    rw [hq] at h
    injection h with h
    injection h with h1 h2
    injection h2 with h2 h3
    exact ⟨i, rfl, h1, h2, h3⟩
def pcl (l : List Pc) : List Value := l.flatMap Pc.cells
theorem append_p {W : World} {base k : Nat} {v : Value} {ps : List Pc} (hown : W.ownsRow base 73 3 v k (pcl ps)) (hb : base ≤ W.heap.size) (hk : (k + 1) * 32 ≤ 140737488355328) (p : Pc) :
    ∃ v' w', (Builtin.append_ #[70, 70] 70 #[v, .slice (some ⟨W.heap.size, 0, none⟩) 1 1]).run Tryz.prog (W.alloc (.cells #[.string p.t, .int .i64 p.ln, .int .i64 p.col] 73)) = .ok v' w' ∧ w'.ownsRow base 73 3 v' (k + 1) (pcl (ps ++ [p])) ∧ Keeps (fun i => v.ownBlock = some i) W w' := by
  obtain ⟨i0, hi0, hz0, hz1, hz2⟩ := qIi
  obtain ⟨v', w', hr, ho, hg, _, _⟩ := run_append_own_at (P := Tryz.prog) (w := W.alloc (.cells p.cells.toArray 73)) base 70 70 73 i0 _ 3 32 qI hi0 hz0 hz1 hz2 rfl (by decide) v k (pcl ps) (((Keeps.refl (fun _ => False) W).alloc _).owns hown (fun _ _ e => e)) ⟨W.heap.size, 0, none⟩ 1 1 p.cells rfl (fun j u hu => by
      rw [add_at]
      have := (CL.made W p.cells 73).c j u hu
      simpa using this) (fun u hu => by
      simp [Pc.cells] at hu
      rcases hu with rfl | rfl | rfl <;> rfl) (by unfold maxLen; omega) (by omega) (Nat.le_trans hb (by simp))
  refine ⟨v', w', hr, ?_, ((Keeps.refl _ W).alloc _).grown hg (fun i _ e => e)⟩
  unfold pcl
  rw [List.flatMap_append]
  simpa [pcl] using ho
theorem pcl_get : ∀ (l : List Pc) (i j : Nat) (p : Pc) (v : Value), l[i]? = some p → p.cells[j]? = some v → (pcl l)[i * 3 + j]? = some v
  | [], _, _, _, _, h, _ => by simp at h
  | q :: l, 0, j, p, v, h, hv => by
    have h : q = p := by simpa using h
    subst h
    have hj : j < q.cells.length := (List.getElem?_eq_some_iff.1 hv).1
    show (q.cells ++ l.flatMap Pc.cells)[0 * 3 + j]? = some v
    rw [Nat.zero_mul, Nat.zero_add, List.getElem?_append_left hj]; exact hv
  | q :: l, i + 1, j, p, v, h, hv => by
    have h' : l[i]? = some p := by simpa using h
    show (q.cells ++ l.flatMap Pc.cells)[(i + 1) * 3 + j]? = some v
    rw [List.getElem?_append_right (by show 3 ≤ _; omega), show (i + 1) * 3 + j - q.cells.length = i * 3 + j by show (i + 1) * 3 + j - 3 = _; omega]
    exact pcl_get l i j p v h' hv
theorem pcl_of_owns {W : World} {base n : Nat} {v : Value} {l : List Pc} (h : W.ownsRow base 73 3 v n (pcl l)) (hn : l.length = n) : ∃ a cap, v = .slice a n cap ∧ PCL W a l := by
  rcases h.2 with ⟨rfl, h0⟩ | ⟨g, cap, cur, rfl, _⟩
  · have hz : n = 0 := by first | exact h0.1 | omega
    subst hz
    exact ⟨none, 0, rfl, fun i p hi => by have := (List.getElem?_eq_some_iff.1 hi).1; omega⟩
  · refine ⟨_, cap, rfl, fun i p hi => ⟨g, 0, rfl, fun j v hv => ?_⟩⟩
    have e := pcl_get l i j p v hi hv
    have hc := h.cells (g := g) rfl (i * 3 + j) v e
    rw [add_at] at hc
    rw [Nat.zero_add] at hc ⊢
    exact hc
def blk (c : UInt8) : Bool := c.toNat == 32 || c.toNat == 9
def stp (s : ByteArray) : Nat → Nat → Nat
  | 0, i => i
  | n + 1, i => if blk (s.data.toList.getD i 0) = true then i else stp s n (i + 1)
def wdf (s : ByteArray) (num : Int) : Nat → Nat → List Pc
  | 0, _ => []
  | n + 1, i => if i < s.size then (if i < stp s (s.size - i) i then [⟨s.extract i (stp s (s.size - i) i), num, (i : Int) + 1⟩] else []) ++ wdf s num n (stp s (s.size - i) i + 1) else []
theorem stp_ge (s : ByteArray) : ∀ n i, i ≤ stp s n i ∧ stp s n i ≤ i + n
  | 0, i => ⟨Nat.le_refl _, Nat.le_refl _⟩
  | n + 1, i => by
    unfold stp
    split
    · exact ⟨Nat.le_refl _, by omega⟩
    · have := stp_ge s n (i + 1); omega
theorem wdf_len (s : ByteArray) (num : Int) : ∀ n i, (wdf s num n i).length ≤ n
  | 0, i => Nat.le_refl _
  | n + 1, i => by
    unfold wdf
    split
    · have := wdf_len s num n (stp s (s.size - i) i + 1)
      rw [List.length_append]
      split <;> simp <;> omega
    · simp
theorem wdf_sz (s : ByteArray) (num : Int) : ∀ n i, ∀ p ∈ wdf s num n i, p.t.size ≤ s.size
  | 0, i => fun p hp => by cases hp
  | n + 1, i => by
    intro p hp
    unfold wdf at hp
    split at hp
    · rcases List.mem_append.1 hp with hp | hp
      · split at hp
        · have hp : p = ⟨s.extract i (stp s (s.size - i) i), num, (i : Int) + 1⟩ := by simpa using hp
          rw [hp]
          show (s.extract i (stp s (s.size - i) i)).size ≤ s.size
          rw [ByteArray.size_extract]
          omega
        · cases hp
      · exact wdf_sz s num n _ p hp
    · cases hp
def bare (s : ByteArray) : ByteArray := ⟨(Lib.cut s.data.toList [35]).1.toArray⟩
def wds (s : ByteArray) (num : Int) : List Pc := wdf (bare s) num ((bare s).size + 1) 0
theorem bare_size (s : ByteArray) : (bare s).size ≤ s.size := by
  show ((Lib.cut s.data.toList [35]).1.toArray).size ≤ s.data.size
  unfold Lib.cut
  split
  · simp
    omega
  · simp
theorem getD_of (s : ByteArray) (i : Nat) (h : i < s.size) : s.data.toList.getD i 0 = s[i] := by
  rw [List.getD_eq_getElem?_getD, List.getElem?_eq_getElem (by simpa using h)]
  rfl
set_option maxHeartbeats 1000000 in
set_option maxRecDepth 1000000 in
theorem cut_any {w : World} (s : ByteArray) (num : Int) (hs : s.size ≤ 4096) (hT : PT w) : Calls Tryz.prog 19 #[.string s, .int .i64 num] w fun e w' => ∃ v, e = .returned v ∧ w'.ownsRow w.heap.size 73 3 v (wds s num).length (pcl (wds s num)) ∧ Keeps (fun _ => False) w w' := by
  obtain ⟨mx, hmx⟩ := hT.mx
  have hC : Calls Tryz.prog 29 #[.string s, .string ⟨#[35]⟩] w fun e w' => e = .returned (.tuple #[.string (bare s), .string ⟨(Lib.cut s.data.toList [35]).2.1.toArray⟩, .bool (Lib.cut s.data.toList [35]).2.2]) ∧ ∃ n, w' = w.drewN n := Tryz.strings_Cut s ⟨#[35]⟩ mx w (by omega) hmx
  have hb4 : (bare s).size ≤ 4096 := by have := bare_size s; omega
  unfold wds
  generalize (Lib.cut s.data.toList [35]).2.1.toArray = x1 at *
  generalize (Lib.cut s.data.toList [35]).2.2 = x2 at *
  generalize hWD : wdf (bare s) num ((bare s).size + 1) 0 = WD at *
  have HWD : Hid (_ = _) := hWD
  clear hWD
  generalize bare s = z at *
  go_enter Tryz.func19, Tryz.ntmps19
  go_wp2_with (go_at_call 29; refine hC.mono ?_; rintro e w1 ⟨rfl, n1, e1⟩; have k1 : Keeps (fun _ => False) w w1 := (by rw [e1]; exact (Keeps.refl _ w).drewN n1); clear e1 hC)
  go_loopw [5, 6] (fun v iv Wr => ∃ (i n : Nat) (acc : List Pc), iv = .int .i64 (i : Int) ∧ i ≤ z.size + 1 ∧ z.size + 1 ≤ n + i ∧ acc.length ≤ i ∧ acc ++ wdf z num n i = WD ∧ Wr.ownsRow w.heap.size 73 3 v acc.length (pcl acc) ∧ Keeps (fun _ => False) w Wr) (fun _ iv _ => z.size + 1 - (intOf iv).toNat)
  case atStart => exact ⟨0, z.size + 1, [], rfl, Nat.zero_le _, by omega, Nat.le_refl _, HWD.out, World.ownsRow_nil _ _ _ _, k1⟩
  case round =>
    obtain ⟨i, n, acc, rfl, hi, hn, hal, hac, hown, kr⟩ := hrel
    by_cases hlt : i < z.size
    · have hltI : decide ((i : Int) < (z.size : Int)) = true := by simp; omega
      have hltJ : (i : Int) < (z.size : Int) := by omega
      obtain ⟨n, rfl⟩ : ∃ m, n = m + 1 := ⟨n - 1, by omega⟩
      have HAC : Hid (_ = _) := hac
      clear hac
      generalize hE : stp z (z.size - i) i = E at *
      have hEb := stp_ge z (z.size - i) i
      rw [hE] at hEb
      have HE : Hid (_ = _) := hE
      clear hE
      go_wp2_with fail
      go_loop [6] (fun jv => ∃ j : Nat, jv = .int .i64 (j : Int) ∧ i ≤ j ∧ j ≤ z.size ∧ stp z (z.size - j) j = E) (fun jv => z.size - (intOf jv).toNat)
      case atStart => exact ⟨i, rfl, Nat.le_refl _, by omega, HE.out⟩
      case round =>
        obtain ⟨j, rfl, hij, hjz, hst⟩ := hrel
        have HST : Hid (_ = _) := hst
        clear hst
        have fin : j = E → Hid (j = E ∧ WD = (acc ++ (if i < E then [⟨z.extract i E, num, (i : Int) + 1⟩] else [])) ++ wdf z num n (E + 1)) := fun e => by
          refine ⟨e, ?_⟩
          rw [← HAC.out]
          show acc ++ (if i < z.size then _ else _) = _
          rw [if_pos hlt, HE.out, List.append_assoc]
        by_cases hj : j < z.size
        · have e1 : z.size - j = (z.size - (j + 1)) + 1 := by omega
          have hjI : decide ((j : Int) < (z.size : Int)) = true := by simp; omega
          have hjJ : (j : Int) < (z.size : Int) := by omega
          have hj0 : (0 : Int) ≤ (j : Int) := by omega
          have hgd := getD_of z j hj
          by_cases hb : blk z[j] = true
          · have hjE : j = E := by
              have := HST.out
              rw [e1] at this
              unfold stp at this
              rw [hgd, if_pos hb] at this
              exact this
            have HF := fin hjE
            clear hjE
            clear fin e1 hgd
            have hb' : z[j].toNat = 32 ∨ z[j].toNat = 9 := by unfold blk at hb; simpa using hb
            have bb : ((z[j].toNat : Int) != 32 && (z[j].toNat : Int) != 9) = false := by
              rcases hb' with e | e <;> rw [e] <;> rfl
            clear hb
            rcases hb' with e32 | e9
            · have p1 : (z[j].toNat : Int) = 32 := by omega
              obtain ⟨rfl, hWD⟩ := HF.out
              have HW2 : Hid (WD = _) := hWD
              clear hWD HF
              by_cases hiE : i < j
              · have hgt : decide ((i : Int) < (j : Int)) = true := by simp; omega
                have hgt' : (i : Int) < (j : Int) := by omega
                have hle' : (i : Int) ≤ (j : Int) := by omega
                have hi0 : (0 : Int) ≤ (i : Int) := by omega
                have hjz' : (j : Int) ≤ (z.size : Int) := by omega
                obtain ⟨v', w', hr, ho, kk⟩ := append_p hown kr.size (by omega) ⟨z.extract i j, num, (i : Int) + 1⟩
                have kk' := kr.trans' kk (fun _ _ e => e) (fun g hg e => by have := owns_base hown g e; omega)
                simp only at hr
                have HO := ho
                clear ho kk
                go_wp2_with (at_builtin; refine wpList_append_run' rfl _ _ _ rfl _ _ _ w' rfl rfl hr ?_; clear hr)
                go_roundw
                case rel => exact ⟨j + 1, n, acc ++ [⟨z.extract i j, num, (i : Int) + 1⟩], by go_num, by omega, by omega, by simp; omega, by rw [HW2.out, if_pos hiE], by rw [List.length_append]; exact HO, kk'⟩
                case measure => simp [intOf]; omega
              · have hgt : decide ((i : Int) < (j : Int)) = false := by simp; omega
                have hgt' : ¬ (i : Int) < (j : Int) := by omega
                go_wp2_with fail
                go_roundw
                case rel => exact ⟨j + 1, n, acc, by go_num, by omega, by omega, by omega, by rw [HW2.out, if_neg hiE, List.append_nil], hown, kr⟩
                case measure => simp [intOf]; omega
            · have p1 : ¬ (z[j].toNat : Int) = 32 := by omega
              have p2 : (z[j].toNat : Int) = 9 := by omega
              have b1 : ((z[j].toNat : Int) != 32) = true := by simpa using p1
              obtain ⟨rfl, hWD⟩ := HF.out
              have HW2 : Hid (WD = _) := hWD
              clear hWD HF
              by_cases hiE : i < j
              · have hgt : decide ((i : Int) < (j : Int)) = true := by simp; omega
                have hgt' : (i : Int) < (j : Int) := by omega
                have hle' : (i : Int) ≤ (j : Int) := by omega
                have hi0 : (0 : Int) ≤ (i : Int) := by omega
                have hjz' : (j : Int) ≤ (z.size : Int) := by omega
                obtain ⟨v', w', hr, ho, kk⟩ := append_p hown kr.size (by omega) ⟨z.extract i j, num, (i : Int) + 1⟩
                have kk' := kr.trans' kk (fun _ _ e => e) (fun g hg e => by have := owns_base hown g e; omega)
                simp only at hr
                have HO := ho
                clear ho kk
                go_wp2_with (at_builtin; refine wpList_append_run' rfl _ _ _ rfl _ _ _ w' rfl rfl hr ?_; clear hr)
                go_roundw
                case rel => exact ⟨j + 1, n, acc ++ [⟨z.extract i j, num, (i : Int) + 1⟩], by go_num, by omega, by omega, by simp; omega, by rw [HW2.out, if_pos hiE], by rw [List.length_append]; exact HO, kk'⟩
                case measure => simp [intOf]; omega
              · have hgt : decide ((i : Int) < (j : Int)) = false := by simp; omega
                have hgt' : ¬ (i : Int) < (j : Int) := by omega
                go_wp2_with fail
                go_roundw
                case rel => exact ⟨j + 1, n, acc, by go_num, by omega, by omega, by omega, by rw [HW2.out, if_neg hiE, List.append_nil], hown, kr⟩
                case measure => simp [intOf]; omega
          · have hnx : Hid (stp z (z.size - (j + 1)) (j + 1) = E) := by
              have := HST.out
              rw [e1] at this
              unfold stp at this
              rw [hgd, if_neg hb] at this
              exact this
            unfold blk at hb
            simp only [Bool.or_eq_true, beq_iff_eq, not_or] at hb
            have p1 : ¬ (z[j].toNat : Int) = 32 := by omega
            have p2 : ¬ (z[j].toNat : Int) = 9 := by omega
            have b1 : ((z[j].toNat : Int) != 32) = true := by simpa using p1
            have b2 : ((z[j].toNat : Int) != 9) = true := by simpa using p2
            clear fin e1 hgd hb
            go_wp2_with fail
            go_round
            case rel => exact ⟨j + 1, by go_num, by omega, by omega, hnx.out⟩
            case measure => simp [intOf]; omega
        · obtain rfl : j = z.size := by omega
          have hjE : z.size = E := by
            have := HST.out
            rw [Nat.sub_self] at this
            exact this
          have HF := fin hjE
          clear hjE
          have hjI : decide ((z.size : Int) < (z.size : Int)) = false := by simp
          clear fin
          obtain ⟨rfl, hWD⟩ := HF.out
          have HW2 : Hid (WD = _) := hWD
          clear hWD HF
          by_cases hiE : i < z.size
          · have hgt : decide ((i : Int) < (z.size : Int)) = true := by simp; omega
            have hgt' : (i : Int) < (z.size : Int) := by omega
            have hle' : (i : Int) ≤ (z.size : Int) := by omega
            have hi0 : (0 : Int) ≤ (i : Int) := by omega
            have hjz' : (z.size : Int) ≤ (z.size : Int) := Int.le_refl _
            obtain ⟨v', w', hr, ho, kk⟩ := append_p hown kr.size (by omega) ⟨z.extract i z.size, num, (i : Int) + 1⟩
            have kk' := kr.trans' kk (fun _ _ e => e) (fun g hg e => by have := owns_base hown g e; omega)
            simp only at hr
            have HO := ho
            clear ho kk
            go_wp2_with (at_builtin; refine wpList_append_run' rfl _ _ _ rfl _ _ _ w' rfl rfl hr ?_; clear hr)
            go_roundw
            case rel => exact ⟨z.size + 1, n, acc ++ [⟨z.extract i z.size, num, (i : Int) + 1⟩], by go_num, by omega, by omega, by simp; omega, by rw [HW2.out, if_pos hiE], by rw [List.length_append]; exact HO, kk'⟩
            case measure => simp [intOf]; omega
          · exact absurd hlt hiE
    · have hltI : decide ((i : Int) < (z.size : Int)) = false := by simp; omega
      have hl : ¬ (i : Int) < (z.size : Int) := by omega
      have e0 : wdf z num n i = [] := by
        cases n with
        | zero => rfl
        | succ n => unfold wdf; rw [if_neg hlt]
      rw [e0, List.append_nil] at hac
      subst hac
      go_wp2_with fail
      go_ret
      exact ⟨_, rfl, hown, kr⟩
end Go.Proofs.YtchbhmolnoggfaaGreatDoor

namespace Go.Proofs.YtchbhmolnoggfaaGreatDoor
open Go.RowKit Go.Deep Go.ChangeShapes Go.WideShapes Go.ChangeAt
attribute [local go_sem] Oper.semAt_some run_store_nf run_store_f
def lns (s : ByteArray) : List ByteArray := Lib.splitB ⟨#[10]⟩ 0 (Lib.countB s ⟨#[10]⟩) s
def rd : List ByteArray → Nat → List Ins → Option (List Ins)
  | [], _, acc => some acc
  | l :: ls, i, acc => match wds l ((i : Int) + 1) with
    | [] => rd ls (i + 1) acc
    | p :: r => if Lib.hasSuffix p.t.data.toList [58] = true then none else if acc.length < 64 then (inst (p :: r)).bind (fun q => rd ls (i + 1) (acc ++ [q])) else none
structure LNs (w : World) (X : Nat) (l : List ByteArray) : Prop where
  c : ∀ j s, l[j]? = some s → w.cell? ⟨X, j, none⟩ = some (.string s)
  t : ∃ cur x, w.heap[X]? = some (.cells cur 9 x)
theorem LNs.keep {w w' : World} {X : Nat} {l : List ByteArray} {S : Nat → Prop} (h : LNs w X l) (k : Keeps S w w') (hS : ¬ S X) : LNs w' X l := by
  obtain ⟨cur, x, ht⟩ := h.t
  refine ⟨fun j s e => k.cell (h.c j s e) hS, cur, x, ?_⟩
  rw [k.block X ?_ hS]; exact ht
  rcases Nat.lt_or_ge X w.heap.size with hl | hg
  · exact hl
  · rw [Array.getElem?_eq_none hg] at ht; cases ht
theorem LNs.made (w : World) (l : List ByteArray) : LNs (w.alloc (.cells (l.map Value.string).toArray 9)) w.heap.size l := by
  exact ⟨fun j s e => (CL.made w (l.map Value.string) 9).c j _ (by rw [List.getElem?_map, e]; rfl), (l.map Value.string).toArray, (0, 0), heap_alloc_new _ _⟩
theorem pcl_of_owns2 {W : World} {base n : Nat} {v : Value} {l : List Pc} (h : W.ownsRow base 73 3 v n (pcl l)) (hn : l.length = n) : ∃ a cap, v = .slice a n cap ∧ PCL W a l ∧ n ≤ cap ∧ cap ≤ 9223372036854775807 := by
  have h2 := h
  rcases h2.2 with ⟨rfl, h0⟩ | ⟨g, cap, cur, rfl, _, _, h3, h4, _⟩
  · obtain ⟨a, cap, e, hp⟩ := pcl_of_owns h hn
    injection e with e1 e2 e3
    subst e1 e3
    exact ⟨none, 0, by rw [e2], hp, by omega, by omega⟩
  · obtain ⟨a, cap', e, hp⟩ := pcl_of_owns h hn
    injection e with e1 e2 e3
    subst e1 e3
    exact ⟨_, cap, rfl, hp, h3, by unfold maxLen at h4; omega⟩
set_option maxHeartbeats 1000000 in
set_option maxRecDepth 1000000 in
theorem read_ok {w0 w : World} {R : Nat} {mv jv : Value} {l : List Ins} (s : ByteArray) (hs : s.size ≤ 4096) (hT : PT w0) (hNT : NT w0) (k0 : Keeps (fun _ => False) w0 w) (hI : RI w w0.heap.size R mv jv []) (hm : rd (lns s) 0 [] = some l) (hsz : ∀ x ∈ lns s, x.size ≤ 4096) : Calls Tryz.prog 11 #[.pointer (some ⟨R, 0, none⟩), .string s] w fun e w' => e = .returned (.tuple #[]) ∧ RI w' w0.heap.size R mv jv l ∧ Keeps (fun _ => False) w0 w' := by
  obtain ⟨mx, hmx⟩ := (hT.keep k0).mx
  have hlen : (lns s).length = Lib.countB s ⟨#[10]⟩ + 1 := Lib.splitB_all ⟨#[10]⟩ (by decide) 0 _ s rfl
  have hSp : Calls Tryz.prog 18 #[.string s, .string ⟨#[10]⟩] w fun e w' => e = .returned (.slice (some ⟨w.heap.size, 0, none⟩) (lns s).length (lns s).length) ∧ w' = w.alloc (.cells ((lns s).map Value.string).toArray 9) := by
    rw [hlen]
    exact Tryz.strings_Split s ⟨#[10]⟩ mx w (by omega) hmx (by decide)
  have hcl := Lib.countB_le ⟨#[10]⟩ (by decide) s.size s (Nat.le_refl _)
  have hl5 : (lns s).length ≤ 5000 := by omega
  clear hlen hcl
  generalize lns s = L at *
  have hLM := LNs.made w L
  have k1 : Keeps (fun _ => False) w0 (w.alloc (.cells (L.map Value.string).toArray 9)) := k0.alloc _
  have hI1 := hI.keep ((Keeps.refl _ w).alloc (.cells (L.map Value.string).toArray 9))
  obtain ⟨⟨cv, hCR, _⟩, _⟩ := hI
  have hRX : w.heap.size ≠ R := fun e => by have := hCR.lt (by show 0 < 3; decide); omega
  clear hCR
  generalize hX : w.heap.size = X at *
  clear hX
  go_enter Tryz.func11, Tryz.ntmps11
  go_wp2_with fail
  go_step3
  go_wp2_with fail
  go_step3
  go_wp2_with (go_at_call 18; refine hSp.mono ?_; clear hSp; rintro e w1 ⟨rfl, e1⟩; subst w1)
  generalize w.alloc (.cells (L.map Value.string).toArray 9) = wa at *
  go_loopg [14] L.length (fun g iv Wr => ∃ (k : Nat) (acc : List Ins), k + g = L.length ∧ iv = .int .i64 (k : Int) ∧ Hid (rd (L.drop k) k acc = some l) ∧ RI Wr w0.heap.size R mv jv acc ∧ LNs Wr X L ∧ Keeps (fun _ => False) w0 Wr)
  case atStart => exact ⟨0, [], by omega, rfl, hm, hI1, hLM, k1⟩
  case round =>
    obtain ⟨k, acc, hkg, rfl, HM, hR, hLn, kr⟩ := hrel
    clear hI1 hLM k1
    cases gk with
    | zero =>
      have hltI : decide ((k : Int) < (L.length : Int)) = false := by simp; omega
      have hl : ¬ (k : Int) < (L.length : Int) := by omega
      have hacc : acc = l := by
        have := HM.out
        rw [List.drop_eq_nil_of_le (by omega)] at this
        exact Option.some.inj this
      subst hacc
      go_wp2_with fail
      go_end0
      exact ⟨rfl, hR, kr⟩
    | succ g =>
      have hlt : k < L.length := by omega
      have hltI : decide ((k : Int) < (L.length : Int)) = true := by simp; omega
      have hltJ : (k : Int) < (L.length : Int) := by omega
      have hk0 : (0 : Int) ≤ (k : Int) := by omega
      obtain ⟨z, hz⟩ : ∃ z, L[k]? = some z := ⟨_, List.getElem?_eq_getElem hlt⟩
      have hzc := hLn.c k z hz
      have hzs := hsz z (List.mem_of_getElem? hz)
      have hdr : L.drop k = z :: L.drop (k + 1) := by
        obtain ⟨hk, e⟩ := List.getElem?_eq_some_iff.1 hz
        rw [List.drop_eq_getElem_cons hk, e]
      have hC := cut_any (w := wr) z ((k : Int) + 1) hzs (hT.keep kr)
      rw [hdr] at HM
      have HM2 : Hid ((match wds z ((k : Int) + 1) with | [] => rd (L.drop (k + 1)) (k + 1) acc | p :: r => if Lib.hasSuffix p.t.data.toList [58] = true then none else if acc.length < 64 then (inst (p :: r)).bind (fun q => rd (L.drop (k + 1)) (k + 1 + 0) (acc ++ [q])) else none) = some l) := HM
      clear HM hdr
      have hps := wdf_sz (bare z) ((k : Int) + 1) ((bare z).size + 1) 0
      have hps' : ∀ p ∈ wds z ((k : Int) + 1), p.t.size ≤ 4096 := fun p hp => by have := hps p hp; have := bare_size z; omega
      clear hps
      have hwl : (wds z ((k : Int) + 1)).length ≤ 5000 := by have := wdf_len (bare z) ((k : Int) + 1) ((bare z).size + 1) 0; have := bare_size z; unfold wds; omega
      generalize wds z ((k : Int) + 1) = ws at *
      go_wp2_with (go_at_call 19; refine hC.mono ?_; clear hC; rintro e w3 ⟨v, rfl, hown, k3⟩; obtain ⟨wa', wc, rfl, hpc, hwc⟩ := pcl_of_owns2 hown rfl)
      have hR3 := hR.keep k3
      have hLn3 := hLn.keep k3 (fun e => e)
      have K3 := kr.trans k3
      clear hR hLn hown hzc
      go_loopw [25] (fun iv Wr => iv = .int .i64 0 ∧ Wr = w3) (fun _ _ => 1)
      case atStart => exact ⟨rfl, rfl⟩
      case round =>
        obtain ⟨rfl, ew⟩ := hrel
        subst wr
        cases ws with
        | nil =>
          have HM3 : Hid (rd (L.drop (k + 1)) (k + 1) acc = some l) := HM2
          clear HM2
          go_wp2_with fail
          go_roundg g
          case measure => omega
          case rel => exact ⟨k + 1, acc, by omega, by go_num, HM3, hR3, hLn3, K3⟩
        | cons p r =>
          obtain ⟨pt, pl, pcol⟩ := p
          obtain ⟨b, off, rfl, hp0⟩ := hpc 0 _ rfl
          have hR0 : (loadVar 73 ⟨b, off, none⟩).run Tryz.prog w3 = .ok (.agg #[.string pt, .int .i64 pl, .int .i64 pcol]) w3 := run_pcAt (W := w3) (b := b) (o := off) (p := ⟨pt, pl, pcol⟩) (fun j v e => by have := hp0 j v e; rw [Nat.zero_mul, Nat.add_zero] at this; exact this)
          have hpsz : pt.size ≤ 4096 := hps' ⟨pt, pl, pcol⟩ (List.mem_cons_self ..)
          have hrsz : ∀ p ∈ r, p.t.size ≤ 4096 := fun p hp => hps' p (List.mem_cons_of_mem _ hp)
          have HM3 := HM2.out
          by_cases hsf : Lib.hasSuffix pt.data.toList [58] = true
          · exfalso
            have HM4 : (if Lib.hasSuffix pt.data.toList [58] = true then none else (if acc.length < 64 then (inst (⟨pt, pl, pcol⟩ :: r)).bind (fun q => rd (L.drop (k + 1)) (k + 1 + 0) (acc ++ [q])) else none : Option (List Ins))) = some l := HM3
            rw [if_pos hsf] at HM4; cases HM4
          · have HM4 : (if Lib.hasSuffix pt.data.toList [58] = true then none else (if acc.length < 64 then (inst (⟨pt, pl, pcol⟩ :: r)).bind (fun q => rd (L.drop (k + 1)) (k + 1 + 0) (acc ++ [q])) else none : Option (List Ins))) = some l := HM3
            rw [if_neg hsf] at HM4
            by_cases ha : acc.length < 64
            · rw [if_pos ha] at HM4
              obtain ⟨q, hq, hrd⟩ := Option.bind_eq_some_iff.1 HM4
              have HRD : Hid (rd (L.drop (k + 1)) (k + 1) (acc ++ [q]) = some l) := hrd
              clear HM4 HM3 HM2 hrd
              have hsf' : Lib.hasSuffix pt.data.toList [58] = false := by simpa using hsf
              have hCS : ∀ W, Calls Tryz.prog 20 #[.string pt, .string ⟨#[58]⟩] W fun e w' => e = .returned (.tuple #[.string ⟨(Lib.trimSuffix pt.data.toList [58]).toArray⟩, .bool false]) ∧ w' = W := fun W => by
                have h := Tryz.strings_CutSuffix pt ⟨#[58]⟩ W (by omega)
                have e1 : (⟨#[58]⟩ : ByteArray).data.toList = [58] := rfl
                rw [e1, hsf'] at h
                exact h
              generalize (⟨(Lib.trimSuffix pt.data.toList [58]).toArray⟩ : ByteArray) = tsx at *
              obtain ⟨W4, hW4⟩ : ∃ W4, W4 = w3.alloc (.cells #[.string pt, .int .i64 pl, .int .i64 pcol] 73) := ⟨_, rfl⟩
              have k4 : Keeps (fun _ => False) w3 W4 := by rw [hW4]; exact (Keeps.refl _ w3).alloc _
              have c4 : CL W4 w3.heap.size [.string pt, .int .i64 pl, .int .i64 pcol] := by rw [hW4]; exact CL.made w3 _ _
              have x0 := c4.c 0 _ rfl
              have K4 := K3.trans k4
              have hIns := instr_ok (w := W4) (cap := wc) (hT.keep K4) (hNT.keep K4) (hR3.keep k4) (K4.size) (hpc.keep k4) hrsz hq ha
              have hLn4 := hLn3.keep k4 (fun e => e)
              have h0l : decide ((0 : Int) < (r.length : Int) + 1) = true := by simp <;> omega
              have h0m : (0 : Int) < (r.length : Int) + 1 := by omega
              have hll : ((⟨pt, pl, pcol⟩ : Pc) :: r).length = r.length + 1 := rfl
              rw [hll] at hwc hwl ⊢
              have hcz : ¬ wc = 0 := by omega
              have HW4 : Hid (_ = _) := hW4
              clear hW4 hp0 hpc hps' hsf hq hsf' hwl
              go_wp2_with (first | (refine wpList_load_run rfl 73 _ rfl ⟨b, off, none⟩ rfl _ hR0 ?_; clear hR0) | (go_at_call 20; rw [← HW4.out]; refine (hCS _).mono ?_; clear hCS; rintro e w5 ⟨rfl, e5⟩; subst w5))
              refine hIns.mono ?_
              rintro e w5 ⟨rfl, hR5, k5⟩
              have hLn5 := hLn4.keep k5 (fun h => by
                rcases h.2 with h2 | ⟨cur, x, h2⟩
                · exact hRX h2
                · obtain ⟨cur', x', h3⟩ := hLn4.t
                  rw [h3] at h2
                  injection h2 with h2
                  injection h2 with _ h2 _
                  exact absurd h2 (by decide))
              have K5 : Keeps (fun _ => False) w0 w5 := K4.trans' k5 (fun _ _ e => e) (fun i hi h => by have := h.1; omega)
              clear hIns k5 hLn4
              go_wp2_with fail
              go_roundg g
              case measure => omega
              case rel => exact ⟨k + 1, acc ++ [q], by omega, by go_num, HRD, hR5, hLn5, K5⟩
            · rw [if_neg ha] at HM4; cases HM4
end Go.Proofs.YtchbhmolnoggfaaGreatDoor

namespace Go.Proofs.YtchbhmolnoggfaaGreatDoor
open Go.RowKit Go.Deep Go.ChangeShapes Go.WideShapes Go.ChangeAt
attribute [local go_sem] Oper.semAt_some run_store_nf run_store_f
theorem results_cell2y {fn : Func} {p q : Tmp} {ty ty2 : TypeId} (h : fn.results = #[.cell p ty, .cell q ty2]) (tmps : Array Value) (P : Program) (w : World) {a b : Addr} {v1 v2 : Value}
    (ha : tmps[p]?.getD undef = .pointer (some a)) (hb : tmps[q]?.getD undef = .pointer (some b)) (h1 : (loadVar ty a).run P w = .ok v1 w) (h2 : (loadVar ty2 b).run P w = .ok v2 w) : (results fn tmps).run P w = .ok (.tuple #[v1, v2]) w := by
  simp only [results, h]
  simp [Sem.run_bind, Result.andThen, asAddr, ha, hb, h1, h2]
set_option maxHeartbeats 800000 in
set_option maxRecDepth 1000000 in
theorem pcatch_idle (p q : Addr) (w : World) :
    CallsD Tryz.prog 9 #[.pointer (some p), .pointer (some q)] .returning w fun e u' w' => e = .returned (.tuple #[]) ∧ u' = .returning ∧ w' = w := by
  refine callsD_of_wpS Tryz.func9 rfl fun c₀ cs hu => ?_
  apply wpS_seq
  apply wpS_region
  simp [wpOpsS, go_sem, recoverD, hu, Tryz.ntmps9, Exit.thenS]
  apply wpS_seq
  apply wpS_region
  simp [wpOpsS, go_sem, Exit.thenS]
  refine wpS_cond (t := false) (by simp [Act.eval, Array.replicate]) ?_
  simp only [Bool.false_eq_true, if_false]
  refine wpS_of_wp (wp_skip ?_)
  cases c₀
  simp_all [bodyPostS, results, Tryz.results9]
theorem join_nil {w : World} {R : Nat} {cv mv : Value} (h : CL w R [cv, mv, .slice none 0 0]) : Calls Tryz.prog 12 #[.pointer (some ⟨R, 0, none⟩)] w fun e w' => e = .returned (.tuple #[]) ∧ w' = w := by
  have c2 := h.c 2 _ rfl
  clear h
  go_enter Tryz.func12, Tryz.ntmps12
  go_wp2
  go_loop [11] (fun iv => iv = .int .i64 0) (fun _ => 1)
  case atStart => rfl
  case round =>
    subst hrel
    go_wp2
    go_end0
    exact ⟨rfl, rfl⟩
set_option maxHeartbeats 800000 in
set_option maxRecDepth 1000000 in
theorem parse_ok {w : World} {l : List Ins} (s : ByteArray) (hs : s.size ≤ 4096) (hT : PT w) (hNT : NT w) (hm : rd (lns s) 0 [] = some l) (hsz : ∀ x ∈ lns s, x.size ≤ 4096) : Calls Tryz.prog 4 #[.string s] w fun e w' => ∃ v, e = .returned (.tuple #[v, .agg #[.int .i64 0, .int .i64 0, .int .i64 0]]) ∧ w'.ownsRow w.heap.size 65 11 v l.length (icl l) ∧ Keeps (fun _ => False) w w' := by
  have hmf : ∀ (fn : Fn) (first cap : Array Value) (w : World), (Instr.makeFunc fn first cap).run Tryz.prog w = .ok (.func fn first cap) w := fun _ _ _ _ => rfl
  have hmm := @run_makeMap Tryz.prog
  have hle : decide ((4096 : Int) < (s.size : Int)) = false := by simp; omega
  have hle' : ¬ (4096 : Int) < (s.size : Int) := by omega
  obtain ⟨w0, hw0⟩ : ∃ w0, w0 = (w.alloc (.cells #[.slice none 0 0] 22)).alloc (.cells #[.int .i64 0, .int .i64 0, .int .i64 0] 25) := ⟨_, rfl⟩
  have k0 : Keeps (fun _ => False) w w0 := by rw [hw0]; exact ks2 w _ _
  have c0 : CL w0 w.heap.size [.slice none 0 0] := by rw [hw0]; exact made1 w [.slice none 0 0] 22 _ (by show 0 < 1; decide)
  have c1 : CL w0 (w.heap.size + 1) [.int .i64 0, .int .i64 0, .int .i64 0] := by rw [hw0]; exact made2 w [.int .i64 0, .int .i64 0, .int .i64 0] 25 _
  have hz0 : w0.heap.size = w.heap.size + 1 + 1 := by rw [hw0]; simp
  obtain ⟨W4, hW4⟩ : ∃ W4, W4 = (w0.alloc (.map #[] 0)).alloc (.cells #[.slice none 0 0, .map (some (w.heap.size + 1 + 1)), .slice none 0 0] 41) := ⟨_, rfl⟩
  have k4 : Keeps (fun _ => False) w0 W4 := by rw [hW4]; exact ks2 w0 _ _
  have c4 : CL W4 (w.heap.size + 1 + 1 + 1) [.slice none 0 0, .map (some (w.heap.size + 1 + 1)), .slice none 0 0] := by
    rw [hW4, ← hz0]; exact made2 w0 [.slice none 0 0, .map (some w0.heap.size), .slice none 0 0] 41 _
  have hI : RI W4 w0.heap.size (w.heap.size + 1 + 1 + 1) (.map (some (w.heap.size + 1 + 1))) (.slice none 0 0) [] := ⟨⟨.slice none 0 0, c4, World.ownsRow_nil _ _ _ _, by intro e; cases e⟩, by omega⟩
  have hRd := read_ok (w0 := w0) (w := W4) s hs (hT.keep k0) (hNT.keep k0) k4 hI hm hsz
  rw [hw0] at hW4
  have HW4 : Hid (_ = _) := hW4
  clear hW4 hw0 hI hm hsz hT hNT c4 k4
  go_enter_defers Tryz.func4, Tryz.ntmps4
  go_wp2_with fail
  rw [← HW4.out]
  clear HW4
  refine hRd.mono ?_
  clear hRd
  rintro e w5 ⟨rfl, hI5, k5⟩
  obtain ⟨⟨cv, cR, hown, hnR⟩, hbR⟩ := hI5
  obtain ⟨a, cap, rfl, _⟩ := isl_of_owns hown rfl
  have hJ := join_nil cR
  have d0 := c0.keep (by show 0 < 1; decide) k5 (fun e => e)
  have d1 := c1.keep (by show 0 < 3; decide) k5 (fun e => e)
  have K5 := k0.trans k5
  clear c0 c1 k0 k5
  have hown' : w5.ownsRow w.heap.size 65 11 (.slice a l.length cap) l.length (icl l) := by
    refine ⟨hown.1, ?_⟩
    rcases hown.2 with h | ⟨g, cp, cur, h1, h2, h3⟩
    · exact .inl h
    · exact .inr ⟨g, cp, cur, h1, by omega, h3⟩
  have ob0 : Value.ownBlock (.slice a l.length cap) ≠ some w.heap.size := fun e => by have := owns_base hown _ e; omega
  have ob1 : Value.ownBlock (.slice a l.length cap) ≠ some (w.heap.size + 1) := fun e => by have := owns_base hown _ e; omega
  have r0 := cR.c 0 _ rfl
  have y0 := d0.c 0 _ rfl
  have yz := d0.z 0 (by show 0 < 1; decide)
  have f0 := d1.c 0 _ rfl
  have f1 := d1.c 1 _ rfl
  have f2 := d1.c 2 _ rfl
  have g0 := d1.z 0 (by show 0 < 3; decide)
  have g1 := d1.z 1 (by show 1 < 3; decide)
  have g2 := d1.z 2 (by show 2 < 3; decide)
  clear hz0 hown hbR hnR
  go_wp2_with (go_at_call 12; refine hJ.mono ?_; clear hJ; rintro e w6 ⟨rfl, e6⟩; subst w6)
  have n01 : w.heap.size + 1 ≠ w.heap.size := by omega
  have n10 : w.heap.size ≠ w.heap.size + 1 := by omega
  have e0 : CL ((((w5.setCell ⟨w.heap.size, 0, none⟩ (.slice a l.length cap)).setCell ⟨w.heap.size + 1, 0, none⟩ (.int .i64 0)).setCell ⟨w.heap.size + 1, 1, none⟩ (.int .i64 0)).setCell ⟨w.heap.size + 1, 2, none⟩ (.int .i64 0)) w.heap.size [.slice a l.length cap] := (((d0.set (o := 0) (by show 0 < 1; decide) (.slice a l.length cap)).other (p := ⟨w.heap.size + 1, 0, none⟩) n01 _).other (p := ⟨w.heap.size + 1, 1, none⟩) n01 _).other (p := ⟨w.heap.size + 1, 2, none⟩) n01 _
  have e1 : CL ((((w5.setCell ⟨w.heap.size, 0, none⟩ (.slice a l.length cap)).setCell ⟨w.heap.size + 1, 0, none⟩ (.int .i64 0)).setCell ⟨w.heap.size + 1, 1, none⟩ (.int .i64 0)).setCell ⟨w.heap.size + 1, 2, none⟩ (.int .i64 0)) (w.heap.size + 1) [.int .i64 0, .int .i64 0, .int .i64 0] := (((d1.other (p := ⟨w.heap.size, 0, none⟩) n10 (.slice a l.length cap)).set (o := 0) (by show 0 < 3; decide) (.int .i64 0)).set (o := 1) (by show 1 < 3; decide) (.int .i64 0)).set (o := 2) (by show 2 < 3; decide) (.int .i64 0)
  have kk : Keeps (fun k => k = w.heap.size ∨ k = w.heap.size + 1) w5 ((((w5.setCell ⟨w.heap.size, 0, none⟩ (.slice a l.length cap)).setCell ⟨w.heap.size + 1, 0, none⟩ (.int .i64 0)).setCell ⟨w.heap.size + 1, 1, none⟩ (.int .i64 0)).setCell ⟨w.heap.size + 1, 2, none⟩ (.int .i64 0)) := ((((Keeps.refl _ w5).setCell (p := ⟨w.heap.size, 0, none⟩) (fun _ => .inl rfl) _).setCell (p := ⟨w.heap.size + 1, 0, none⟩) (fun _ => .inr rfl) _).setCell (p := ⟨w.heap.size + 1, 1, none⟩) (fun _ => .inr rfl) _).setCell (p := ⟨w.heap.size + 1, 2, none⟩) (fun _ => .inr rfl) _
  generalize ((((w5.setCell ⟨w.heap.size, 0, none⟩ (.slice a l.length cap)).setCell ⟨w.heap.size + 1, 0, none⟩ (.int .i64 0)).setCell ⟨w.heap.size + 1, 1, none⟩ (.int .i64 0)).setCell ⟨w.heap.size + 1, 2, none⟩ (.int .i64 0)) = W6 at *
  have hown6 := kk.owns hown' (fun g hg e => e.elim (fun e => ob0 (e ▸ hg)) (fun e => ob1 (e ▸ hg)))
  have K6 : Keeps (fun _ => False) w W6 := K5.trans' kk (fun _ _ e => e) (fun i hi e => by omega)
  have x0 := e0.c 0 _ rfl
  have u0 := e1.c 0 _ rfl
  have u1 := e1.c 1 _ rfl
  have u2 := e1.c 2 _ rfl
  refine leaves_cons (f := 9) (args := #[.pointer (some ⟨w.heap.size, 0, none⟩), .pointer (some ⟨w.heap.size + 1, 0, none⟩)]) (by simp) (by simp [go_sem]) ?_
  refine (pcatch_idle _ _ _).mono ?_
  rintro e u' w'' ⟨rfl, rfl, e2⟩
  subst w''
  refine ⟨.tuple #[.slice a l.length cap, .agg #[.int .i64 0, .int .i64 0, .int .i64 0]], ?_, _, rfl, hown6, K6⟩
  refine results_cell2y Tryz.results4 _ _ _ (a := ⟨w.heap.size, 0, none⟩) (b := ⟨w.heap.size + 1, 0, none⟩) rfl rfl ?_ ?_
  · go_simp
  · go_simp
end Go.Proofs.YtchbhmolnoggfaaGreatDoor

