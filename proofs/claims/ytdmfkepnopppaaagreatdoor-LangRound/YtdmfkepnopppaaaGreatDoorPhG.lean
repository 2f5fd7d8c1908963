import Derived.Test.YtdmfkepnopppaaaGreatDoorPhF
namespace Go.Proofs.YtdmfkepnopppaaaGreatDoor
open Go.RowKit Go.Deep Go.ChangeShapes Go.WideShapes Go.ChangeAt
attribute [local go_sem] Oper.semAt_some run_store_nf run_store_f
theorem wpList_append_run' {P : Program} {w : World} {ops : Array Oper} {rest : List Oper} {o : Oper} {a : Act} {Q : Exit → Act → World → Prop} (hgd : o.guard = none) (s x : Operand) (t : TypeId)
    (ho : o.op = .call { callee := .builtin .append, args := #[s, x], argTypes := #[t, t] }) (v src v' : Value) (w' : World) (hs : a.eval s = v) (hx : a.eval x = src)
    (hr : (Builtin.append_ #[t, t] o.type #[v, src]).run P w = .ok v' w') (h : wpList P ops Q rest (a.put o.dst v') w') : wpList P ops Q (o :: rest) a w :=
  wpList_plain hgd fun K hK => by
    unfold Oper.wp execOp
    simp only [ho, resolve, invoke, builtin, Sem.run_bind, Sem.run_pure, Result.andThen_ok, List.map_toArray, List.map_cons, List.map_nil, hs, hx, hr]
    exact hK _ _ h
theorem qI : Tryz.prog.underlying 73 = some (.slice 76) := by kernel_rfl
theorem qI0 : (Tryz.prog.info? 76).map (fun i => (i.zero, i.size, i.bytes)) = some (some (.agg #[.string ⟨#[]⟩, .int .i64 0, .int .i64 0]), 3, 32) := by kernel_rfl
theorem qIi : ∃ i, Tryz.prog.info? 76 = some i ∧ i.zero = some (.agg #[.string ⟨#[]⟩, .int .i64 0, .int .i64 0]) ∧ i.size = 3 ∧ i.bytes = 32 := by
  have h := qI0
  cases hq : Tryz.prog.info? 76 with
  | none => rw [hq] at h; cases h
  | some i =>
    rw [hq] at h
    injection h with h
    injection h with h1 h2
    injection h2 with h2 h3
    exact ⟨i, rfl, h1, h2, h3⟩
/-- The cells of words. -/
def pcl (l : List Pc) : List Value := l.flatMap Pc.cells
theorem append_p {W : World} {base k : Nat} {v : Value} {ps : List Pc} (hown : W.ownsRow base 76 3 v k (pcl ps)) (hb : base ≤ W.heap.size) (hk : (k + 1) * 32 ≤ 140737488355328) (p : Pc) :
    ∃ v' w', (Builtin.append_ #[73, 73] 73 #[v, .slice (some ⟨W.heap.size, 0, none⟩) 1 1]).run Tryz.prog (W.alloc (.cells #[.string p.t, .int .i64 p.ln, .int .i64 p.col] 76)) = .ok v' w' ∧ w'.ownsRow base 76 3 v' (k + 1) (pcl (ps ++ [p])) ∧ Keeps (fun i => v.ownBlock = some i) W w' := by
  obtain ⟨i0, hi0, hz0, hz1, hz2⟩ := qIi
  obtain ⟨v', w', hr, ho, hg, _, _⟩ := run_append_own_at (P := Tryz.prog) (w := W.alloc (.cells p.cells.toArray 76)) base 73 73 76 i0 _ 3 32 qI hi0 hz0 hz1 hz2 rfl (by decide) v k (pcl ps) (((Keeps.refl (fun _ => False) W).alloc _).owns hown (fun _ _ e => e)) ⟨W.heap.size, 0, none⟩ 1 1 p.cells rfl (fun j u hu => by
      rw [add_at]
      have := (CL.made W p.cells 76).c j u hu
      simpa using this) (fun u hu => by
      simp [Pc.cells] at hu
      rcases hu with rfl | rfl | rfl <;> rfl) (by unfold maxLen; omega) (by omega) (Nat.le_trans hb (by simp))
  refine ⟨v', w', hr, ?_, ((Keeps.refl _ W).alloc _).grown hg (fun i _ e => e)⟩
  unfold pcl
  rw [List.flatMap_append]
  simpa [pcl] using ho
theorem pcl_get : ∀ (l : List Pc) (i j : Nat) (p : Pc) (v : Value), l[i]? = some p → p.cells[j]? = some v → (pcl l)[i * 3 + j]? = some v
  | [], _, _, _, _, h, _ => by simp at h
  | q :: l, 0, j, p, v, h, hv => by
    have h : q = p := by simpa using h
    subst h
    have hj : j < q.cells.length := (List.getElem?_eq_some_iff.1 hv).1
    show (q.cells ++ l.flatMap Pc.cells)[0 * 3 + j]? = some v
    rw [Nat.zero_mul, Nat.zero_add, List.getElem?_append_left hj]; exact hv
  | q :: l, i + 1, j, p, v, h, hv => by
    have h' : l[i]? = some p := by simpa using h
    show (q.cells ++ l.flatMap Pc.cells)[(i + 1) * 3 + j]? = some v
    rw [List.getElem?_append_right (by show 3 ≤ _; omega), show (i + 1) * 3 + j - q.cells.length = i * 3 + j by show (i + 1) * 3 + j - 3 = _; omega]
    exact pcl_get l i j p v h' hv
theorem pcl_of_owns {W : World} {base n : Nat} {v : Value} {l : List Pc} (h : W.ownsRow base 76 3 v n (pcl l)) (hn : l.length = n) : ∃ a cap, v = .slice a n cap ∧ PCL W a l := by
  rcases h.2 with ⟨rfl, h0⟩ | ⟨g, cap, cur, rfl, _⟩
  · have hz : n = 0 := by first | exact h0.1 | omega
    subst hz
    exact ⟨none, 0, rfl, fun i p hi => by have := (List.getElem?_eq_some_iff.1 hi).1; omega⟩
  · refine ⟨_, cap, rfl, fun i p hi => ⟨g, 0, rfl, fun j v hv => ?_⟩⟩
    have e := pcl_get l i j p v hi hv
    have hc := h.cells (g := g) rfl (i * 3 + j) v e
    rw [add_at] at hc
    rw [Nat.zero_add] at hc ⊢
    exact hc
def blk (c : UInt8) : Bool := c.toNat == 32 || c.toNat == 9
/-- Where the word that begins at i ends. -/
def stp (s : ByteArray) : Nat → Nat → Nat
  | 0, i => i
  | n + 1, i => if blk (s.data.toList.getD i 0) = true then i else stp s n (i + 1)
/-- A line's words, from i on. -/
def wdf (s : ByteArray) (num : Int) : Nat → Nat → List Pc
  | 0, _ => []
  | n + 1, i => if i < s.size then (if i < stp s (s.size - i) i then [⟨s.extract i (stp s (s.size - i) i), num, (i : Int) + 1⟩] else []) ++ wdf s num n (stp s (s.size - i) i + 1) else []
theorem stp_ge (s : ByteArray) : ∀ n i, i ≤ stp s n i ∧ stp s n i ≤ i + n
  | 0, i => ⟨Nat.le_refl _, Nat.le_refl _⟩
  | n + 1, i => by
    unfold stp
    split
    · exact ⟨Nat.le_refl _, by omega⟩
    · have := stp_ge s n (i + 1); omega
theorem wdf_len (s : ByteArray) (num : Int) : ∀ n i, (wdf s num n i).length ≤ n
  | 0, i => Nat.le_refl _
  | n + 1, i => by
    unfold wdf
    split
    · have := wdf_len s num n (stp s (s.size - i) i + 1)
      rw [List.length_append]
      split <;> simp <;> omega
    · simp
theorem wdf_sz (s : ByteArray) (num : Int) : ∀ n i, ∀ p ∈ wdf s num n i, p.t.size ≤ s.size
  | 0, i => fun p hp => by cases hp
  | n + 1, i => by
    intro p hp
    unfold wdf at hp
    split at hp
    · rcases List.mem_append.1 hp with hp | hp
      · split at hp
        · have hp : p = ⟨s.extract i (stp s (s.size - i) i), num, (i : Int) + 1⟩ := by simpa using hp
          rw [hp]
          show (s.extract i (stp s (s.size - i) i)).size ≤ s.size
          rw [ByteArray.size_extract]
          omega
        · cases hp
      · exact wdf_sz s num n _ p hp
    · cases hp
/-- A line without its remark. -/
def bare (s : ByteArray) : ByteArray := ⟨(Lib.cut s.data.toList [35]).1.toArray⟩
def wds (s : ByteArray) (num : Int) : List Pc := wdf (bare s) num ((bare s).size + 1) 0
theorem bare_size (s : ByteArray) : (bare s).size ≤ s.size := by
  show ((Lib.cut s.data.toList [35]).1.toArray).size ≤ s.data.size
  unfold Lib.cut
  split
  · simp
    omega
  · simp
theorem getD_of (s : ByteArray) (i : Nat) (h : i < s.size) : s.data.toList.getD i 0 = s[i] := by
  rw [List.getD_eq_getElem?_getD, List.getElem?_eq_getElem (by simpa using h)]
  rfl
set_option maxHeartbeats 1000000 in
set_option maxRecDepth 1000000 in
theorem cut_any {w : World} (s : ByteArray) (num : Int) (hs : s.size ≤ 4096) (hT : PT w) : Calls Tryz.prog 24 #[.string s, .int .i64 num] w fun e w' => ∃ v, e = .returned v ∧ w'.ownsRow w.heap.size 76 3 v (wds s num).length (pcl (wds s num)) ∧ Keeps (fun _ => False) w w' := by
  obtain ⟨mx, hmx⟩ := hT.mx
  have hC : Calls Tryz.prog 39 #[.string s, .string ⟨#[35]⟩] w fun e w' => e = .returned (.tuple #[.string (bare s), .string ⟨(Lib.cut s.data.toList [35]).2.1.toArray⟩, .bool (Lib.cut s.data.toList [35]).2.2]) ∧ ∃ n, w' = w.drewN n := Tryz.strings_Cut s ⟨#[35]⟩ mx w (by omega) hmx
  have hb4 : (bare s).size ≤ 4096 := by have := bare_size s; omega
  unfold wds
  generalize (Lib.cut s.data.toList [35]).2.1.toArray = x1 at *
  generalize (Lib.cut s.data.toList [35]).2.2 = x2 at *
  generalize hWD : wdf (bare s) num ((bare s).size + 1) 0 = WD at *
  have HWD : Hid (_ = _) := hWD
  clear hWD
  generalize bare s = z at *
  go_enter Tryz.func24, Tryz.ntmps24
  go_wp2_with (go_at_call 39; refine hC.mono ?_; rintro e w1 ⟨rfl, n1, e1⟩; have k1 : Keeps (fun _ => False) w w1 := (by rw [e1]; exact (Keeps.refl _ w).drewN n1); clear e1 hC)
  go_loopw [5, 6] (fun v iv Wr => ∃ (i n : Nat) (acc : List Pc), iv = .int .i64 (i : Int) ∧ i ≤ z.size + 1 ∧ z.size + 1 ≤ n + i ∧ acc.length ≤ i ∧ acc ++ wdf z num n i = WD ∧ Wr.ownsRow w.heap.size 76 3 v acc.length (pcl acc) ∧ Keeps (fun _ => False) w Wr) (fun _ iv _ => z.size + 1 - (intOf iv).toNat)
  case atStart => exact ⟨0, z.size + 1, [], rfl, Nat.zero_le _, by omega, Nat.le_refl _, HWD.out, World.ownsRow_nil _ _ _ _, k1⟩
  case round =>
    obtain ⟨i, n, acc, rfl, hi, hn, hal, hac, hown, kr⟩ := hrel
    by_cases hlt : i < z.size
    · have hltI : decide ((i : Int) < (z.size : Int)) = true := by simp; omega
      have hltJ : (i : Int) < (z.size : Int) := by omega
      obtain ⟨n, rfl⟩ : ∃ m, n = m + 1 := ⟨n - 1, by omega⟩
      have HAC : Hid (_ = _) := hac
      clear hac
      generalize hE : stp z (z.size - i) i = E at *
      have hEb := stp_ge z (z.size - i) i
      rw [hE] at hEb
      have HE : Hid (_ = _) := hE
      clear hE
      go_wp2_with fail
      go_loop [6] (fun jv => ∃ j : Nat, jv = .int .i64 (j : Int) ∧ i ≤ j ∧ j ≤ z.size ∧ stp z (z.size - j) j = E) (fun jv => z.size - (intOf jv).toNat)
      case atStart => exact ⟨i, rfl, Nat.le_refl _, by omega, HE.out⟩
      case round =>
        obtain ⟨j, rfl, hij, hjz, hst⟩ := hrel
        have HST : Hid (_ = _) := hst
        clear hst
        have fin : j = E → Hid (j = E ∧ WD = (acc ++ (if i < E then [⟨z.extract i E, num, (i : Int) + 1⟩] else [])) ++ wdf z num n (E + 1)) := fun e => by
          refine ⟨e, ?_⟩
          rw [← HAC.out]
          show acc ++ (if i < z.size then _ else _) = _
          rw [if_pos hlt, HE.out, List.append_assoc]
        by_cases hj : j < z.size
        · have e1 : z.size - j = (z.size - (j + 1)) + 1 := by omega
          have hjI : decide ((j : Int) < (z.size : Int)) = true := by simp; omega
          have hjJ : (j : Int) < (z.size : Int) := by omega
          have hj0 : (0 : Int) ≤ (j : Int) := by omega
          have hgd := getD_of z j hj
          by_cases hb : blk z[j] = true
          · have hjE : j = E := by
              have := HST.out
              rw [e1] at this
              unfold stp at this
              rw [hgd, if_pos hb] at this
              exact this
            have HF := fin hjE
            clear hjE
            clear fin e1 hgd
            have hb' : z[j].toNat = 32 ∨ z[j].toNat = 9 := by unfold blk at hb; simpa using hb
            have bb : ((z[j].toNat : Int) != 32 && (z[j].toNat : Int) != 9) = false := by
              rcases hb' with e | e <;> rw [e] <;> rfl
            clear hb
            rcases hb' with e32 | e9
            · have p1 : (z[j].toNat : Int) = 32 := by omega
              obtain ⟨rfl, hWD⟩ := HF.out
              have HW2 : Hid (WD = _) := hWD
              clear hWD HF
              by_cases hiE : i < j
              · have hgt : decide ((i : Int) < (j : Int)) = true := by simp; omega
                have hgt' : (i : Int) < (j : Int) := by omega
                have hle' : (i : Int) ≤ (j : Int) := by omega
                have hi0 : (0 : Int) ≤ (i : Int) := by omega
                have hjz' : (j : Int) ≤ (z.size : Int) := by omega
                obtain ⟨v', w', hr, ho, kk⟩ := append_p hown kr.size (by omega) ⟨z.extract i j, num, (i : Int) + 1⟩
                have kk' := kr.trans' kk (fun _ _ e => e) (fun g hg e => by have := owns_base hown g e; omega)
                simp only at hr
                have HO := ho
                clear ho kk
                go_wp2_with (at_builtin; refine wpList_append_run' rfl _ _ _ rfl _ _ _ w' rfl rfl hr ?_; clear hr)
                go_roundw
                case rel => exact ⟨j + 1, n, acc ++ [⟨z.extract i j, num, (i : Int) + 1⟩], by go_num, by omega, by omega, by simp; omega, by rw [HW2.out, if_pos hiE], by rw [List.length_append]; exact HO, kk'⟩
                case measure => simp [intOf]; omega
              · have hgt : decide ((i : Int) < (j : Int)) = false := by simp; omega
                have hgt' : ¬ (i : Int) < (j : Int) := by omega
                go_wp2_with fail
                go_roundw
                case rel => exact ⟨j + 1, n, acc, by go_num, by omega, by omega, by omega, by rw [HW2.out, if_neg hiE, List.append_nil], hown, kr⟩
                case measure => simp [intOf]; omega
            · have p1 : ¬ (z[j].toNat : Int) = 32 := by omega
              have p2 : (z[j].toNat : Int) = 9 := by omega
              have b1 : ((z[j].toNat : Int) != 32) = true := by simpa using p1
              obtain ⟨rfl, hWD⟩ := HF.out
              have HW2 : Hid (WD = _) := hWD
              clear hWD HF
              by_cases hiE : i < j
              · have hgt : decide ((i : Int) < (j : Int)) = true := by simp; omega
                have hgt' : (i : Int) < (j : Int) := by omega
                have hle' : (i : Int) ≤ (j : Int) := by omega
                have hi0 : (0 : Int) ≤ (i : Int) := by omega
                have hjz' : (j : Int) ≤ (z.size : Int) := by omega
                obtain ⟨v', w', hr, ho, kk⟩ := append_p hown kr.size (by omega) ⟨z.extract i j, num, (i : Int) + 1⟩
                have kk' := kr.trans' kk (fun _ _ e => e) (fun g hg e => by have := owns_base hown g e; omega)
                simp only at hr
                have HO := ho
                clear ho kk
                go_wp2_with (at_builtin; refine wpList_append_run' rfl _ _ _ rfl _ _ _ w' rfl rfl hr ?_; clear hr)
                go_roundw
                case rel => exact ⟨j + 1, n, acc ++ [⟨z.extract i j, num, (i : Int) + 1⟩], by go_num, by omega, by omega, by simp; omega, by rw [HW2.out, if_pos hiE], by rw [List.length_append]; exact HO, kk'⟩
                case measure => simp [intOf]; omega
              · have hgt : decide ((i : Int) < (j : Int)) = false := by simp; omega
                have hgt' : ¬ (i : Int) < (j : Int) := by omega
                go_wp2_with fail
                go_roundw
                case rel => exact ⟨j + 1, n, acc, by go_num, by omega, by omega, by omega, by rw [HW2.out, if_neg hiE, List.append_nil], hown, kr⟩
                case measure => simp [intOf]; omega
          · have hnx : Hid (stp z (z.size - (j + 1)) (j + 1) = E) := by
              have := HST.out
              rw [e1] at this
              unfold stp at this
              rw [hgd, if_neg hb] at this
              exact this
            unfold blk at hb
            simp only [Bool.or_eq_true, beq_iff_eq, not_or] at hb
            have p1 : ¬ (z[j].toNat : Int) = 32 := by omega
            have p2 : ¬ (z[j].toNat : Int) = 9 := by omega
            have b1 : ((z[j].toNat : Int) != 32) = true := by simpa using p1
            have b2 : ((z[j].toNat : Int) != 9) = true := by simpa using p2
            clear fin e1 hgd hb
            go_wp2_with fail
            go_round
            case rel => exact ⟨j + 1, by go_num, by omega, by omega, hnx.out⟩
            case measure => simp [intOf]; omega
        · obtain rfl : j = z.size := by omega
          have hjE : z.size = E := by
            have := HST.out
            rw [Nat.sub_self] at this
            exact this
          have HF := fin hjE
          clear hjE
          have hjI : decide ((z.size : Int) < (z.size : Int)) = false := by simp
          clear fin
          obtain ⟨rfl, hWD⟩ := HF.out
          have HW2 : Hid (WD = _) := hWD
          clear hWD HF
          by_cases hiE : i < z.size
          · have hgt : decide ((i : Int) < (z.size : Int)) = true := by simp; omega
            have hgt' : (i : Int) < (z.size : Int) := by omega
            have hle' : (i : Int) ≤ (z.size : Int) := by omega
            have hi0 : (0 : Int) ≤ (i : Int) := by omega
            have hjz' : (z.size : Int) ≤ (z.size : Int) := Int.le_refl _
            obtain ⟨v', w', hr, ho, kk⟩ := append_p hown kr.size (by omega) ⟨z.extract i z.size, num, (i : Int) + 1⟩
            have kk' := kr.trans' kk (fun _ _ e => e) (fun g hg e => by have := owns_base hown g e; omega)
            simp only at hr
            have HO := ho
            clear ho kk
            go_wp2_with (at_builtin; refine wpList_append_run' rfl _ _ _ rfl _ _ _ w' rfl rfl hr ?_; clear hr)
            go_roundw
            case rel => exact ⟨z.size + 1, n, acc ++ [⟨z.extract i z.size, num, (i : Int) + 1⟩], by go_num, by omega, by omega, by simp; omega, by rw [HW2.out, if_pos hiE], by rw [List.length_append]; exact HO, kk'⟩
            case measure => simp [intOf]; omega
          · exact absurd hlt hiE
    · have hltI : decide ((i : Int) < (z.size : Int)) = false := by simp; omega
      have hl : ¬ (i : Int) < (z.size : Int) := by omega
      have e0 : wdf z num n i = [] := by
        cases n with
        | zero => rfl
        | succ n => unfold wdf; rw [if_neg hlt]
      rw [e0, List.append_nil] at hac
      subst hac
      go_wp2_with fail
      go_ret
      exact ⟨_, rfl, hown, kr⟩
end Go.Proofs.YtdmfkepnopppaaaGreatDoor
