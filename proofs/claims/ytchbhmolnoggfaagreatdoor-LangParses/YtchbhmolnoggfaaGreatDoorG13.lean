import Derived.Test.YtchbhmolnoggfaaGreatDoorG12
namespace Go.Proofs.YtchbhmolnoggfaaGreatDoor
open Go.RowKit Go.Deep Go.ChangeShapes Go.WideShapes Go.ChangeAt
theorem append_el {W : World} {base k size bytes : Nat} {v z : Value} {S T : TypeId} {xs : List Value} (news : List Value) (hU : Tryz.prog.underlying S = some (.slice T)) (hi : (Tryz.prog.info? T).map (fun i => (i.zero, i.size, i.bytes)) = some (some z, size, bytes)) (hz : z.cells.size = size) (hs0 : 0 < size)
    (hown : W.ownsRow base T size v k xs) (hb : base ≤ W.heap.size) (hk : (k + 1) * bytes ≤ 140737488355328) (hb0 : 0 < bytes) (hl : news.length = size) (h1 : ∀ u ∈ news, u.oneCell' = true) :
    ∃ v' w', (Builtin.append_ #[S, S] S #[v, .slice (some ⟨W.heap.size, 0, none⟩) 1 1]).run Tryz.prog (W.alloc (.cells news.toArray T)) = .ok v' w' ∧ w'.ownsRow base T size v' (k + 1) (xs ++ news) ∧ Keeps (fun i => v.ownBlock = some i) W w' := by
  obtain ⟨i0, hi0, hz0, hz1, hz2⟩ : ∃ i, Tryz.prog.info? T = some i ∧ i.zero = some z ∧ i.size = size ∧ i.bytes = bytes := by
    cases hq : Tryz.prog.info? T with
    | none => rw [hq] at hi; cases hi
    | some i =>
      rw [hq] at hi
      injection hi with hi
      injection hi with h1 h2
      injection h2 with h2 h3
      exact ⟨i, rfl, h1, h2, h3⟩
  have hkb : k + 1 ≤ (k + 1) * bytes := Nat.le_mul_of_pos_right _ hb0
  obtain ⟨v', w', hr, ho, hg, _, _⟩ := run_append_own_at (P := Tryz.prog) (w := W.alloc (.cells news.toArray T)) base S S T i0 _ size bytes hU hi0 hz0 hz1 hz2 hz hs0 v k xs (((Keeps.refl (fun _ => False) W).alloc _).owns hown (fun _ _ e => e)) ⟨W.heap.size, 0, none⟩ 1 1 news (by omega) (fun j u hu => by
      rw [add_at]
      have := (CL.made W news T).c j u hu
      simpa using this) h1 (by unfold maxLen; omega) hk (Nat.le_trans hb (by simp))
  exact ⟨v', w', hr, ho, ((Keeps.refl _ W).alloc _).grown hg (fun i _ e => e)⟩
def wcl (l : List (ByteArray × Int × Int)) : List Value := l.flatMap (fun x => [.string x.1, .int .i64 x.2.1, .int .i64 x.2.2])
theorem wU : Tryz.prog.underlying 51 = some (.slice 83) := by kernel_rfl
theorem wI : (Tryz.prog.info? 83).map (fun i => (i.zero, i.size, i.bytes)) = some (some (.agg #[.string ⟨#[]⟩, .int .i64 0, .int .i64 0]), 3, 32) := by kernel_rfl
theorem append_w {W : World} {base k : Nat} {v : Value} {xs : List (ByteArray × Int × Int)} (hown : W.ownsRow base 83 3 v k (wcl xs)) (hb : base ≤ W.heap.size) (hk : (k + 1) * 32 ≤ 140737488355328) (x : ByteArray) (c d : Int) :
    ∃ v' w', (Builtin.append_ #[51, 51] 51 #[v, .slice (some ⟨W.heap.size, 0, none⟩) 1 1]).run Tryz.prog (W.alloc (.cells #[.string x, .int .i64 c, .int .i64 d] 83)) = .ok v' w' ∧ w'.ownsRow base 83 3 v' (k + 1) (wcl (xs ++ [(x, c, d)])) ∧ Keeps (fun i => v.ownBlock = some i) W w' := by
  obtain ⟨v', w', hr, ho, kk⟩ := append_el [.string x, .int .i64 c, .int .i64 d] wU wI rfl (by decide) hown hb hk (by decide) rfl (fun u hu => by simp at hu; rcases hu with rfl | rfl | rfl <;> rfl)
  refine ⟨v', w', hr, ?_, kk⟩
  have : wcl (xs ++ [(x, c, d)]) = wcl xs ++ [.string x, .int .i64 c, .int .i64 d] := by unfold wcl; rw [List.flatMap_append]; simp
  rw [this]; exact ho
theorem bare_list (s : ByteArray) : (bare s).data.toList = s.data.toList.takeWhile (fun c => c != 35) := by
  show (Lib.cut s.data.toList [35]).1.toArray.toList = _
  rw [cut_tw]
theorem tw_get {p : UInt8 → Bool} : ∀ (l : List UInt8) (i : Nat) (h : i < (l.takeWhile p).length), l[i]? = some (l.takeWhile p)[i] ∧ p (l.takeWhile p)[i] = true
  | [], i, h => by simp at h
  | c :: r, i, h => by
    by_cases hc : p c = true
    · have e : (c :: r).takeWhile p = c :: r.takeWhile p := List.takeWhile_cons_of_pos hc
      simp only [e] at h ⊢
      cases i with
      | zero => exact ⟨rfl, hc⟩
      | succ i =>
        have := tw_get r i (by simpa using h)
        simpa using this
    · rw [List.takeWhile_cons_of_neg hc] at h
      simp at h
theorem tw_end {p : UInt8 → Bool} : ∀ (l : List UInt8), (l.takeWhile p).length < l.length → ∃ c, l[(l.takeWhile p).length]? = some c ∧ p c = false
  | [], h => by simp at h
  | c :: r, h => by
    by_cases hc : p c = true
    · have e : (c :: r).takeWhile p = c :: r.takeWhile p := List.takeWhile_cons_of_pos hc
      rw [e] at h ⊢
      obtain ⟨d, h1, h2⟩ := tw_end r (by simpa using h)
      exact ⟨d, by simpa using h1, h2⟩
    · rw [List.takeWhile_cons_of_neg hc]
      exact ⟨c, rfl, by simpa using hc⟩
theorem bare_in (s : ByteArray) {i : Nat} (h : i < (bare s).size) (h' : i < s.size) : s[i] = (bare s).data.toList.getD i 0 ∧ s[i] ≠ 35 := by
  have hl : i < (s.data.toList.takeWhile (fun c => c != 35)).length := by rw [← bare_list]; simpa using h
  obtain ⟨h1, h2⟩ := tw_get s.data.toList i hl
  have e : s.data.toList[i]? = some s[i] := by
    rw [List.getElem?_eq_getElem (by simpa using h')]; simp; rfl
  rw [e] at h1
  injection h1 with h1
  have eb : (bare s).data.toList.getD i 0 = (s.data.toList.takeWhile (fun c => c != 35))[i] := by
    rw [bare_list, List.getD_eq_getElem?_getD, List.getElem?_eq_getElem hl]; rfl
  rw [eb, h1]
  exact ⟨rfl, by simpa using h2⟩
theorem bare_out (s : ByteArray) (h : (bare s).size < s.size) : s[(bare s).size] = 35 := by
  have hbs : (bare s).size = (s.data.toList.takeWhile (fun c => c != 35)).length := by rw [← bare_list]; simp
  obtain ⟨c, h1, h2⟩ := tw_end (p := fun c => c != 35) s.data.toList (by rw [← hbs]; simpa using h)
  rw [← hbs] at h1
  have e : s.data.toList[(bare s).size]? = some s[(bare s).size] := by
    rw [List.getElem?_eq_getElem (by simpa using h)]; simp; rfl
  rw [e] at h1
  injection h1 with h1
  rw [h1]
  simpa using h2
theorem bare_ext (s : ByteArray) {i j : Nat} (h : j ≤ (bare s).size) : s.extract i j = (bare s).extract i j := by
  apply ba_ext
  rw [ext_list, ext_list, bare_list]
  have hp : s.data.toList.takeWhile (fun c => c != 35) <+: s.data.toList := List.takeWhile_prefix _
  obtain ⟨r, hr⟩ := hp
  have hl : (s.data.toList.takeWhile (fun c => c != 35)).length = (bare s).size := by rw [← bare_list]; simp
  by_cases hij : i ≤ j
  · conv => lhs; rw [← hr]
    rw [List.drop_append_of_le_length (by omega), List.take_append_of_le_length (by rw [List.length_drop]; omega)]
  · rw [show j - i = 0 by omega, List.take_zero, List.take_zero]
set_option maxHeartbeats 2000000 in
set_option maxRecDepth 100000 in
theorem rwords_T (w : World) (s : ByteArray) (num : Int) (hs : s.size ≤ 4096) : Calls Tryz.prog 15 #[.string s] w fun e w' => ∃ v, e = .returned v ∧ w'.ownsRow w.heap.size 83 3 v (wds s num).length (wcl ((wds s num).map Pc.wd)) ∧ Keeps (fun _ => False) w w' := by
  have HW : Hid (scn (bare s) (bare s).size 0 (-1) = (wds s num).map Pc.wd) := scn_wdf (bare s) num ((bare s).size + 1) (bare s).size 0 (by omega) (by omega)
  have hlen : (wds s num).length = ((wds s num).map Pc.wd).length := by rw [List.length_map]
  rw [hlen]
  clear hlen
  generalize (wds s num).map Pc.wd = WD at *
  have hbs := bare_size s
  have HIn : Hid (∀ i (h : i < (bare s).size) (h' : i < s.size), s[i] = (bare s).data.toList.getD i 0 ∧ s[i] ≠ 35) := fun i h h' => bare_in s h h'
  have HOut : Hid (∀ h : (bare s).size < s.size, s[(bare s).size] = 35) := bare_out s
  have HEx : Hid (∀ i j, j ≤ (bare s).size → s.extract i j = (bare s).extract i j) := fun i j h => bare_ext s h
  generalize bare s = b at *
  go_enter Tryz.func15, Tryz.ntmps15
  go_wp2_with fail
  go_loopw [3, 4, 5] (fun lv fv iv Wr => ∃ (i : Nat) (fr : Int) (acc : List (ByteArray × Int × Int)) (u : Value), u = lv ∧ fv = .int .i64 fr ∧ iv = .int .i64 (i : Int) ∧ i ≤ b.size ∧ (fr = -1 ∨ (0 ≤ fr ∧ fr < (i : Int))) ∧ acc.length ≤ i ∧ Wr.ownsRow w.heap.size 83 3 u acc.length (wcl acc) ∧ Hid (acc ++ scn b (b.size - i) i fr = WD) ∧ Keeps (fun _ => False) w Wr) (fun _ _ iv _ => b.size + 1 - (intOf iv).toNat)
  case atStart => exact ⟨0, -1, [], _, rfl, rfl, rfl, Nat.zero_le _, .inl rfl, Nat.le_refl _, World.ownsRow_nil _ _ _ _, HW, Keeps.refl _ w⟩
  case round =>
    obtain ⟨i, fr, acc, v2, rfl, rfl, rfl, hi, hfr, hal, hown, HS, kr⟩ := hrel
    have hiS : decide ((i : Int) ≤ (s.size : Int)) = true := decide_eq_true (by omega)
    have hiN : decide (i ≤ s.size) = true := decide_eq_true (by omega)
    have HA : Hid (∀ (x : ByteArray) (c d : Int), ∃ v' w', (Builtin.append_ #[51, 51] 51 #[v2, .slice (some ⟨wr.heap.size, 0, none⟩) 1 1]).run Tryz.prog (wr.alloc (.cells #[.string x, .int .i64 c, .int .i64 d] 83)) = .ok v' w' ∧ w'.ownsRow w.heap.size 83 3 v' (acc.length + 1) (wcl (acc ++ [(x, c, d)])) ∧ Keeps (fun _ => False) w w') := fun x c d => by
      obtain ⟨v', w', h1, h2, h3⟩ := append_w hown kr.size (by omega) x c d
      exact ⟨v', w', h1, h2, kr.trans' h3 (fun _ _ e => e) (fun g hg e => by have := owns_base hown g e; omega)⟩
    by_cases hlt : i < b.size
    · have hsz : i < s.size := by omega
      have hszI : (i : Int) < (s.size : Int) := by omega
      have hi0 : (0 : Int) ≤ (i : Int) := by omega
      have hne : ((i : Int) == (s.size : Int)) = false := by simp; omega
      have hneN : (i == s.size) = false := by simp; omega
      obtain ⟨hc1, hc2⟩ := HIn.out i hlt hsz
      have h35 : ((s[i].toNat : Int) == 35) = false := by
        rw [beq_eq_false_iff_ne]
        intro e
        exact hc2 (UInt8.toNat_inj.1 (by show _ = 35; omega))
      have e1 : b.size - i = (b.size - (i + 1)) + 1 := by omega
      have hst : scn b (b.size - i) i fr = if blk s[i] = true then (if 0 ≤ fr then [(b.extract fr.toNat i, fr + 1, (i : Int) + 1)] else []) ++ scn b (b.size - (i + 1)) (i + 1) (-1) else scn b (b.size - (i + 1)) (i + 1) (if fr < 0 then (i : Int) else fr) := by rw [e1, scn, ← hc1]
      clear hc1 hc2 e1
      by_cases hb : blk s[i] = true
      · rw [if_pos hb] at hst
        have hb' : s[i].toNat = 32 ∨ s[i].toNat = 9 := by unfold blk at hb; simpa using hb
        clear hb
        rcases hb' with e32 | e32
        · have x1 : ((s[i].toNat : Int) == 32) = true := by simp; omega
          clear e32
          rcases hfr with rfl | hf
          · have HN : Hid (acc ++ scn b (b.size - (i + 1)) (i + 1) (-1) = WD) := by show _ = _; rw [← HS.out, hst, if_neg (by decide)]; rfl
            clear hst HS
            go_wp2_with fail
            go_roundw
            case rel => exact ⟨i + 1, -1, acc, v2, rfl, rfl, by go_num, by omega, .inl rfl, by omega, hown, HN, kr⟩
            case measure => simp [intOf]; omega
          · obtain ⟨f, rfl⟩ : ∃ f : Nat, fr = (f : Int) := ⟨fr.toNat, by omega⟩
            have y1 : decide ((0 : Int) ≤ (f : Int)) = true := decide_eq_true (by omega)
            have y2 : (0 : Int) ≤ (f : Int) := by omega
            have y3 : (f : Int) ≤ (i : Int) := by omega
            have y4 : (i : Int) ≤ (s.size : Int) := by omega
            have HN : Hid ((acc ++ [(s.extract f i, (f : Int) + 1, (i : Int) + 1)]) ++ scn b (b.size - (i + 1)) (i + 1) (-1) = WD) := by show _ = _; rw [← HS.out, hst, if_pos (by omega), Int.toNat_natCast, HEx.out f i (by omega), List.append_assoc]
            obtain ⟨v', w', hr, ho, k'⟩ := HA.out (s.extract f i) ((f : Int) + 1) ((i : Int) + 1)
            have Hf : Hid ((f : Int) < (i : Int)) := hf.2
            clear hst HS hf HA
            go_wp2_with (at_builtin; refine wpList_append_run' rfl _ _ _ rfl _ _ _ w' rfl rfl hr ?_; clear hr)
            go_roundw
            case rel => exact ⟨i + 1, -1, _, v', rfl, rfl, by go_num, by omega, .inl rfl, by rw [List.length_append, List.length_singleton]; omega, by rw [List.length_append, List.length_singleton]; exact ho, HN, k'⟩
            case measure => simp [intOf]; omega
        · have x2 : ((s[i].toNat : Int) == 9) = true := by simp; omega
          have x1 : ((s[i].toNat : Int) == 32) = false := by simp; omega
          clear e32
          rcases hfr with rfl | hf
          · have HN : Hid (acc ++ scn b (b.size - (i + 1)) (i + 1) (-1) = WD) := by show _ = _; rw [← HS.out, hst, if_neg (by decide)]; rfl
            clear hst HS
            go_wp2_with fail
            go_roundw
            case rel => exact ⟨i + 1, -1, acc, v2, rfl, rfl, by go_num, by omega, .inl rfl, by omega, hown, HN, kr⟩
            case measure => simp [intOf]; omega
          · obtain ⟨f, rfl⟩ : ∃ f : Nat, fr = (f : Int) := ⟨fr.toNat, by omega⟩
            have y1 : decide ((0 : Int) ≤ (f : Int)) = true := decide_eq_true (by omega)
            have y2 : (0 : Int) ≤ (f : Int) := by omega
            have y3 : (f : Int) ≤ (i : Int) := by omega
            have y4 : (i : Int) ≤ (s.size : Int) := by omega
            have HN : Hid ((acc ++ [(s.extract f i, (f : Int) + 1, (i : Int) + 1)]) ++ scn b (b.size - (i + 1)) (i + 1) (-1) = WD) := by show _ = _; rw [← HS.out, hst, if_pos (by omega), Int.toNat_natCast, HEx.out f i (by omega), List.append_assoc]
            obtain ⟨v', w', hr, ho, k'⟩ := HA.out (s.extract f i) ((f : Int) + 1) ((i : Int) + 1)
            have Hf : Hid ((f : Int) < (i : Int)) := hf.2
            clear hst HS hf HA
            go_wp2_with (at_builtin; refine wpList_append_run' rfl _ _ _ rfl _ _ _ w' rfl rfl hr ?_; clear hr)
            go_roundw
            case rel => exact ⟨i + 1, -1, _, v', rfl, rfl, by go_num, by omega, .inl rfl, by rw [List.length_append, List.length_singleton]; omega, by rw [List.length_append, List.length_singleton]; exact ho, HN, k'⟩
            case measure => simp [intOf]; omega
      · rw [if_neg hb] at hst
        have hb' : s[i].toNat ≠ 32 ∧ s[i].toNat ≠ 9 := by unfold blk at hb; simpa using hb
        have x1 : ((s[i].toNat : Int) == 32) = false := by simp; omega
        have x2 : ((s[i].toNat : Int) == 9) = false := by simp; omega
        clear hb hb'
        rcases hfr with rfl | hf
        · have HN : Hid (acc ++ scn b (b.size - (i + 1)) (i + 1) (i : Int) = WD) := by show _ = _; rw [← HS.out, hst, if_pos (by decide)]
          clear hst HS
          go_wp2_with fail
          go_roundw
          case rel => exact ⟨i + 1, (i : Int), acc, v2, rfl, rfl, by go_num, by omega, .inr ⟨by omega, by omega⟩, by omega, hown, HN, kr⟩
          case measure => simp [intOf]; omega
        · have HN : Hid (acc ++ scn b (b.size - (i + 1)) (i + 1) fr = WD) := by show _ = _; rw [← HS.out, hst, if_neg (by omega)]
          have y1 : decide (fr < 0) = false := decide_eq_false (by omega)
          have HFr : Hid (0 ≤ fr ∧ fr < (i : Int)) := hf
          clear hst HS hf
          go_wp2_with fail
          go_roundw
          case rel => exact ⟨i + 1, fr, acc, v2, rfl, rfl, by go_num, by omega, .inr ⟨HFr.out.1, by have := HFr.out.2; omega⟩, by omega, hown, HN, kr⟩
          case measure => simp [intOf]; omega
    · obtain rfl : i = b.size := by omega
      have hst : scn b (b.size - b.size) b.size fr = (if 0 ≤ fr then [(b.extract fr.toNat b.size, fr + 1, (b.size : Int) + 1)] else []) := by rw [Nat.sub_self]; rfl
      by_cases hse : b.size < s.size
      · have h35 := HOut.out hse
        have hseI : (b.size : Int) < (s.size : Int) := by omega
        have hne : ((b.size : Int) == (s.size : Int)) = false := by simp; omega
        have hneN : (b.size == s.size) = false := by simp; omega
        have q35 : ((s[b.size].toNat : Int) == 35) = true := by rw [h35]; rfl
        have hi0 : (0 : Int) ≤ (b.size : Int) := by omega
        clear h35
        rcases hfr with rfl | hf
        · have HN : Hid (acc = WD) := by show _ = _; rw [← HS.out, hst, if_neg (by decide), List.append_nil]
          clear hst HS HA
          go_wp2_with fail
          go_ret
          exact ⟨_, rfl, by rw [← HN.out]; exact hown, kr⟩
        · obtain ⟨f, rfl⟩ : ∃ f : Nat, fr = (f : Int) := ⟨fr.toNat, by omega⟩
          have y1 : decide ((0 : Int) ≤ (f : Int)) = true := decide_eq_true (by omega)
          have y2 : (0 : Int) ≤ (f : Int) := by omega
          have y3 : (f : Int) ≤ (b.size : Int) := by omega
          have y4 : (b.size : Int) ≤ (s.size : Int) := by omega
          have HN : Hid (acc ++ [(s.extract f b.size, (f : Int) + 1, (b.size : Int) + 1)] = WD) := by show _ = _; rw [← HS.out, hst, if_pos (by omega), Int.toNat_natCast, HEx.out f b.size (Nat.le_refl _)]
          obtain ⟨v', w', hr, ho, k'⟩ := HA.out (s.extract f b.size) ((f : Int) + 1) ((b.size : Int) + 1)
          clear hst HS hf HA
          go_wp2_with (at_builtin; refine wpList_append_run' rfl _ _ _ rfl _ _ _ w' rfl rfl hr ?_; clear hr)
          go_ret
          exact ⟨_, rfl, by rw [← HN.out, List.length_append, List.length_singleton]; exact ho, k'⟩
      · have hse' : b.size = s.size := by omega
        have hne : ((b.size : Int) == (s.size : Int)) = true := by simp; omega
        have hneN : (b.size == s.size) = true := by simp; omega
        have hle' : (b.size : Int) ≤ (s.size : Int) := by omega
        clear hse hse'
        rcases hfr with rfl | hf
        · have HN : Hid (acc = WD) := by show _ = _; rw [← HS.out, hst, if_neg (by decide), List.append_nil]
          clear hst HS HA
          go_wp2_with fail
          go_ret
          exact ⟨_, rfl, by rw [← HN.out]; exact hown, kr⟩
        · obtain ⟨f, rfl⟩ : ∃ f : Nat, fr = (f : Int) := ⟨fr.toNat, by omega⟩
          have y1 : decide ((0 : Int) ≤ (f : Int)) = true := decide_eq_true (by omega)
          have y2 : (0 : Int) ≤ (f : Int) := by omega
          have y3 : (f : Int) ≤ (b.size : Int) := by omega
          have y4 : (b.size : Int) ≤ (s.size : Int) := by omega
          have HN : Hid (acc ++ [(s.extract f b.size, (f : Int) + 1, (b.size : Int) + 1)] = WD) := by show _ = _; rw [← HS.out, hst, if_pos (by omega), Int.toNat_natCast, HEx.out f b.size (Nat.le_refl _)]
          obtain ⟨v', w', hr, ho, k'⟩ := HA.out (s.extract f b.size) ((f : Int) + 1) ((b.size : Int) + 1)
          clear hst HS hf HA
          go_wp2_with (at_builtin; refine wpList_append_run' rfl _ _ _ rfl _ _ _ w' rfl rfl hr ?_; clear hr)
          go_ret
          exact ⟨_, rfl, by rw [← HN.out, List.length_append, List.length_singleton]; exact ho, k'⟩
end Go.Proofs.YtchbhmolnoggfaaGreatDoor

namespace Go.Proofs.YtchbhmolnoggfaaGreatDoor
open Go.RowKit Go.Deep Go.ChangeShapes Go.WideShapes Go.ChangeAt
def scl (l : List ByteArray) : List Value := l.map Value.string
theorem sU : Tryz.prog.underlying 44 = some (.slice 9) := by kernel_rfl
theorem sI : (Tryz.prog.info? 9).map (fun i => (i.zero, i.size, i.bytes)) = some (some (.string ⟨#[]⟩), 1, 16) := by kernel_rfl
theorem append_sb {W : World} {base k : Nat} {v : Value} {xs : List ByteArray} (hown : W.ownsRow base 9 1 v k (scl xs)) (hb : base ≤ W.heap.size) (hk : (k + 1) * 16 ≤ 140737488355328) (x : ByteArray) :
    ∃ v' w', (Builtin.append_ #[44, 44] 44 #[v, .slice (some ⟨W.heap.size, 0, none⟩) 1 1]).run Tryz.prog (W.alloc (.cells #[.string x] 9)) = .ok v' w' ∧ w'.ownsRow base 9 1 v' (k + 1) (scl (xs ++ [x])) ∧ Keeps (fun i => v.ownBlock = some i) W w' := by
  obtain ⟨v', w', hr, ho, kk⟩ := append_el [.string x] sU sI rfl (by decide) hown hb hk (by decide) rfl (fun u hu => by simp at hu; rcases hu with rfl; rfl)
  refine ⟨v', w', hr, ?_, kk⟩
  have : scl (xs ++ [x]) = scl xs ++ [.string x] := by unfold scl; rw [List.map_append]; rfl
  rw [this]; exact ho
set_option maxHeartbeats 1000000 in
set_option maxRecDepth 100000 in
theorem rlines_T (w : World) (s : ByteArray) (hs : s.size ≤ 4096) : Calls Tryz.prog 13 #[.string s] w fun e w' => ∃ v, e = .returned v ∧ w'.ownsRow w.heap.size 9 1 v (lns s).length (scl (lns s)) ∧ Keeps (fun _ => False) w w' := by
  have HW : Hid (lc s s.size 0 0 = lns s) := lc_lns s
  generalize lns s = LS at *
  go_enter Tryz.func13, Tryz.ntmps13
  go_wp2_with fail
  go_loopw [3, 4, 5] (fun lv fv iv Wr => ∃ (i f : Nat) (acc : List ByteArray) (u : Value), u = lv ∧ fv = .int .i64 (f : Int) ∧ iv = .int .i64 (i : Int) ∧ i ≤ s.size ∧ f ≤ i ∧ acc.length ≤ i ∧ Wr.ownsRow w.heap.size 9 1 u acc.length (scl acc) ∧ Hid (acc ++ lc s (s.size - i) i f = LS) ∧ Keeps (fun _ => False) w Wr) (fun _ _ iv _ => s.size - (intOf iv).toNat)
  case atStart => exact ⟨0, 0, [], _, rfl, rfl, rfl, Nat.zero_le _, Nat.le_refl _, Nat.le_refl _, World.ownsRow_nil _ _ _ _, HW, Keeps.refl _ w⟩
  case round =>
    obtain ⟨i, f, acc, v2, rfl, rfl, rfl, hi, hf, hal, hown, HS, kr⟩ := hrel
    have HA : Hid (∀ (x : ByteArray), ∃ v' w', (Builtin.append_ #[44, 44] 44 #[v2, .slice (some ⟨wr.heap.size, 0, none⟩) 1 1]).run Tryz.prog (wr.alloc (.cells #[.string x] 9)) = .ok v' w' ∧ w'.ownsRow w.heap.size 9 1 v' (acc.length + 1) (scl (acc ++ [x])) ∧ Keeps (fun _ => False) w w') := fun x => by
      obtain ⟨v', w', h1, h2, h3⟩ := append_sb hown kr.size (by omega) x
      exact ⟨v', w', h1, h2, kr.trans' h3 (fun _ _ e => e) (fun g hg e => by have := owns_base hown g e; omega)⟩
    have y2 : (0 : Int) ≤ (f : Int) := by omega
    have y3 : (f : Int) ≤ (i : Int) := by omega
    have y4 : (i : Int) ≤ (s.size : Int) := by omega
    by_cases hlt : i < s.size
    · have hltI : decide ((i : Int) < (s.size : Int)) = true := decide_eq_true (by omega)
      have hltJ : (i : Int) < (s.size : Int) := by omega
      have hi0 : (0 : Int) ≤ (i : Int) := by omega
      have e1 : s.size - i = (s.size - (i + 1)) + 1 := by omega
      have hg : s.data.toList.getD i 0 = s[i] := getD_of s i hlt
      by_cases h10 : s[i] = 10
      · have x1 : ((s[i].toNat : Int) == 10) = true := by rw [h10]; rfl
        have HN : Hid ((acc ++ [s.extract f i]) ++ lc s (s.size - (i + 1)) (i + 1) (i + 1) = LS) := by show _ = _; rw [← HS.out, e1, lc, hg, if_pos h10, List.append_assoc]; rfl
        obtain ⟨v', w', hr, ho, k'⟩ := HA.out (s.extract f i)
        clear HS e1 hg h10 HA
        go_wp2_with (at_builtin; refine wpList_append_run' rfl _ _ _ rfl _ _ _ w' rfl rfl hr ?_; clear hr)
        go_roundw
        case rel => exact ⟨i + 1, i + 1, _, v', rfl, by go_num, by go_num, by omega, Nat.le_refl _, by rw [List.length_append, List.length_singleton]; omega, by rw [List.length_append, List.length_singleton]; exact ho, HN, k'⟩
        case measure => simp [intOf]; omega
      · have x1 : ((s[i].toNat : Int) == 10) = false := by
          rw [beq_eq_false_iff_ne]
          intro e
          exact h10 (UInt8.toNat_inj.1 (by show _ = 10; omega))
        have HN : Hid (acc ++ lc s (s.size - (i + 1)) (i + 1) f = LS) := by show _ = _; rw [← HS.out, e1, lc, hg, if_neg h10]
        clear HS e1 hg h10 HA
        go_wp2_with fail
        go_roundw
        case rel => exact ⟨i + 1, f, acc, v2, rfl, rfl, by go_num, by omega, by omega, by omega, hown, HN, kr⟩
        case measure => simp [intOf]; omega
    · obtain rfl : i = s.size := by omega
      have hltI : decide ((s.size : Int) < (s.size : Int)) = false := by simp
      have HN : Hid (acc ++ [s.extract f s.size] = LS) := by show _ = _; rw [← HS.out, Nat.sub_self]; rfl
      obtain ⟨v', w', hr, ho, k'⟩ := HA.out (s.extract f s.size)
      clear HS HA
      go_wp2_with (at_builtin; refine wpList_append_run' rfl _ _ _ rfl _ _ _ w' rfl rfl hr ?_; clear hr)
      go_ret
      exact ⟨_, rfl, by rw [← HN.out, List.length_append, List.length_singleton]; exact ho, k'⟩
def icn (ns : List (ByteArray × Nat)) : List Value := ns.map (fun x => .int .i64 (x.2 : Int))
def nmn (ns : List (ByteArray × Nat)) : List Value := ns.map (fun x => .string x.1)
def ucl (js : List (Nat × Pc)) : List Value := js.flatMap (fun x => [.int .i64 (x.1 : Int), .string x.2.t, .int .i64 x.2.ln, .int .i64 x.2.col])
structure RY (w : World) (base R : Nat) (cv nv wv uv : Value) (qs : List Ins) (ns : List (ByteArray × Nat)) (js : List (Nat × Pc)) : Prop where
  c : CL w R [cv, nv, wv, uv]
  o : w.ownsRow base 59 11 cv qs.length (icl qs)
  n : w.ownsRow base 9 1 nv ns.length (nmn ns)
  p : w.ownsRow base 3 1 wv ns.length (icn ns)
  u : w.ownsRow base 54 4 uv js.length (ucl js)
  b : True
  dR : ∀ v ∈ [cv, nv, wv, uv], v.ownBlock ≠ some R
  d1 : ∀ g, cv.ownBlock = some g → nv.ownBlock ≠ some g ∧ wv.ownBlock ≠ some g ∧ uv.ownBlock ≠ some g
  d2 : ∀ g, nv.ownBlock = some g → wv.ownBlock ≠ some g ∧ uv.ownBlock ≠ some g
  d3 : ∀ g, wv.ownBlock = some g → uv.ownBlock ≠ some g
theorem RY.keep {w w' : World} {base R : Nat} {cv nv wv uv : Value} {qs : List Ins} {ns : List (ByteArray × Nat)} {js : List (Nat × Pc)} (h : RY w base R cv nv wv uv qs ns js) (k : Keeps (fun _ => False) w w') : RY w' base R cv nv wv uv qs ns js :=
  ⟨h.c.keep (by show 0 < 4; decide) k (fun e => e), k.owns h.o (fun _ _ e => e), k.owns h.n (fun _ _ e => e), k.owns h.p (fun _ _ e => e), k.owns h.u (fun _ _ e => e), h.b, h.dR, h.d1, h.d2, h.d3⟩
def plc : Option Nat → Int
  | some v => (v : Int)
  | none => -1
theorem lk_drop (ns : List (ByteArray × Nat)) (t : ByteArray) {k : Nat} {x : ByteArray × Nat} (h : ns[k]? = some x) : lk (ns.drop k) t = if x.1 = t then some x.2 else lk (ns.drop (k + 1)) t := by
  obtain ⟨hk, e⟩ := List.getElem?_eq_some_iff.1 h
  rw [List.drop_eq_getElem_cons hk, e]
  rfl
set_option maxHeartbeats 1000000 in
set_option maxRecDepth 100000 in
theorem rplace_T {w : World} {base R : Nat} {cv nv wv uv : Value} {qs : List Ins} {ns : List (ByteArray × Nat)} {js : List (Nat × Pc)} (h : RY w base R cv nv wv uv qs ns js) (hn : ns.length ≤ 20000000) (t : ByteArray) :
    Calls Tryz.prog 16 #[.pointer (some ⟨R, 0, none⟩), .string t] w fun e w' => e = .returned (.int .i64 (plc (lk ns t))) ∧ w' = w := by
  obtain ⟨an, cn, rfl⟩ := slice_of_owns h.n
  obtain ⟨ap, cp, rfl⟩ := slice_of_owns h.p
  have c1 := h.c.c 1 _ rfl
  have c2 := h.c.c 2 _ rfl
  have hnc : ∀ k x, ns[k]? = some x → ∃ g, an = some ⟨g, 0, none⟩ ∧ w.cell? ⟨g, k, none⟩ = some (.string x.1) := fun k x hx => by
    rcases h.n.2 with ⟨_, h0⟩ | ⟨g, cap, cur, e, _⟩
    · have := (List.getElem?_eq_some_iff.1 hx).1; omega
    · injection e with e1 _ _
      have hc := h.n.cells (g := g) (by rw [e1]; rfl) k (.string x.1) (by unfold nmn; rw [List.getElem?_map, hx]; rfl)
      rw [add_at, Nat.zero_add] at hc
      exact ⟨g, e1, hc⟩
  have hpc : ∀ k x, ns[k]? = some x → ∃ g, ap = some ⟨g, 0, none⟩ ∧ w.cell? ⟨g, k, none⟩ = some (.int .i64 (x.2 : Int)) := fun k x hx => by
    rcases h.p.2 with ⟨_, h0⟩ | ⟨g, cap, cur, e, _⟩
    · have := (List.getElem?_eq_some_iff.1 hx).1; omega
    · injection e with e1 _ _
      have hc := h.p.cells (g := g) (by rw [e1]; rfl) k (.int .i64 (x.2 : Int)) (by unfold icn; rw [List.getElem?_map, hx]; rfl)
      rw [add_at, Nat.zero_add] at hc
      exact ⟨g, e1, hc⟩
  have HN : Hid (∀ k x, ns[k]? = some x → ∃ g, an = some ⟨g, 0, none⟩ ∧ w.cell? ⟨g, k, none⟩ = some (.string x.1)) := hnc
  have HP : Hid (∀ k x, ns[k]? = some x → ∃ g, ap = some ⟨g, 0, none⟩ ∧ w.cell? ⟨g, k, none⟩ = some (.int .i64 (x.2 : Int))) := hpc
  have HD : Hid (∀ k x, ns[k]? = some x → lk (ns.drop k) t = if x.1 = t then some x.2 else lk (ns.drop (k + 1)) t) := fun k x hx => lk_drop ns t hx
  have H0 : Hid (lk (ns.drop 0) t = lk ns t) := rfl
  have HE : Hid (lk (ns.drop ns.length) t = none) := by show _ = _; rw [List.drop_length]; rfl
  have HL : Hid (∀ k, k < ns.length → ∃ x, ns[k]? = some x) := fun k hk => ⟨_, List.getElem?_eq_getElem hk⟩
  clear hnc hpc h
  generalize hRS : lk ns t = RS at *
  clear hRS
  generalize ns.length = N at *
  go_enter Tryz.func16, Tryz.ntmps16
  go_wp2_with fail
  go_loop [5] (fun iv => ∃ k : Nat, iv = .int .i64 (k : Int) ∧ k ≤ N ∧ Hid (lk (ns.drop k) t = RS)) (fun iv => N - (intOf iv).toNat)
  case atStart => exact ⟨0, rfl, Nat.zero_le _, H0⟩
  case round =>
    obtain ⟨k, rfl, hk, HK⟩ := hrel
    by_cases hlt : k < N
    · have hltI : decide ((k : Int) < (N : Int)) = true := by simp; omega
      have hltJ : (k : Int) < (N : Int) := by omega
      have hk0 : (0 : Int) ≤ (k : Int) := by omega
      obtain ⟨x, hx⟩ := HL.out k hlt
      obtain ⟨g, rfl, hc⟩ := HN.out k x hx
      obtain ⟨g2, rfl, hc2⟩ := HP.out k x hx
      have hd : Hid (_ = _) := (HD.out k x hx).symm.trans HK.out
      obtain ⟨x1, x2⟩ := x
      clear hx
      simp only at hc hc2
      cases hm : (x1.toList == t.toList) with
      | true =>
        have HR : Hid (RS = some x2) := by show _ = _; rw [← hd.out, if_pos (beq_tl.1 hm)]
        clear hd HK
        go_wp2_with fail
        go_ret
        exact ⟨by rw [HR.out]; rfl, rfl⟩
      | false =>
        have HR : Hid (lk (ns.drop (k + 1)) t = RS) := by
          show _ = _
          rw [← hd.out, if_neg (fun z => by have z : x1 = t := z; rw [beq_tl.2 z] at hm; cases hm)]
        clear hd HK
        go_wp2_with fail
        go_round
        case rel => exact ⟨k + 1, by go_num, by omega, HR⟩
        case measure => simp [intOf]; omega
    · obtain rfl : k = N := by omega
      have hltI : decide ((k : Int) < (k : Int)) = false := by simp
      have HR : Hid (RS = none) := HK.out.symm.trans HE.out
      clear HK HE
      go_wp2_with fail
      go_ret
      exact ⟨by rw [HR.out]; rfl, rfl⟩
end Go.Proofs.YtchbhmolnoggfaaGreatDoor

namespace Go.Proofs.YtchbhmolnoggfaaGreatDoor
open Go.RowKit Go.Deep Go.ChangeShapes Go.WideShapes Go.ChangeAt
attribute [local go_sem] Oper.semAt_some run_store_nf run_store_f
theorem hp_at {t : ByteArray} (h0 : 0 < t.size) (c : UInt8) : hp t c = (c == t[0]) := by
  have e : t.data.toList = t[0] :: t.data.toList.drop 1 := by
    have hl : 0 < t.data.toList.length := by simpa using h0
    have := List.drop_eq_getElem_cons hl
    rw [List.drop_zero] at this
    rw [this]
    simp
    rfl
  unfold hp Lib.hasPrefix
  rw [e]
  simp [List.isPrefixOf]
theorem tp_at {t : ByteArray} {c : UInt8} (h : hp t c = true) : tp t c = t.extract 1 t.size := by
  apply ba_ext
  rw [ext_list]
  show (Lib.trimPrefix t.data.toList [c]).toArray.toList = _
  unfold Lib.trimPrefix
  have h' : Lib.hasPrefix t.data.toList [c] = true := h
  rw [if_pos h']
  simp
  rw [List.take_of_length_le (by simp)]
theorem src_ok {t : ByteArray} : src t = if (regB t || prsE t.toList == 0) = true then some (regB t, if regB t = true then regN t else prsV t.toList) else none := by
  unfold src
  cases hb : regB t with
  | true => simp
  | false =>
    by_cases he : prsE t.toList = 0
    · simp [he]
    · simp [he]
def OpR (r : Option Ins) (ok : Bool) (u' : Ins) : Prop := match r with
  | some u1 => ok = true ∧ u' = u1
  | none => ok = false
def OpP (w : World) (ib : Nat) (r : Option Ins) (e : Ending) (w' : World) : Prop := ∃ ok u', e = .returned (.bool ok) ∧ CL w' ib (Ins.cells u') ∧ Keeps (fun k => k = ib) w w' ∧ OpR r ok u'
set_option maxHeartbeats 1000000 in
set_option maxRecDepth 100000 in
theorem roper_1 {w : World} {ib R : Nat} {u : Ins} (t : ByteArray) (h0 : t.size ≠ 0) (hs : t.size ≤ 4096) (col bh n : Int) (hU : CL w ib u.cells) :
    Calls Tryz.prog 27 #[.pointer (some ⟨R, 0, none⟩), .pointer (some ⟨ib, 0, none⟩), .int .u8 100, .agg #[.string t, .int .i64 col, .int .i64 bh], .int .i64 n] w (OpP w ib (fil u 1 t)) := by
  obtain ⟨w0, hw0⟩ : ∃ w0, w0 = w.alloc (.cells #[.string t, .int .i64 col, .int .i64 bh] 83) := ⟨_, rfl⟩
  have k0 : Keeps (fun _ => False) w w0 := by rw [hw0]; exact (Keeps.refl _ w).alloc _
  have m0 : CL w0 w.heap.size [.string t, .int .i64 col, .int .i64 bh] := by rw [hw0]; exact CL.made w [.string t, .int .i64 col, .int .i64 bh] 83
  have hU0 := hU.keep (by show 0 < 11; decide) k0 (fun e => e)
  have lu := hU.lt (by show 0 < 11; decide)
  have nu : ¬ ib = w.heap.size := by omega
  have nu' : ¬ w.heap.size = ib := by omega
  have y0 := m0.c 0 _ rfl
  have _ := h0
  have _ := hs
  have hR := rregister_T w0 t
  cases hb : regB t with
  | true =>
    have hi := regB_inv hb
    rw [hb, if_pos rfl] at hR
    have HF : Hid (fil u 1 t = some { u with dst := regN t }) := by show _ = _; unfold fil; rw [if_pos rfl, if_pos hb]
    have b1 : decide ((0 : Int) ≤ regN t) = true := decide_eq_true hi.2.1
    clear hi
    generalize regN t = r at *
    go_enter Tryz.func27, Tryz.ntmps27
    go_wp2_with (first | (rw [← hw0]; clear hw0) | (go_at_call 37; refine hR.mono ?_; clear hR; rintro e w1 ⟨rfl, k1⟩; have hU1 := hU0.keep (by show 0 < 11; decide) k1 (fun e => e); have z1 := hU1.z 1 (by show 1 < 11; decide); have c1 := hU1.c 1 _ rfl))
    go_ret
    unfold OpP
    refine ⟨true, { u with dst := r }, rfl, hU1.set (o := 1) (by show 1 < 11; decide) (.int .i64 r), Keeps.setCell (S := fun k => k = ib) ((k0.trans k1).mono (fun _ _ e => e.elim)) (fun _ => rfl) _, ?_⟩
    rw [HF.out]; exact ⟨rfl, rfl⟩
  | false =>
    rw [hb, if_neg (by decide)] at hR
    have HF : Hid (fil u 1 t = none) := by show _ = _; unfold fil; rw [if_pos rfl, if_neg (by rw [hb]; decide)]
    go_enter Tryz.func27, Tryz.ntmps27
    go_wp2_with (first | (rw [← hw0]; clear hw0) | (go_at_call 37; refine hR.mono ?_; clear hR; rintro e w1 ⟨rfl, k1⟩; have hU1 := hU0.keep (by show 0 < 11; decide) k1 (fun e => e); have z1 := hU1.z 1 (by show 1 < 11; decide); have c1 := hU1.c 1 _ rfl))
    go_ret
    unfold OpP
    refine ⟨false, { u with dst := -1 }, rfl, hU1.set (o := 1) (by show 1 < 11; decide) (.int .i64 (-1)), Keeps.setCell (S := fun k => k = ib) ((k0.trans k1).mono (fun _ _ e => e.elim)) (fun _ => rfl) _, ?_⟩
    rw [HF.out]; rfl
set_option maxHeartbeats 1000000 in
set_option maxRecDepth 100000 in
theorem roper_2 {w : World} {ib R : Nat} {u : Ins} (t : ByteArray) (h0 : t.size ≠ 0) (hs : t.size ≤ 4096) (col bh n : Int) (hU : CL w ib u.cells) :
    Calls Tryz.prog 27 #[.pointer (some ⟨R, 0, none⟩), .pointer (some ⟨ib, 0, none⟩), .int .u8 111, .agg #[.string t, .int .i64 col, .int .i64 bh], .int .i64 n] w (OpP w ib (fil u 2 t)) := by
  obtain ⟨w0, hw0⟩ : ∃ w0, w0 = w.alloc (.cells #[.string t, .int .i64 col, .int .i64 bh] 83) := ⟨_, rfl⟩
  have k0 : Keeps (fun _ => False) w w0 := by rw [hw0]; exact (Keeps.refl _ w).alloc _
  have m0 : CL w0 w.heap.size [.string t, .int .i64 col, .int .i64 bh] := by rw [hw0]; exact CL.made w [.string t, .int .i64 col, .int .i64 bh] 83
  have hU0 := hU.keep (by show 0 < 11; decide) k0 (fun e => e)
  have lu := hU.lt (by show 0 < 11; decide)
  have nu : ¬ ib = w.heap.size := by omega
  have nu' : ¬ w.heap.size = ib := by omega
  have y0 := m0.c 0 _ rfl
  have _ := h0
  have _ := hs
  have hz : 0 < t.size := by omega
  have hzI : (0 : Int) < (t.size : Int) := by omega
  have hz1 : (1 : Int) ≤ (t.size : Int) := by omega
  by_cases h64 : hp t 64 = true
  · have e64 : t[0] = 64 := by rw [hp_at hz] at h64; exact (beq_iff_eq.1 h64).symm
    have x1 : ((t[0].toNat : Int) != 64) = false := by rw [e64]; rfl
    have HF : Hid (fil u 2 t = if (regB (t.extract 1 t.size) || prsE (t.extract 1 t.size).toList == 0) = true then some { u with oR := regB (t.extract 1 t.size), oN := if regB (t.extract 1 t.size) = true then regN (t.extract 1 t.size) else prsV (t.extract 1 t.size).toList } else none) := by
      show _ = _
      unfold fil objO
      rw [if_neg (by decide), if_pos rfl, if_pos h64, tp_at h64, src_ok]
      split <;> rfl
    have hts : (t.extract 1 t.size).size ≤ 4096 := by rw [ByteArray.size_extract]; omega
    clear e64 h64
    obtain ⟨w1x, hx⟩ : ∃ z : Nat, z = 0 := ⟨0, rfl⟩
    clear hx w1x
    have hS := rsource_T w0 (t.extract 1 t.size) hts
    generalize hr : regB (t.extract 1 t.size) = r at *
    generalize hn : (if r = true then regN (t.extract 1 t.size) else prsV (t.extract 1 t.size).toList) = nn at *
    generalize hk : (r || prsE (t.extract 1 t.size).toList == 0) = ok at *
    clear hr hn hk
    go_enter Tryz.func27, Tryz.ntmps27
    go_wp2_with (first | (rw [← hw0]; clear hw0) | (go_at_call 38; refine hS.mono ?_; clear hS; rintro e w1 ⟨rfl, k1⟩; have k2 : Keeps (fun _ => False) w0 (w1.alloc (.cells #[.bool r, .int .i64 nn] 57)) := k1.alloc _; have hU2 := hU0.keep (by show 0 < 11; decide) k2 (fun e => e)) | (refine wpList_store_cl rfl 57 _ _ rfl ib 2 2 _ rfl rfl rfl hU2 (by show 4 ≤ 11; decide) iOr (all_oneCell_toArray (by simp [Value.oneCell'])) ?_; intro w5 hc5 k5 hsz5; clear hsz5))
    go_ret
    unfold OpP
    refine ⟨ok, { u with oR := r, oN := nn }, rfl, hc5, ((k0.trans k2).mono (fun _ _ e => e.elim)).trans (k5.mono (fun _ _ e => e)), ?_⟩
    rw [HF.out]
    cases ok
    · rfl
    · exact ⟨rfl, rfl⟩
  · have e64 : t[0] ≠ 64 := fun e => h64 (by rw [hp_at hz, e]; rfl)
    have x1 : ((t[0].toNat : Int) != 64) = true := by
      rw [bne_iff_ne]
      intro e
      exact e64 (UInt8.toNat_inj.1 (by show _ = 64; omega))
    have HF : Hid (fil u 2 t = none) := by
      show _ = _
      unfold fil objO
      rw [if_neg (by decide), if_pos rfl, if_neg h64]
      rfl
    clear e64 h64
    go_enter Tryz.func27, Tryz.ntmps27
    go_wp2_with (first | (rw [← hw0]; clear hw0))
    go_ret
    unfold OpP
    refine ⟨false, u, rfl, hU0, k0.mono (fun _ _ e => e.elim), ?_⟩
    rw [HF.out]; rfl
set_option maxHeartbeats 1000000 in
set_option maxRecDepth 100000 in
theorem roper_3 {w : World} {ib R : Nat} {u : Ins} (t : ByteArray) (h0 : t.size ≠ 0) (hs : t.size ≤ 4096) (col bh n : Int) (hU : CL w ib u.cells) :
    Calls Tryz.prog 27 #[.pointer (some ⟨R, 0, none⟩), .pointer (some ⟨ib, 0, none⟩), .int .u8 120, .agg #[.string t, .int .i64 col, .int .i64 bh], .int .i64 n] w (OpP w ib (fil u 3 t)) := by
  obtain ⟨w0, hw0⟩ : ∃ w0, w0 = w.alloc (.cells #[.string t, .int .i64 col, .int .i64 bh] 83) := ⟨_, rfl⟩
  have k0 : Keeps (fun _ => False) w w0 := by rw [hw0]; exact (Keeps.refl _ w).alloc _
  have m0 : CL w0 w.heap.size [.string t, .int .i64 col, .int .i64 bh] := by rw [hw0]; exact CL.made w [.string t, .int .i64 col, .int .i64 bh] 83
  have hU0 := hU.keep (by show 0 < 11; decide) k0 (fun e => e)
  have lu := hU.lt (by show 0 < 11; decide)
  have nu : ¬ ib = w.heap.size := by omega
  have nu' : ¬ w.heap.size = ib := by omega
  have y0 := m0.c 0 _ rfl
  have _ := h0
  have _ := hs
  have HF : Hid (fil u 3 t = if (regB t || prsE t.toList == 0) = true then some { u with xR := regB t, xN := if regB t = true then regN t else prsV t.toList } else none) := by
    show _ = _
    unfold fil
    rw [if_neg (by decide), if_neg (by decide), if_pos rfl, src_ok]
    split <;> rfl
  obtain ⟨w1x, hx⟩ : ∃ z : Nat, z = 0 := ⟨0, rfl⟩
  clear hx w1x
  have hS := rsource_T w0 t hs
  generalize hr : regB t = r at *
  generalize hn : (if r = true then regN t else prsV t.toList) = nn at *
  generalize hk : (r || prsE t.toList == 0) = ok at *
  clear hr hn hk
  go_enter Tryz.func27, Tryz.ntmps27
  go_wp2_with (first | (rw [← hw0]; clear hw0) | (go_at_call 38; refine hS.mono ?_; clear hS; rintro e w1 ⟨rfl, k1⟩; have k2 : Keeps (fun _ => False) w0 (w1.alloc (.cells #[.bool r, .int .i64 nn] 57)) := k1.alloc _; have hU2 := hU0.keep (by show 0 < 11; decide) k2 (fun e => e)) | (refine wpList_store_cl rfl 57 _ _ rfl ib 4 2 _ rfl rfl rfl hU2 (by show 6 ≤ 11; decide) iOr (all_oneCell_toArray (by simp [Value.oneCell'])) ?_; intro w5 hc5 k5 hsz5; clear hsz5))
  go_ret
  unfold OpP
  refine ⟨ok, { u with xR := r, xN := nn }, rfl, hc5, ((k0.trans k2).mono (fun _ _ e => e.elim)).trans (k5.mono (fun _ _ e => e)), ?_⟩
  rw [HF.out]
  cases ok
  · rfl
  · exact ⟨rfl, rfl⟩
set_option maxHeartbeats 1000000 in
set_option maxRecDepth 100000 in
theorem roper_4 {w : World} {ib R : Nat} {u : Ins} (t : ByteArray) (h0 : t.size ≠ 0) (hs : t.size ≤ 4096) (col bh n : Int) (hU : CL w ib u.cells) :
    Calls Tryz.prog 27 #[.pointer (some ⟨R, 0, none⟩), .pointer (some ⟨ib, 0, none⟩), .int .u8 121, .agg #[.string t, .int .i64 col, .int .i64 bh], .int .i64 n] w (OpP w ib (fil u 4 t)) := by
  obtain ⟨w0, hw0⟩ : ∃ w0, w0 = w.alloc (.cells #[.string t, .int .i64 col, .int .i64 bh] 83) := ⟨_, rfl⟩
  have k0 : Keeps (fun _ => False) w w0 := by rw [hw0]; exact (Keeps.refl _ w).alloc _
  have m0 : CL w0 w.heap.size [.string t, .int .i64 col, .int .i64 bh] := by rw [hw0]; exact CL.made w [.string t, .int .i64 col, .int .i64 bh] 83
  have hU0 := hU.keep (by show 0 < 11; decide) k0 (fun e => e)
  have lu := hU.lt (by show 0 < 11; decide)
  have nu : ¬ ib = w.heap.size := by omega
  have nu' : ¬ w.heap.size = ib := by omega
  have y0 := m0.c 0 _ rfl
  have _ := h0
  have _ := hs
  have HF : Hid (fil u 4 t = if (regB t || prsE t.toList == 0) = true then some { u with yR := regB t, yN := if regB t = true then regN t else prsV t.toList } else none) := by
    show _ = _
    unfold fil
    rw [if_neg (by decide), if_neg (by decide), if_neg (by decide), if_pos rfl, src_ok]
    split <;> rfl
  obtain ⟨w1x, hx⟩ : ∃ z : Nat, z = 0 := ⟨0, rfl⟩
  clear hx w1x
  have hS := rsource_T w0 t hs
  generalize hr : regB t = r at *
  generalize hn : (if r = true then regN t else prsV t.toList) = nn at *
  generalize hk : (r || prsE t.toList == 0) = ok at *
  clear hr hn hk
  go_enter Tryz.func27, Tryz.ntmps27
  go_wp2_with (first | (rw [← hw0]; clear hw0) | (go_at_call 38; refine hS.mono ?_; clear hS; rintro e w1 ⟨rfl, k1⟩; have k2 : Keeps (fun _ => False) w0 (w1.alloc (.cells #[.bool r, .int .i64 nn] 57)) := k1.alloc _; have hU2 := hU0.keep (by show 0 < 11; decide) k2 (fun e => e)) | (refine wpList_store_cl rfl 57 _ _ rfl ib 6 2 _ rfl rfl rfl hU2 (by show 8 ≤ 11; decide) iOr (all_oneCell_toArray (by simp [Value.oneCell'])) ?_; intro w5 hc5 k5 hsz5; clear hsz5))
  go_ret
  unfold OpP
  refine ⟨ok, { u with yR := r, yN := nn }, rfl, hc5, ((k0.trans k2).mono (fun _ _ e => e.elim)).trans (k5.mono (fun _ _ e => e)), ?_⟩
  rw [HF.out]
  cases ok
  · rfl
  · exact ⟨rfl, rfl⟩
set_option maxHeartbeats 1000000 in
set_option maxRecDepth 100000 in
theorem roper_5 {w : World} {ib R : Nat} {u : Ins} (t : ByteArray) (h0 : t.size ≠ 0) (hs : t.size ≤ 4096) (col bh n : Int) (hU : CL w ib u.cells) :
    Calls Tryz.prog 27 #[.pointer (some ⟨R, 0, none⟩), .pointer (some ⟨ib, 0, none⟩), .int .u8 114, .agg #[.string t, .int .i64 col, .int .i64 bh], .int .i64 n] w (OpP w ib (fil u 5 t)) := by
  obtain ⟨w0, hw0⟩ : ∃ w0, w0 = w.alloc (.cells #[.string t, .int .i64 col, .int .i64 bh] 83) := ⟨_, rfl⟩
  have k0 : Keeps (fun _ => False) w w0 := by rw [hw0]; exact (Keeps.refl _ w).alloc _
  have m0 : CL w0 w.heap.size [.string t, .int .i64 col, .int .i64 bh] := by rw [hw0]; exact CL.made w [.string t, .int .i64 col, .int .i64 bh] 83
  have hU0 := hU.keep (by show 0 < 11; decide) k0 (fun e => e)
  have lu := hU.lt (by show 0 < 11; decide)
  have nu : ¬ ib = w.heap.size := by omega
  have nu' : ¬ w.heap.size = ib := by omega
  have y0 := m0.c 0 _ rfl
  have _ := h0
  have _ := hs
  have hR := rrelNamed_any t w0
  have HF : Hid (fil u 5 t = if look relT t 1 6 ≠ 0 then some { u with rel := (look relT t 1 6 : Nat) } else none) := by
    show _ = _
    unfold fil
    rw [if_neg (by decide), if_neg (by decide), if_neg (by decide), if_neg (by decide), if_pos rfl]
  generalize look relT t 1 6 = L at *
  have hU9 := hU0
  have z9 := hU0.z 9 (by show 9 < 11; decide)
  have c9 := hU0.c 9 _ rfl
  by_cases hL : L = 0
  · subst hL
    have hR' : Calls Tryz.prog 39 #[.string t] w0 fun e w' => e = .returned (.tuple #[.int .i64 0, .int .i64 11]) ∧ w' = w0 := hR
    clear hR
    go_enter Tryz.func27, Tryz.ntmps27
    go_wp2_with (first | (rw [← hw0]; clear hw0) | (go_at_call 39; refine hR'.mono ?_; clear hR'; rintro e w1 ⟨rfl, e1⟩; subst e1))
    go_ret
    unfold OpP
    refine ⟨false, { u with rel := 0 }, rfl, hU9.set (o := 9) (by show 9 < 11; decide) (.int .i64 0), Keeps.setCell (S := fun k => k = ib) (k0.mono (fun _ _ e => e.elim)) (fun _ => rfl) _, ?_⟩
    rw [HF.out, if_neg (by simp)]; rfl
  · have hR' : Calls Tryz.prog 39 #[.string t] w0 fun e w' => e = .returned (.tuple #[.int .i64 (L : Int), .int .i64 0]) ∧ w' = w0 := by
      rw [show lookE 11 L = 0 from if_neg hL] at hR
      exact hR
    have HL : Hid (L ≠ 0) := hL
    clear hR hL
    go_enter Tryz.func27, Tryz.ntmps27
    go_wp2_with (first | (rw [← hw0]; clear hw0) | (go_at_call 39; refine hR'.mono ?_; clear hR'; rintro e w1 ⟨rfl, e1⟩; subst e1))
    go_ret
    unfold OpP
    refine ⟨true, { u with rel := (L : Int) }, rfl, hU9.set (o := 9) (by show 9 < 11; decide) (.int .i64 (L : Int)), Keeps.setCell (S := fun k => k = ib) (k0.mono (fun _ _ e => e.elim)) (fun _ => rfl) _, ?_⟩
    rw [HF.out, if_pos HL.out]; exact ⟨rfl, rfl⟩
end Go.Proofs.YtchbhmolnoggfaaGreatDoor

