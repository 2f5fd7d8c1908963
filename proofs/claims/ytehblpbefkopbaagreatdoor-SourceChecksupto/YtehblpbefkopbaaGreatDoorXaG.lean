import Derived.Test.YtehblpbefkopbaaGreatDoorXaF
namespace Go.Proofs.YtehblpbefkopbaaGreatDoor
open Go.RowKit Go.ChangeShapes Go.WideShapes Go.ChangeAt
attribute [local go_sem] Oper.semAt_some run_store_nf run_store_f
def blnk : Bs := [32, 9, 10]
theorem spk_trim : ∀ l : Bs, spk false (l.dropWhile (blnk.contains ·)) = spk false l
  | [] => rfl
  | b :: r => by
    rw [List.dropWhile_cons]
    split
    · rename_i h
      have h : b = 32 ∨ b = 9 ∨ b = 10 := by simpa [blnk] using h
      rw [spk_trim r]
      rw [show spk false (b :: r) = if b = 32 ∨ b = 9 ∨ b = 10 then spk false r else if b = 35 then spk true r else b :: r from rfl, if_pos h]
    · rfl
def aft (l : Bs) : Bs := (Lib.cut l [10]).2.1
theorem aft_eq (l : Bs) : aft l = if 0 ≤ Lib.index l [10] then l.drop ((Lib.index l [10]).toNat + 1) else [] := by
  unfold aft Lib.cut
  split <;> rfl
theorem spk_aft : ∀ l : Bs, spk true l = spk false (aft l)
  | [] => rfl
  | b :: r => by
    have ih := spk_aft r
    rw [aft_eq] at ih ⊢
    have hg := Lib.index_ge r [10]
    show (if b = 10 then spk false r else spk true r) = _
    rw [show Lib.index (b :: r) [10] = if List.isPrefixOf [10] (b :: r) then 0 else if Lib.index r [10] == -1 then -1 else Lib.index r [10] + 1 from rfl]
    by_cases h : b = 10
    · subst h
      rw [if_pos rfl, if_pos (show List.isPrefixOf [10] ((10 : UInt8) :: r) = true by simp [List.isPrefixOf])]
      rfl
    · have hpre : List.isPrefixOf [10] (b :: r) = false := by
        simp [List.isPrefixOf]
        exact fun e => h e.symm
      rw [if_neg h, ih, hpre]
      by_cases h2 : Lib.index r [10] = -1
      · rw [h2]; rfl
      · have h4 : (Lib.index r [10] == -1) = false := by simpa using h2
        rw [h4]
        simp only [Bool.false_eq_true, if_false]
        rw [if_pos (by omega), if_pos (by omega)]
        rw [show (Lib.index r [10] + 1).toNat + 1 = ((Lib.index r [10]).toNat + 1) + 1 by omega, List.drop_succ_cons]
theorem aft_len (l : Bs) (h : l ≠ []) : (aft l).length < l.length := by
  have h0 : 0 < l.length := List.length_pos_iff.2 h
  rw [aft_eq]
  split
  · rw [List.length_drop]; omega
  · exact h0
theorem spk_stop (x : Bs) (h1 : ∀ b r, x = b :: r → blnk.contains b = false) (h2 : List.isPrefixOf [35] x = false) : spk false x = x := by
  cases x with
  | nil => rfl
  | cons b r =>
    have := h1 b r rfl
    have h : ¬ (b = 32 ∨ b = 9 ∨ b = 10) := by simpa [blnk] using this
    have h3 : ¬ b = 35 := by intro e; subst e; simp [List.isPrefixOf] at h2
    rw [show spk false (b :: r) = if b = 32 ∨ b = 9 ∨ b = 10 then spk false r else if b = 35 then spk true r else b :: r from rfl, if_neg h, if_neg h3]
theorem spk_hash (x : Bs) (h2 : List.isPrefixOf [35] x = true) : spk false x = spk false (aft x) ∧ x ≠ [] := by
  cases x with
  | nil => cases h2
  | cons b r =>
    have h3 : b = 35 := by simp [List.isPrefixOf] at h2; exact h2.symm
    subst h3
    refine ⟨?_, by simp⟩
    rw [← spk_aft]; rfl
theorem trim_head : ∀ (l : Bs) (b : UInt8) (r : Bs), l.dropWhile (blnk.contains ·) = b :: r → blnk.contains b = false
  | [], b, r, h => by cases h
  | c :: l, b, r, h => by
    rw [List.dropWhile_cons] at h
    split at h
    · exact trim_head l b r h
    · rename_i hn
      injection h with h _
      rw [← h]
      simpa using hn
theorem trim_len (l : Bs) : (l.dropWhile (blnk.contains ·)).length ≤ l.length := (List.dropWhile_suffix _).length_le
def slen : Value → Nat | .string s => s.size | _ => 0
theorem trimL_any (W : World) (x : Bs) : Calls Tryz.prog 59 #[.string (bs x), .string ⟨#[32, 9, 10]⟩] W fun e w' => e = .returned (.string (bs (x.dropWhile (blnk.contains ·)))) ∧ Keeps (fun _ => False) W w' :=
  (Any.strings_TrimLeft_laid Tryz.lays161 (by kernel_rfl) (bs x) ⟨#[32, 9, 10]⟩ W (by decide) (fun j b h => by
    match j, h with
    | 0, h => cases h; decide
    | 1, h => cases h; decide
    | 2, h => cases h; decide
    | j + 3, h => cases h)).mono fun e w' ⟨h1, h2⟩ => ⟨h1, Keeps.ofBelow h2⟩
set_option maxHeartbeats 800000 in
theorem spoken_any (l : Bs) (hl : l.length ≤ 32768) {w : World} (hG : SG w) : Calls Tryz.prog 44 #[.string (bs l)] w fun e w' => e = .returned (.string (bs (spk false l))) ∧ Keeps (fun _ => False) w w' := by
  have hT := trimL_any
  have hP : ∀ (p : Bs) W, Calls Tryz.prog 60 #[.string (bs p), .string ⟨#[35]⟩] W fun e w' => e = .returned (.bool (List.isPrefixOf [35] p)) ∧ w' = W := fun p W => Tryz.strings_HasPrefix (bs p) ⟨#[35]⟩ W
  have hC : ∀ (p : Bs) W, p.length ≤ 32768 → SG W → Calls Tryz.prog 61 #[.string (bs p), .string ⟨#[10]⟩] W fun e w' => e = .returned (.tuple #[.string ⟨(Lib.cut p [10]).1.toArray⟩, .string (bs (aft p)), .bool (Lib.cut p [10]).2.2]) ∧ ∃ n, w' = W.drewN n := fun p W hp hG => by
    obtain ⟨m, hm⟩ := hG.mx
    exact Tryz.strings_Cut (bs p) ⟨#[10]⟩ m W (by rw [bs_size]; omega) hm
  go_enter Tryz.func44, Tryz.ntmps44
  go_wp2_with fail
  go_loopw [0] (fun iv Wr => ∃ x : Bs, iv = .string (bs x) ∧ x.length ≤ 32768 ∧ spk false x = spk false l ∧ Keeps (fun _ => False) w Wr) (fun iv _ => slen iv)
  case atStart => exact ⟨l, rfl, hl, rfl, Keeps.refl _ _⟩
  case round =>
    obtain ⟨x, rfl, hx, hs, kr⟩ := hrel
    have h1 := spk_trim x
    have h2 := trim_len x
    have h3 := trim_head x
    have hTx := fun W => hT W x
    generalize x.dropWhile (blnk.contains ·) = y at *
    have hPy := hP y
    have hCy := hC y
    clear hT hP hC
    cases hp : List.isPrefixOf [35] y
    · have HS : Hid (bs y = bs (spk false l)) := by
        show _ = _
        rw [← hs, ← h1, spk_stop y h3 hp]
      rw [hp] at hPy
      clear h1 h3 hs hp
      go_wp2_with (first | (go_at_call 59; refine (hTx _).mono ?_; rintro e w1 ⟨rfl, k1⟩) | (go_at_call 60; refine (hPy _).mono ?_; rintro e w' ⟨rfl, rfl⟩))
      go_ret
      exact ⟨congrArg (fun z => Ending.returned (.string z)) HS.out, kr.trans k1⟩
    · have hh := spk_hash y hp
      have hal := aft_len y hh.2
      have HS : Hid (spk false (aft y) = spk false l) := by
        show _ = _
        rw [← hh.1, h1, hs]
      rw [hp] at hPy
      clear h1 h3 hs hp
      generalize aft y = z at *
      generalize ha : (⟨(Lib.cut y [10]).1.toArray⟩ : ByteArray) = u1 at *
      generalize (Lib.cut y [10]).2.2 = u2 at *
      clear ha hh
      go_wp2_with (first | (go_at_call 59; refine (hTx _).mono ?_; rintro e w1 ⟨rfl, k1⟩; have hG1 := hG.keep (kr.trans k1) (fun _ _ e => e)) | (go_at_call 60; refine (hPy _).mono ?_; rintro e w' ⟨rfl, rfl⟩) | (go_at_call 61; refine (hCy _ (by omega) hG1).mono ?_; rintro e w2 ⟨rfl, n, rfl⟩))
      go_roundw
      case rel => exact ⟨z, rfl, by omega, HS.out, (kr.trans k1).drewN n⟩
      case measure => simp [slen, bs_size]; omega
/-- A fault at the place from which R is left. -/
def fltV (T R : Bs) : Value := .agg #[.int .i64 231, .int .i64 (lnO (T.take (T.length - R.length)) : Int), .int .i64 (colO (T.take (T.length - R.length)) : Int)]
abbrev panT (T R : Bs) : Ending := .panicked [{ v := .iface 51 (fltV T R), recovered := false }]
/-- A reader in memory. -/
structure RdM (w : World) (r : Nat) (T R : Bs) : Prop where
  c : CL w r [.string (bs T), .string (bs R), .string (bs (tok R))]
  suf : R <:+ T
  len : T.length ≤ 32768
  g : SG w
  low : 12 ≤ r
theorem RdM.keep {S : Nat → Prop} {w w' : World} {r : Nat} {T R : Bs} (h : RdM w r T R) (k : Keeps S w w') (hS : ∀ i, i < 12 → ¬ S i) (hr : ¬ S r) : RdM w' r T R :=
  ⟨h.c.keep (by show 0 < 3; decide) k hr, h.suf, h.len, h.g.keep k hS, h.low⟩
theorem RdM.rl {w : World} {r : Nat} {T R : Bs} (h : RdM w r T R) : R.length ≤ 32768 := Nat.le_trans h.suf.length_le h.len
theorem last_col (A : Bs) : ((bs A).size : Int) - Lib.lastIndexByte (bs A) 10 = (colO A : Int) := by
  have hd : ∀ j, (bs A).data[j]! = A.getD j 0 := fun j => by
    show A.toArray[j]! = _
    simp [List.getD_eq_getElem?_getD]
    rfl
  rcases Lib.lastIndexByte_spec (bs A) 10 with ⟨e, hn⟩ | ⟨i, hi, e, hc, hn⟩
  · have hno : (10 : UInt8) ∉ A := by
      intro hm
      obtain ⟨j, hj, ej⟩ := List.getElem_of_mem hm
      refine hn j hj ?_
      rw [hd, List.getD_eq_getElem?_getD, List.getElem?_eq_getElem hj, ej]; rfl
    rw [e, colO_no A hno, bs_size]; omega
  · rw [bs_size] at hi
    have hAi : A[i] = 10 := by
      rw [hd, List.getD_eq_getElem?_getD, List.getElem?_eq_getElem hi] at hc
      have hc : (A[i].toNat : Int) = 10 := hc
      exact UInt8.toNat_inj.1 (by show A[i].toNat = 10; omega)
    have hsp : A = A.take i ++ 10 :: A.drop (i + 1) := by
      have := List.take_append_drop i A
      rw [List.drop_eq_getElem_cons hi, hAi] at this
      exact this.symm
    have hno : (10 : UInt8) ∉ A.drop (i + 1) := by
      intro hm
      obtain ⟨j, hj, ej⟩ := List.getElem_of_mem hm
      rw [List.length_drop] at hj
      rw [List.getElem_drop] at ej
      refine hn (i + 1 + j) (by omega) (by rw [bs_size]; omega) ?_
      rw [hd, List.getD_eq_getElem?_getD, List.getElem?_eq_getElem (by omega), ej]; rfl
    have := colO_app_nl (A.take i) (A.drop (i + 1)) hno
    rw [← hsp] at this
    rw [e, this, bs_size, List.length_drop]; omega
set_option maxHeartbeats 800000 in
set_option maxRecDepth 100000 in
theorem leave_any {w : World} {r : Nat} {T R : Bs} (h : RdM w r T R) : Calls Tryz.prog 46 #[.pointer (some ⟨r, 0, none⟩)] w fun e w' => e = panT T R ∧ Keeps (fun _ => False) w w' := by
  have hpn : ∀ (t : TypeId) (v : Value) (w : World), (Instr.panic (.iface t v)).run Tryz.prog w = .halt (.panic (.iface t v)) w := fun _ _ _ => rfl
  have y0 := ks_cell (h.c.c 0 _ rfl)
  have y1 := ks_cell (h.c.c 1 _ rfl)
  have hRT := h.suf.length_le
  have hTl := h.len
  have sT := bs_size T
  have sR := bs_size R
  obtain ⟨n, hn⟩ : ∃ n, n = T.length - R.length := ⟨_, rfl⟩
  have hx : (bs T).extract 0 n = bs (T.take n) := by rw [ext_bs, List.drop_zero]
  have hA : (T.take n).length = n := by rw [List.length_take]; omega
  unfold panT fltV
  rw [← hn]
  generalize T.take n = A at *
  have hCn : ∀ W, Calls Tryz.prog 67 #[.string (bs A), .string ⟨#[10]⟩] W fun e w' => e = .returned (.int .i64 (A.count 10 : Int)) ∧ w' = W := fun W => Tryz.strings_Count_one (bs A) 10 W
  have hLi : ∀ W, Calls Tryz.prog 68 #[.string (bs A), .int .u8 10] W fun e w' => e = .returned (.int .i64 (Lib.lastIndexByte (bs A) 10)) ∧ w' = W := fun W => Tryz.strings_LastIndexByte (bs A) 10 (by rw [bs_size]; omega) W
  have hcol := last_col A
  have hln : (lnO A : Int) = (A.count 10 : Int) + 1 := by unfold lnO; omega
  have hcl : A.count 10 ≤ A.length := List.count_le_length
  have hco : (colO A : Int) ≤ 32769 ∧ (1 : Int) ≤ (colO A : Int) := by
    unfold colO
    have := (List.takeWhile_prefix (fun b : UInt8 => b != 10) (l := A.reverse)).length_le
    rw [List.length_reverse] at this
    omega
  have sA := bs_size A
  generalize A.count 10 = cn at *
  generalize Lib.lastIndexByte (bs A) 10 = li at *
  rw [hln]
  generalize (colO A : Int) = co at *
  have hsub : ((bs T).size : Int) - ((bs R).size : Int) = (n : Int) := by omega
  have hn0 : (0 : Int) ≤ (n : Int) := by omega
  have hnM : (n : Int) ≤ 9223372036854775807 := by omega
  have hnT : (n : Int) ≤ ((bs T).size : Int) := by omega
  have hcn : (cn : Int) + 1 ≤ 9223372036854775807 := by omega
  haveI : Nonempty (KS w) := ⟨⟨w, Keeps.refl _ w⟩⟩
  clear hln hcl hTl hRT sT sR hn hA sA
  go_enter Tryz.func46, Tryz.ntmps46
  go_wp2_with fail
  refine wp_region_ks (by kernel_rfl) (by kernel_rfl) ?_
  repeat (go_big_quiet_step (fail))
  refine wpQuiet_nil ?_
  rintro _ ⟨u, rfl⟩
  have ku := u.property
  generalize u.val = wu at *
  clear y0 y1
  go_wp2_with (first | (go_at_call 67; refine (hCn _).mono ?_; rintro e w' ⟨rfl, rfl⟩) | (go_at_call 68; refine (hLi _).mono ?_; rintro e w' ⟨rfl, rfl⟩))
  exact ⟨rfl, rfl, ku⟩
end Go.Proofs.YtehblpbefkopbaaGreatDoor
