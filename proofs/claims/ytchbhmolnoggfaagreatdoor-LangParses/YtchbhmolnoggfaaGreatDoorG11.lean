import Derived.Test.YtchbhmolnoggfaaGreatDoorG10
import Derived.Test.YtchbhmolnoggfaaGreatDoorG01
import Derived.Test.YtchbhmolnoggfaaGreatDoorRows
import Derived.OpenShut
import Derived.WalkLawsBesides
namespace Go.Proofs.YtchbhmolnoggfaaGreatDoor
open Go.RowKit
def scn (b : ByteArray) : Nat → Nat → Int → List (ByteArray × Int × Int)
  | 0, i, fr => if 0 ≤ fr then [(b.extract fr.toNat i, fr + 1, (i : Int) + 1)] else []
  | n + 1, i, fr => if blk (b.data.toList.getD i 0) = true then (if 0 ≤ fr then [(b.extract fr.toNat i, fr + 1, (i : Int) + 1)] else []) ++ scn b n (i + 1) (-1) else scn b n (i + 1) (if fr < 0 then (i : Int) else fr)
def Pc.wd (p : Pc) : ByteArray × Int × Int := (p.t, p.col, p.col + (p.t.size : Int))
theorem scn_in (b : ByteArray) (num : Int) : ∀ (n i j : Nat), i + n = b.size → j < i → (∀ m, b.size + 1 ≤ m + (stp b n i + 1) → ∀ M, scn b (b.size - (stp b n i + 1)) (stp b n i + 1) (-1) = M → (stp b n i < b.size → M = (wdf b num m (stp b n i + 1)).map Pc.wd) → (stp b n i < b.size → scn b n i (j : Int) = (b.extract j (stp b n i), (j : Int) + 1, (stp b n i : Int) + 1) :: M) ∧ (stp b n i = b.size → scn b n i (j : Int) = [(b.extract j b.size, (j : Int) + 1, (b.size : Int) + 1)]))
  | 0, i, j, hi, hj => fun m hm M hM hw => by
    have e : stp b 0 i = i := rfl
    rw [e]
    have hib : i = b.size := by omega
    refine ⟨fun h => by omega, fun _ => ?_⟩
    show (if 0 ≤ (j : Int) then [(b.extract (j : Int).toNat i, (j : Int) + 1, (i : Int) + 1)] else []) = _
    rw [if_pos (by omega), Int.toNat_natCast, hib]
  | n + 1, i, j, hi, hj => fun m hm M hM hw => by
    by_cases hb : blk (b.data.toList.getD i 0) = true
    · have e : stp b (n + 1) i = i := by unfold stp; rw [if_pos hb]
      rw [e] at hM hw hm ⊢
      refine ⟨fun h => ?_, fun h => by omega⟩
      unfold scn
      rw [if_pos hb, if_pos (by omega), Int.toNat_natCast]
      have : scn b n (i + 1) (-1) = M := by
        rw [← hM]
        congr 1
        omega
      rw [this]
      rfl
    · have e : stp b (n + 1) i = stp b n (i + 1) := by unfold stp; rw [if_neg hb]; cases n <;> rfl
      rw [e] at hM hw hm ⊢
      have s := scn_in b num n (i + 1) j (by omega) (by omega) m hm M hM hw
      have e2 : scn b (n + 1) i (j : Int) = scn b n (i + 1) (j : Int) := by
        rw [scn, if_neg hb, if_neg (by omega)]
      rw [e2]
      exact s
theorem ext_size {b : ByteArray} {i j : Nat} (h : i ≤ j) (hj : j ≤ b.size) : (b.extract i j).size = j - i := by
  rw [ByteArray.size_extract]; omega
theorem scn_wdf (b : ByteArray) (num : Int) : ∀ (m n i : Nat), i + n = b.size → b.size < m + i → scn b n i (-1) = (wdf b num m i).map Pc.wd
  | 0, n, i, h1, h2 => by omega
  | m + 1, 0, i, h1, h2 => by
    unfold wdf
    rw [if_neg (by omega)]
    rfl
  | m + 1, n + 1, i, h1, h2 => by
    have hge := stp_ge b (b.size - i) i
    have e0 : b.size - i = n + 1 := by omega
    rw [e0] at hge
    by_cases hb : blk (b.data.toList.getD i 0) = true
    · have e : stp b (n + 1) i = i := by unfold stp; rw [if_pos hb]
      unfold wdf
      rw [if_pos (by omega), e0, e, if_neg (Nat.lt_irrefl _), List.nil_append, scn, if_pos hb, if_neg (by decide), List.nil_append]
      exact scn_wdf b num m n (i + 1) (by omega) (by omega)
    · have e : stp b (n + 1) i = stp b n (i + 1) := by unfold stp; rw [if_neg hb]; cases n <;> rfl
      have hge2 := stp_ge b n (i + 1)
      have e2 : scn b (n + 1) i (-1) = scn b n (i + 1) (i : Int) := by
        rw [scn, if_neg hb, if_pos (by decide)]
      have hsz := ext_size (b := b) (i := i) (j := stp b n (i + 1)) (by omega) (by omega)
      rw [e2]
      unfold wdf
      rw [if_pos (by omega), e0, e, if_pos (by omega), List.map_append]
      have s := scn_in b num n (i + 1) i (by omega) (by omega) m (by omega) _ rfl
      rcases Nat.lt_or_ge (stp b n (i + 1)) b.size with hlt | hge3
      · have hrec := scn_wdf b num m (b.size - (stp b n (i + 1) + 1)) (stp b n (i + 1) + 1) (by omega) (by omega)
        rw [(s (fun _ => hrec)).1 hlt, hrec]
        show _ = [Pc.wd ⟨b.extract i (stp b n (i + 1)), num, (i : Int) + 1⟩] ++ _
        unfold Pc.wd
        rw [hsz]
        have : (i : Int) + 1 + ((stp b n (i + 1) - i : Nat) : Int) = (stp b n (i + 1) : Int) + 1 := by omega
        simp only [this, List.singleton_append]
      · have heq : stp b n (i + 1) = b.size := by omega
        rw [(s (fun h => by omega)).2 heq, heq]
        have hnil : wdf b num m (b.size + 1) = [] := by
          cases m with
          | zero => rfl
          | succ m => unfold wdf; rw [if_neg (by omega)]
        rw [hnil]
        show _ = [Pc.wd ⟨b.extract i b.size, num, (i : Int) + 1⟩] ++ _
        unfold Pc.wd
        rw [← heq, hsz]
        have : (i : Int) + 1 + ((stp b n (i + 1) - i : Nat) : Int) = (stp b n (i + 1) : Int) + 1 := by omega
        simp [this]
def lk : List (ByteArray × Nat) → ByteArray → Option Nat
  | [], _ => none
  | x :: r, t => if x.1 = t then some x.2 else lk r t
theorem lk_app {ns : List (ByteArray × Nat)} {t : ByteArray} (v : Nat) (h : lk ns t = none) : lk (ns ++ [(t, v)]) = upd (lk ns) t (some v) := by
  funext x
  unfold upd
  induction ns with
  | nil =>
    show (if t = x then some v else none) = if x = t then some v else none
    by_cases e : x = t
    · rw [if_pos e, if_pos e.symm]
    · rw [if_neg e, if_neg (fun h => e h.symm)]
  | cons y r ih =>
    have h' : (if y.1 = t then some y.2 else lk r t) = none := h
    by_cases e0 : y.1 = t
    · rw [if_pos e0] at h'; cases h'
    · rw [if_neg e0] at h'
      have i := ih h'
      show (if y.1 = x then some y.2 else lk (r ++ [(t, v)]) x) = if x = t then some v else (if y.1 = x then some y.2 else lk r x)
      rw [i]
      by_cases e1 : y.1 = x
      · rw [if_pos e1, if_pos e1]
        by_cases e2 : x = t
        · exact absurd (e1.trans e2) e0
        · rw [if_neg e2]
      · rw [if_neg e1, if_neg e1]
end Go.Proofs.YtchbhmolnoggfaaGreatDoor

namespace Go.Proofs.YtchbhmolnoggfaaGreatDoor
open Go.RowKit
def lc (b : ByteArray) : Nat → Nat → Nat → List ByteArray
  | 0, i, fr => [b.extract fr i]
  | n + 1, i, fr => if b.data.toList.getD i 0 = 10 then b.extract fr i :: lc b n (i + 1) (i + 1) else lc b n (i + 1) fr
def pre1 (x : List UInt8) : List (List UInt8) → List (List UInt8)
  | h :: t => (x ++ h) :: t
  | [] => [x]
theorem ext_list (b : ByteArray) (i j : Nat) : (b.extract i j).data.toList = (b.data.toList.drop i).take (j - i) := by
  rw [ByteArray.data_extract, Array.toList_extract, List.extract_eq_take_drop]
theorem lc_sp (b : ByteArray) : ∀ (n i fr : Nat), i + n = b.size → fr ≤ i → (lc b n i fr).map (·.data.toList) = pre1 ((b.data.toList.drop fr).take (i - fr)) (sp (b.data.toList.drop i))
  | 0, i, fr, hi, hf => by
    have hl : b.data.toList.length = b.size := by simp
    have : b.data.toList.drop i = [] := List.drop_eq_nil_of_le (by omega)
    rw [this]
    show [(b.extract fr i).data.toList] = [_ ++ []]
    rw [ext_list, List.append_nil]
  | n + 1, i, fr, hi, hf => by
    have hl : b.data.toList.length = b.size := by simp
    have hlt : i < b.data.toList.length := by omega
    have hg : b.data.toList.getD i 0 = b.data.toList[i] := by rw [List.getD_eq_getElem?_getD, List.getElem?_eq_getElem hlt]; rfl
    rw [List.drop_eq_getElem_cons hlt, lc, hg]
    by_cases h : b.data.toList[i] = 10
    · rw [if_pos h, h, sp_nl, List.map_cons, lc_sp b n (i + 1) (i + 1) (by omega) (Nat.le_refl _), ext_list]
      show _ = (_ ++ []) :: _
      rw [List.append_nil, Nat.sub_self, List.take_zero]
      congr 1
      obtain ⟨h', t, e⟩ := sp_cons (b.data.toList.drop (i + 1))
      rw [e]; rfl
    · rw [if_neg h, sp_ne h, lc_sp b n (i + 1) fr (by omega) (by omega)]
      obtain ⟨h', t, e⟩ := sp_cons (b.data.toList.drop (i + 1))
      rw [e]
      show (_ ++ h') :: t = (_ ++ (b.data.toList[i] :: h')) :: t
      congr 1
      have e1 : i + 1 - fr = (i - fr) + 1 := by omega
      have e2 : (b.data.toList.drop fr)[i - fr]? = some b.data.toList[i] := by
        rw [List.getElem?_drop, show fr + (i - fr) = i by omega, List.getElem?_eq_getElem hlt]
      rw [e1, List.take_add_one, e2, Option.toList_some, List.append_assoc]
      rfl
theorem lc_lns (b : ByteArray) : lc b b.size 0 0 = lns b := by
  apply map_inj
  rw [lns_sp, lc_sp b b.size 0 0 (by omega) (Nat.le_refl _)]
  simp only [Nat.sub_self, List.take_zero, List.drop_zero]
  obtain ⟨h', t, e⟩ := sp_cons b.data.toList
  rw [e]; rfl
def rgl (s : ByteArray) : Nat → Nat → Int
  | 0, _ => -1
  | n + 1, i => if s = ⟨(114 :: Lib.itoa (i : Int)).toArray⟩ then (i : Int) else rgl s n (i + 1)
theorem regB_inv {s : ByteArray} (h : regB s = true) : s = ⟨(114 :: Lib.itoa (regN s)).toArray⟩ ∧ 0 ≤ regN s ∧ regN s < 16 := by
  have h' := h
  unfold regB at h'
  simp only [Bool.and_eq_true, beq_iff_eq] at h'
  obtain ⟨⟨h1, h2⟩, h3⟩ := h'
  have hr := (round_from h2).1
  have hb : 0 ≤ regN s ∧ regN s < 16 := by unfold rg at h3; simpa using h3
  refine ⟨?_, hb⟩
  have hp : s.data.toList = 114 :: (tp s 114).data.toList := by
    unfold hp Lib.hasPrefix at h1
    unfold tp Lib.trimPrefix Lib.hasPrefix
    rw [if_pos h1]
    cases e : s.data.toList with
    | nil => rw [e] at h1; simp [List.isPrefixOf] at h1
    | cons c r =>
      rw [e] at h1
      have : (114 : UInt8) = c := by simpa [List.isPrefixOf] using h1
      subst this
      rfl
  apply ba_ext
  rw [hp]
  show 114 :: (tp s 114).data.toList = 114 :: Lib.itoa (regN s)
  unfold regN
  rw [hr, ByteArray.toList_eq]
theorem rgl_any (s : ByteArray) : ∀ (n i : Nat), i + n = 16 → rgl s n i = if regB s = true ∧ (i : Int) ≤ regN s then regN s else -1
  | 0, i, h => by
    rw [if_neg]
    · rfl
    · rintro ⟨h1, h2⟩
      have := (regB_inv h1).2.2
      omega
  | n + 1, i, h => by
    rw [rgl]
    by_cases e : s = ⟨(114 :: Lib.itoa (i : Int)).toArray⟩
    · rw [if_pos e]
      have hg : rg (i : Int) = true := by unfold rg; simp; omega
      have h1 := reg_src hg
      have e2 : srcT true (i : Int) = 114 :: Lib.itoa (i : Int) := rfl
      rw [e2, ← e] at h1
      rw [if_pos ⟨h1.1, by rw [h1.2]; omega⟩, h1.2]
    · rw [if_neg e, rgl_any s n (i + 1) (by omega)]
      by_cases hr : regB s = true
      · have hi := regB_inv hr
        have hne : regN s ≠ (i : Int) := fun he => e (by rw [← he]; exact hi.1)
        by_cases g : (i : Int) ≤ regN s
        · rw [if_pos ⟨hr, by omega⟩, if_pos ⟨hr, g⟩]
        · rw [if_neg (fun z => by have := z.2; omega), if_neg (fun z => g z.2)]
      · rw [if_neg (fun z => hr z.1), if_neg (fun z => hr z.1)]
theorem rgl_all (s : ByteArray) : rgl s 16 0 = if regB s = true then regN s else -1 := by
  rw [rgl_any s 16 0 rfl]
  by_cases h : regB s = true
  · have := (regB_inv h).2.1
    rw [if_pos ⟨h, by omega⟩, if_pos h]
  · rw [if_neg (fun z => h z.1), if_neg h]
def lk6 (s : ByteArray) : Nat → Nat → Nat
  | 0, _ => 0
  | n + 1, i => if i ≠ 6 ∧ shT i = s then i else lk6 s n (i + 1)
theorem lk6_look {s : ByteArray} (h0 : s.size ≠ 0) : ∀ n i, lk6 s n i = look shT s i n
  | 0, i => rfl
  | n + 1, i => by
    rw [lk6, look, lk6_look h0 n (i + 1)]
    have hs : ((shT i).toList == s.toList) = true ↔ shT i = s := by
      rw [beq_iff_eq, ByteArray.toList_eq, ByteArray.toList_eq]
      constructor
      · intro h; exact ba_ext h
      · intro h; rw [h]
    by_cases e : shT i = s
    · have h6 : i ≠ 6 := by
        rintro rfl
        apply h0
        rw [← e]; rfl
      rw [if_pos ⟨h6, e⟩, if_pos (hs.2 e)]
    · rw [if_neg (fun z => e z.2), if_neg (fun z => e (hs.1 z))]
def dcd (s : ByteArray) : Int × Int := match nmd s with
  | none => (0, 0)
  | some q => (q.code, q.op)
theorem op_sh {k : Nat} (h1 : 1 ≤ k) (h2 : k ≤ 12) : look shT (opT k) 1 10 = 0 := by
  rcases (by omega : k = 1 ∨ k = 2 ∨ k = 3 ∨ k = 4 ∨ k = 5 ∨ k = 6 ∨ k = 7 ∨ k = 8 ∨ k = 9 ∨ k = 10 ∨ k = 11 ∨ k = 12) with rfl | rfl | rfl | rfl | rfl | rfl | rfl | rfl | rfl | rfl | rfl | rfl <;> decide +kernel
theorem dcd_of {s : ByteArray} (h0 : s.size ≠ 0) : dcd s = if lk6 s 10 1 ≠ 0 then (((lk6 s 10 1 : Nat) : Int), (0 : Int)) else if look opT s 1 12 ≠ 0 then ((6 : Int), ((look opT s 1 12 : Nat) : Int)) else ((0 : Int), (0 : Int)) := by
  rw [lk6_look h0]
  unfold dcd nmd
  by_cases ho : look opT s 1 12 = 0
  · rw [if_neg (by simpa using ho), if_neg (c := look opT s 1 12 ≠ 0) (by simpa using ho)]
    by_cases hs : look shT s 1 10 = 0
    · rw [if_neg (by simpa using hs), if_neg (by simpa using hs)]
    · rw [if_pos hs, if_pos hs]; rfl
  · have hb := look_le opT s 12 1
    have e := look_at opT s 12 1 _ rfl ho
    have es : opT (look opT s 1 12) = s := ba_ext (by rw [ByteArray.toList_eq, ByteArray.toList_eq] at e; exact e)
    have hz : look shT s 1 10 = 0 := by
      rw [← es]
      exact op_sh (by omega) (by omega)
    rw [if_pos ho, if_neg (by simpa using hz), if_pos ho]
end Go.Proofs.YtchbhmolnoggfaaGreatDoor

namespace Go.Proofs.YtchbhmolnoggfaaGreatDoor
open Go.ChangeShapes Go.WideShapes Go.ChangeAt Go.RowKit
theorem ropName1 (w : World) : Calls Tryz.prog 51 #[.int .i64 1] w fun e w' => e = .returned (.string (opT 1)) ∧ w' = w := by
  go_enter Tryz.func51, Tryz.ntmps51
  go_wp2
  go_ret
  exact ⟨rfl, rfl⟩
theorem ropName2 (w : World) : Calls Tryz.prog 51 #[.int .i64 2] w fun e w' => e = .returned (.string (opT 2)) ∧ w' = w := by
  go_enter Tryz.func51, Tryz.ntmps51
  go_wp2
  go_ret
  exact ⟨rfl, rfl⟩
theorem ropName3 (w : World) : Calls Tryz.prog 51 #[.int .i64 3] w fun e w' => e = .returned (.string (opT 3)) ∧ w' = w := by
  go_enter Tryz.func51, Tryz.ntmps51
  go_wp2
  go_ret
  exact ⟨rfl, rfl⟩
theorem ropName4 (w : World) : Calls Tryz.prog 51 #[.int .i64 4] w fun e w' => e = .returned (.string (opT 4)) ∧ w' = w := by
  go_enter Tryz.func51, Tryz.ntmps51
  go_wp2
  go_ret
  exact ⟨rfl, rfl⟩
theorem ropName5 (w : World) : Calls Tryz.prog 51 #[.int .i64 5] w fun e w' => e = .returned (.string (opT 5)) ∧ w' = w := by
  go_enter Tryz.func51, Tryz.ntmps51
  go_wp2
  go_ret
  exact ⟨rfl, rfl⟩
theorem ropName6 (w : World) : Calls Tryz.prog 51 #[.int .i64 6] w fun e w' => e = .returned (.string (opT 6)) ∧ w' = w := by
  go_enter Tryz.func51, Tryz.ntmps51
  go_wp2
  go_ret
  exact ⟨rfl, rfl⟩
theorem ropName7 (w : World) : Calls Tryz.prog 51 #[.int .i64 7] w fun e w' => e = .returned (.string (opT 7)) ∧ w' = w := by
  go_enter Tryz.func51, Tryz.ntmps51
  go_wp2
  go_ret
  exact ⟨rfl, rfl⟩
theorem ropName8 (w : World) : Calls Tryz.prog 51 #[.int .i64 8] w fun e w' => e = .returned (.string (opT 8)) ∧ w' = w := by
  go_enter Tryz.func51, Tryz.ntmps51
  go_wp2
  go_ret
  exact ⟨rfl, rfl⟩
theorem ropName9 (w : World) : Calls Tryz.prog 51 #[.int .i64 9] w fun e w' => e = .returned (.string (opT 9)) ∧ w' = w := by
  go_enter Tryz.func51, Tryz.ntmps51
  go_wp2
  go_ret
  exact ⟨rfl, rfl⟩
theorem ropName10 (w : World) : Calls Tryz.prog 51 #[.int .i64 10] w fun e w' => e = .returned (.string (opT 10)) ∧ w' = w := by
  go_enter Tryz.func51, Tryz.ntmps51
  go_wp2
  go_ret
  exact ⟨rfl, rfl⟩
theorem ropName11 (w : World) : Calls Tryz.prog 51 #[.int .i64 11] w fun e w' => e = .returned (.string (opT 11)) ∧ w' = w := by
  go_enter Tryz.func51, Tryz.ntmps51
  go_wp2
  go_ret
  exact ⟨rfl, rfl⟩
theorem ropName12 (w : World) : Calls Tryz.prog 51 #[.int .i64 12] w fun e w' => e = .returned (.string (opT 12)) ∧ w' = w := by
  go_enter Tryz.func51, Tryz.ntmps51
  go_wp2
  go_ret
  exact ⟨rfl, rfl⟩
theorem ropName_out (op : Int) (h : op < 1 ∨ 12 < op) (w : World) : Calls Tryz.prog 51 #[.int .i64 op] w fun e w' => e = .returned (.string ⟨#[]⟩) ∧ w' = w := by
  have k1 : (op == 1) = false := by simp; omega
  have k2 : (op == 2) = false := by simp; omega
  have k3 : (op == 3) = false := by simp; omega
  have k4 : (op == 4) = false := by simp; omega
  have k5 : (op == 5) = false := by simp; omega
  have k6 : (op == 6) = false := by simp; omega
  have k7 : (op == 7) = false := by simp; omega
  have k8 : (op == 8) = false := by simp; omega
  have k9 : (op == 9) = false := by simp; omega
  have k10 : (op == 10) = false := by simp; omega
  have k11 : (op == 11) = false := by simp; omega
  have k12 : (op == 12) = false := by simp; omega
  clear h
  go_enter Tryz.func51, Tryz.ntmps51
  go_wp2
  go_ret
  exact ⟨rfl, rfl⟩
theorem ropName_any (op : Int) (w : World) : Calls Tryz.prog 51 #[.int .i64 op] w fun e w' => e = .returned (.string (nameAt opT 12 op)) ∧ w' = w := by
  by_cases h : 1 ≤ op ∧ op ≤ 12
  · have e : nameAt opT 12 op = opT op.toNat := by unfold nameAt; rw [if_pos h]
    rw [e]
    have hh : op = 1 ∨ op = 2 ∨ op = 3 ∨ op = 4 ∨ op = 5 ∨ op = 6 ∨ op = 7 ∨ op = 8 ∨ op = 9 ∨ op = 10 ∨ op = 11 ∨ op = 12 := by omega
    rcases hh with h | h | h | h | h | h | h | h | h | h | h | h <;> subst h
    · exact ropName1 w
    · exact ropName2 w
    · exact ropName3 w
    · exact ropName4 w
    · exact ropName5 w
    · exact ropName6 w
    · exact ropName7 w
    · exact ropName8 w
    · exact ropName9 w
    · exact ropName10 w
    · exact ropName11 w
    · exact ropName12 w
  · have e : nameAt opT 12 op = ⟨#[]⟩ := by unfold nameAt; rw [if_neg h]
    rw [e]
    exact ropName_out op (by omega) w
set_option maxHeartbeats 1000000 in
theorem ropNamed_any (s : ByteArray) (w : World) :
    Calls Tryz.prog 36 #[.string s] w fun e w' => e = .returned (.tuple #[.int .i64 ((look opT s 1 12 : Nat) : Int), .int .i64 (lookE 10 (look opT s 1 12))]) ∧ w' = w := by
  go_enter Tryz.func36, Tryz.ntmps36
  go_wp2
  go_loop [4] (fun i => ∃ k : Nat, 1 ≤ k ∧ k ≤ 13 ∧ i = .int .i64 k ∧ look opT s 1 12 = look opT s k (13 - k)) (fun i => 13 - (intOf i).toNat)
  case atStart => exact ⟨1, by omega, by omega, rfl, rfl⟩
  case round =>
    obtain ⟨k, k1, k2, rfl, hl⟩ := hrel
    by_cases hlt : k < 13
    · have e1 : 13 - k = (12 - k) + 1 := by omega
      rw [e1] at hl
      have HL : Hid (_ = _) := hl
      have hn : nameAt opT 12 k = opT k := by unfold nameAt; rw [if_pos (by omega), Int.toNat_natCast]
      clear hl e1
      cases hm : ((opT k).toList == s.toList)
      · have HN : Hid (look opT s 1 12 = look opT s (k + 1) (13 - (k + 1))) := by
          show _ = _
          rw [HL.out, look_miss _ _ _ _ hm, show 13 - (k + 1) = 12 - k by omega]
        go_wp2_with (go_at_call 51; refine (ropName_any _ _).mono ?_; rintro e w' ⟨rfl, rfl⟩)
        go_round
        case rel => exact ⟨k + 1, by omega, by omega, by go_num, HN.out⟩
        case measure => simp [intOf]; omega
      · have HN : Hid (look opT s 1 12 = k) := by
          show _ = _
          rw [HL.out, look_hit _ _ _ _ hm]
        go_wp2_with (go_at_call 51; refine (ropName_any _ _).mono ?_; rintro e w' ⟨rfl, rfl⟩)
        go_ret2
        refine ⟨?_, rfl⟩
        rw [HN.out, show lookE 10 k = 0 from if_neg (by omega)]
        rfl
    · have e1 : k = 13 := by omega
      subst e1
      have HN : Hid (look opT s 1 12 = 0) := hl
      clear hl
      go_wp2
      go_ret2
      refine ⟨?_, rfl⟩
      rw [HN.out]
      rfl
theorem rrelName1 (w : World) : Calls Tryz.prog 54 #[.int .i64 1] w fun e w' => e = .returned (.string (relT 1)) ∧ w' = w := by
  go_enter Tryz.func54, Tryz.ntmps54
  go_wp2
  go_ret
  exact ⟨rfl, rfl⟩
theorem rrelName2 (w : World) : Calls Tryz.prog 54 #[.int .i64 2] w fun e w' => e = .returned (.string (relT 2)) ∧ w' = w := by
  go_enter Tryz.func54, Tryz.ntmps54
  go_wp2
  go_ret
  exact ⟨rfl, rfl⟩
theorem rrelName3 (w : World) : Calls Tryz.prog 54 #[.int .i64 3] w fun e w' => e = .returned (.string (relT 3)) ∧ w' = w := by
  go_enter Tryz.func54, Tryz.ntmps54
  go_wp2
  go_ret
  exact ⟨rfl, rfl⟩
theorem rrelName4 (w : World) : Calls Tryz.prog 54 #[.int .i64 4] w fun e w' => e = .returned (.string (relT 4)) ∧ w' = w := by
  go_enter Tryz.func54, Tryz.ntmps54
  go_wp2
  go_ret
  exact ⟨rfl, rfl⟩
theorem rrelName5 (w : World) : Calls Tryz.prog 54 #[.int .i64 5] w fun e w' => e = .returned (.string (relT 5)) ∧ w' = w := by
  go_enter Tryz.func54, Tryz.ntmps54
  go_wp2
  go_ret
  exact ⟨rfl, rfl⟩
theorem rrelName6 (w : World) : Calls Tryz.prog 54 #[.int .i64 6] w fun e w' => e = .returned (.string (relT 6)) ∧ w' = w := by
  go_enter Tryz.func54, Tryz.ntmps54
  go_wp2
  go_ret
  exact ⟨rfl, rfl⟩
theorem rrelName_out (op : Int) (h : op < 1 ∨ 6 < op) (w : World) : Calls Tryz.prog 54 #[.int .i64 op] w fun e w' => e = .returned (.string ⟨#[]⟩) ∧ w' = w := by
  have k1 : (op == 1) = false := by simp; omega
  have k2 : (op == 2) = false := by simp; omega
  have k3 : (op == 3) = false := by simp; omega
  have k4 : (op == 4) = false := by simp; omega
  have k5 : (op == 5) = false := by simp; omega
  have k6 : (op == 6) = false := by simp; omega
  clear h
  go_enter Tryz.func54, Tryz.ntmps54
  go_wp2
  go_ret
  exact ⟨rfl, rfl⟩
theorem rrelName_any (op : Int) (w : World) : Calls Tryz.prog 54 #[.int .i64 op] w fun e w' => e = .returned (.string (nameAt relT 6 op)) ∧ w' = w := by
  by_cases h : 1 ≤ op ∧ op ≤ 6
  · have e : nameAt relT 6 op = relT op.toNat := by unfold nameAt; rw [if_pos h]
    rw [e]
    have hh : op = 1 ∨ op = 2 ∨ op = 3 ∨ op = 4 ∨ op = 5 ∨ op = 6 := by omega
    rcases hh with h | h | h | h | h | h <;> subst h
    · exact rrelName1 w
    · exact rrelName2 w
    · exact rrelName3 w
    · exact rrelName4 w
    · exact rrelName5 w
    · exact rrelName6 w
  · have e : nameAt relT 6 op = ⟨#[]⟩ := by unfold nameAt; rw [if_neg h]
    rw [e]
    exact rrelName_out op (by omega) w
set_option maxHeartbeats 1000000 in
theorem rrelNamed_any (s : ByteArray) (w : World) :
    Calls Tryz.prog 39 #[.string s] w fun e w' => e = .returned (.tuple #[.int .i64 ((look relT s 1 6 : Nat) : Int), .int .i64 (lookE 11 (look relT s 1 6))]) ∧ w' = w := by
  go_enter Tryz.func39, Tryz.ntmps39
  go_wp2
  go_loop [4] (fun i => ∃ k : Nat, 1 ≤ k ∧ k ≤ 7 ∧ i = .int .i64 k ∧ look relT s 1 6 = look relT s k (7 - k)) (fun i => 7 - (intOf i).toNat)
  case atStart => exact ⟨1, by omega, by omega, rfl, rfl⟩
  case round =>
    obtain ⟨k, k1, k2, rfl, hl⟩ := hrel
    by_cases hlt : k < 7
    · have e1 : 7 - k = (6 - k) + 1 := by omega
      rw [e1] at hl
      have HL : Hid (_ = _) := hl
      have hn : nameAt relT 6 k = relT k := by unfold nameAt; rw [if_pos (by omega), Int.toNat_natCast]
      clear hl e1
      cases hm : ((relT k).toList == s.toList)
      · have HN : Hid (look relT s 1 6 = look relT s (k + 1) (7 - (k + 1))) := by
          show _ = _
          rw [HL.out, look_miss _ _ _ _ hm, show 7 - (k + 1) = 6 - k by omega]
        go_wp2_with (go_at_call 54; refine (rrelName_any _ _).mono ?_; rintro e w' ⟨rfl, rfl⟩)
        go_round
        case rel => exact ⟨k + 1, by omega, by omega, by go_num, HN.out⟩
        case measure => simp [intOf]; omega
      · have HN : Hid (look relT s 1 6 = k) := by
          show _ = _
          rw [HL.out, look_hit _ _ _ _ hm]
        go_wp2_with (go_at_call 54; refine (rrelName_any _ _).mono ?_; rintro e w' ⟨rfl, rfl⟩)
        go_ret2
        refine ⟨?_, rfl⟩
        rw [HN.out, show lookE 11 k = 0 from if_neg (by omega)]
        rfl
    · have e1 : k = 7 := by omega
      subst e1
      have HN : Hid (look relT s 1 6 = 0) := hl
      clear hl
      go_wp2
      go_ret2
      refine ⟨?_, rfl⟩
      rw [HN.out]
      rfl
end Go.Proofs.YtchbhmolnoggfaaGreatDoor

namespace Go.Proofs.YtchbhmolnoggfaaGreatDoor
open Go.ChangeShapes Go.WideShapes Go.ChangeAt Go.RowKit
theorem var_keeps {P : Program} {w w' : World} {n : String} {cs : Array Value} (hb : Below w.heap.size w w') (h : w.var? P n = some cs) : w'.var? P n = some cs := by
  cases hg : P.globalNamed n with
  | none => simp [World.var?, hg] at h
  | some g =>
    by_cases hlt : g < w.heap.size
    · exact var?_below hb hg hlt h
    · have : w.heap[g]? = none := by simp; omega
      simp [World.var?, hg, this] at h
def Env (w : World) : Prop := Lib.TabIs Tryz.prog w "internal/strconv.uint64pow10" .u64 Lib.pow10Tab ∧ ErrIs w
theorem Env.step {w w' : World} (h : Env w) (hb : Below w.heap.size w w') : Env w' :=
  ⟨var_keeps hb h.1, by obtain ⟨tp, p, hv⟩ := h.2; exact ⟨tp, p, var_keeps hb hv⟩⟩
end Go.Proofs.YtchbhmolnoggfaaGreatDoor

namespace Go.Proofs.YtchbhmolnoggfaaGreatDoor
open Go.RowKit
theorem ret2 {a b c d : Int} (h : a = c) (k : b = d) : Ending.returned (.tuple #[.int .i64 a, .int .i64 b]) = .returned (.tuple #[.int .i64 c, .int .i64 d]) := by rw [h, k]
theorem range_ways {t m : List UInt8} {M : Nat} (hm : m.length = 19) (hd : m.all digB = true) (hM : natv 0 m = M) (h1 : 1000000000000000000 ≤ M) (h2 : M < 10000000000000000000)
    (ht : t.all digB = true) (hh : t = [48] ∨ ∃ e r, t = e :: r ∧ 49 ≤ e.toNat) :
    (19 < t.length ∧ M < natv 0 t) ∨ (t.length = 19 ∧ Op.bytesLess t m = false ∧ (t == m) = false ∧ M < natv 0 t) ∨
    (t.length = 19 ∧ (Op.bytesLess t m = true ∨ (Op.bytesLess t m = false ∧ (t == m) = true)) ∧ natv 0 t ≤ M) ∨ (t.length < 19 ∧ natv 0 t ≤ M) := by
  by_cases k1 : 19 < t.length
  · left
    refine ⟨k1, ?_⟩
    rcases hh with rfl | ⟨e, r, rfl, h49⟩
    · simp at k1
    · have hge := natv_ge r (0 * 10 + (e.toNat - 48))
      rw [← natv_cons] at hge
      have hp : 10 ^ 19 ≤ 10 ^ r.length := Nat.pow_le_pow_right (by decide) (by simp at k1; omega)
      have e19 : (10 : Nat) ^ 19 = 10000000000000000000 := rfl
      have : 1 * 10 ^ r.length ≤ (0 * 10 + (e.toNat - 48)) * 10 ^ r.length := Nat.mul_le_mul_right _ (by omega)
      omega
  · by_cases k2 : t.length = 19
    · obtain ⟨l1, l2⟩ := less_iff 0 t m (by omega) ht hd
      rw [hM] at l1 l2
      by_cases k3 : natv 0 t < M
      · right; right; left
        exact ⟨k2, .inl (l1.2 k3), by omega⟩
      · have b1 : Op.bytesLess t m = false := by rw [Bool.eq_false_iff]; exact fun q => k3 (l1.1 q)
        by_cases k4 : natv 0 t = M
        · right; right; left
          exact ⟨k2, .inr ⟨b1, l2.2 k4⟩, by omega⟩
        · right; left
          exact ⟨k2, b1, by rw [Bool.eq_false_iff]; exact fun q => k4 (l2.1 q), by omega⟩
    · right; right; right
      refine ⟨by omega, ?_⟩
      have hlt := natv_lt t 0 ht
      have hp : 10 ^ t.length ≤ 10 ^ 18 := Nat.pow_le_pow_right (by decide) (by omega)
      have e18 : (10 : Nat) ^ 18 = 1000000000000000000 := rfl
      omega
def natTo (t : ByteArray) (k : Nat) : Nat := natv 0 (t.toList.take k)
theorem natTo_zero (t : ByteArray) : natTo t 0 = 0 := by unfold natTo; rw [List.take_zero, natv_nil]
theorem natTo_succ (t : ByteArray) (k : Nat) (h : k < t.size) : natTo t (k + 1) = natTo t k * 10 + (t[k].toNat - 48) := by
  unfold natTo
  have hl : k < t.toList.length := by rw [list_len]; exact h
  have e : t.toList[k]'hl = t[k] := by
    have := list_get t k h
    rw [List.getElem?_eq_getElem hl] at this
    exact Option.some.inj this
  rw [List.take_succ_eq_append_getElem hl, e, natv_snoc]
theorem natTo_le (t : ByteArray) (k : Nat) : natTo t k ≤ natv 0 t.toList := by
  unfold natTo
  have e : t.toList = t.toList.take k ++ t.toList.drop k := (List.take_append_drop k _).symm
  have h := natv_append (t.toList.take k) (t.toList.drop k) 0
  rw [← e] at h
  rw [h]
  have hge := natv_ge (t.toList.drop k) (natv 0 (t.toList.take k))
  exact Nat.le_trans (Nat.le_mul_of_pos_right _ (Nat.pow_pos (by decide))) hge
theorem natTo_all (t : ByteArray) : natTo t t.size = natv 0 t.toList := by
  unfold natTo
  rw [← list_len, List.take_length]
theorem form_zero {s : ByteArray} (h : 0 < s.size) (h4 : s[0].toNat = 48) (h5 : s.size = 1) : numForm s.toList = s.toList.all digB ∧ s.toList = [48] := by
  have e := list_cons s h
  have e2 : s.toList.drop 1 = [] := List.eq_nil_of_length_eq_zero (by rw [List.length_drop, list_len]; omega)
  have e3 : s[0] = 48 := UInt8.toNat_inj.1 h4
  rw [e2, e3] at e
  rw [e]
  exact ⟨by decide, rfl⟩
theorem form_zeros {s : ByteArray} (h : 0 < s.size) (h4 : s[0].toNat = 48) (h5 : 1 < s.size) : numForm s.toList = false := by
  rw [(form_plain h (by omega)).1 h4]
  rw [Bool.eq_false_iff]
  intro q
  have q' : s.toList = [48] := by simpa using q
  have := congrArg List.length q'
  rw [list_len] at this
  simp at this
  omega
theorem neg_plain {s : ByteArray} (h : 0 < s.size) (h1 : s[0].toNat ≠ 45) : neg? s.toList = false ∧ digs s.toList = s.toList ∧ lim s.toList = 9223372036854775807 := by
  have e := list_cons s h
  have e1 : neg? s.toList = false := by rw [e]; show decide (s[0].toNat = 45) = false; simp [h1]
  refine ⟨e1, ?_, by unfold lim; rw [e1]; rfl⟩
  rw [e]; show (if s[0].toNat = 45 then _ else _) = _; rw [if_neg h1]
theorem neg_minus {s : ByteArray} (h : 0 < s.size) (h1 : s[0].toNat = 45) : neg? s.toList = true ∧ digs s.toList = (s.extract 1 s.size).toList ∧ lim s.toList = 9223372036854775808 := by
  have e := list_cons s h
  have e1 : neg? s.toList = true := by rw [e]; show decide (s[0].toNat = 45) = true; simp [h1]
  refine ⟨e1, ?_, by unfold lim; rw [e1]; rfl⟩
  rw [list_tail, e]; show (if s[0].toNat = 45 then _ else _) = _; rw [if_pos h1]; rfl
theorem prs_of {l : List UInt8} {v : Nat} (h : numForm l = true) (hv : natv 0 (digs l) = v) (h2 : v ≤ lim l) : prsV l = (if neg? l then -((v : Nat) : Int) else ((v : Nat) : Int)) ∧ prsE l = 0 := by
  refine ⟨by unfold prsV; rw [hv, if_pos ⟨h, h2⟩], prs_ok h (by rw [hv]; exact h2)⟩
theorem mp_all : ([57, 50, 50, 51, 51, 55, 50, 48, 51, 54, 56, 53, 52, 55, 55, 53, 56, 48, 55] : List UInt8).all digB = true := by decide
theorem mp_nat : natv 0 [57, 50, 50, 51, 51, 55, 50, 48, 51, 54, 56, 53, 52, 55, 55, 53, 56, 48, 55] = 9223372036854775807 := by decide
theorem mm_all : ([57, 50, 50, 51, 51, 55, 50, 48, 51, 54, 56, 53, 52, 55, 55, 53, 56, 48, 56] : List UInt8).all digB = true := by decide
theorem mm_nat : natv 0 [57, 50, 50, 51, 51, 55, 50, 48, 51, 54, 56, 53, 52, 55, 55, 53, 56, 48, 56] = 9223372036854775808 := by decide
end Go.Proofs.YtchbhmolnoggfaaGreatDoor

namespace Go.Proofs.YtchbhmolnoggfaaGreatDoor
open Go.ChangeShapes Go.WideShapes Go.ChangeAt Go.RowKit
set_option maxHeartbeats 4000000 in
set_option maxRecDepth 100000 in
theorem refParse_plain (s : ByteArray) (w : World) (hs : s.size ≤ 281474976710656) (h : 0 < s.size) (h1 : s[0].toNat ≠ 45) (h3 : (s[0].toNat ≠ 48) ∨ (s[0].toNat = 48 ∧ s.size = 1)) :
    Calls Tryz.prog 53 #[.string s] w fun e w' => e = .returned (.tuple #[.int .i64 (prsV s.toList), .int .i64 (prsE s.toList)]) ∧ w' = w := by
  have a1 : s.toList.isEmpty = false := by rw [list_cons s h]; rfl
  have a0 : decide ((0 : Int) < (s.size : Int)) = true := by simp; omega
  have a2 : ((s[0].toNat : Int) == 45) = false := by simp; omega
  have HG : Hid (_ ∧ _ ∧ _) := neg_plain h h1
  have HF : Hid (numForm s.toList = s.toList.all digB) := by
    rcases h3 with h3 | ⟨h3, h5⟩
    · exact (form_plain h h1).2 h3
    · exact (form_zero h h3 h5).1
  have HH : Hid (∀ _ : s.toList.all digB = true, s.toList = [48] ∨ ∃ e r, s.toList = e :: r ∧ 49 ≤ e.toNat) := by
    intro ha
    rcases h3 with h3 | ⟨h3, h5⟩
    · refine .inr ⟨s[0], s.toList.drop 1, list_cons s h, ?_⟩
      have e := list_cons s h
      rw [e, List.all_cons, Bool.and_eq_true] at ha
      have := (digB_iff _).1 ha.1
      omega
    · exact .inl (form_zero h h3 h5).2
  have a5 : (((s[0].toNat : Int) == 48) = false) ∨ ((((s[0].toNat : Int) == 48) = true) ∧ decide ((1 : Int) < (s.size : Int)) = false) := by
    rcases h3 with h3 | ⟨h3, h5⟩
    · left; simp; omega
    · right; refine ⟨by simp; omega, by simp; omega⟩
  clear h3
  rcases a5 with a4 | ⟨a4, a6⟩
  all_goals
    go_enter Tryz.func53, Tryz.ntmps53
    go_wp2
    go_loop [7] (fun i => ∃ k : Nat, k ≤ s.size ∧ i = .int .i64 k ∧ DigTo s k) (fun i => s.size - (intOf i).toNat)
    case atStart => exact ⟨0, Nat.zero_le _, rfl, digTo_zero _⟩
    case round =>
      obtain ⟨k, hk, rfl, hd⟩ := hrel
      have HD : Hid (DigTo s k) := hd
      clear hd
      by_cases hlt : k < s.size
      · by_cases c1 : s[k].toNat < 48
        · have b1 : decide ((s[k].toNat : Int) < 48) = true := by simp; omega
          have HN : Hid (_ = _) := not_all hlt (.inl c1)
          have HB : Hid (prsV s.toList = 0 ∧ prsE s.toList = 12) := prs_bad (by rw [HF.out, HN.out])
          go_wp2
          go_ret2
          exact ⟨ret2 HB.out.1.symm HB.out.2.symm, rfl⟩
        · have b1 : decide ((s[k].toNat : Int) < 48) = false := by simp; omega
          by_cases c2 : 57 < s[k].toNat
          · have b2 : decide ((57 : Int) < (s[k].toNat : Int)) = true := by simp; omega
            have HN : Hid (_ = _) := not_all hlt (.inr c2)
            have HB : Hid (prsV s.toList = 0 ∧ prsE s.toList = 12) := prs_bad (by rw [HF.out, HN.out])
            go_wp2
            go_ret2
            exact ⟨ret2 HB.out.1.symm HB.out.2.symm, rfl⟩
          · have b2 : decide ((57 : Int) < (s[k].toNat : Int)) = false := by simp; omega
            have HN : Hid (DigTo s (k + 1)) := digTo_succ HD.out hlt (by omega) (by omega)
            go_wp2
            go_round
            case rel => exact ⟨k + 1, by omega, by go_num, HN.out⟩
            case measure => simp [intOf]; omega
      · have e : k = s.size := by omega
        subst e
        have HN : Hid (_ = _) := digTo_all HD.out
        have HA : Hid (numForm s.toList = true) := HF.out.trans HN.out
        have hw := range_ways (t := s.toList) (m := [57, 50, 50, 51, 51, 55, 50, 48, 51, 54, 56, 53, 52, 55, 55, 53, 56, 48, 55]) rfl mp_all mp_nat (by decide) (by decide) HN.out (HH.out HN.out)
        rw [list_len] at hw
        rcases hw with ⟨r1, r2⟩ | ⟨r1, r2, r3, r4⟩ | ⟨r1, r2, r4⟩ | ⟨r1, r4⟩
        · have HB : Hid (prsV s.toList = 0 ∧ prsE s.toList = 13) := prs_range HA.out (by rw [HG.out.2.1, HG.out.2.2]; omega)
          have g1 : decide ((19 : Int) < (s.size : Int)) = true := by simp; omega
          go_wp2
          go_ret2
          exact ⟨ret2 HB.out.1.symm HB.out.2.symm, rfl⟩
        · have HB : Hid (prsV s.toList = 0 ∧ prsE s.toList = 13) := prs_range HA.out (by rw [HG.out.2.1, HG.out.2.2]; omega)
          have g1 : decide ((19 : Int) < (s.size : Int)) = false := by simp; omega
          have g2 : ((s.size : Int) == 19) = true := by simp; omega
          clear r1
          go_wp2
          go_ret2
          exact ⟨ret2 HB.out.1.symm HB.out.2.symm, rfl⟩
        all_goals
          have HV : Hid (prsV s.toList = (if neg? s.toList then -((natv 0 s.toList : Nat) : Int) else ((natv 0 s.toList : Nat) : Int)) ∧ prsE s.toList = 0) := prs_of HA.out (by rw [HG.out.2.1]) (by rw [HG.out.2.2]; exact r4)
          have HV2 : Hid (prsV s.toList = ((natv 0 s.toList : Nat) : Int) ∧ prsE s.toList = 0) := by
            obtain ⟨v1, v2⟩ := HV.out
            rw [HG.out.1] at v1
            exact ⟨v1, v2⟩
          clear HV
          have RR : Hid (natv 0 s.toList ≤ 9223372036854775807) := r4
          have g1 : decide ((19 : Int) < (s.size : Int)) = false := by simp; omega
        · have g2 : ((s.size : Int) == 19) = true := by simp; omega
          rcases r2 with r2 | ⟨r2, r3⟩
          all_goals
            clear r1
            go_wp2
            go_loop [8, 9] (fun x i => ∃ k : Nat, k ≤ s.size ∧ i = .int .i64 k ∧ x = .int .i64 (-((natTo s k : Nat) : Int))) (fun _ i => s.size - (intOf i).toNat)
            case atStart => exact ⟨0, Nat.zero_le _, rfl, by rw [natTo_zero]; rfl⟩
            case round =>
              obtain ⟨j, hj, rfl, rfl⟩ := hrel
              by_cases hlt : j < s.size
              · have HS : Hid (_ = _) := natTo_succ s j hlt
                have q1 := natTo_le s (j + 1)
                rw [HS.out] at q1
                have q0 := RR.out
                obtain ⟨d1, d2⟩ := HD.out j hlt hlt
                have q2 : natTo s j * 10 + (s[j].toNat - 48) ≤ 9223372036854775807 := Nat.le_trans q1 q0
                clear q0 q1
                go_wp2
                go_round
                case rel => exact ⟨j + 1, by omega, by go_num, congrArg (Value.int .i64) (by rw [HS.out]; omega)⟩
                case measure => simp [intOf]; omega
              · have e : j = s.size := by omega
                subst e
                have HE : Hid (_ = _) := natTo_all s
                have q0 := natTo_le s s.size
                have q1 : natTo s s.size ≤ 9223372036854775807 := Nat.le_trans q0 RR.out
                clear q0
                go_wp2
                go_ret2
                exact ⟨ret2 (by rw [HV2.out.1, ← HE.out]) HV2.out.2.symm, rfl⟩
        · have g2 : ((s.size : Int) == 19) = false := by simp; omega
          clear r1
          go_wp2
          go_loop [8, 9] (fun x i => ∃ k : Nat, k ≤ s.size ∧ i = .int .i64 k ∧ x = .int .i64 (-((natTo s k : Nat) : Int))) (fun _ i => s.size - (intOf i).toNat)
          case atStart => exact ⟨0, Nat.zero_le _, rfl, by rw [natTo_zero]; rfl⟩
          case round =>
            obtain ⟨j, hj, rfl, rfl⟩ := hrel
            by_cases hlt : j < s.size
            · have HS : Hid (_ = _) := natTo_succ s j hlt
              have q1 := natTo_le s (j + 1)
              rw [HS.out] at q1
              have q0 := RR.out
              obtain ⟨d1, d2⟩ := HD.out j hlt hlt
              have q2 : natTo s j * 10 + (s[j].toNat - 48) ≤ 9223372036854775807 := Nat.le_trans q1 q0
              clear q0 q1
              go_wp2
              go_round
              case rel => exact ⟨j + 1, by omega, by go_num, congrArg (Value.int .i64) (by rw [HS.out]; omega)⟩
              case measure => simp [intOf]; omega
            · have e : j = s.size := by omega
              subst e
              have HE : Hid (_ = _) := natTo_all s
              have q0 := natTo_le s s.size
              have q1 : natTo s s.size ≤ 9223372036854775807 := Nat.le_trans q0 RR.out
              clear q0
              go_wp2
              go_ret2
              exact ⟨ret2 (by rw [HV2.out.1, ← HE.out]) HV2.out.2.symm, rfl⟩
end Go.Proofs.YtchbhmolnoggfaaGreatDoor

