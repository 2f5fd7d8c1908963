import Derived.Test.YthchbcfecconbaaGreatDoorG12
import Derived.Test.YthchbcfecconbaaGreatDoorG13
import Derived.Test.YthchbcfecconbaaGreatDoorG07
import Derived.Laws.ResultCell
namespace Go.Proofs.YthchbcfecconbaaGreatDoor
open Go.RowKit
theorem does_any {w : World} {B : Nat} {d : Ds} {vo vh : Value} (h : DM w B d vo vh) {a0 a ag : Option Addr} {c0 cap cg : Nat} {l : List Ins} {os : List Int} {gs : List (Bool × Int)} (hl : ISL w a0 l) (hlB : 0 < l.length → ∀ b off, a0 = some ⟨b, off, none⟩ → b < B) (hO : NUM w a os) (hOB : ∀ b off, a = some ⟨b, off, none⟩ → b < B) (hG : GVN w ag gs) (hGB : ∀ b off, ag = some ⟨b, off, none⟩ → b < B) (hn : os.length ≤ 16 ∧ gs.length ≤ 4096 ∧ d.own.length ≤ 100000 ∧ d.held.length ≤ 100000 ∧ d.rd ≤ 100000) (hp : 0 ≤ d.pl ∧ d.pl ≤ 64) (hcn : 0 ≤ d.cnt ∧ d.cnt ≤ 100000) (h64 : l.length ≤ 64) (hcan : ∀ p, p < l.length → (l.getD p ins0).can l.length = true) (h6 : ¬ (l.length : Int) ≤ d.pl → (l.getD d.pl.toNat ins0).code = 6 → In64 (d.tick.sv (l.getD d.pl.toNat ins0).xR (l.getD d.pl.toNat ins0).xN) ∧ In64 (d.tick.sv (l.getD d.pl.toNat ins0).yR (l.getD d.pl.toNat ins0).yN)) : Calls Tryz.prog 25 #[.pointer (some ⟨B, 0, none⟩), .slice a0 l.length c0, .slice a os.length cap, .slice ag gs.length cg] w fun e w' => ∃ vo' vh', e = .returned (.tuple #[]) ∧ DM w' B (d.stp l os gs) vo' vh' ∧ Keeps (fun k => B ≤ k) w w' := by
  unfold Ds.stp
  by_cases he : (l.length : Int) ≤ d.pl
  · rw [if_pos he]
    exact does_end h hl hO hOB hG hGB hn hp hcn h64 he
  · rw [if_neg he]
    have hlB := hlB (by omega)
    have hq := hcan d.pl.toNat (by omega)
    have h6' := h6 he
    clear h6 hcan
    generalize eq : l.getD d.pl.toNat ins0 = q at *
    have hc := can_code hq
    unfold Ds.ins
    by_cases c4 : q.code ≤ 4
    · rw [if_pos c4]
      rcases (by omega : q.code = 1 ∨ q.code = 2 ∨ q.code = 3 ∨ q.code = 4) with c | c | c | c
      · exact does_1 h hl hlB hO hOB hG hGB hn hp hcn h64 he q eq c (by have := can_dst hq (by unfold kdD; rw [c]; rfl); omega)
      · exact does_2 h hl hlB hO hOB hG hGB hn hp hcn h64 he q eq c (by have := can_dst hq (by unfold kdD; rw [c]; rfl); omega)
      · exact does_3 h hl hlB hO hOB hG hGB hn hp hcn h64 he q eq c
      · exact does_4 h hl hlB hO hOB hG hGB hn hp hcn h64 he q eq c
    · rw [if_neg c4]
      rcases (by omega : q.code = 5 ∨ q.code = 6 ∨ q.code = 7 ∨ q.code = 8 ∨ q.code = 9 ∨ q.code = 10) with c | c | c | c | c | c
      · rw [if_pos c]
        exact does_5 h hl hlB hO hOB hG hGB hn hp hcn h64 he q eq c (by have := can_dst hq (by unfold kdD; rw [c]; rfl); omega)
      · rw [if_neg (by omega), if_pos c]
        exact does_6 h hl hlB hO hOB hG hGB hn hp hcn h64 he q eq c (by have := can_dst hq (by unfold kdD; rw [c]; rfl); omega) (h6' c).1 (h6' c).2
      · rw [if_neg (by omega), if_neg (by omega), if_pos c]
        cases hb : Go.Proofs.YthchbcfecconbaaGreatDoor.hl q.rel (d.tick.sv q.xR q.xN) (d.tick.sv q.yR q.yN) with
        | true => rw [if_pos rfl]; exact does_7t h hl hlB hO hOB hG hGB hn hp hcn h64 he q eq c hb
        | false => rw [if_neg (by decide)]; exact does_7f h hl hlB hO hOB hG hGB hn hp hcn h64 he q eq c hb
      · rw [if_neg (by omega), if_neg (by omega), if_neg (by omega), if_pos c]
        exact does_8 h hl hlB hO hOB hG hGB hn hp hcn h64 he q eq c
      · rw [if_neg (by omega), if_neg (by omega), if_neg (by omega), if_neg (by omega), if_pos c]
        exact does_9 h hl hlB hO hOB hG hGB hn hp hcn h64 he q eq c
      · rw [if_neg (by omega), if_neg (by omega), if_neg (by omega), if_neg (by omega), if_neg (by omega)]
        exact does_10 h hl hlB hO hOB hG hGB hn hp hcn h64 he q eq c
end Go.Proofs.YthchbcfecconbaaGreatDoor

namespace Go.Proofs.YthchbcfecconbaaGreatDoor
open Go.RowKit
theorem num_of_owns {W : World} {base n : Nat} {v : Value} {l : List Int} (h : W.ownsRow base 2 1 v n (nvs l)) : ∃ a cap, v = .slice a n cap ∧ NUM W a l ∧ (∀ b off, a = some ⟨b, off, none⟩ → v.ownBlock = some b) ∧ n = l.length := by
  have hln := h.1
  rcases h.2 with ⟨rfl, h0⟩ | ⟨g, cap, cur, rfl, _⟩
  · have hz : n = 0 := by first | exact h0.1 | omega
    subst hz
    have hl : l = [] := by
      unfold nvs at hln
      rw [List.length_map] at hln
      exact List.eq_nil_of_length_eq_zero (by omega)
    subst hl
    exact ⟨none, 0, rfl, fun i p hp => by simp at hp, (fun b off e => by cases e), rfl⟩
  · refine ⟨_, cap, rfl, fun i p hp => ⟨g, 0, rfl, ?_⟩, fun b off e => by injection e with e; injection e with e1 _ _; rw [← e1]; rfl, ?_⟩
    · have hc := h.cells (g := g) rfl i (.int .i64 p) (by unfold nvs; rw [List.getElem?_map, hp]; rfl)
      rw [add_at] at hc
      exact hc
    · unfold nvs at hln
      rw [List.length_map] at hln
      omega
theorem uNumsD : Tryz.prog.underlying 23 = some (.slice 2) := by kernel_rfl
theorem iNumD : ∃ i, Tryz.prog.info? 2 = some i ∧ i.zero = some (.int .i64 0) ∧ i.size = 1 ∧ i.bytes = 8 := by
  have h := i64infoM
  cases hi : Tryz.prog.info? 2 with
  | none => rw [hi] at h; cases h
  | some i =>
    rw [hi] at h
    simp only [Option.map_some] at h
    injection h with h
    injection h with h1 h2
    injection h2 with h2 h3
    exact ⟨i, rfl, h1, h2, h3⟩
theorem nvs_app (l m : List Int) : nvs (l ++ m) = nvs l ++ nvs m := by unfold nvs; rw [List.map_append]
theorem append_n {W : World} {base k : Nat} {v : Value} {l : List Int} (hown : W.ownsRow base 2 1 v k (nvs l)) (hb : base ≤ W.heap.size) (hk : (k + 1) * 8 ≤ 140737488355328) (p : Int) :
    ∃ a' c' w', (Builtin.append_ #[23, 23] 23 #[v, .slice (some ⟨W.heap.size, 0, none⟩) 1 1]).run Tryz.prog (W.alloc (.cells #[.int .i64 p] 2)) = .ok (.slice a' (k + 1) c') w' ∧ w'.ownsRow base 2 1 (.slice a' (k + 1) c') (k + 1) (nvs (l ++ [p])) ∧ Keeps (fun i => v.ownBlock = some i) W w' := by
  obtain ⟨i0, hi0, hz0, hz1, hz2⟩ := iNumD
  have ka : Keeps (fun _ => False) W (W.alloc (.cells (nvs [p]).toArray 2)) := (Keeps.refl _ W).alloc _
  obtain ⟨v', w', hr, ho, hg, _, hbl⟩ := run_append_own_at (P := Tryz.prog) (w := W.alloc (.cells (nvs [p]).toArray 2)) base 23 23 2 i0 _ 1 8 uNumsD hi0 hz0 hz1 hz2 rfl (by decide) v k (nvs l) (ka.owns hown (fun _ _ e => e)) ⟨W.heap.size, 0, none⟩ 1 1 (nvs [p]) rfl (fun j u hu => by
      rw [add_at]
      have := (CL.made W (nvs [p]) 2).c j u hu
      simpa using this) (fun u hu => by
      simp [nvs] at hu
      rw [hu]; rfl) (by unfold maxLen; omega) (by omega) (Nat.le_trans hb (by simp))
  have ho2 : w'.ownsRow base 2 1 v' (k + 1) (nvs (l ++ [p])) := by rw [nvs_app]; exact ho
  obtain ⟨a', c', rfl, _⟩ := num_of_owns ho2
  exact ⟨a', c', w', hr, ho2, ((Keeps.refl _ W).alloc _).grown hg (fun i _ e => e)⟩
def bhv (os : List Int) (d : Ds) (i : Nat) : Int := match fix d.own i with | some j => if d.oc = 1 then (d.own.getD j (0, 0)).2 else os.getD i 0 | none => os.getD i 0
def bhs (os : List Int) (d : Ds) (k : Nat) : List Int := (List.range k).map (bhv os d)
theorem bhs_lft {s : Rs} {d : Ds} (h : DQ s d) {os : List Int} (h16 : os.length ≤ 16) : bhs os d os.length = lft os s os.length := by
  unfold bhs lft
  apply List.map_congr_left
  intro i hi
  have hi := List.mem_range.1 hi
  unfold bhv
  cases hf : fix d.own i with
  | some j =>
    obtain ⟨h2, hg⟩ := h.r.ow.has (by omega) hf
    simp only
    rw [h.c]
    by_cases e : s.oc = 1
    · rw [if_pos e, if_pos ⟨hi, e, h2⟩, List.getD_eq_getElem?_getD, hg]; rfl
    · rw [if_neg e, if_neg (fun x => e x.2.1)]
  | none =>
    have := h.r.ow.not (by omega) hf
    simp only
    rw [if_neg (fun x => this x.2.2)]
theorem bhs_succ (os : List Int) (d : Ds) (k : Nat) : bhs os d (k + 1) = bhs os d k ++ [bhv os d k] := by unfold bhs; rw [List.range_succ, List.map_append]; rfl
set_option maxHeartbeats 1000000 in
set_option maxRecDepth 100000 in
theorem behind_any {w : World} {B : Nat} {d : Ds} {vo vh : Value} (h : DM w B d vo vh) {a : Option Addr} {cap : Nat} {os : List Int} (hO : NUM w a os) (h16 : os.length ≤ 16) (hn : d.own.length ≤ 100000) : Calls Tryz.prog 26 #[.pointer (some ⟨B, 0, none⟩), .slice a os.length cap] w fun e w' => ∃ a' c', e = .returned (.slice a' os.length c') ∧ w'.ownsRow w.heap.size 2 1 (.slice a' os.length c') os.length (nvs (bhs os d os.length)) ∧ Keeps (fun _ => False) w w' := by
  obtain ⟨ao, co, evo, hpo, -⟩ := prl_of_owns h.oo
  subst evo
  have q16 := h.o
  have q21 := h.c
  clear h
  generalize hN : os.length = N at *
  go_enter Tryz.func26, Tryz.ntmps26
  go_wp2_with fail
  go_loopw [5, 6] (fun v iv Wr => ∃ k : Nat, iv = .int .i64 (k : Int) ∧ k ≤ N ∧ Wr.ownsRow w.heap.size 2 1 v k (nvs (bhs os d k)) ∧ Keeps (fun _ => False) w Wr) (fun _ iv _ => N - (intOf iv).toNat)
  case atStart => exact ⟨0, rfl, Nat.zero_le _, World.ownsRow_nil _ _ _ _, Keeps.refl _ w⟩
  case round =>
    obtain ⟨k, rfl, hk, hown, kr⟩ := hrel
    obtain ⟨av, cv, rfl, -⟩ := num_of_owns hown
    replace q16 := kr.cell q16 (fun e => e)
    replace q21 := kr.cell q21 (fun e => e)
    have hpr := hpo.keep kr (fun _ _ _ e => e)
    by_cases hlt : k < N
    · have l1 : decide ((k : Int) < (N : Int)) = true := decide_eq_true (by omega)
      have l2 : (k : Int) < (N : Int) := by omega
      have l3 : (0 : Int) ≤ (k : Int) := by omega
      have l4 : decide (k < N) = true := decide_eq_true hlt
      have hg : os[k]? = some (os.getD k 0) := by rw [List.getD_eq_getElem?_getD, List.getElem?_eq_getElem (by omega)]; rfl
      obtain ⟨b, off, rfl, c0⟩ := hO k _ hg
      replace c0 := kr.cell c0 (fun e => e)
      have hfi := find_any (cap := co) hpr (by omega) (k : Int)
      have HB : Hid (_ = _) := bhs_succ os d k
      clear hg hpo
      generalize hOO : bhs os d k = O at *
      cases hf : fix d.own k with
      | none =>
        rw [fixV_none hf] at hfi
        have HV : Hid (bhv os d k = os.getD k 0) := by show _ = _; unfold bhv; rw [hf]
        clear hf hpr
        generalize os.getD k 0 = V at *
        generalize d.own.length = M at *
        obtain ⟨a', c', W', hr', ho', kq⟩ := append_n hown kr.size (by omega) V
        have HR : Hid (_ = _) := hr'
        clear hr'
        go_wp2_with (first | (go_at_call 41; refine hfi.mono ?_; clear hfi; rintro e w4 ⟨rfl, ew⟩; subst w4) | (at_builtin; refine wpList_append_q rfl _ _ _ rfl _ _ _ W' rfl rfl HR.out ?_; clear HR))
        have K9 : Keeps (fun _ => False) w W' := kr.trans' kq (fun _ _ e => e) (fun i hi e => by have := owns_baseD hown i e; omega)
        go_roundw
        case rel => exact ⟨k + 1, by go_num, by omega, by rw [HB.out, HV.out]; exact ho', K9⟩
        case measure => simp [intOf]; omega
      | some j =>
        rw [fixV_some hf] at hfi
        have hj := fix_lt hf
        obtain ⟨b9, off9, rfl, c9⟩ := get_pair hpr hj
        have j1 : (0 : Int) ≤ (j : Int) := by omega
        have j2 : (j : Int) < (d.own.length : Int) := by omega
        have j3 : decide ((0 : Int) ≤ (j : Int)) = true := decide_eq_true j1
        clear hpr
        by_cases e1 : d.oc = 1
        · have HV : Hid (bhv os d k = (d.own.getD j (0, 0)).2) := by show _ = _; unfold bhv; rw [hf]; simp only; rw [if_pos e1]
          rw [e1] at q21
          clear hf
          generalize os.getD k 0 = V0 at *
          generalize (d.own.getD j (0, 0)).2 = V at *
          generalize d.own.length = M at *
          obtain ⟨a', c', W', hr', ho', kq⟩ := append_n hown kr.size (by omega) V
          have HR : Hid (_ = _) := hr'
          clear hr'
          go_wp2_with (first | (go_at_call 41; refine hfi.mono ?_; clear hfi; rintro e w4 ⟨rfl, ew⟩; subst w4) | (at_builtin; refine wpList_append_q rfl _ _ _ rfl _ _ _ W' rfl rfl HR.out ?_; clear HR))
          have K9 : Keeps (fun _ => False) w W' := kr.trans' kq (fun _ _ e => e) (fun i hi e => by have := owns_baseD hown i e; omega)
          go_roundw
          case rel => exact ⟨k + 1, by go_num, by omega, by rw [HB.out, HV.out]; exact ho', K9⟩
          case measure => simp [intOf]; omega
        · have HV : Hid (bhv os d k = os.getD k 0) := by show _ = _; unfold bhv; rw [hf]; simp only; rw [if_neg e1]
          have e2 : (d.oc == 1) = false := beq_eq_false_iff_ne.2 e1
          clear hf e1
          generalize os.getD k 0 = V at *
          generalize (d.own.getD j (0, 0)).2 = V0 at *
          generalize d.own.length = M at *
          obtain ⟨a', c', W', hr', ho', kq⟩ := append_n hown kr.size (by omega) V
          have HR : Hid (_ = _) := hr'
          clear hr'
          go_wp2_with (first | (go_at_call 41; refine hfi.mono ?_; clear hfi; rintro e w4 ⟨rfl, ew⟩; subst w4) | (at_builtin; refine wpList_append_q rfl _ _ _ rfl _ _ _ W' rfl rfl HR.out ?_; clear HR))
          have K9 : Keeps (fun _ => False) w W' := kr.trans' kq (fun _ _ e => e) (fun i hi e => by have := owns_baseD hown i e; omega)
          go_roundw
          case rel => exact ⟨k + 1, by go_num, by omega, by rw [HB.out, HV.out]; exact ho', K9⟩
          case measure => simp [intOf]; omega
    · have e : k = N := by omega
      subst e
      have l1 : decide ((k : Int) < (k : Int)) = false := decide_eq_false (by omega)
      have l4 : decide (k < k) = false := decide_eq_false (by omega)
      go_wp2
      go_ret
      exact ⟨av, cv, rfl, hown, kr⟩
end Go.Proofs.YthchbcfecconbaaGreatDoor

namespace Go.Proofs.YthchbcfecconbaaGreatDoor
open Go.RowKit
attribute [local go_sem] Oper.semAt_some run_store_nf run_store_f
def rfs (no ng : Nat) (fuel : Int) : Int := if 16 < no then 110 else if 4096 < ng then 111 else if fuel < 0 ∨ 10000 < fuel then 112 else 0
set_option maxHeartbeats 800000 in
set_option maxRecDepth 1000000 in
theorem refused_any (w : World) (ao ag : Option Addr) (no co ng cg : Nat) (fuel : Int) : Calls Tryz.prog 22 #[.slice ao no co, .slice ag ng cg, .int .i64 fuel] w fun e w' => e = .returned (.int .i64 (rfs no ng fuel)) ∧ w' = w := by
  unfold rfs
  by_cases h1 : 16 < no
  · rw [if_pos h1]
    have b1 : decide ((16 : Int) < (no : Int)) = true := by simp; omega
    go_enter Tryz.func22, Tryz.ntmps22
    go_wp2
    go_ret
    exact ⟨rfl, rfl⟩
  · rw [if_neg h1]
    have b1 : decide ((16 : Int) < (no : Int)) = false := by simp; omega
    by_cases h2 : 4096 < ng
    · rw [if_pos h2]
      have b2 : decide ((4096 : Int) < (ng : Int)) = true := by simp; omega
      go_enter Tryz.func22, Tryz.ntmps22
      go_wp2
      go_ret
      exact ⟨rfl, rfl⟩
    · rw [if_neg h2]
      have b2 : decide ((4096 : Int) < (ng : Int)) = false := by simp; omega
      by_cases h3 : fuel < 0
      · rw [if_pos (.inl h3)]
        have b3 : decide (fuel < 0) = true := by simp; omega
        go_enter Tryz.func22, Tryz.ntmps22
        go_wp2
        go_ret
        exact ⟨rfl, rfl⟩
      · have b3 : decide (fuel < 0) = false := by simp; omega
        by_cases h4 : 10000 < fuel
        · rw [if_pos (.inr h4)]
          have b4 : decide (10000 < fuel) = true := by simp; omega
          go_enter Tryz.func22, Tryz.ntmps22
          go_wp2
          go_ret
          exact ⟨rfl, rfl⟩
        · rw [if_neg (by omega)]
          have b4 : decide (10000 < fuel) = false := by simp; omega
          go_enter Tryz.func22, Tryz.ntmps22
          go_wp2
          go_ret
          exact ⟨rfl, rfl⟩
theorem rfs_ok {no ng : Nat} {fuel : Int} (h : rfs no ng fuel = 0) : no ≤ 16 ∧ ng ≤ 4096 ∧ 0 ≤ fuel ∧ fuel ≤ 10000 := by
  unfold rfs at h
  split at h
  · cases h
  · split at h
    · cases h
    · split at h
      · cases h
      · omega
def zA : Value := .agg #[.int .i64 0, .int .i64 0, .slice none 0 0, .int .i64 0]
def RunP (w w' : World) (l : List Ins) (os : List Int) (gs : List (Bool × Int)) (fuel : Int) (v : Value) (x : Int) : Prop :=
  (¬ (chk l).1 = 0 ∧ x = (chk l).1 ∧ v = zA) ∨ ((chk l).1 = 0 ∧ ¬ rfs os.length gs.length fuel = 0 ∧ x = rfs os.length gs.length fuel ∧ v = zA) ∨ ((chk l).1 = 0 ∧ rfs os.length gs.length fuel = 0 ∧ x = 0 ∧ AN w w' os (gor l os gs fuel.toNat 0 rs0) v)
theorem NUM.keep {w w' : World} {a : Option Addr} {os : List Int} (h : NUM w a os) (k : Keeps (fun _ => False) w w') : NUM w' a os := fun i x hx => by
  obtain ⟨b, off, e, hc⟩ := h i x hx
  exact ⟨b, off, e, k.cell hc (fun e => e)⟩
theorem GVN.keep {w w' : World} {a : Option Addr} {gs : List (Bool × Int)} (h : GVN w a gs) (k : Keeps (fun _ => False) w w') : GVN w' a gs := fun i x hx => by
  obtain ⟨b, off, e, hc, hd⟩ := h i x hx
  exact ⟨b, off, e, k.cell hc (fun e => e), k.cell hd (fun e => e)⟩
set_option maxHeartbeats 1000000 in
set_option maxRecDepth 1000000 in
theorem run_any {w : World} {a ao ag : Option Addr} {cap co cg : Nat} {l : List Ins} {os : List Int} {gs : List (Bool × Int)} (hT : LT w) (hl : ISL w a l) (hlen : l.length ≤ 9223372036854775807) (hO : NUM w ao os) (hG : GVN w ag gs) (fuel : Int) : Calls Tryz.prog 8 #[.slice a l.length cap, .slice ao os.length co, .slice ag gs.length cg, .int .i64 fuel] w fun e w' => ∃ v x, e = .returned (.tuple #[v, .int .i64 x]) ∧ RunP w w' l os gs fuel v x ∧ Keeps (fun _ => False) w w' := by
  obtain ⟨W1, hW1⟩ : ∃ W1, W1 = w.alloc (.cells #[.int .i64 0, .int .i64 0, .slice none 0 0, .int .i64 0] 31) := ⟨_, rfl⟩
  have K1 : Keeps (fun _ => False) w W1 := by rw [hW1]; exact (Keeps.refl _ w).alloc _
  have C1 : CL W1 w.heap.size [.int .i64 0, .int .i64 0, .slice none 0 0, .int .i64 0] := by rw [hW1]; exact CL.made w _ _
  have s1 : W1.heap.size = w.heap.size + 1 := by rw [hW1]; simp
  have HW1 : Hid (_ = _) := hW1
  clear hW1
  have hC := check_any (cap := cap) (hT.keep K1) (hl.keep K1) hlen
  have hok := chk_ok (l := l)
  have hl1 := hl.keep K1
  have hO1 := hO.keep K1
  have hG1 := hG.keep K1
  unfold RunP
  generalize (chk l).2 = ci at *
  generalize (chk l).1 = ce at *
  clear hT hl hO hG
  by_cases h0 : ce = 0
  · subst h0
    obtain ⟨h64, hcan⟩ := hok rfl
    clear hok
    have hR := fun W => refused_any W ao ag os.length co gs.length cg fuel
    have hrf := rfs_ok (no := os.length) (ng := gs.length) (fuel := fuel)
    generalize rfs os.length gs.length fuel = x at *
    by_cases hx : x = 0
    · subst hx
      obtain ⟨h16, _, hf0, hf1⟩ := hrf rfl
      clear hrf
      obtain ⟨f, rfl⟩ : ∃ f : Nat, fuel = (f : Int) := ⟨fuel.toNat, by omega⟩
      rw [Int.toNat_natCast]
      go_enter Tryz.func8, Tryz.ntmps8
      go_wp2_with (first | (go_at_call 19; rw [← HW1.out]; refine hC.mono ?_; clear hC; rintro e w1 ⟨rfl, k1⟩; have C2 := C1.keep (by show 0 < 4; decide) k1 (fun e => e); have hal := alone_any (cap := cap) (co := co) (cg := cg) (hl1.keep k1) h64 hcan (hO1.keep k1) (hG1.keep k1) h16 f (by omega)) | (go_at_call 22; refine (hR _).mono ?_; clear hR; rintro e w2 ⟨rfl, e2⟩; subst w2) | (go_at_call 23; refine hal.mono ?_; clear hal; rintro e w3 ⟨v, rfl, ⟨b, hb, rfl, C3, hb3⟩, k3⟩; have C4 := C2.keep (by show 0 < 4; decide) k3 (fun e => e); have y0 := C4.c 0 _ rfl; have y1 := C4.c 1 _ rfl; have y2 := C4.c 2 _ rfl; have y3 := C4.c 3 _ rfl; have x0 := C4.z 0 (by show 0 < 4; decide); have x1 := C4.z 1 (by show 1 < 4; decide); have x2 := C4.z 2 (by show 2 < 4; decide); have x3 := C4.z 3 (by show 3 < 4; decide)))
      (try simp only [Exit.inBlock, Exit.then])
      have KX := (K1.trans k1).trans k3
      have z1 := k1.size
      refine bodyPost_ret (v := .tuple #[.agg #[.int .i64 (gor l os gs f 0 rs0).1.oc, .int .i64 (gor l os gs f 0 rs0).1.rs, .slice (some ⟨b, 0, none⟩) os.length os.length, .int .i64 ((gor l os gs f 0 rs0).2 : Int)], .int .i64 0]) (by rw [results_cell_tmp rfl]; go_simp) rfl ⟨_, _, rfl, .inr (.inr ⟨trivial, trivial, rfl, ⟨b, by omega, rfl, ?_, ?_⟩⟩), ?_⟩
      · exact (((C3.other (by show w.heap.size ≠ b; omega) _).other (by show w.heap.size ≠ b; omega) _).other (by show w.heap.size ≠ b; omega) _).other (by show w.heap.size ≠ b; omega) _
      · simp; omega
      · exact (((KX.setCell (fun h => absurd h (Nat.lt_irrefl _)) _).setCell (fun h => absurd h (Nat.lt_irrefl _)) _).setCell (fun h => absurd h (Nat.lt_irrefl _)) _).setCell (fun h => absurd h (Nat.lt_irrefl _)) _
    · have hb : (x != 0) = true := by simpa using hx
      go_enter Tryz.func8, Tryz.ntmps8
      go_wp2_with (first | (go_at_call 19; rw [← HW1.out]; refine hC.mono ?_; clear hC; rintro e w1 ⟨rfl, k1⟩; have C4 := C1.keep (by show 0 < 4; decide) k1 (fun e => e); have y0 := C4.c 0 _ rfl; have y1 := C4.c 1 _ rfl; have y2 := C4.c 2 _ rfl; have y3 := C4.c 3 _ rfl; have x0 := C4.z 0 (by show 0 < 4; decide); have x1 := C4.z 1 (by show 1 < 4; decide); have x2 := C4.z 2 (by show 2 < 4; decide); have x3 := C4.z 3 (by show 3 < 4; decide)) | (go_at_call 22; refine (hR _).mono ?_; clear hR; rintro e w2 ⟨rfl, e2⟩; subst w2))
      (try simp only [Exit.inBlock, Exit.then])
      have KX := K1.trans k1
      refine bodyPost_ret (v := .tuple #[zA, .int .i64 x]) (by rw [results_cell_tmp rfl]; unfold zA; go_simp) rfl ⟨_, _, rfl, .inr (.inl ⟨trivial, hx, rfl, rfl⟩), ?_⟩
      exact (((KX.setCell (fun h => absurd h (Nat.lt_irrefl _)) _).setCell (fun h => absurd h (Nat.lt_irrefl _)) _).setCell (fun h => absurd h (Nat.lt_irrefl _)) _).setCell (fun h => absurd h (Nat.lt_irrefl _)) _
  · have hb : (ce != 0) = true := by simpa using h0
    go_enter Tryz.func8, Tryz.ntmps8
    go_wp2_with (go_at_call 19; rw [← HW1.out]; refine hC.mono ?_; clear hC; rintro e w1 ⟨rfl, k1⟩; have C4 := C1.keep (by show 0 < 4; decide) k1 (fun e => e); have y0 := C4.c 0 _ rfl; have y1 := C4.c 1 _ rfl; have y2 := C4.c 2 _ rfl; have y3 := C4.c 3 _ rfl; have x0 := C4.z 0 (by show 0 < 4; decide); have x1 := C4.z 1 (by show 1 < 4; decide); have x2 := C4.z 2 (by show 2 < 4; decide); have x3 := C4.z 3 (by show 3 < 4; decide))
    (try simp only [Exit.inBlock, Exit.then])
    have KX := K1.trans k1
    refine bodyPost_ret (v := .tuple #[zA, .int .i64 ce]) (by rw [results_cell_tmp rfl]; unfold zA; go_simp) rfl ⟨_, _, rfl, .inl ⟨h0, rfl, rfl⟩, ?_⟩
    exact (((KX.setCell (fun h => absurd h (Nat.lt_irrefl _)) _).setCell (fun h => absurd h (Nat.lt_irrefl _)) _).setCell (fun h => absurd h (Nat.lt_irrefl _)) _).setCell (fun h => absurd h (Nat.lt_irrefl _)) _
end Go.Proofs.YthchbcfecconbaaGreatDoor

namespace Go.Proofs.YthchbcfecconbaaGreatDoor
open Go.RowKit
attribute [local go_sem] Oper.semAt_some run_store_nf run_store_f
def zdl : List Value := [.int .i64 0, .int .i64 0, .int .i64 0, .int .i64 0, .int .i64 0, .int .i64 0, .int .i64 0, .int .i64 0, .int .i64 0, .int .i64 0, .int .i64 0, .int .i64 0, .int .i64 0, .int .i64 0, .int .i64 0, .int .i64 0, .slice none 0 0, .slice none 0 0, .int .i64 0, .int .i64 0, .int .i64 0, .int .i64 0, .int .i64 0]
theorem zero_dn : ∃ Z0 : Array Value, (∀ W : World, Sem.run Tryz.prog (zeroValue 78) W = .ok (.agg Z0) W) ∧ ¬ Z0 = #[] ∧ Z0.size = 23 ∧ Z0.toList = zdl := ⟨#[.int .i64 0, .int .i64 0, .int .i64 0, .int .i64 0, .int .i64 0, .int .i64 0, .int .i64 0, .int .i64 0, .int .i64 0, .int .i64 0, .int .i64 0, .int .i64 0, .int .i64 0, .int .i64 0, .int .i64 0, .int .i64 0, .slice none 0 0, .slice none 0 0, .int .i64 0, .int .i64 0, .int .i64 0, .int .i64 0, .int .i64 0], fun W => by unfold zeroValue; kernel_rfl, by simp, rfl, rfl⟩
theorem DM.start {w : World} {B : Nat} (h : CL w B zdl) : DM w B ds0 (.slice none 0 0) (.slice none 0 0) := by
  refine ⟨fun i hi => ?_, h.c 16 _ rfl, h.c 17 _ rfl, h.c 18 _ rfl, h.c 19 _ rfl, h.c 20 _ rfl, h.c 21 _ rfl, h.c 22 _ rfl, fun j hj => h.z j (by show j < 23; exact hj), World.ownsRow_nil _ _ _ _, World.ownsRow_nil _ _ _ _, fun g e => by cases e⟩
  have : zdl[i]? = some (.int .i64 0) := by
    rcases (by omega : i = 0 ∨ i = 1 ∨ i = 2 ∨ i = 3 ∨ i = 4 ∨ i = 5 ∨ i = 6 ∨ i = 7 ∨ i = 8 ∨ i = 9 ∨ i = 10 ∨ i = 11 ∨ i = 12 ∨ i = 13 ∨ i = 14 ∨ i = 15) with h | h | h | h | h | h | h | h | h | h | h | h | h | h | h | h <;> subst h <;> rfl
  exact h.c i _ this
theorem stp_cnt (d : Ds) (l : List Ins) (os : List Int) (gs : List (Bool × Int)) : (d.stp l os gs).cnt = d.cnt + 1 := by
  unfold Ds.stp
  split
  · rfl
  · unfold Ds.ins
    split
    · unfold Ds.tch
      split
      · unfold Ds.tchO
        split
        · exact (ds_rdo d.tick.inc os gs _).2.2.2
        · split
          · exact (ds_wro d.tick.inc os _).2.2.2
          · split
            · split
              · exact (ds_wro d.tick.inc os _).2.2.2
              · exact (ds_wro d.tick.inc os _).2.2.2
            · rfl
      · rfl
    · split
      · rfl
      · split
        · rfl
        · split
          · split <;> rfl
          · split
            · rfl
            · split <;> rfl
theorem NUM.keepN {w w' : World} {a : Option Addr} {os : List Int} {S : Nat → Prop} (h : NUM w a os) (k : Keeps S w w') (hS : ∀ b off, a = some ⟨b, off, none⟩ → ¬ S b) : NUM w' a os := fun i x hx => by
  obtain ⟨b, off, e, hc⟩ := h i x hx
  exact ⟨b, off, e, k.cell hc (hS b off e)⟩
theorem GVN.keepN {w w' : World} {a : Option Addr} {gs : List (Bool × Int)} {S : Nat → Prop} (h : GVN w a gs) (k : Keeps S w w') (hS : ∀ b off, a = some ⟨b, off, none⟩ → ¬ S b) : GVN w' a gs := fun i x hx => by
  obtain ⟨b, off, e, hc, hd⟩ := h i x hx
  exact ⟨b, off, e, k.cell hc (hS b off e), k.cell hd (hS b off e)⟩
def DAN (w w' : World) (os : List Int) (F : Rs × Nat) (v : Value) : Prop := ∃ a c, v = .agg #[.int .i64 F.1.oc, .int .i64 F.1.rs, .slice a os.length c, .int .i64 (F.2 : Int)] ∧ NUM w' a (lft os F.1 os.length) ∧ (∀ b off, a = some ⟨b, off, none⟩ → w.heap.size ≤ b ∧ b < w'.heap.size)
def DRunP (w w' : World) (l : List Ins) (os : List Int) (gs : List (Bool × Int)) (fuel : Int) (v : Value) (x : Int) : Prop :=
  (¬ (chk l).1 = 0 ∧ x = (chk l).1 ∧ v = zA) ∨ ((chk l).1 = 0 ∧ ¬ rfs os.length gs.length fuel = 0 ∧ x = rfs os.length gs.length fuel ∧ v = zA) ∨ ((chk l).1 = 0 ∧ rfs os.length gs.length fuel = 0 ∧ x = 0 ∧ DAN w w' os (gor l os gs fuel.toNat 0 rs0) v)
set_option maxHeartbeats 4000000 in
set_option maxRecDepth 1000000 in
theorem drun_go {w : World} {a ao ag : Option Addr} {cap co cg : Nat} {l : List Ins} {os : List Int} {gs : List (Bool × Int)} (hl : ISL w a l) (hlen : l.length ≤ 9223372036854775807) (hO : NUM w ao os) (hG : GVN w ag gs) (hOB : ∀ b off, ao = some ⟨b, off, none⟩ → b < w.heap.size) (hGB : ∀ b off, ag = some ⟨b, off, none⟩ → b < w.heap.size) (hos : ∀ i, In64 (os.getD i 0)) (hgs : ∀ i, In64 (gs.getD i (false, 0)).2) (hqs : ∀ p, p < l.length → In64 (l.getD p ins0).xN ∧ In64 (l.getD p ins0).yN) (h0 : (chk l).1 = 0) (h16 : os.length ≤ 16) (hg4 : gs.length ≤ 4096) (fuel : Nat) (hf : fuel ≤ 10000) : Calls Tryz.prog 9 #[.slice a l.length cap, .slice ao os.length co, .slice ag gs.length cg, .int .i64 (fuel : Int)] w fun e w' => ∃ v, e = .returned (.tuple #[v, .int .i64 0]) ∧ DAN w w' os (gor l os gs fuel 0 rs0) v ∧ Keeps (fun _ => False) w w' := by
  have hlB : 0 < l.length → ∀ b off, a = some ⟨b, off, none⟩ → b < w.heap.size := fun h0 b off e => by
    obtain ⟨b', off', e', hc⟩ := hl 0 h0
    rw [e'] at e
    cases e
    exact World.block_lt_of_cell? w _ (hc 0 _ rfl)
  obtain ⟨Z0, hz0, zn, zs, zl⟩ := zero_dn
  have ZL : Hid (_ = _) := zl
  have ZS : Hid (_ = _) := zs
  clear zl zs
  obtain ⟨W1, hW1⟩ : ∃ W1, W1 = w.alloc (.cells #[.int .i64 0, .int .i64 0, .slice none 0 0, .int .i64 0] 31) := ⟨_, rfl⟩
  have K1 : Keeps (fun _ => False) w W1 := by rw [hW1]; exact (Keeps.refl _ w).alloc _
  have C1 : CL W1 w.heap.size [.int .i64 0, .int .i64 0, .slice none 0 0, .int .i64 0] := by rw [hW1]; exact CL.made w _ _
  have s1 : W1.heap.size = w.heap.size + 1 := by rw [hW1]; simp
  have HW1 : Hid (_ = _) := hW1
  clear hW1
  have hC := rcheck_any (cap := cap) (hl.keep K1) hlen
  rw [h0] at hC
  obtain ⟨h64, hcan⟩ := chk_ok h0
  generalize (chk l).2 = ci at *
  have d1 : decide ((16 : Int) < (os.length : Int)) = false := decide_eq_false (by omega)
  have d1' : decide (16 < os.length) = false := decide_eq_false (by omega)
  have d2 : decide ((4096 : Int) < (gs.length : Int)) = false := decide_eq_false (by omega)
  have d2' : decide (4096 < gs.length) = false := decide_eq_false (by omega)
  have d3 : decide ((fuel : Int) < 0) = false := decide_eq_false (by omega)
  have d4 : decide ((10000 : Int) < (fuel : Int)) = false := decide_eq_false (by omega)
  have d4' : decide (10000 < fuel) = false := decide_eq_false (by omega)
  generalize hFe : gor l os gs fuel 0 rs0 = F
  have HF : Hid (_ = _) := hFe
  clear hFe
  go_enter Tryz.func9, Tryz.ntmps9
  go_wp2_with (first | (go_at_call 24; rw [← HW1.out]; refine hC.mono ?_; clear hC; rintro e w1 ⟨rfl, k1⟩; have C2 := C1.keep (by show 0 < 4; decide) k1 (fun e => e)))
  have z1 := k1.size
  have K2 : Keeps (fun _ => False) w w1 := K1.trans k1
  generalize hW5 : World.alloc w1 _ = W5
  have k5 : Keeps (fun _ => False) w1 W5 := by rw [← hW5]; exact (Keeps.refl _ w1).alloc _
  have hU5 : CL W5 w1.heap.size zdl := by rw [← hW5, ← ZL.out]; have := CL.made w1 Z0.toList 78; rw [Array.toArray_toList] at this; exact this
  have C5 := C2.keep (by show 0 < 4; decide) k5 (fun e => e)
  have HD5 : Hid (DM W5 w1.heap.size ds0 _ _) := DM.start hU5
  have K5 : Keeps (fun k => w1.heap.size ≤ k) w W5 := (K2.trans k5).mono (fun _ _ e => e.elim)
  have hBw : w.heap.size < w1.heap.size := by omega
  clear hW5 hU5 k5 C2 z1 C1 K1 k1 hz0 zn ZL ZS s1 d1 d1' d2 d2' d3 d4 d4' K2
  generalize w1.heap.size = B at *
  go_loopg [] fuel (fun g Wr => ∃ (c : Nat) (s : Rs) (d : Ds) (vo vh : Value), c + g = fuel ∧ Hid (gor l os gs g c s = F) ∧ Hid (DM Wr B d vo vh) ∧ Hid (DQ s d) ∧ Hid (R64 s) ∧ d.cnt = (c : Int) ∧ s.rd ≤ c ∧ (s.oc = 0 → 0 ≤ s.pl ∧ s.pl ≤ l.length) ∧ CL Wr w.heap.size [.int .i64 0, .int .i64 0, .slice none 0 0, .int .i64 0] ∧ Keeps (fun k => B ≤ k) w Wr)
  case atStart => exact ⟨0, rs0, ds0, _, _, by omega, HF, HD5, DQ.start, R64.start, rfl, Nat.le_refl _, fun _ => ⟨by decide, by show (0 : Int) ≤ _; omega⟩, C5, K5⟩
  case round =>
    obtain ⟨c, s, d, vo, vh, hcg, HG, HM, HQ, HR, hcn, hrd, hpl, CR, KW⟩ := hrel
    clear HD5 K5 C5 HF
    have hOw := hO.keepN KW (fun b off e e2 => by have e2 : B ≤ b := e2; have := hOB b off e; omega)
    have hGw := hG.keepN KW (fun b off e e2 => by have e2 : B ≤ b := e2; have := hGB b off e; omega)
    have hl2 := hl.keepS KW (by intro i hi e; have e : B ≤ i := e; omega)
    clear hO hG hl
    cases gk with
    | zero =>
      have hcI : decide ((c : Int) < (fuel : Int)) = false := by simp; omega
      have hF : (s, c) = F := HG.out
      subst hF
      clear HG hpl hGw hl2 hcan hqs
      have hbe := behind_any (cap := co) HM.out hOw h16 (by have := HQ.out.r.ow.len; omega)
      have c20 := HM.out.k
      have c21 := HM.out.c
      have c22 := HM.out.u
      rw [hcn] at c20
      rw [HQ.out.c] at c21
      rw [HQ.out.u] at c22
      have HE : Hid (_ = _) := bhs_lft HQ.out h16
      have szr := KW.size
      clear HQ HR
      go_wp2_with (first | (go_at_call 26; refine hbe.mono ?_; clear hbe; rintro e w6 ⟨a6, c6, rfl, ho6, k6⟩; have g20 := k6.cell c20 (fun e => e); have g21 := k6.cell c21 (fun e => e); have g22 := k6.cell c22 (fun e => e); have C8 := CR.keep (by show 0 < 4; decide) k6 (fun e => e); have y0 := C8.c 0 _ rfl; have y1 := C8.c 1 _ rfl; have y2 := C8.c 2 _ rfl; have y3 := C8.c 3 _ rfl; have x0 := C8.z 0 (by show 0 < 4; decide); have x1 := C8.z 1 (by show 1 < 4; decide); have x2 := C8.z 2 (by show 2 < 4; decide); have x3 := C8.z 3 (by show 3 < 4; decide)))
      (try simp only [Exit.inBlock, Exit.then])
      rw [HE.out] at ho6
      obtain ⟨a7, c7, e7, N6, B6, -⟩ := num_of_owns ho6
      injection e7 with e71 _ e72
      subst e71 e72
      have KX : Keeps (fun _ => False) w w6 := KW.trans' k6 (fun i hi e => by have e : B ≤ i := e; omega) (fun _ _ e => e)
      have BB : ∀ b off, a6 = some ⟨b, off, none⟩ → w.heap.size < b ∧ b < w6.heap.size := fun b off e => by have := owns_baseD ho6 b (B6 b off e); have := owns_lt' ho6 b (B6 b off e); have := HM.out.lt; omega
      have HBB : Hid (∀ b off, a6 = some ⟨b, off, none⟩ → w.heap.size < b ∧ b < w6.heap.size) := BB
      have HN6 : Hid (NUM w6 a6 (lft os s os.length)) := N6
      clear BB N6 B6 ho6 HE
      have HKZ : Hid (∀ v0 v1 v2 v3 : Value, ((((w6.setCell ⟨w.heap.size, 0, none⟩ v0).setCell ⟨w.heap.size, 1, none⟩ v1).setCell ⟨w.heap.size, 2, none⟩ v2).setCell ⟨w.heap.size, 3, none⟩ v3).drew.cell? ⟨B, 20, none⟩ = some (.int .i64 (c : Int)) ∧ ((((w6.setCell ⟨w.heap.size, 0, none⟩ v0).setCell ⟨w.heap.size, 1, none⟩ v1).setCell ⟨w.heap.size, 2, none⟩ v2).setCell ⟨w.heap.size, 3, none⟩ v3).drew.cell? ⟨B, 21, none⟩ = some (.int .i64 s.oc) ∧ ((((w6.setCell ⟨w.heap.size, 0, none⟩ v0).setCell ⟨w.heap.size, 1, none⟩ v1).setCell ⟨w.heap.size, 2, none⟩ v2).setCell ⟨w.heap.size, 3, none⟩ v3).drew.cell? ⟨B, 22, none⟩ = some (.int .i64 s.rs)) := fun v0 v1 v2 v3 => by
        have kk := (((((Keeps.refl (fun k => k = w.heap.size) w6).setCell (p := ⟨w.heap.size, 0, none⟩) (fun _ => rfl) v0).setCell (p := ⟨w.heap.size, 1, none⟩) (fun _ => rfl) v1).setCell (p := ⟨w.heap.size, 2, none⟩) (fun _ => rfl) v2).setCell (p := ⟨w.heap.size, 3, none⟩) (fun _ => rfl) v3).drew
        have hne : ¬ B = w.heap.size := by omega
        exact ⟨kk.cell g20 hne, kk.cell g21 hne, kk.cell g22 hne⟩
      go_region_held3 (fun w' => w'.cell? ⟨B, 20, none⟩ = some (.int .i64 (c : Int)) ∧ w'.cell? ⟨B, 21, none⟩ = some (.int .i64 s.oc) ∧ w'.cell? ⟨B, 22, none⟩ = some (.int .i64 s.rs)) (first | (go_keep; done) | exact HKZ.out _ _ _ _) (fail)
      all_goals
        go_wp2_with fail
        (try simp only [Exit.inBlock, Exit.then])
        refine bodyPost_ret (v := .tuple #[.agg #[.int .i64 s.oc, .int .i64 s.rs, .slice a6 os.length c6, .int .i64 (c : Int)], .int .i64 0]) (by rw [results_cell_tmp rfl]; go_simp) rfl ⟨_, rfl, ⟨a6, c6, rfl, HN6.out.keepN (S := fun k => k = w.heap.size) (by have kk := ((((Keeps.refl (fun k => k = w.heap.size) w6).setCell (p := ⟨w.heap.size, 0, none⟩) (fun _ => rfl) (.int .i64 s.oc)).setCell (p := ⟨w.heap.size, 1, none⟩) (fun _ => rfl) (.int .i64 s.rs)).setCell (p := ⟨w.heap.size, 2, none⟩) (fun _ => rfl) (.slice a6 os.length c6)).setCell (p := ⟨w.heap.size, 3, none⟩) (fun _ => rfl) (.int .i64 (c : Int)); first | exact kk | exact kk.drew) (fun b off e e2 => by have e2 : b = w.heap.size := e2; have := HBB.out b off e; omega), fun b off e => by have := HBB.out b off e; (refine ⟨by omega, ?_⟩); (try simp); omega⟩, (by have kk := ((((KX).setCell (p := ⟨w.heap.size, 0, none⟩) (fun h => absurd h (Nat.lt_irrefl _)) (.int .i64 s.oc)).setCell (p := ⟨w.heap.size, 1, none⟩) (fun h => absurd h (Nat.lt_irrefl _)) (.int .i64 s.rs)).setCell (p := ⟨w.heap.size, 2, none⟩) (fun h => absurd h (Nat.lt_irrefl _)) (.slice a6 os.length c6)).setCell (p := ⟨w.heap.size, 3, none⟩) (fun h => absurd h (Nat.lt_irrefl _)) (.int .i64 (c : Int)); first | exact kk | exact kk.drew)⟩
    | succ g =>
      have hcI : decide ((c : Int) < (fuel : Int)) = true := by simp; omega
      by_cases hoc : s.oc = 0
      · have hG2 : Hid (gor l os gs g (c + 1) (mstp os gs (atI l s.pl.toNat) s) = F) := by
          have : (if s.oc = 0 then gor l os gs g (c + 1) (mstp os gs (atI l s.pl.toNat) s) else (s, c)) = F := HG.out
          rw [if_pos hoc] at this
          exact this
        have hq := hpl hoc
        have hin := mstp_in os gs hcan hq
        have hrd2 := mstp_rd os gs (atI l s.pl.toNat) s
        have hqc := atI_can hcan (p := s.pl.toNat) (by omega)
        have hqi : In64 (atI l s.pl.toNat).xN ∧ In64 (atI l s.pl.toNat).yN := by
          unfold atI
          split
          · exact ⟨in64_zero, in64_zero⟩
          · exact hqs _ (by omega)
        have HQ2 : Hid (DQ _ _) := HQ.out.stp hoc (gs := gs) h16 hcan hq
        have HR2 : Hid (R64 _) := HR.out.stp h16 hos hgs hqc hqi
        have hcnt := stp_cnt d l os gs
        have epl : d.pl = s.pl := HQ.out.p hoc
        have h6 : ¬ (l.length : Int) ≤ d.pl → (l.getD d.pl.toNat ins0).code = 6 → In64 (d.tick.sv (l.getD d.pl.toNat ins0).xR (l.getD d.pl.toNat ins0).xN) ∧ In64 (d.tick.sv (l.getD d.pl.toNat ins0).yR (l.getD d.pl.toNat ins0).yN) := fun e1 e2 => by
          rw [epl] at e1 e2 ⊢
          have hcq := hcan s.pl.toNat (by omega)
          have hi := hqs s.pl.toNat (by omega)
          have k1 := can_x hcq (by rw [e2]; rfl)
          have k2 := can_y hcq (by rw [e2]; rfl)
          have q1 : d.tick.sv _ _ = _ := sv_same (d := d.tick) HQ.out.r.rg k1
          have q2 : d.tick.sv _ _ = _ := sv_same (d := d.tick) HQ.out.r.rg k2
          rw [q1, q2]
          exact ⟨HR.out.sv k1 hi.1, HR.out.sv k2 hi.2⟩
        have hdo := does_any (c0 := cap) (cap := co) (cg := cg) HM.out hl2 (fun h0 b off e => by have := hlB h0 b off e; omega) hOw (fun b off e => by have := hOB b off e; omega) hGw (fun b off e => by have := hGB b off e; omega) ⟨h16, hg4, by have := HQ.out.r.ow.len; omega, by have := HQ.out.r.hd.len; omega, by have := HQ.out.r.rd; omega⟩ (by omega) (by omega) h64 hcan h6
        have c20 := HM.out.k
        have c21 := HM.out.c
        rw [hcn] at c20
        rw [HQ.out.c, hoc] at c21
        clear h6 hpl HG hqc hqi hcan HR hqs hl2 hGw hOw
        go_wp2_with (first | (go_at_call 25; refine hdo.mono ?_; clear hdo; rintro e w3 ⟨vo3, vh3, rfl, H3, k3⟩))
        go_roundg g
        case measure => omega
        case rel => exact ⟨c + 1, _, _, vo3, vh3, by omega, hG2, H3, HQ2, HR2, by rw [hcnt, hcn]; rfl, by omega, hin, CR.keep (by show 0 < 4; decide) k3 (by show ¬ B ≤ w.heap.size; omega), KW.trans k3⟩
      · have hb : (s.oc == 0) = false := by simpa using hoc
        have hF : (s, c) = F := by
          have : (if s.oc = 0 then gor l os gs g (c + 1) (mstp os gs (atI l s.pl.toNat) s) else (s, c)) = F := HG.out
          rw [if_neg hoc] at this
          exact this
        subst hF
        clear HG hpl hGw hl2 hcan hqs hoc
        have hbe := behind_any (cap := co) HM.out hOw h16 (by have := HQ.out.r.ow.len; omega)
        have c20 := HM.out.k
        have c21 := HM.out.c
        have c22 := HM.out.u
        rw [hcn] at c20
        rw [HQ.out.c] at c21
        rw [HQ.out.u] at c22
        have HE : Hid (_ = _) := bhs_lft HQ.out h16
        have szr := KW.size
        clear HQ HR
        go_wp2_with (first | (go_at_call 26; refine hbe.mono ?_; clear hbe; rintro e w6 ⟨a6, c6, rfl, ho6, k6⟩; have g20 := k6.cell c20 (fun e => e); have g21 := k6.cell c21 (fun e => e); have g22 := k6.cell c22 (fun e => e); have C8 := CR.keep (by show 0 < 4; decide) k6 (fun e => e); have y0 := C8.c 0 _ rfl; have y1 := C8.c 1 _ rfl; have y2 := C8.c 2 _ rfl; have y3 := C8.c 3 _ rfl; have x0 := C8.z 0 (by show 0 < 4; decide); have x1 := C8.z 1 (by show 1 < 4; decide); have x2 := C8.z 2 (by show 2 < 4; decide); have x3 := C8.z 3 (by show 3 < 4; decide)))
        (try simp only [Exit.inBlock, Exit.then])
        rw [HE.out] at ho6
        obtain ⟨a7, c7, e7, N6, B6, -⟩ := num_of_owns ho6
        injection e7 with e71 _ e72
        subst e71 e72
        have KX : Keeps (fun _ => False) w w6 := KW.trans' k6 (fun i hi e => by have e : B ≤ i := e; omega) (fun _ _ e => e)
        have BB : ∀ b off, a6 = some ⟨b, off, none⟩ → w.heap.size < b ∧ b < w6.heap.size := fun b off e => by have := owns_baseD ho6 b (B6 b off e); have := owns_lt' ho6 b (B6 b off e); have := HM.out.lt; omega
        have HBB : Hid (∀ b off, a6 = some ⟨b, off, none⟩ → w.heap.size < b ∧ b < w6.heap.size) := BB
        have HN6 : Hid (NUM w6 a6 (lft os s os.length)) := N6
        clear BB N6 B6 ho6 HE
        have HKZ : Hid (∀ v0 v1 v2 v3 : Value, ((((w6.setCell ⟨w.heap.size, 0, none⟩ v0).setCell ⟨w.heap.size, 1, none⟩ v1).setCell ⟨w.heap.size, 2, none⟩ v2).setCell ⟨w.heap.size, 3, none⟩ v3).drew.cell? ⟨B, 20, none⟩ = some (.int .i64 (c : Int)) ∧ ((((w6.setCell ⟨w.heap.size, 0, none⟩ v0).setCell ⟨w.heap.size, 1, none⟩ v1).setCell ⟨w.heap.size, 2, none⟩ v2).setCell ⟨w.heap.size, 3, none⟩ v3).drew.cell? ⟨B, 21, none⟩ = some (.int .i64 s.oc) ∧ ((((w6.setCell ⟨w.heap.size, 0, none⟩ v0).setCell ⟨w.heap.size, 1, none⟩ v1).setCell ⟨w.heap.size, 2, none⟩ v2).setCell ⟨w.heap.size, 3, none⟩ v3).drew.cell? ⟨B, 22, none⟩ = some (.int .i64 s.rs)) := fun v0 v1 v2 v3 => by
          have kk := (((((Keeps.refl (fun k => k = w.heap.size) w6).setCell (p := ⟨w.heap.size, 0, none⟩) (fun _ => rfl) v0).setCell (p := ⟨w.heap.size, 1, none⟩) (fun _ => rfl) v1).setCell (p := ⟨w.heap.size, 2, none⟩) (fun _ => rfl) v2).setCell (p := ⟨w.heap.size, 3, none⟩) (fun _ => rfl) v3).drew
          have hne : ¬ B = w.heap.size := by omega
          exact ⟨kk.cell g20 hne, kk.cell g21 hne, kk.cell g22 hne⟩
        go_region_held3 (fun w' => w'.cell? ⟨B, 20, none⟩ = some (.int .i64 (c : Int)) ∧ w'.cell? ⟨B, 21, none⟩ = some (.int .i64 s.oc) ∧ w'.cell? ⟨B, 22, none⟩ = some (.int .i64 s.rs)) (first | (go_keep; done) | exact HKZ.out _ _ _ _) (fail)
        all_goals
          go_wp2_with fail
          (try simp only [Exit.inBlock, Exit.then])
          refine bodyPost_ret (v := .tuple #[.agg #[.int .i64 s.oc, .int .i64 s.rs, .slice a6 os.length c6, .int .i64 (c : Int)], .int .i64 0]) (by rw [results_cell_tmp rfl]; go_simp) rfl ⟨_, rfl, ⟨a6, c6, rfl, HN6.out.keepN (S := fun k => k = w.heap.size) (by have kk := ((((Keeps.refl (fun k => k = w.heap.size) w6).setCell (p := ⟨w.heap.size, 0, none⟩) (fun _ => rfl) (.int .i64 s.oc)).setCell (p := ⟨w.heap.size, 1, none⟩) (fun _ => rfl) (.int .i64 s.rs)).setCell (p := ⟨w.heap.size, 2, none⟩) (fun _ => rfl) (.slice a6 os.length c6)).setCell (p := ⟨w.heap.size, 3, none⟩) (fun _ => rfl) (.int .i64 (c : Int)); first | exact kk | exact kk.drew) (fun b off e e2 => by have e2 : b = w.heap.size := e2; have := HBB.out b off e; omega), fun b off e => by have := HBB.out b off e; (refine ⟨by omega, ?_⟩); (try simp); omega⟩, (by have kk := ((((KX).setCell (p := ⟨w.heap.size, 0, none⟩) (fun h => absurd h (Nat.lt_irrefl _)) (.int .i64 s.oc)).setCell (p := ⟨w.heap.size, 1, none⟩) (fun h => absurd h (Nat.lt_irrefl _)) (.int .i64 s.rs)).setCell (p := ⟨w.heap.size, 2, none⟩) (fun h => absurd h (Nat.lt_irrefl _)) (.slice a6 os.length c6)).setCell (p := ⟨w.heap.size, 3, none⟩) (fun h => absurd h (Nat.lt_irrefl _)) (.int .i64 (c : Int)); first | exact kk | exact kk.drew)⟩
end Go.Proofs.YthchbcfecconbaaGreatDoor

