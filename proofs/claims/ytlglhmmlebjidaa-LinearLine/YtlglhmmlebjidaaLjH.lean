import Derived.Test.YtlglhmmlebjidaaLjG
namespace Go.Proofs.Ytlglhmmlebjidaa
open Go.RowKit
theorem getD_app {L M : List Nat} {k : Nat} (h : k < L.length) : (L ++ M).getD k 0 = L.getD k 0 := by
  rw [List.getD_eq_getElem?_getD, List.getD_eq_getElem?_getD, List.getElem?_append_left h]
theorem getD_last (L : List Nat) (p : Nat) : (L ++ [p]).getD L.length 0 = p := by
  rw [List.getD_eq_getElem?_getD, List.getElem?_append_right (Nat.le_refl _), Nat.sub_self]
  rfl
theorem setK_app (l : List Cl) (L M : List Nat) : ∀ k, k ≤ L.length → setK l (L ++ M) k = setK l L k
  | 0, _ => rfl
  | k + 1, h => by
    show (doesL (setK l (L ++ M) k) (l.getD ((L ++ M).getD k 0) cl0)).2.2 = (doesL (setK l L k) (l.getD (L.getD k 0) cl0)).2.2
    rw [setK_app l L M k (by omega), getD_app (by omega)]
theorem setK_last (l : List Cl) (L : List Nat) (p : Nat) : setK l (L ++ [p]) (L ++ [p]).length = nxS l (setK l L L.length) p := by
  rw [List.length_append]
  show (doesL (setK l (L ++ [p]) L.length) (l.getD ((L ++ [p]).getD L.length 0) cl0)).2.2 = _
  rw [setK_app l L [p] _ (Nat.le_refl _), getD_last]
  rfl
theorem lnP_app {l : List Cl} {L : List Nat} {p : Nat} (h : LnP l L) : LnP l (L ++ [p]) ↔ okN l L (setK l L L.length) p = true := by
  constructor
  · intro hP
    have := hP L.length (by simp)
    rw [setK_app l L [p] _ (Nat.le_refl _), getD_last, List.take_left' rfl] at this
    exact this
  · intro ho k hk
    rw [List.length_append] at hk
    have hk : k < L.length + 1 := hk
    by_cases e : k = L.length
    · rw [e, setK_app l L [p] _ (Nat.le_refl _), getD_last, List.take_left' rfl]
      exact ho
    · rw [setK_app l L [p] k (by omega), getD_app (by omega), List.take_append_of_le_length (by omega)]
      exact h k (by omega)
set_option maxRecDepth 100000 in
theorem copy_places {W : World} {a : Option Addr} {cap : Nat} {L : List Nat} (hl : PM W a L) (hz : a = none → cap = 0) (hn : L.length ≤ 1000) :
    ∃ a' c' W', (Builtin.append_ #[27, 27] 27 #[.slice (some ⟨W.heap.size, 0, none⟩) 0 0, .slice a L.length cap]).run Try.prog (W.alloc (.cells #[] 3)) = .ok (.slice a' L.length c') W' ∧ W'.ownsRow W.heap.size 3 1 (.slice a' L.length c') L.length (pvs L) ∧ Keeps (fun _ => False) W W' := by
  obtain ⟨i0, hi0, hzz⟩ := Option.map_eq_some_iff.1 iI
  simp only [Prod.mk.injEq] at hzz
  obtain ⟨hz0, hz1, hz2⟩ := hzz
  have k0 : Keeps (fun _ => False) W (W.alloc (.cells #[] 3)) := (Keeps.refl _ W).alloc _
  have o0 : (W.alloc (.cells #[] 3)).ownsRow W.heap.size 3 1 (.slice (some ⟨W.heap.size, 0, none⟩) 0 0) 0 [] := ⟨by simp, .inr ⟨W.heap.size, 0, #[], rfl, Nat.le_refl _, by rw [show (W.alloc (.cells #[] 3)).heap = W.heap.push (.cells #[] 3) from rfl]; simp, Nat.le_refl _, by unfold maxLen; omega, by simp, by simp⟩⟩
  cases a with
  | none =>
    have hl0 : L = [] := by
      cases L with
      | nil => rfl
      | cons c l =>
        obtain ⟨b, off, e, _⟩ := hl 0 (by simp)
        cases e
    subst hl0
    rw [hz rfl]
    exact ⟨_, _, _, run_append_owned_none (P := Try.prog) (w := W.alloc (.cells #[] 3)) W.heap.size 27 27 3 i0 1 uI hi0 _ 0 [] o0, o0, k0⟩
  | some p =>
    obtain ⟨v', w', hr, ho, hgr, _, _⟩ := run_append_own_at (P := Try.prog) (w := W.alloc (.cells #[] 3)) W.heap.size 27 27 3 i0 _ 1 8 uI hi0 hz0 hz1 hz2 rfl (by decide) _ 0 [] o0 p L.length cap (pvs L) (by rw [pvs_len]; omega) (fun j y hy => by
      have hj : j < L.length := by rw [← pvs_len]; exact (List.getElem?_eq_some_iff.1 hy).1
      obtain ⟨b, off, e, hc⟩ := hl j hj
      injection e with e
      subst e
      rw [pvs_get hj] at hy
      injection hy with hy
      rw [add_atT, ← hy]
      exact k0.cell hc (fun e => e)) (fun u hu => by
      unfold pvs at hu
      rw [List.mem_map] at hu
      obtain ⟨x, -, rfl⟩ := hu
      rfl) (by unfold maxLen; omega) (by omega) k0.size
    rw [Nat.zero_add, List.nil_append] at ho
    obtain ⟨a', c', rfl, -⟩ := own_slice ho
    exact ⟨a', c', w', hr, ho, k0.trans' ((Keeps.refl _ _).grown hgr (S := fun i => i = W.heap.size) (fun i _ e => by simp [Value.ownBlock] at e; exact e.symm)) (fun _ _ e => e) (fun i hi e => by have e : i = W.heap.size := e; omega)⟩
/-- What search answers. -/
def SrP (l : List Cl) (R : Option (List Nat)) (la : Option Addr) (w : World) (e : Ending) (w' : World) : Prop :=
  ((∃ r sa sc, R = some r ∧ e = .returned (.tuple #[.slice sa r.length sc, .bool true]) ∧ PM w' sa r ∧ (∀ b off, sa = some ⟨b, off, none⟩ → la = some ⟨b, off, none⟩ ∨ w.heap.size ≤ b)) ∨ (R = none ∧ e = .returned (.tuple #[.slice none 0 0, .bool false]))) ∧ Keeps (fun _ => False) w w' ∧ l.length ≤ 8
theorem srP_no {la : Option Addr} {w w' : World} {e : Ending} (h : (∃ r sa sc, (none : Option (List Nat)) = some r ∧ e = .returned (.tuple #[.slice sa r.length sc, .bool true]) ∧ PM w' sa r ∧ (∀ b off, sa = some ⟨b, off, none⟩ → la = some ⟨b, off, none⟩ ∨ w.heap.size ≤ b)) ∨ ((none : Option (List Nat)) = none ∧ e = .returned (.tuple #[.slice none 0 0, .bool false]))) : e = .returned (.tuple #[.slice none 0 0, .bool false]) := by
  rcases h with ⟨r, sa, sc, h, -⟩ | ⟨-, h⟩
  · cases h
  · exact h
theorem srP_yes {la : Option Addr} {w w' : World} {e : Ending} {r : List Nat} (h : (∃ r' sa sc, some r = some r' ∧ e = .returned (.tuple #[.slice sa r'.length sc, .bool true]) ∧ PM w' sa r' ∧ (∀ b off, sa = some ⟨b, off, none⟩ → la = some ⟨b, off, none⟩ ∨ w.heap.size ≤ b)) ∨ (some r = none ∧ e = .returned (.tuple #[.slice none 0 0, .bool false]))) : ∃ sa sc, e = .returned (.tuple #[.slice sa r.length sc, .bool true]) ∧ PM w' sa r ∧ (∀ b off, sa = some ⟨b, off, none⟩ → la = some ⟨b, off, none⟩ ∨ w.heap.size ≤ b) := by
  rcases h with ⟨r', sa, sc, h, h1, h2, h3⟩ | ⟨h, -⟩
  · injection h with h
    subst h
    exact ⟨sa, sc, h1, h2, h3⟩
  · cases h
def RSd (l : List Cl) (a : Option Addr) (cap d : Nat) : Prop := ∀ (w : World) (L : List Nat) (la : Option Addr) (lc : Nat), CSL w a l → PM w la L → L.Nodup → (∀ x ∈ L, x < l.length) → LnP l L → l.length ≤ d + L.length → (la = none → lc = 0) → Calls Try.prog 33 #[.slice a l.length cap, .slice la L.length lc] w (SrP l (srch l d L (setK l L L.length)) la w)
set_option maxHeartbeats 1000000 in
set_option maxRecDepth 100000 in
theorem rs_any {l : List Cl} {a : Option Addr} {cap d : Nat} (hn : l.length ≤ 8) (ih : ∀ d', d = d' + 1 → RSd l a cap d') : RSd l a cap d := by
  intro w L la lc hl hp hnd hbd hP hd hz
  have hlen := nodup_le _ _ hnd hbd
  have hli := rline_any (cap := cap) (lc := lc) hl hn hp hbd (by omega) true
  have HL : Hid (CSL w a l) := hl
  have HPM : Hid (PM w la L) := hp
  have HND : Hid (L.Nodup ∧ (∀ x ∈ L, x < l.length) ∧ LnP l L) := ⟨hnd, hbd, hP⟩
  have HIH : Hid (∀ d', d = d' + 1 → RSd l a cap d') := ih
  have HZ : Hid (la = none → lc = 0) := hz
  have HN8 : Hid (l.length ≤ 8) := hn
  clear hl hp hnd hbd hP ih hz
  obtain ⟨S, hS⟩ : ∃ S, S = setK l L L.length := ⟨_, rfl⟩
  have HS : Hid (S = setK l L L.length) := hS
  rw [← hS]
  clear hS
  obtain ⟨R, hR⟩ : ∃ R, R = srch l d L S := ⟨_, rfl⟩
  have HR : Hid (R = srch l d L S) := hR
  rw [← hR]
  clear hR
  generalize hN : l.length = N at *
  have HN : Hid (l.length = N) := hN
  clear hN
  generalize hM : L.length = M at *
  have HM : Hid (L.length = M) := hM
  clear hM
  have HS2 : Hid (S = setK l L L.length) := by show _ = _; rw [HM.out]; exact HS.out
  go_enter Try.func33, Try.ntmps33
  refine wp_seq_k (fun KK hKK => ?_)
  have hKH : Hid _ := hKK
  clear hKK
  go_wp2_with fail
  refine hKH.out _ _ ?_
  clear hKH KK
  refine wp_seq_k (fun KK hKK => ?_)
  have hKH : Hid _ := hKK
  clear hKK
  go_wp2_with (go_at_call 49; refine hli.mono ?_; clear hli; rintro e w1 ⟨bl, rfl, hB, k1⟩; have HB : Hid (bl = true ↔ LnP l L ∧ (true = true → compL l L = true)) := hB; clear hB)
  refine hKH.out _ _ ?_
  clear hKH KK
  cases bl with
  | true =>
    have HRY : Hid (R = some L) := by show _ = _; rw [HR.out]; exact srch_yes d ((HB.out.1 rfl).2 trivial)
    go_wp2_with fail
    go_ret2
    refine ⟨.inl ⟨L, la, lc, HRY.out, ?_, HPM.out.keep k1, fun b off e => .inl e⟩, k1, by rw [HN.out]; exact HN8.out⟩
    rw [HM.out]
    rfl
  | false =>
    have hcm : compL l L = false := by
      cases h : compL l L with
      | false => rfl
      | true => have := HB.out.2 ⟨HND.out.2.2, fun _ => h⟩; cases this
    have HRH : Hid (∀ k r, k < N → (∀ p, p < k → gN l d L S p = none) → gN l d L S k = some r → R = some r) := fun k r hk h1 h2 => by rw [HR.out]; exact srch_hit hcm (by rw [HN.out]; exact hk) h1 h2
    have HRN : Hid ((∀ p, p < N → gN l d L S p = none) → R = none) := fun h => by rw [HR.out]; exact srch_no hcm (fun p hp => h p (by rw [HN.out] at hp; exact hp))
    clear HR hcm HB
    go_wp2_with fail
    go_loopg [7] N (fun g iv Wr => ∃ (k : Nat), k + g = N ∧ iv = .int .i64 (k : Int) ∧ (∀ p, p < k → gN l d L S p = none) ∧ Keeps (fun _ => False) w Wr)
    case atStart => exact ⟨0, by omega, rfl, fun p hp => absurd hp (by omega), k1⟩
    case round =>
      obtain ⟨k, hkg, rfl, hgn, kr⟩ := hrel
      have HGN : Hid (∀ p, p < k → gN l d L S p = none) := hgn
      clear hgn
      cases gk with
      | zero =>
        have j1 : decide ((k : Int) < (N : Int)) = false := decide_eq_false (by omega)
        have j2 : decide (k < N) = false := decide_eq_false (by omega)
        have HRX : Hid (R = none) := HRN.out (fun p hp => HGN.out p (by omega))
        go_wp2_with fail
        go_ret2
        exact ⟨.inr ⟨HRX.out, rfl⟩, kr, by rw [HN.out]; exact HN8.out⟩
      | succ g =>
        have j1 : decide ((k : Int) < (N : Int)) = true := decide_eq_true (by omega)
        have j2 : decide (k < N) = true := decide_eq_true (by omega)
        have j3 : (k : Int) < (N : Int) := by omega
        have j4 : (0 : Int) ≤ (k : Int) := by omega
        have hwi : IntKind.i64.wrap ((k : Int) + 1) = (k : Int) + 1 := by rw [IntKind.wrap_i64]; omega
        obtain ⟨a2, c2, W2, hr2, hO2, k2⟩ := copy_places (cap := lc) (HPM.out.keep kr) HZ.out (by rw [HM.out]; omega)
        rw [HM.out] at hr2 hO2
        obtain ⟨a3, c3, W3, hr3, hO3, k3, hob3⟩ := append_pl hO2 k2.size (by omega) k
        have K3 : Keeps (fun _ => False) wr W3 := k2.trans' k3 (fun _ _ e => e) (fun i hi e => by have := owns_baseT hO2 i e; omega)
        have hl1 : (L ++ [k]).length = M + 1 := by rw [List.length_append, HM.out]; rfl
        have hbd3 : ∀ x ∈ L ++ [k], x < l.length := fun x hx => by
          rcases List.mem_append.1 hx with hx | hx
          · have := HND.out.2.1 x hx; rw [HN.out]; exact this
          · simp at hx; rw [HN.out]; omega
        have hpm3 : PM W3 a3 (L ++ [k]) := PM.of hO3
        have HB3 : Hid (∀ b off, a3 = some ⟨b, off, none⟩ → wr.heap.size ≤ b) := fun b off e => owns_baseT hO3 b (by rw [e]; rfl)
        have HZ3 : Hid (a3 = none → c3 = 0) := fun e => by
          rcases hO3.2 with ⟨q, _⟩ | ⟨g', cap', cur, q, _⟩
          · cases q
          · injection q with q _ _
            rw [e] at q
            cases q
        have hls3 : CSL W3 a l := HL.out.keep (kr.trans K3)
        have hli := rline_any (cap := cap) (lc := c3) hls3 (by rw [HN.out]; omega) hpm3 hbd3 (by omega) false
        rw [HN.out, hl1] at hli
        have HREC : Hid (∀ W4, Keeps (fun _ => False) W3 W4 → okN l L S k = true → ∃ d', gN l d L S k = srch l d' (L ++ [k]) (setK l (L ++ [k]) (L ++ [k]).length) ∧ Calls Try.prog 33 #[.slice a N cap, .slice a3 (M + 1) c3] W4 (SrP l (srch l d' (L ++ [k]) (setK l (L ++ [k]) (L ++ [k]).length)) a3 W4)) := fun W4 k4 hok => by
          have hni := (okN_split hok).1
          have hnd3 : (L ++ [k]).Nodup := by
            rw [List.nodup_append]
            exact ⟨HND.out.1, by simp, fun x hx y hy => by simp at hy; subst hy; exact fun e => hni (e ▸ hx)⟩
          have hM1 := nodup_le _ _ hnd3 hbd3
          rw [hl1, HN.out] at hM1
          obtain ⟨d', hd'⟩ : ∃ d', d = d' + 1 := ⟨d - 1, by omega⟩
          refine ⟨d', ?_, ?_⟩
          · rw [hd', gN_succ, if_pos hok, setK_last, ← HS2.out]
          · have := HIH.out d' hd' W4 (L ++ [k]) a3 c3 (hls3.keep k4) (hpm3.keep k4) hnd3 hbd3 ((lnP_app HND.out.2.2).2 (by rw [← HS2.out]; exact hok)) (by rw [hl1, HN.out]; omega) HZ3.out
            rw [hl1, HN.out] at this
            rw [hl1]
            exact this
        have HLN : Hid (LnP l (L ++ [k]) ↔ okN l L S k = true) := by show _ ↔ _; rw [HS2.out]; exact lnP_app HND.out.2.2
        have HNXT : Hid (gN l d L S k = none → ∀ p, p < k + 1 → gN l d L S p = none) := fun h p hp => by
          by_cases e : p = k
          · rw [e]; exact h
          · exact HGN.out p (by omega)
        have Kw3 := kr.trans K3
        clear hO2 hO3 k2 k3 hob3 hl1 hbd3 hpm3 hls3 K3
        refine wp_seq_k (fun KK hKK => ?_)
        have hKH : Hid _ := hKK
        clear hKK
        go_wp2_with fail
        refine hKH.out _ _ ?_
        clear hKH KK
        cases hok : okN l L S k with
        | false =>
          have HG : Hid _ := HNXT.out (gN_no hok)
          have HNL : Hid (¬ LnP l (L ++ [k])) := fun h => by have := HLN.out.1 h; rw [hok] at this; cases this
          clear HREC HNXT HLN HRH
          go_wp2_with (first | (at_builtin; refine wpList_append_tL rfl _ _ _ rfl _ _ _ W2 rfl rfl hr2 ?_; clear hr2) | (at_builtin; refine wpList_append_tL rfl _ _ _ rfl _ _ _ W3 rfl rfl hr3 ?_; clear hr3) | (go_at_call 49; refine hli.mono ?_; clear hli; rintro e w4 ⟨bl, rfl, hB, k4⟩; obtain rfl : bl = false := (by cases bl with | false => rfl | true => exact absurd (hB.1 rfl).1 HNL.out); clear hB))
          go_roundg g
          case measure => omega
          case rel => exact ⟨k + 1, by omega, by go_num, HG.out, Kw3.trans k4⟩
        | true =>
          have HYL : Hid (LnP l (L ++ [k])) := HLN.out.2 hok
          have HRC : Hid _ := fun W4 k4 => HREC.out W4 k4 hok
          clear HREC HLN
          have hmid : ∀ W4, Keeps (fun _ => False) W3 W4 → ∃ R2, gN l d L S k = R2 ∧ Calls Try.prog 33 #[.slice a N cap, .slice a3 (M + 1) c3] W4 (SrP l R2 a3 W4) := fun W4 k4 => by
            obtain ⟨d', h1, h2⟩ := HRC.out W4 k4
            exact ⟨_, h1, h2⟩
          have HMID : Hid _ := hmid
          clear hmid HRC
          cases hR2 : gN l d L S k with
          | none =>
            have HG : Hid _ := HNXT.out hR2
            clear HNXT HRH
            go_wp2_with (first | (at_builtin; refine wpList_append_tL rfl _ _ _ rfl _ _ _ W2 rfl rfl hr2 ?_; clear hr2) | (at_builtin; refine wpList_append_tL rfl _ _ _ rfl _ _ _ W3 rfl rfl hr3 ?_; clear hr3) | (go_at_call 49; refine hli.mono ?_; clear hli; rintro e w4 ⟨bl, rfl, hB, k4⟩; obtain rfl : bl = true := hB.2 ⟨HYL.out, fun e => (by cases e)⟩; clear hB; obtain ⟨R2, e2, hsr⟩ := HMID.out w4 k4; rw [hR2] at e2; subst e2; clear HMID) | (go_at_call 33; refine hsr.mono ?_; clear hsr; rintro e w5 ⟨hQ, k5, -⟩; obtain rfl := srP_no hQ; clear hQ))
            go_roundg g
            case measure => omega
            case rel => exact ⟨k + 1, by omega, by go_num, HG.out, (Kw3.trans k4).trans k5⟩
          | some r =>
            have HRS : Hid (R = some r) := HRH.out k r (by omega) HGN.out hR2
            clear HNXT HRH
            go_wp2_with (first | (at_builtin; refine wpList_append_tL rfl _ _ _ rfl _ _ _ W2 rfl rfl hr2 ?_; clear hr2) | (at_builtin; refine wpList_append_tL rfl _ _ _ rfl _ _ _ W3 rfl rfl hr3 ?_; clear hr3) | (go_at_call 49; refine hli.mono ?_; clear hli; rintro e w4 ⟨bl, rfl, hB, k4⟩; obtain rfl : bl = true := hB.2 ⟨HYL.out, fun e => (by cases e)⟩; clear hB; obtain ⟨R2, e2, hsr⟩ := HMID.out w4 k4; rw [hR2] at e2; subst e2; clear HMID) | (go_at_call 33; refine hsr.mono ?_; clear hsr; rintro e w5 ⟨hQ, k5, -⟩; obtain ⟨sa, sc, rfl, hpm5, hb5⟩ := srP_yes hQ; clear hQ))
            go_ret2
            exact ⟨.inl ⟨r, sa, sc, HRS.out, rfl, hpm5, fun b off e => .inr ((hb5 b off e).elim (fun h => Nat.le_trans kr.size (HB3.out b off h)) (fun h => Nat.le_trans (Kw3.trans k4).size h))⟩, (Kw3.trans k4).trans k5, by rw [HN.out]; exact HN8.out⟩
end Go.Proofs.Ytlglhmmlebjidaa
