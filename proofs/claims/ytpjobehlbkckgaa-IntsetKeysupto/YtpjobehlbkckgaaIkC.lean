import Derived.Test.YtpjobehlbkckgaaIkB
namespace Go.Proofs.Ytpjobehlbkckgaa
open Go.RowKit Go.Deep
attribute [local go_sem] Oper.semAt_some run_store_nf run_store_f
def slen : Value → Nat
  | .slice _ k _ => k
  | _ => 0
theorem slen_owns {W : World} {base e size n : Nat} {v : Value} {xs : List Value} (h : W.ownsRow base e size v n xs) : slen v = n := by
  rcases h.2 with ⟨rfl, h0⟩ | ⟨g, cap, cur, rfl, hb, hgg, rest⟩
  · have hz : n = 0 := by first | exact h0.1 | omega
    subst hz
    rfl
  · rfl
set_option maxHeartbeats 4000000 in
set_option maxRecDepth 100000 in
theorem keys_any {w : World} {a : Option Addr} {n cap : Nat} {vs : List V3} (hV : VL w a vs) (hn : vs.length = n) (hb : n ≤ 1048578) (h : Int) : Calls Try.prog 5 #[.slice a n cap, .int .i64 h] w fun e w' => ∃ v, e = .returned (.tuple #[v, .bool (keysOf vs h).isSome]) ∧ w'.ownsRow w.heap.size 2 1 v ((keysOf vs h).getD []).length (nvs ((keysOf vs h).getD [])) ∧ Keeps (fun _ => False) w w' := by
  go_enter Try.func5, Try.ntmps5
  by_cases hh : 0 ≤ h ∧ h < (n : Int)
  · obtain ⟨m, rfl⟩ : ∃ m : Nat, h = (m : Int) := ⟨h.toNat, by omega⟩
    have hd : decide (0 ≤ (m : Int) ∧ (m : Int) < (n : Int)) = true := decide_eq_true hh
    have d1 : decide ((m : Int) < 0) = false := decide_eq_false (by omega)
    have d2 : decide ((n : Int) ≤ (m : Int)) = false := decide_eq_false (by omega)
    have d5 : decide (n ≤ m) = false := decide_eq_false (by omega)
    have d3 : (0 : Int) ≤ (m : Int) := by omega
    have d4 : (m : Int) < (n : Int) := by omega
    obtain ⟨v, hv⟩ : ∃ v, vs[m]? = some v := ⟨_, List.getElem?_eq_getElem (by omega)⟩
    obtain ⟨b, off, rfl, c0, c1, c2⟩ := hV _ _ hv
    have hlb := World.block_lt_of_cell? _ _ c0
    simp only at hlb
    have hK : keysOf vs (m : Int) = kgo vs (m : Int) (n + 1) v.next [] := by
      unfold keysOf
      rw [if_pos (by omega), hn, Int.toNat_natCast, List.getD_eq_getElem?_getD, hv]; rfl
    obtain ⟨p0, hp0⟩ : ∃ p0, v.next = p0 := ⟨_, rfl⟩
    rw [hp0] at c1 hK
    obtain ⟨R, hR⟩ : ∃ R, keysOf vs (m : Int) = R := ⟨_, rfl⟩
    rw [hR] at hK ⊢
    have HK : Hid (R = _) := hK
    clear hK hp0 c0 c2 hv hR
    go_wp2_with (first | (go_at_call 6; refine (isPlace_any _).mono ?_; rintro e wn ⟨rfl, en⟩; subst wn) | (go_at_call 7; refine hri.mono ?_; clear hri; rintro e wn ⟨rfl, en⟩; subst wn))
    go_loopw [6, 7] (fun kv pv Wr => ∃ (k : Nat) (l : List Int) (p : Int), pv = .int .i64 p ∧ l.length = k ∧ k + cnt vs l ≤ n ∧ kgo vs (m : Int) (n + 1 - k) p l = R ∧ Wr.ownsRow w.heap.size 2 1 kv k (nvs l) ∧ Keeps (fun _ => False) w Wr) (fun kv _ _ => n + 1 - slen kv)
    case atStart => exact ⟨0, [], p0, rfl, rfl, by simp [cnt, hn], HK.out.symm, World.ownsRow_nil _ _ _ _, Keeps.refl _ w⟩
    case round =>
      obtain ⟨k, l, p, rfl, hl, hc, hk, ho, kr⟩ := hrel
      clear HK c1
      have hkn : k ≤ n := by omega
      have hfu : n + 1 - k = (n - k) + 1 := by omega
      rw [hfu] at hk
      unfold kgo at hk
      by_cases hp1 : p = -1
      · subst hp1
        rw [if_pos rfl] at hk
        subst hk
        go_wp2_with fail
        go_ret2
        exact ⟨_, rfl, by rw [Option.getD_some, hl]; exact ho, kr⟩
      have y1 : (p == -1) = false := beq_eq_false_iff_ne.2 hp1
      rw [if_neg hp1] at hk
      obtain ⟨ak, ck, rfl, hN, hab⟩ := num_of_owns ho hl
      have hV1 := hV.keep kr
      by_cases hp : p = (m : Int) ∨ p < 0 ∨ (n : Int) ≤ p
      · rw [hn, if_pos hp] at hk
        subst hk
        by_cases z1 : p = (m : Int)
        · have y3 : (p == (m : Int)) = true := beq_iff_eq.2 z1
          go_wp2_with (first | (go_at_call 6; refine (isPlace_any _).mono ?_; rintro e wn ⟨rfl, en⟩; subst wn) | (go_at_call 7; refine hri.mono ?_; clear hri; rintro e wn ⟨rfl, en⟩; subst wn))
          go_ret2
          exact ⟨_, rfl, World.ownsRow_nil _ _ _ _, kr⟩
        have y3 : (p == (m : Int)) = false := beq_eq_false_iff_ne.2 z1
        have y4 : decide (0 ≤ p ∧ p < (n : Int)) = false := decide_eq_false (by omega)
        go_wp2_with (first | (go_at_call 6; refine (isPlace_any _).mono ?_; rintro e wn ⟨rfl, en⟩; subst wn) | (go_at_call 7; refine hri.mono ?_; clear hri; rintro e wn ⟨rfl, en⟩; subst wn))
        go_ret2
        exact ⟨_, rfl, World.ownsRow_nil _ _ _ _, kr⟩
      rw [hn, if_neg hp] at hk
      obtain ⟨q, rfl⟩ : ∃ q : Nat, p = (q : Int) := ⟨p.toNat, by omega⟩
      have y2 : ((q : Int) == (m : Int)) = false := beq_eq_false_iff_ne.2 (by omega)
      have y3 : decide (0 ≤ (q : Int) ∧ (q : Int) < (n : Int)) = true := decide_eq_true (by omega)
      have y4 : (0 : Int) ≤ (q : Int) := by omega
      have y5 : (q : Int) < (n : Int) := by omega
      have y6 : decide ((q : Int) < 0) = false := decide_eq_false (by omega)
      have y7 : decide ((n : Int) ≤ (q : Int)) = false := decide_eq_false (by omega)
      have y8 : decide (n ≤ q) = false := decide_eq_false (by omega)
      obtain ⟨v, hv⟩ : ∃ v, vs[q]? = some v := ⟨_, List.getElem?_eq_getElem (by omega)⟩
      have hm : v ∈ vs := List.mem_of_getElem? hv
      obtain ⟨b, off, ea, c0, c1, c2⟩ := hV1 _ _ hv
      cases ea
      rw [Int.toNat_natCast, List.getD_eq_getElem?_getD, hv, Option.getD_some] at hk
      clear hv hp hp1
      obtain ⟨x, nx, dd⟩ := v
      simp only at c0 c1 c2 hk
      cases dd with
      | true =>
        rw [if_pos (.inl rfl)] at hk
        subst hk
        go_wp2_with (first | (go_at_call 6; refine (isPlace_any _).mono ?_; rintro e wn ⟨rfl, en⟩; subst wn) | (go_at_call 7; refine hri.mono ?_; clear hri; rintro e wn ⟨rfl, en⟩; subst wn))
        go_ret2
        exact ⟨_, rfl, World.ownsRow_nil _ _ _ _, kr⟩
      | false =>
        have hst := cnt_step (l := l) hm
        simp only at hst
        have hri := rises_any (cap := ck) hl (by omega) hN x
        obtain ⟨rr, hrr⟩ : ∃ rr, rise l x = rr := ⟨_, rfl⟩
        rw [hrr] at hri hk hst
        cases rr with
        | false =>
          rw [if_pos (.inr rfl)] at hk
          subst hk
          clear hst hm hN hab hV1
          go_wp2_with (first | (go_at_call 6; refine (isPlace_any _).mono ?_; rintro e wn ⟨rfl, en⟩; subst wn) | (go_at_call 7; refine hri.mono ?_; clear hri; rintro e wn ⟨rfl, en⟩; subst wn))
          go_ret2
          exact ⟨_, rfl, World.ownsRow_nil _ _ _ _, kr⟩
        | true =>
          rw [if_neg (by simp)] at hk
          have hst := hst rfl
          obtain ⟨v', w', hr, ho', kk⟩ := append_n ho kr.size (by omega) x
          have K' : Keeps (fun _ => False) w w' := kr.trans' kk (fun _ _ e => e) (fun i hi e => by have := owns_base ho i e; omega)
          have f1 := kk.cell c1 (fun e => by have e : (Value.slice ak k ck).ownBlock = some b := e; have h1 := owns_base ho _ e; have h2 := hlb; omega)
          have hsl := slen_owns ho'
          clear hN hab hV1 hm
          go_wp2_with (first | (go_at_call 6; refine (isPlace_any _).mono ?_; rintro e wn ⟨rfl, en⟩; subst wn) | (go_at_call 7; refine hri.mono ?_; clear hri; rintro e wn ⟨rfl, en⟩; subst wn) | (at_builtin; refine wpList_append_run rfl _ _ _ rfl _ _ _ w' rfl rfl hr ?_; clear hr))
          go_roundw
          case rel => exact ⟨k + 1, l ++ [x], nx, rfl, by simp [hl], by omega, by rw [show n + 1 - (k + 1) = n - k by omega]; exact hk, ho', K'⟩
          case measure => rw [hsl]; show n + 1 - (k + 1) < n + 1 - k; omega
  · have hd : decide (0 ≤ h ∧ h < (n : Int)) = false := decide_eq_false hh
    have hK : keysOf vs h = none := by unfold keysOf; rw [if_neg (by omega)]
    rw [hK]
    go_wp2_with (first | (go_at_call 6; refine (isPlace_any _).mono ?_; rintro e wn ⟨rfl, en⟩; subst wn) | (go_at_call 7; refine hri.mono ?_; clear hri; rintro e wn ⟨rfl, en⟩; subst wn))
    go_ret2
    exact ⟨_, rfl, World.ownsRow_nil _ _ _ _, Keeps.refl _ w⟩
end Go.Proofs.Ytpjobehlbkckgaa
