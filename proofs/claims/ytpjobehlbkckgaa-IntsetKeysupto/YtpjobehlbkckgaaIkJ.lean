import Derived.Test.YtpjobehlbkckgaaIkI
import Derived.Deep.QuietTactic
namespace Go.Proofs.Ytpjobehlbkckgaa
open Go.RowKit Go.Deep
attribute [local go_sem] Oper.semAt_some run_store_nf run_store_f
set_option maxHeartbeats 2000000 in
set_option maxRecDepth 1000000 in
theorem keys_law {w : World} {a : Option Addr} {n cap : Nat} {vs : List V3} (hV : VL w a vs) (hn : vs.length = n) (hb : n ≤ 1048576) (hz : a = none → cap = 0) (h : Int) (_ : I64 h) : Calls Try.prog 3 #[.slice a n cap, .int .i64 h] w fun e w' => e = .returned (.bool true) ∧ Below w.heap.size w w' := by
  obtain ⟨v1, W1, hr1, ho1, k1⟩ := copy_v cap hV hz (by omega)
  rw [hn] at hr1 ho1
  obtain ⟨v2, W2, hr2, ho2, k2⟩ := append_two ho1 k1.size (by omega) ⟨77, 0, false⟩ ⟨78, 0, false⟩
  have K2 : Keeps (fun _ => False) w W2 := k1.trans' k2 (fun _ _ e => e) (fun i hi e => by have := owns_base ho1 i e; omega)
  obtain ⟨g, cr, rfl, hg0, hg1, hcr, hRo⟩ := vl_of_owns ho2 (by omega)
  have hRv : VL W2 (some ⟨g, 0, none⟩) vs := fun i v hv => hRo i v (by rw [List.getElem?_append_left ((List.getElem?_eq_some_iff.1 hv).1)]; exact hv)
  have hq := rkeys_any (cap := cap) (hV.keep K2) hn (by omega) h
  have hlen : ((keysOf vs h).getD []).length ≤ n := by
    cases hx : keysOf vs h with
    | none => simp
    | some r => have := keysOf_len hx; simp; omega
  obtain ⟨r, hK⟩ : ∃ r, (keysOf vs h).getD [] = r := ⟨_, rfl⟩
  obtain ⟨s, hs⟩ : ∃ s, (keysOf vs h).isSome = s := ⟨_, rfl⟩
  obtain ⟨k, hr⟩ : ∃ k, r.length = k := ⟨_, rfl⟩
  rw [hK, hs, hr] at hq
  rw [hK, hr] at hlen
  have hss : (s != s) = false := by simp
  have hnn : ((k : Int) != (k : Int)) = false := by simp
  have s1 : (n : Int) ≤ (cr : Int) := by omega
  have s2 : n ≤ cr := by omega
  have s3 : (0 : Int) ≤ (n : Int) := by omega
  have e0 : #[Value.int IntKind.i64 77, .int .i64 0, .bool false, .int .i64 78, .int .i64 0, .bool false] = #[Value.int IntKind.i64 77, .int .i64 0, .bool false, .int .i64 78, .int .i64 0, .bool false] := rfl
  clear e0 ho1 ho2
  obtain ⟨m, hm⟩ : ∃ m, m = n + 2 := ⟨_, rfl⟩
  rw [← hm] at hr2 hcr
  have HM : Hid (m = n + 2) := hm
  clear hm
  go_enter Try.func3, Try.ntmps3
  refine wp_seq_k (fun KK hKK => ?_)
  have hKH : Hid _ := hKK
  clear hKK
  go_wp2_with fail
  refine hKH.out _ _ ?_
  clear hKH KK
  refine wp_seq_k (fun KK hKK => ?_)
  have hKH : Hid _ := hKK
  clear hKK
  go_wp2_with (at_builtin; refine wpList_append_run rfl _ _ _ rfl _ _ _ W1 rfl rfl hr1 ?_; clear hr1)
  refine hKH.out _ _ ?_
  clear hKH KK
  refine wp_seq_k (fun KK hKK => ?_)
  have hKH : Hid _ := hKK
  clear hKK
  go_wp2_with (at_builtin; refine wpList_append_run rfl _ _ _ rfl _ _ _ W2 rfl rfl hr2 ?_; clear hr2)
  refine hKH.out _ _ ?_
  clear hKH KK
  refine wp_seq_k (fun KK hKK => ?_)
  have hKH : Hid _ := hKK
  clear hKK
  go_wp2_with (go_at_call 4; refine hq.mono ?_; clear hq; rintro e w3 ⟨v3, rfl, ho3, k3⟩; obtain ⟨aw, cw, rfl, hW, hBw⟩ := num_of_owns ho3 hr; have hp := keys_any (cap := cr) (hRv.keep k3) hn (by omega) h; rw [hK, hs, hr] at hp; have hlw : Hid (∀ b off, aw = some ⟨b, off, none⟩ → b < w3.heap.size) := (fun b off e => owns_lt' ho3 b (hBw b off e).2.2); clear hBw ho3 hRv)
  refine hKH.out _ _ ?_
  clear hKH KK
  refine wp_seq_k (fun KK hKK => ?_)
  have hKH : Hid _ := hKK
  clear hKK
  go_wp2_with (go_at_call 5; refine hp.mono ?_; clear hp; rintro e w4 ⟨v4, rfl, ho4, k4⟩; obtain ⟨al, cl, gl, rfl, hgl4, CL4, hglk⟩ := cl_of_owns ho4 hr; clear ho4; have HG : Hid (0 < k → al = some ⟨gl, 0, none⟩ ∧ gl < w4.heap.size) := hglk; clear hglk)
  refine hKH.out _ _ ?_
  clear hKH KK
  refine wp_seq_k (fun KK hKK => ?_)
  have hKH : Hid _ := hKK
  clear hKK
  go_wp2_with fail
  refine hKH.out _ _ ?_
  clear hKH KK
  have K4 := (K2.trans k3).trans k4
  have z3 := k3.size
  refine keys_t1 (gl := gl) (hV.keep K4) (hRo.keep (k3.trans k4)) hn hb HM.out hcr (hW.keep k4 (fun _ _ _ e => e)) hr (by omega) hK CL4 (fun h0 => (HG.out h0).1) (by omega) (fun b off e => Nat.lt_of_lt_of_le (hlw.out b off e) hgl4) (fun h0 => (HG.out h0).2) (fun w' kw => ⟨rfl, ?_⟩)
  exact (K4.trans' kw (fun _ _ e => e) (fun i hi e => by have e : i = gl := e; have := K2.size; omega)).below (Nat.le_refl _) (fun _ _ e => e)
end Go.Proofs.Ytpjobehlbkckgaa
