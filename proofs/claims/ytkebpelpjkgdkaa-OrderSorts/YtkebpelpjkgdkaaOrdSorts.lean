import Derived.Test.YtkebpelpjkgdkaaSortB
import Derived.Test.YtkebpelpjkgdkaaRefSort2
namespace Go.Proofs.Ytkebpelpjkgdkaa
open Go.RowKit Go.Maps

theorem owns_cap' {w : World} {base : Nat} {e : TypeId} {size : Nat} {a : Option Addr} {n c : Nat} {xs : List Value} (h : w.ownsRow base e size (.slice a n c) n xs) : n ≤ c := by
  rcases h.2 with ⟨h', h0⟩ | ⟨g', cap', cur, h', _, _, hnc, _⟩
  · omega
  · simp only [Value.slice.injEq] at h'; omega
/-- A list that is one's own, not nil. -/
theorem append_own {w : World} {base g cap : Nat} {xs : List It} (hown : w.ownsRow base 41 2 (.slice (some ⟨g, 0, none⟩) xs.length cap) xs.length (flat xs)) {a : Option Addr} {ys : List It} (hi : IL w a ys) (c : Nat)
    (hroom : (xs.length + ys.length) * 16 ≤ 140737488355328) (hbase : base ≤ w.heap.size) :
    ∃ g' cap' w', (Builtin.append_ #[39, 39] 39 #[.slice (some ⟨g, 0, none⟩) xs.length cap, .slice a ys.length c]).run Try.prog w = .ok (.slice (some ⟨g', 0, none⟩) (xs ++ ys).length cap') w' ∧ w'.ownsRow base 41 2 (.slice (some ⟨g', 0, none⟩) (xs ++ ys).length cap') (xs ++ ys).length (flat (xs ++ ys)) ∧ Keeps (fun k => k = g) w w' ∧ (g' = g ∨ g' = w.heap.size) := by
  obtain ⟨v', w', hr, ho, hk, hloc⟩ := append_items hown hi hi.nil c hroom hbase 39
  rcases ho.2 with ⟨rfl, h0⟩ | ⟨g', cap', cur, rfl, hb, hg, rest⟩
  · exfalso
    rcases hloc with h | h <;> cases h
  · refine ⟨g', cap', w', hr, ho, hk, ?_⟩
    rcases hloc with h | h
    · left; cases h; rfl
    · right; cases h; rfl

theorem own_lit (w : World) (cs : Array Value) (xs : List It) (hc : cs.toList = flat xs) (hl : xs.length ≤ 100) : (w.alloc (.cells cs 41)).ownsRow w.heap.size 41 2 (.slice (some ⟨w.heap.size, 0, none⟩) xs.length xs.length) xs.length (flat xs) := by
  have := World.ownsRow_lit (base := w.heap.size) (e := 41) (size := 2) w cs xs.length (Nat.le_refl _) (by unfold maxLen; omega) (by rw [← Array.length_toList, hc, length_flat])
  rw [hc] at this; exact this
theorem il_lit (w : World) (cs : Array Value) (xs : List It) (hc : cs.toList = flat xs) (hl : xs.length ≤ 100) : IL (w.alloc (.cells cs 41)) (some ⟨w.heap.size, 0, none⟩) xs := by
  obtain ⟨a, cap, e, h, _⟩ := owns_il (own_lit w cs xs hc hl) rfl
  cases e; exact h

theorem srt_two : srt [(2, 1), (1, 5)] = [(1, 5), (2, 1)] := by
  symm
  refine srt_eq ?_ (List.Perm.swap _ _ _)
  simp [Sd, bef]

set_option maxHeartbeats 6400000 in
set_option maxRecDepth 1000000 in
theorem ordSorts_walk {w : World} {a : Option Addr} {items : List It} (hi : IL w a items) (hl : items.length * 16 ≤ 140737488351232) (hnum : ∀ x ∈ items, I64 x.1 ∧ I64 x.2) (cap : Nat) (n : Int) (_ : I64 n) :
    Calls Try.prog 5 #[.slice a items.length cap, .int .i64 n] w fun e w' => e = .returned (.bool true) ∧ Below w.heap.size w w' := by
  have hs1 := sort_any (il_lit w #[.int .i64 2, .int .i64 1, .int .i64 1, .int .i64 5] [(2, 1), (1, 5)] rfl (by decide)) (by decide) (fun x hx => by simp at hx; rcases hx with rfl | rfl <;> (constructor <;> (unfold I64; omega))) 2
  rw [srt_two] at hs1
  have K0 : Keeps (fun _ => False) w (w.alloc (.cells #[.int .i64 2, .int .i64 1, .int .i64 1, .int .i64 5] 41)) := (Keeps.refl _ w).alloc _
  go_enter Try.func5, Try.ntmps5
  go_wp2_with fail
  refine hs1.mono ?_
  rintro e w1 ⟨v1, rfl, o1, k1⟩
  obtain ⟨a1, c1, rfl, il1, _⟩ := owns_il o1 rfl
  have KW1 := K0.trans k1
  have K2 : Keeps (fun _ => False) w1 (w1.alloc (.cells #[.int .i64 1, .int .i64 5, .int .i64 2, .int .i64 1] 41)) := (Keeps.refl _ w1).alloc _
  have hsm := same_any (il1.new K2) (il_lit w1 #[.int .i64 1, .int .i64 5, .int .i64 2, .int .i64 1] [(1, 5), (2, 1)] rfl (by decide)) (by decide) c1 2
  clear hs1 o1
  go_wp2_with fail
  refine hsm.mono ?_
  rintro e w3 ⟨rfl, k3⟩
  have KW3 := (KW1.trans K2).trans k3
  clear hsm il1 K2 K0 KW1
  -- kept
  have KA : Keeps (fun _ => False) w3 (w3.alloc (.cells #[] 41)) := (Keeps.refl _ w3).alloc _
  obtain ⟨gk, ck, w4, hak, ok, kk, lk⟩ := append_own (own_lit w3 #[] [] rfl (by decide)) ((hi.new KW3).new KA) cap (by simp; omega) (by simp)
  have KW4 : Keeps (fun _ => False) w3 w4 := KA.trans' kk (fun _ _ e => e) (fun i hi e => by omega)
  obtain ⟨_, _, ek, ilk, _⟩ := owns_il ok rfl
  cases ek
  simp only [List.nil_append] at ilk hak
  have HAK : Hid ((Builtin.append_ #[39, 39] 39 #[.slice (some ⟨w3.heap.size, 0, none⟩) 0 0, .slice a items.length cap]).run Try.prog (w3.alloc (.cells #[] 41)) = .ok (.slice (some ⟨gk, 0, none⟩) items.length ck) w4) := hak
  have hck : items.length ≤ ck := by have := owns_cap' ok; simpa using this
  clear hak ok kk
  -- room
  have KB : Keeps (fun _ => False) w4 (w4.alloc (.cells #[] 41)) := (Keeps.refl _ w4).alloc _
  obtain ⟨gr, cr, w5, har, orr, kr, lr⟩ := append_own (own_lit w4 #[] [] rfl (by decide)) (((hi.new KW3).new KW4).new KB) cap (by simp; omega) (by simp)
  have KW5 : Keeps (fun _ => False) w4 w5 := KB.trans' kr (fun _ _ e => e) (fun i hi e => by omega)
  have HAR : Hid ((Builtin.append_ #[39, 39] 39 #[.slice (some ⟨w4.heap.size, 0, none⟩) 0 0, .slice a items.length cap]).run Try.prog (w4.alloc (.cells #[] 41)) = .ok (.slice (some ⟨gr, 0, none⟩) items.length cr) w5) := by
    simp only [List.nil_append] at har
    exact har
  have or5 : w5.ownsRow w4.heap.size 41 2 (.slice (some ⟨gr, 0, none⟩) items.length cr) items.length (flat items) := by simpa using orr
  have hgr : w4.heap.size ≤ gr := by have := or5.lt gr rfl; exact this.1
  have KC : Keeps (fun _ => False) w5 (w5.alloc (.cells #[.int .i64 (-5), .int .i64 77, .int .i64 1125899906842624, .int .i64 78] 41)) := (Keeps.refl _ w5).alloc _
  obtain ⟨gs, cs, w6, has, os, ks, ls⟩ := append_own (KC.owns or5 (fun _ _ e => e)) (il_lit w5 #[.int .i64 (-5), .int .i64 77, .int .i64 1125899906842624, .int .i64 78] [(-5, 77), (1125899906842624, 78)] rfl (by decide)) 2 (by simp; omega) (by have := KW5.size; simp; omega)
  have KW6 : Keeps (fun _ => False) w4 w6 := (KW5.trans KC).trans' ks (fun _ _ e => e) (fun i hi e => by omega)
  obtain ⟨_, _, es, ils, _⟩ := owns_il os rfl
  cases es
  obtain ⟨R, hR⟩ : ∃ R, Hid (items ++ [((-5 : Int), (77 : Int)), (1125899906842624, 78)] = R) := ⟨_, rfl⟩
  have HRL : Hid (R.length = items.length + 2) := by show _ = _; rw [← hR.out]; simp
  have HRT : Hid (R.take items.length = items) := by show _ = _; rw [← hR.out]; simp
  rw [hR.out] at has os ils
  have hcs : R.length ≤ cs := owns_cap' os
  have HAS : Hid ((Builtin.append_ #[39, 39] 39 #[.slice (some ⟨gr, 0, none⟩) items.length cr, .slice (some ⟨w5.heap.size, 0, none⟩) 2 2]).run Try.prog (w5.alloc (.cells #[.int .i64 (-5), .int .i64 77, .int .i64 1125899906842624, .int .i64 78] 41)) = .ok (.slice (some ⟨gs, 0, none⟩) R.length cs) w6) := has
  clear har orr or5 kr has os ks KC
  -- whole
  have KD : Keeps (fun _ => False) w6 (w6.alloc (.cells #[] 41)) := (Keeps.refl _ w6).alloc _
  obtain ⟨gw, cw, w7, haw, ow, kw, lw⟩ := append_own (own_lit w6 #[] [] rfl (by decide)) (ils.new KD) cs (by have := HRL.out; simp; omega) (by simp)
  have KW7 : Keeps (fun _ => False) w6 w7 := KD.trans' kw (fun _ _ e => e) (fun i hi e => by omega)
  obtain ⟨_, _, ew, ilw, _⟩ := owns_il ow rfl
  cases ew
  simp only [List.nil_append] at ilw haw
  have HAW : Hid ((Builtin.append_ #[39, 39] 39 #[.slice (some ⟨w6.heap.size, 0, none⟩) 0 0, .slice (some ⟨gs, 0, none⟩) R.length cs]).run Try.prog (w6.alloc (.cells #[] 41)) = .ok (.slice (some ⟨gw, 0, none⟩) R.length cw) w7) := haw
  clear haw ow kw
  have ilk7 := (ilk.new KW6).new KW7
  have ils7 := ils.new KW7
  have KWA := ((KW3.trans KW4).trans KW6).trans KW7
  have ilt7 : IL w7 (some ⟨gs, 0, none⟩) items := by have := ils7.take (n := items.length); rw [HRT.out] at this; exact this
  have hlen2 : (items.length : Int) ≤ (cs : Int) := by have := HRL.out; omega
  have hlR : R.length ≤ 9223372036854775807 := by have := HRL.out; omega
  have HI7 : Hid (IL w7 (some ⟨gs, 0, none⟩) items) := ilt7
  go_wp2_with (first | (at_builtin; refine wpList_append_run rfl _ _ _ rfl _ _ _ _ rfl rfl HAK.out ?_; clear HAK) | (at_builtin; refine wpList_append_run rfl _ _ _ rfl _ _ _ _ rfl rfl HAR.out ?_; clear HAR) | (at_builtin; refine wpList_append_run rfl _ _ _ rfl _ _ _ _ rfl rfl HAS.out ?_; clear HAS) | (at_builtin; refine wpList_append_run rfl _ _ _ rfl _ _ _ _ rfl rfl HAW.out ?_; clear HAW))
  refine (sort_any HI7.out (by omega) hnum cs).mono ?_
  rintro e w8 ⟨v8, rfl, o8, k8⟩
  obtain ⟨a8, c8, rfl, il8, _⟩ := owns_il o8 rfl
  go_wp2_with fail
  refine (rsort_any items.length ck rfl (ilk7.new k8) hck (by omega)).mono ?_
  rintro e w9 ⟨v9, rfl, o9, k9⟩
  obtain ⟨a9, c9, rfl, il9, _⟩ := owns_il o9 rfl
  go_wp2_with fail
  refine (same_any (il8.new k9) il9 (by rw [srt_length]; omega) c8 c9).mono ?_
  rintro e w10 ⟨rfl, k10⟩
  have KB1 := (k8.trans k9).trans k10
  go_wp2_with fail
  refine (same_any (ils7.new KB1) (ilw.new KB1) hlR cs cw).mono ?_
  rintro e w11 ⟨rfl, k11⟩
  have KB2 := KB1.trans k11
  go_wp2_with fail
  obtain ⟨T, hT⟩ : ∃ T, Hid ((srt items).take n.toNat = T) := ⟨_, rfl⟩
  have hTl : T.length ≤ 9223372036854775807 := by rw [← hT.out, List.length_take, srt_length]; omega
  have hfi := firsts_any (HI7.out.new KB2) (by omega) hnum cs n
  rw [hT.out] at hfi
  refine hfi.mono ?_
  rintro e w12 ⟨v12, rfl, o12, k12⟩
  obtain ⟨a12, c12, rfl, il12, _⟩ := owns_il o12 rfl
  have KB3 := KB2.trans k12
  go_wp2_with fail
  have hrf := rfirsts_any ck (ilk7.new KB3) hck (by omega) n
  rw [hT.out] at hrf
  refine hrf.mono ?_
  rintro e w13 ⟨v13, rfl, o13, k13⟩
  obtain ⟨a13, c13, rfl, il13, _⟩ := owns_il o13 rfl
  have KB4 := KB3.trans k13
  go_wp2_with fail
  refine (same_any (il12.new k13) il13 hTl c12 c13).mono ?_
  rintro e w14 ⟨rfl, k14⟩
  have KB5 := KB4.trans k14
  go_wp2_with fail
  refine (same_any (ils7.new KB5) (ilw.new KB5) hlR cs cw).mono ?_
  rintro e w15 ⟨rfl, k15⟩
  go_wp2
  go_ret
  exact ⟨rfl, (KWA.trans (KB5.trans k15)).below (Nat.le_refl _) (fun _ _ e => e)⟩

end Go.Proofs.Ytkebpelpjkgdkaa
