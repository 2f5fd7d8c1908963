import Derived.Test.YtmcchconnfoffabCmS2
namespace Go.Proofs.Ytmcchconnfoffab
open Go.RowKit Go.Maps Go.Deep
theorem all_walk (w : World) {am : Option Addr} {ms : List Mk} (hm : ML w am ms) (hmo : ∀ q ∈ ms, q.ok) (hml : (ms.length + 2) * 16 ≤ 140737488355328) (cm : Nat) {aq : Option Addr} {qs : List Ak} (hq : QL w aq qs) (hqo : ∀ q ∈ qs, q.ok) (hql : qs.length ≤ 9223372036854775807) (cq : Nat) :
    Calls Try.prog 4 #[.slice am ms.length cm, .slice aq qs.length cq] w fun e w' => e = .returned (.bool true) ∧ Below w.heap.size w w' := by
  have h := asked_any hm hq hmo hqo hml hql cm cq 5
  go_enter Try.func4, Try.ntmps4
  go_wp2_with (go_at_call 12; refine h.mono ?_; rintro e w1 ⟨rfl, k1⟩)
  go_ret
  exact ⟨rfl, k1.below (Nat.le_refl _) (fun _ _ e => e)⟩
theorem all_upto (w : World) {am : Option Addr} {ms : List Mk} (hm : ML w am ms) (hmo : ∀ q ∈ ms, q.ok) (hml : ms.length ≤ 1048576) (cm : Nat) {aq : Option Addr} {qs : List Ak} (hq : QL w aq qs) (hqo : ∀ q ∈ qs, q.ok) (hql : qs.length ≤ 1048576) (cq : Nat) :
    Calls Try.prog 4 #[.slice am ms.length cm, .slice aq qs.length cq] w fun e w' => e = .returned (.bool true) ∧ Below w.heap.size w w' :=
  all_walk w hm hmo (by omega) cm hq hqo (by omega) cq
theorem askInfo : (Try.prog.info? 56).map (fun i => (i.zero, i.size, i.bytes)) = some (some (.agg #[.int .i64 0, .int .i64 0, .int .i64 0, .int .i64 0, .int .i64 0, .bool false, .int .i64 0, .int .i64 0, .int .i64 0]), 9, 72) := by kernel_rfl
theorem underAsk : Try.prog.underlying 33 = some (.slice 56) := by kernel_rfl
def acells (c : Cf) : List Value := [.int .i64 1, .int .i64 c.mine, .int .i64 c.theirs, .int .i64 c.born, .int .i64 c.enemy, .bool c.flag, .int .i64 c.tries, .int .i64 c.waited, .int .i64 c.draw]
theorem ask_run {W : World} {n : Nat} {v : Value} {xs : List Value} (own : W.ownsRow 0 56 9 v n xs) (hn : (n + 1) * 72 ≤ 140737488355328) (c : Cf) :
    ∃ v' W', (Builtin.append_ #[33, 33] 33 #[v, .slice (some ⟨W.heap.size, 0, none⟩) 1 1]).run Try.prog (W.alloc (.cells #[.int .i64 1, .int .i64 c.mine, .int .i64 c.theirs, .int .i64 c.born, .int .i64 c.enemy, .bool c.flag, .int .i64 c.tries, .int .i64 c.waited, .int .i64 c.draw] 56)) = .ok v' W' ∧ W'.ownsRow 0 56 9 v' (n + 1) (xs ++ acells c) ∧ Keeps (fun k => v.ownBlock = some k) W W' ∧ (∀ g, v'.ownBlock = some g → v.ownBlock = some g ∨ W.heap.size < g) := by
  obtain ⟨i0, hi0, hz0, hz1, hz2⟩ := info_parts askInfo
  have ka : Keeps (fun _ => False) W (W.alloc (.cells #[.int .i64 1, .int .i64 c.mine, .int .i64 c.theirs, .int .i64 c.born, .int .i64 c.enemy, .bool c.flag, .int .i64 c.tries, .int .i64 c.waited, .int .i64 c.draw] 56)) := (Keeps.refl _ W).alloc _
  obtain ⟨v', w', hr, ho, hgr, _, hat⟩ := run_append_own_at (P := Try.prog) (w := W.alloc (.cells #[.int .i64 1, .int .i64 c.mine, .int .i64 c.theirs, .int .i64 c.born, .int .i64 c.enemy, .bool c.flag, .int .i64 c.tries, .int .i64 c.waited, .int .i64 c.draw] 56)) 0 33 33 56 i0 _ 9 72 underAsk hi0 hz0 hz1 hz2 rfl (by decide) v n xs (own.alloc _) ⟨W.heap.size, 0, none⟩ 1 1 (acells c) rfl (World.news_of_block (cs := #[.int .i64 1, .int .i64 c.mine, .int .i64 c.theirs, .int .i64 c.born, .int .i64 c.enemy, .bool c.flag, .int .i64 c.tries, .int .i64 c.waited, .int .i64 c.draw]) (t := 56) (fr := (0, 0)) (heap_alloc_new W _)) (fun u hu => by
    simp [acells] at hu
    rcases hu with rfl | rfl | rfl | rfl | rfl | rfl | rfl | rfl | rfl <;> rfl) (by unfold maxLen; omega) (by omega) (Nat.zero_le _)
  refine ⟨v', w', hr, ho, ka.trans' ((Keeps.refl _ _).grown hgr (S := fun k => v.ownBlock = some k) (fun _ _ e => e)) (fun _ _ e => e.elim) (fun _ _ e => e), fun g e => ?_⟩
  rcases hat with e' | e'
  · exact .inl (e' ▸ e)
  · rw [e'] at e; cases e; exact .inr (by simp)
theorem ac_get : ∀ (l : List Cf) (i j : Nat), i < l.length → j < 9 → (l.flatMap acells)[i * 9 + j]? = (acells (l.getD i cf0))[j]?
  | [], i, _, h, _ => by simp at h
  | m :: r, 0, j, _, hj => by
    simp only [List.flatMap_cons, Nat.zero_mul, Nat.zero_add]
    rw [List.getElem?_append_left (by simpa [acells] using hj)]
    rfl
  | m :: r, i + 1, j, h, hj => by
    have ih := ac_get r i j (by simpa using h) hj
    have e : (i + 1) * 9 + j = (i * 9 + j) + 9 := by omega
    rw [e]
    simp only [List.flatMap_cons]
    rw [List.getElem?_append_right (by simp [acells]), show i * 9 + j + 9 - (acells m).length = i * 9 + j by simp [acells]]
    simpa using ih
/-- Questions that are owned. -/
theorem ql_own {W : World} {v : Value} {l : List Cf} (h : W.ownsRow 0 56 9 v l.length (l.flatMap acells)) : ∃ a cap, v = .slice a (l.map (fun c => (⟨1, c⟩ : Ak))).length cap ∧ QL W a (l.map (fun c => (⟨1, c⟩ : Ak))) := by
  by_cases h0 : l.length = 0
  · rcases h.2 with ⟨rfl, _⟩ | ⟨g, cap, cur, rfl, _⟩
    · exact ⟨none, 0, by simp [h0], .inl (by simpa using h0)⟩
    · exact ⟨some ⟨g, 0, none⟩, cap, by simp, .inl (by simpa using h0)⟩
  · obtain ⟨g, cap, rfl⟩ := owns_form' h (by omega)
    refine ⟨some ⟨g, 0, none⟩, cap, by simp, .inr ⟨g, 0, rfl, owns_lt' h g rfl, fun i hi => ?_⟩⟩
    simp at hi
    have e : (l.map (fun c => (⟨1, c⟩ : Ak))).getD i ak0 = ⟨1, l.getD i cf0⟩ := by
      simp [List.getD_eq_getElem?_getD, List.getElem?_eq_getElem hi]
    rw [e]
    have q : ∀ {j : Nat} {u : Value}, j < 9 → (acells (l.getD i cf0))[j]? = some u → W.cell? ⟨g, i * 9 + j, none⟩ = some u := fun {j u} hj hu => own_cellz h rfl _ _ (by rw [ac_get l i j hi hj]; exact hu)
    simp only [Nat.zero_add]
    exact ⟨q (j := 0) (by omega) rfl, q (j := 1) (by omega) rfl, q (j := 2) (by omega) rfl, q (j := 3) (by omega) rfl, q (j := 4) (by omega) rfl, q (j := 5) (by omega) rfl, q (j := 6) (by omega) rfl, q (j := 7) (by omega) rfl, q (j := 8) (by omega) rfl⟩
theorem ml_one (W : World) (k p : Int) : ML (W.alloc (.cells #[.int .i64 k, .int .i64 p] 52)) (some ⟨W.heap.size, 0, none⟩) [⟨k, p⟩] :=
  .inr ⟨W.heap.size, 0, rfl, by simp, fun i hi => by
    obtain rfl : i = 0 := by simpa using hi
    refine ⟨?_, ?_⟩ <;> simp⟩
set_option maxHeartbeats 1600000 in
set_option maxRecDepth 1000000 in
theorem alone_any {w : World} {k : Nat} (hk : k < 5) {p : Int} (hp : In64 p) {a : Option Addr} {l : List Cf} (hl : CL w a l) (hok : ∀ q ∈ l, q.ok) (hn : l.length ≤ 1048576) (cap : Nat) :
    Calls Try.prog 13 #[.int .i64 (k : Int), .int .i64 p, .slice a l.length cap] w fun e w' => e = .returned (.bool true) ∧ Keeps (fun _ => False) w w' := by
  go_enter Try.func13, Try.ntmps13
  go_wp2_with fail
  go_loopw [7, 12] (fun vq iv W => ∃ j : Nat, j ≤ l.length ∧ iv = .int .i64 (j : Int) ∧ Keeps (fun _ => False) w W ∧ W.ownsRow 0 56 9 vq j ((l.take j).flatMap acells) ∧ (∀ g, vq.ownBlock = some g → w.heap.size ≤ g)) (fun _ iv _ => l.length - (intOf iv).toNat)
  case atStart => exact ⟨0, Nat.zero_le _, rfl, Keeps.refl _ w, World.ownsRow_nil _ _ _ _, fun g e => by cases e⟩
  case round =>
    obtain ⟨j, hj, rfl, K1, O1, B1⟩ := hrel
    by_cases hlt : j < l.length
    · have hltI : (j : Int) < (l.length : Int) := by omega
      obtain ⟨bc, off, rfl, hbc, hcc⟩ := (hl.keep K1).some (by omega)
      obtain ⟨d0, d1, d2, d3, d4, d5, d6, d7⟩ := hcc j hlt
      have etk : (l.take (j + 1)).flatMap acells = (l.take j).flatMap acells ++ acells (l.getD j cf0) := by
        rw [List.take_add_one, List.getElem?_eq_getElem hlt, List.flatMap_append, List.getD_eq_getElem?_getD, List.getElem?_eq_getElem hlt]
        simp
      generalize l.getD j cf0 = c at *
      obtain ⟨v2, w2, hr2, o2, k2, g2⟩ := ask_run (((Keeps.refl (fun _ => False) wr).alloc (.cells #[.int .i64 c.mine, .int .i64 c.theirs, .int .i64 c.born, .int .i64 c.enemy, .bool c.flag, .int .i64 c.tries, .int .i64 c.waited, .int .i64 c.draw] 23)).owns O1 (fun _ _ e => e)) (by omega) c
      rw [← etk] at o2
      have K2 : Keeps (fun _ => False) w w2 := (K1.alloc _).trans' k2 (fun _ _ e => e) (fun i hi e => by have := B1 i e; omega)
      have B2 : ∀ g, v2.ownBlock = some g → w.heap.size ≤ g := fun g e => (g2 g e).elim (B1 g) (fun x => by have := K1.size; simp at x; omega)
      obtain ⟨mine, theirs, born, enemy, flag, tries, waited, draw⟩ := c
      simp only at d0 d1 d2 d3 d4 d5 d6 d7 hr2
      simp at hr2
      clear hcc etk O1 k2 g2 B1 K1
      go_wp2_with (at_builtin; refine wpList_append_run rfl _ _ _ rfl _ _ v2 w2 rfl rfl hr2 ?_; clear hr2)
      go_roundw
      case rel => exact ⟨j + 1, by omega, by go_num, K2, o2, B2⟩
      case measure => simp [intOf]; omega
    · have hge : decide ((j : Int) < (l.length : Int)) = false := by simp; omega
      have hgn : decide (j < l.length) = false := by simp; omega
      obtain rfl : j = l.length := by omega
      rw [List.take_length] at O1
      obtain ⟨aq, cq, rfl, Q1⟩ := ql_own O1
      have hqo : ∀ q ∈ l.map (fun c => (⟨1, c⟩ : Ak)), q.ok := fun q hq => by
        obtain ⟨c, hc, rfl⟩ := List.mem_map.1 hq
        exact ⟨⟨by simp, by simp⟩, hok c hc⟩
      have hql : (l.map (fun c => (⟨1, c⟩ : Ak))).length ≤ 1048576 := by simpa using hn
      generalize l.map (fun c => (⟨1, c⟩ : Ak)) = qs at *
      have M2 := ml_one wr (k : Int) p
      have kk : In64 (k : Int) := by unfold In64; omega
      have h1 := asked_any M2 (Q1.keep ((Keeps.refl _ wr).alloc _)) (fun q hq => by simp at hq; subst hq; exact ⟨kk, hp⟩) hqo (by simp) (by omega) 1 cq (k : Int)
      have h2 := asked_any M2 (qs := []) (aq := none) (.inl rfl) (fun q hq => by simp at hq; subst hq; exact ⟨kk, hp⟩) (fun q hq => by cases hq) (by simp) (by simp) 1 0 (k : Int)
      simp only [List.length_cons, List.length_nil, Nat.zero_add] at h1 h2
      by_cases hpp : Pat p
      · have hmay := fun W => rmay_in W hk hpp
        clear h2 O1 B1 Q1 M2 hqo hok hl
        go_wp2_with (first | (go_at_call 22; refine (hmay _).mono ?_; rintro e w2 ⟨rfl, rfl⟩) | (go_at_call 12; refine h1.mono ?_; clear h1; rintro e w3 ⟨rfl, k3⟩))
        go_ret
        exact ⟨rfl, (K1.alloc _).trans k3⟩
      · have hmay := fun W => rmay_no2 W hk (p := p) (by
          by_cases h : p < 1
          · exact .inl h
          · exact .inr ⟨h, by unfold Pat at hpp; omega⟩)
        clear h1 O1 B1 Q1 M2 hqo hok hl
        go_wp2_with (first | (go_at_call 22; refine (hmay _).mono ?_; rintro e w2 ⟨rfl, rfl⟩) | (go_at_call 12; refine h2.mono ?_; clear h2; rintro e w3 ⟨rfl, k3⟩))
        go_ret
        exact ⟨rfl, (K1.alloc _).trans k3⟩
theorem walk0 (w : World) (pa : Int) (hp : I64 pa) {a : Option Addr} {l : List Cf} (hl : CL w a l) (hok : ∀ q ∈ l, q.ok) (hn : l.length ≤ 1048576) (cap : Nat) :
    Calls Try.prog 5 #[.int .i64 pa, .slice a l.length cap] w fun e w' => e = .returned (.bool true) ∧ Below w.heap.size w w' := by
  have h := alone_any (k := 0) (by omega) hp hl hok hn cap
  simp only [show ((0 : Nat) : Int) = 0 from rfl] at h
  go_enter Try.func5, Try.ntmps5
  go_wp2_with (go_at_call 13; refine h.mono ?_; rintro e w1 ⟨rfl, k1⟩)
  go_ret
  exact ⟨rfl, k1.below (Nat.le_refl _) (fun _ _ e => e)⟩
theorem walk1 (w : World) (pa : Int) (hp : I64 pa) {a : Option Addr} {l : List Cf} (hl : CL w a l) (hok : ∀ q ∈ l, q.ok) (hn : l.length ≤ 1048576) (cap : Nat) :
    Calls Try.prog 6 #[.int .i64 pa, .slice a l.length cap] w fun e w' => e = .returned (.bool true) ∧ Below w.heap.size w w' := by
  have h := alone_any (k := 1) (by omega) hp hl hok hn cap
  simp only [show ((1 : Nat) : Int) = 1 from rfl] at h
  go_enter Try.func6, Try.ntmps6
  go_wp2_with (go_at_call 13; refine h.mono ?_; rintro e w1 ⟨rfl, k1⟩)
  go_ret
  exact ⟨rfl, k1.below (Nat.le_refl _) (fun _ _ e => e)⟩
theorem walk2 (w : World) (pa : Int) (hp : I64 pa) {a : Option Addr} {l : List Cf} (hl : CL w a l) (hok : ∀ q ∈ l, q.ok) (hn : l.length ≤ 1048576) (cap : Nat) :
    Calls Try.prog 7 #[.int .i64 pa, .slice a l.length cap] w fun e w' => e = .returned (.bool true) ∧ Below w.heap.size w w' := by
  have h := alone_any (k := 2) (by omega) hp hl hok hn cap
  simp only [show ((2 : Nat) : Int) = 2 from rfl] at h
  go_enter Try.func7, Try.ntmps7
  go_wp2_with (go_at_call 13; refine h.mono ?_; rintro e w1 ⟨rfl, k1⟩)
  go_ret
  exact ⟨rfl, k1.below (Nat.le_refl _) (fun _ _ e => e)⟩
end Go.Proofs.Ytmcchconnfoffab
