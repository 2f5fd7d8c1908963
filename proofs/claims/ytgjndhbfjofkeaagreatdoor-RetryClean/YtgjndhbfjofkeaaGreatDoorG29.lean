import Derived.Test.YtgjndhbfjofkeaaGreatDoorG28
import Derived.Test.YtgjndhbfjofkeaaGreatDoorG27
namespace Go.Proofs.YtgjndhbfjofkeaaGreatDoor
open Go.RowKit
attribute [local go_sem] Oper.semAt_some run_store_nf run_store_f
section
variable {w w' : World} {ρ ρ' ρ'' : Nat → Nat} {u j : Nat} {c : Sc} {ab rb n n' : Nat} {x x' : Tx} {f f' : Int → Option Nat} {s s' : Ws} {m m' : Mm} {r r' : Ro} {g nd kr kd t tb mb wb gb db : Nat} {xs : Nat → Int} {rs rs' : List Rd} {p : Int} {T : Tr}
set_option maxHeartbeats 1600000 in
set_option maxRecDepth 1000000 in
theorem t_step_go {Q : Ro → World → Prop}
    (hf : ∀ W, Keeps (fun _ => False) w W → Calls Tryz.prog 46 #[.pointer (some ⟨tb, 0, none⟩)] W fun e w' => e = .returned (.bool false) ∧ w' = W)
    (hs : Calls Tryz.prog 56 #[.pointer (some ⟨tb, 0, none⟩)] (w.alloc (.cells #[.int .i64 0, .int .i64 0, .int .i64 0, .int .i64 0, .int .i64 0, .int .i64 0, .int .i64 0, .int .i64 0, .int .i64 0, .int .i64 0, .int .i64 0, .int .i64 0, .int .i64 0, .bool false, .bool false, .bool false, .int .i64 0, .bool false, .int .i64 0, .int .i64 0, .bool false, .bool false, .int .i64 0, .int .i64 0, .bool false, .int .i64 0] 36)) fun e w' => ∃ r, e = .returned (.tuple #[.agg r.cells.toArray, .int .i64 0]) ∧ Q r w' ∧ CL w' w.heap.size Ro.zero.cells) :
    Calls Tryz.prog 32 #[.pointer (some ⟨tb, 0, none⟩)] w fun e w' => ∃ r w1, e = .returned (.tuple #[.agg r.cells.toArray, .int .i64 0]) ∧ Q r w1 ∧ Keeps (fun k => k = w.heap.size) w1 w' := by
  have K0 : Keeps (fun _ => False) w (w.alloc (.cells #[.int .i64 0, .int .i64 0, .int .i64 0, .int .i64 0, .int .i64 0, .int .i64 0, .int .i64 0, .int .i64 0, .int .i64 0, .int .i64 0, .int .i64 0, .int .i64 0, .int .i64 0, .bool false, .bool false, .bool false, .int .i64 0, .bool false, .int .i64 0, .int .i64 0, .bool false, .bool false, .int .i64 0, .int .i64 0, .bool false, .int .i64 0] 36)) := (Keeps.refl _ w).alloc _
  have hf := hf _ K0
  go_enter Tryz.func32, Tryz.ntmps32
  go_wp2_with (first | (go_at_call 46; refine hf.mono ?_; rintro e w' ⟨rfl, rfl⟩) | (go_at_call 56; refine hs.mono ?_; clear hs; rintro e w1 ⟨r, rfl, hQ, hz⟩) | (refine wpList_store_cl rfl 36 _ _ rfl w.heap.size 0 26 _ rfl rfl rfl hz (by show 26 ≤ 26; decide) i46 (all_oneCell_toArray (by simp [Ro.cells, Value.oneCell'])) ?_; intro w2 hz2 k2 hsz2; clear hsz2))
  have hr2 := run_row (r := r) hz2
  refine bodyPost_ret (v := .tuple #[.agg r.cells.toArray, .int .i64 0]) ?_ rfl ⟨r, rfl, w1, hQ, k2⟩
  rw [results_cell_tmp rfl]
  simp [asAddr, hr2, Result.andThen]
set_option maxHeartbeats 1600000 in
set_option maxRecDepth 1000000 in
theorem t_step_begin {Q : Ro → World → Prop} (h : CL w tb (T.cells mb wb gb db)) (htr : T.tr = 0)
    (hf : ∀ W, Keeps (fun _ => False) w W → Calls Tryz.prog 46 #[.pointer (some ⟨tb, 0, none⟩)] W fun e w' => e = .returned (.bool true) ∧ w' = W)
    (hs : Calls Tryz.prog 57 #[.pointer (some ⟨tb, 0, none⟩)] (w.alloc (.cells #[.int .i64 0, .int .i64 0, .int .i64 0, .int .i64 0, .int .i64 0, .int .i64 0, .int .i64 0, .int .i64 0, .int .i64 0, .int .i64 0, .int .i64 0, .int .i64 0, .int .i64 0, .bool false, .bool false, .bool false, .int .i64 0, .bool false, .int .i64 0, .int .i64 0, .bool false, .bool false, .int .i64 0, .int .i64 0, .bool false, .int .i64 0] 36)) fun e w' => ∃ r, e = .returned (.tuple #[.agg r.cells.toArray, .int .i64 0]) ∧ Q r w' ∧ CL w' w.heap.size Ro.zero.cells) :
    Calls Tryz.prog 32 #[.pointer (some ⟨tb, 0, none⟩)] w fun e w' => ∃ r w1, e = .returned (.tuple #[.agg r.cells.toArray, .int .i64 0]) ∧ Q r w1 ∧ Keeps (fun k => k = w.heap.size) w1 w' := by
  have K0 : Keeps (fun _ => False) w (w.alloc (.cells #[.int .i64 0, .int .i64 0, .int .i64 0, .int .i64 0, .int .i64 0, .int .i64 0, .int .i64 0, .int .i64 0, .int .i64 0, .int .i64 0, .int .i64 0, .int .i64 0, .int .i64 0, .bool false, .bool false, .bool false, .int .i64 0, .bool false, .int .i64 0, .int .i64 0, .bool false, .bool false, .int .i64 0, .int .i64 0, .bool false, .int .i64 0] 36)) := (Keeps.refl _ w).alloc _
  have hf := hf _ K0
  have h0 := h.keep (by show 0 < 13; decide) K0 (fun e => e)
  have f10 := h0.c 10 _ rfl
  rw [htr] at f10
  clear h h0
  go_enter Tryz.func32, Tryz.ntmps32
  go_wp2_with (first | (go_at_call 46; refine hf.mono ?_; rintro e w' ⟨rfl, rfl⟩) | (go_at_call 57; refine hs.mono ?_; clear hs; rintro e w1 ⟨r, rfl, hQ, hz⟩) | (refine wpList_store_cl rfl 36 _ _ rfl w.heap.size 0 26 _ rfl rfl rfl hz (by show 26 ≤ 26; decide) i46 (all_oneCell_toArray (by simp [Ro.cells, Value.oneCell'])) ?_; intro w2 hz2 k2 hsz2; clear hsz2))
  have hr2 := run_row (r := r) hz2
  refine bodyPost_ret (v := .tuple #[.agg r.cells.toArray, .int .i64 0]) ?_ rfl ⟨r, rfl, w1, hQ, k2⟩
  rw [results_cell_tmp rfl]
  simp [asAddr, hr2, Result.andThen]
set_option maxHeartbeats 1600000 in
set_option maxRecDepth 1000000 in
theorem t_step_again {Q : Ro → World → Prop} (h : CL w tb (T.cells mb wb gb db)) (htr : T.tr ≠ 0)
    (hf : ∀ W, Keeps (fun _ => False) w W → Calls Tryz.prog 46 #[.pointer (some ⟨tb, 0, none⟩)] W fun e w' => e = .returned (.bool true) ∧ w' = W)
    (hs : Calls Tryz.prog 58 #[.pointer (some ⟨tb, 0, none⟩), .int .i64 2, .agg #[.int .i64 T.th, .int .i64 T.st, .int .i64 T.pr]] (w.alloc (.cells #[.int .i64 0, .int .i64 0, .int .i64 0, .int .i64 0, .int .i64 0, .int .i64 0, .int .i64 0, .int .i64 0, .int .i64 0, .int .i64 0, .int .i64 0, .int .i64 0, .int .i64 0, .bool false, .bool false, .bool false, .int .i64 0, .bool false, .int .i64 0, .int .i64 0, .bool false, .bool false, .int .i64 0, .int .i64 0, .bool false, .int .i64 0] 36)) fun e w' => ∃ r, e = .returned (.tuple #[.agg r.cells.toArray, .int .i64 0]) ∧ Q r w' ∧ CL w' w.heap.size Ro.zero.cells) :
    Calls Tryz.prog 32 #[.pointer (some ⟨tb, 0, none⟩)] w fun e w' => ∃ r w1, e = .returned (.tuple #[.agg r.cells.toArray, .int .i64 0]) ∧ Q r w1 ∧ Keeps (fun k => k = w.heap.size) w1 w' := by
  have K0 : Keeps (fun _ => False) w (w.alloc (.cells #[.int .i64 0, .int .i64 0, .int .i64 0, .int .i64 0, .int .i64 0, .int .i64 0, .int .i64 0, .int .i64 0, .int .i64 0, .int .i64 0, .int .i64 0, .int .i64 0, .int .i64 0, .bool false, .bool false, .bool false, .int .i64 0, .bool false, .int .i64 0, .int .i64 0, .bool false, .bool false, .int .i64 0, .int .i64 0, .bool false, .int .i64 0] 36)) := (Keeps.refl _ w).alloc _
  have hf := hf _ K0
  have h0 := h.keep (by show 0 < 13; decide) K0 (fun e => e)
  have f10 := h0.c 10 _ rfl
  have f6 := h0.c 6 _ rfl
  have f7 := h0.c 7 _ rfl
  have f8 := h0.c 8 _ rfl
  have hbt : (T.tr == 0) = false := beq_eq_false_iff_ne.2 htr
  clear h h0
  go_enter Tryz.func32, Tryz.ntmps32
  go_wp2_with (first | (go_at_call 46; refine hf.mono ?_; rintro e w' ⟨rfl, rfl⟩) | (go_at_call 58; refine hs.mono ?_; clear hs; rintro e w1 ⟨r, rfl, hQ, hz⟩) | (refine wpList_store_cl rfl 36 _ _ rfl w.heap.size 0 26 _ rfl rfl rfl hz (by show 26 ≤ 26; decide) i46 (all_oneCell_toArray (by simp [Ro.cells, Value.oneCell'])) ?_; intro w2 hz2 k2 hsz2; clear hsz2))
  have hr2 := run_row (r := r) hz2
  refine bodyPost_ret (v := .tuple #[.agg r.cells.toArray, .int .i64 0]) ?_ rfl ⟨r, rfl, w1, hQ, k2⟩
  rw [results_cell_tmp rfl]
  simp [asAddr, hr2, Result.andThen]
end
end Go.Proofs.YtgjndhbfjofkeaaGreatDoor

namespace Go.Proofs.YtgjndhbfjofkeaaGreatDoor
open Go.RowKit
section
variable {s s' : Ws} {m m' : Mm} {x : Tx} {rs : List Rd} {f : Int → Option Nat}
theorem Fre.new (h : Pv s m) : Fre s m.cells.length := ⟨fun i hi => by have := h.inv.ca_ i hi; omega, fun i hi => by have := h.inv.co i hi; omega⟩
theorem Fre.grw {z q : Nat} {y : Nat → Prop} (h : Fre s q) (g : Grw z y s m s' m') (hn : ∀ i, s.atts.length ≤ i → i < s'.atts.length → (s'.att i).status ≠ q ∧ (s'.att i).flag ≠ q) : Fre s' q :=
  ⟨fun i hi => by
    by_cases e : i < s.atts.length
    · rw [g.at_ i e]; exact h.st i e
    · exact hn i (by omega) hi, fun i hi => by
    have e := g.ob
    have : s'.ob i = s.ob i := by unfold Ws.ob; rw [e]
    rw [this]; exact h.ob i (by rw [← e]; exact hi)⟩
theorem Pv.make (h : Pv s m) (x : Int) (hx : In64 x) (z : Nat) (y : Nat → Prop) : Pv s (m.make x) ∧ Grw z y s m s (m.make x) := by
  have hl := m.len_make x
  have hv : ∀ c, c < m.cells.length → (m.make x).val c = m.val c := fun c hc => by rw [m.val_make, if_neg (by omega)]
  have hs : ∀ i, i < s.atts.length → (m.make x).val (s.att i).status = m.val (s.att i).status := fun i hi => hv _ (h.inv.ca_ i hi).1
  refine ⟨⟨h.inv.make x, fun i hi => by rw [hs i hi]; exact h.st3 i hi, fun i h1 hi => ?_, fun c hc => ?_, h.sm⟩, ⟨rfl, Nat.le_refl _, fun _ _ => rfl, Nat.le_refl _, fun _ _ => ⟨rfl, rfl, rfl⟩, by omega, fun i hi e => by rw [hs i hi]; exact e, fun i hi _ e => by rw [hs i hi]; exact e, fun q hq _ _ => hv q hq⟩⟩
  · obtain ⟨q, e, hq, hf⟩ := h.pr i h1 hi
    exact ⟨q, e, by omega, hf⟩
  · rw [m.val_make]; split
    · exact hx
    · exact h.i64 c (by omega)
theorem Pv.beg (h : Pv s m) (hr : s.atts.length < 16384) {q : Nat} (hq : q < m.cells.length) (hf : Fre s q) (th st : Int) (hst : In64 st) (z : Nat) (y : Nat → Prop) :
    Pv (s.beg th st (q : Int) m.cells.length) ((m.make 1).make 0) ∧ Grw z y s m (s.beg th st (q : Int) m.cells.length) ((m.make 1).make 0) := by
  have e : ∀ i, (s.beg th st (q : Int) m.cells.length).att i = if i < s.atts.length then s.att i else if i = s.atts.length then ⟨th, st, (q : Int), m.cells.length, m.cells.length + 1⟩ else at0 := fun i => att_app
  have el : (s.beg th st (q : Int) m.cells.length).atts.length = s.atts.length + 1 := by simp [Ws.beg]
  have e1 : ∀ i, i < s.atts.length → (s.beg th st (q : Int) m.cells.length).att i = s.att i := fun i hi => by rw [e, if_pos hi]
  have e2 : (s.beg th st (q : Int) m.cells.length).att s.atts.length = ⟨th, st, (q : Int), m.cells.length, m.cells.length + 1⟩ := by rw [e, if_neg (by omega), if_pos rfl]
  have hl : ((m.make 1).make 0).cells.length = m.cells.length + 2 := by rw [Mm.len_make, Mm.len_make]
  have hv : ∀ c, c < m.cells.length → ((m.make 1).make 0).val c = m.val c := fun c hc => by rw [Mm.val_make, if_neg (by rw [Mm.len_make]; omega), Mm.val_make, if_neg (by omega)]
  have hv1 : ((m.make 1).make 0).val m.cells.length = 1 := by rw [Mm.val_make, if_neg (by rw [Mm.len_make]; omega), Mm.val_make, if_pos rfl]
  have hs : ∀ i, i < s.atts.length → ((m.make 1).make 0).val (s.att i).status = m.val (s.att i).status := fun i hi => hv _ (h.inv.ca_ i hi).1
  have fr : ∀ c, c < m.cells.length → Fre s c → Fre (s.beg th st (q : Int) m.cells.length) c := fun c hc k => ⟨fun i hi => by
    by_cases hi' : i < s.atts.length
    · rw [e1 i hi']; exact k.st i hi'
    · obtain rfl : i = s.atts.length := by omega
      rw [e2]
      show m.cells.length ≠ c ∧ m.cells.length + 1 ≠ c
      omega, k.ob⟩
  refine ⟨⟨h.inv.beg hr th st (q : Int) 1, fun i hi => ?_, fun i h1 hi => ?_, fun c hc => ?_, fun i hi => ?_⟩, ⟨rfl, by omega, e1, Nat.le_refl _, fun _ _ => ⟨rfl, rfl, rfl⟩, by omega, fun i hi e => by rw [hs i hi]; exact e, fun i hi _ e => by rw [hs i hi]; exact e, fun c hc _ _ => hv c hc⟩⟩
  · by_cases hi' : i < s.atts.length
    · rw [e1 i hi', hs i hi']; exact h.st3 i hi'
    · obtain rfl : i = s.atts.length := by omega
      rw [e2]; exact .inl hv1
  · by_cases hi' : i < s.atts.length
    · rw [e1 i hi']
      obtain ⟨c, e, hc, k⟩ := h.pr i h1 hi'
      exact ⟨c, e, by omega, fr c hc k⟩
    · obtain rfl : i = s.atts.length := by omega
      rw [e2]; exact ⟨q, rfl, by omega, fr q hq hf⟩
  · rw [Mm.val_make]; split
    · unfold In64; omega
    · rw [Mm.val_make]; split
      · unfold In64; omega
      · exact h.i64 c (by rw [Mm.len_make] at *; omega)
  · by_cases hi' : i < s.atts.length
    · rw [e1 i hi']; exact h.sm i hi'
    · obtain rfl : i = s.atts.length := by omega
      rw [e2]; exact hst
theorem Gx.fresh (h : Pv s m) {q : Nat} (th st : Int) {K : Int} (hK : 0 ≤ K ∧ K ≤ 255) (kd t : Nat) : Gx kd t (Tx.fresh th st (q : Int) s.atts.length K) [] (fun _ => none) (s.beg th st (q : Int) m.cells.length) ((m.make 1).make 0) := by
  have e : ∀ i, (s.beg th st (q : Int) m.cells.length).att i = if i < s.atts.length then s.att i else if i = s.atts.length then ⟨th, st, (q : Int), m.cells.length, m.cells.length + 1⟩ else at0 := fun i => att_app
  have el : (s.beg th st (q : Int) m.cells.length).atts.length = s.atts.length + 1 := by simp [Ws.beg]
  have e2 : (s.beg th st (q : Int) m.cells.length).att s.atts.length = ⟨th, st, (q : Int), m.cells.length, m.cells.length + 1⟩ := by rw [e, if_neg (by omega), if_pos rfl]
  have hv1 : ((m.make 1).make 0).val m.cells.length = 1 := by rw [Mm.val_make, if_neg (by rw [Mm.len_make]; omega), Mm.val_make, if_pos rfl]
  refine ⟨⟨h.inv.a1, by rw [el]; show s.atts.length < _; omega, ?_, hK, fun r hr => (by cases hr), fun o l e => (by cases e), fun o e => (by cases e)⟩, fun _ => ?_, ?_, fun k _ e => (by cases e)⟩
  · show ((s.beg th st (q : Int) m.cells.length).att s.atts.length).thread = th ∧ ((s.beg th st (q : Int) m.cells.length).att s.atts.length).stamp = st ∧ ((s.beg th st (q : Int) m.cells.length).att s.atts.length).prio = (q : Int)
    rw [e2]; exact ⟨rfl, rfl, rfl⟩
  · show ((m.make 1).make 0).val ((s.beg th st (q : Int) m.cells.length).att s.atts.length).status ≠ 2
    rw [e2, hv1]; decide
  · show (0 : Int) ≤ 0 ∧ (0 : Int) ≤ t ∧ (0 : Int) ≤ 0 ∧ (0 : Int) ≤ t
    omega
end
end Go.Proofs.YtgjndhbfjofkeaaGreatDoor

namespace Go.Proofs.YtgjndhbfjofkeaaGreatDoor
open Go.RowKit
section
variable {w w' : World} {ρ ρ' : Nat → Nat} {u j : Nat} {c : Sc} {ab n wb mb : Nat} {x : Tx} {f : Int → Option Nat} {s s' : Ws} {m m' : Mm}
theorem st_wr0 (h : St w ρ u j wb mb s m) {S : Nat → Prop} (k : Keeps S w w') (hS : ∀ i, i < w.heap.size → S i → ρ i = 0) : St w' ρ u j wb mb s m := by
  have x6 : Ext (fun r => r = 0) w w' ρ ρ := ⟨k.mono (fun i hi e => hS i hi e), fun _ _ => rfl, fun i hi => .inr (h.bnd i hi)⟩
  exact ⟨fun i hi => h.bnd i (Nat.le_trans k.size hi), h.mj.ext x6 (fun e => h.u0 e), h.wj.ext x6 (fun r h1 h2 e => h.j0 (by omega)), h.u0, h.j0, h.ap⟩
theorem AX.oth (h : AX w ρ u j c ab x n f s m) (h' : St w' ρ' u j c.wb c.mb s' m') {A : Nat → Prop} (fr : Fr A u j w w' ρ ρ') (hA : ∀ k, Own c ab k → ¬ A k) : AX w' ρ' u j c ab x n f s' m' :=
  have h0 : ¬ (Sr u j (ρ ab) ∨ A ab) := fun e => e.elim (fun e => Sr.not0 h.st (by rw [h.ra] at e; exact e)) (hA ab (.inl rfl))
  have h2 : ∀ k, c.Q k → ¬ (Sr u j (ρ k) ∨ A k) := fun k hk e => e.elim (fun e => Sr.not0 h.st (by rw [h.ro k hk] at e; exact e)) (hA k (.inr hk))
  ⟨h', h.cl.keep (by show 0 < 36; decide) fr.keeps h0, h.om.keep fr.keeps (h2 _ (.inl rfl)), h.tt.keep fr.keeps h2, (fr.old _ h.alt).trans h.ra, fun k hk => (fr.old _ (h.qlt hk)).trans (h.ro k hk), h.ne⟩
theorem AX.olt (h : AX w ρ u j c ab x n f s m) {k : Nat} (hk : Own c ab k) : k < w.heap.size := hk.elim (fun e => e ▸ h.alt) h.qlt
end
structure Pt where
  T : Tr
  c : Sc
  x : Tx
  n : Nat
  f : Int → Option Nat
structure Bk where
  mb : Nat
  wb : Nat
  gb : Nat
  db : Nat
  g : Nat
  tb : Nat → Nat
structure FA (w : World) (ρ lb : Nat → Nat) (u j : Nat) (B : Bk) (i ab : Nat) (P : Pt) (s : Ws) (m : Mm) : Prop where
  ax : AX w ρ u j P.c ab P.x P.n P.f s m
  lb : ∀ k, Own P.c ab k → lb k = 20 + i
  mb : P.c.mb = B.mb
  wb : P.c.wb = B.wb
  gb : P.c.gb = B.gb
  db : P.c.db = B.db
structure FM (w : World) (ρ lb : Nat → Nat) (u j : Nat) (B : Bk) (nd : Nat) (xs : Nat → Int) (kr kd : Nat) (p : Int) (P : Nat → Pt) (s : Ws) (m : Mm) : Prop where
  st : St w ρ u j B.wb B.mb s m
  mg : Mg w B.gb kd p
  tr : TR w
  dr : IsDr w B.db B.g nd xs kr
  i64 : ∀ i, In64 (xs i)
  r0 : ρ 0 = 0 ∧ lb 0 = 1
  rg : ρ B.gb = 0 ∧ lb B.gb = 1
  rr : ρ B.g = 0 ∧ lb B.g = 1 ∧ B.g < w.heap.size
  rd : ρ B.db = 0 ∧ lb B.db = 2
  tc : ∀ i, i < 4 → CL w (B.tb i) ((P i).T.cells B.mb B.wb B.gb B.db) ∧ ρ (B.tb i) = 0 ∧ lb (B.tb i) = 10 + i
  ax : ∀ i ab, i < 4 → (P i).T.a = some ab → FA w ρ lb u j B i ab (P i) s m
  bd : ∀ k, w.heap.size ≤ k → lb k = 0
structure FL (u j : Nat) (w w' : World) (ρ ρ' lb lb' : Nat → Nat) : Prop where
  keeps : Keeps (fun k => Sr u j (ρ k) ∨ 2 ≤ lb k) w w'
  old : ∀ k, k < w.heap.size → ρ' k = ρ k ∧ lb' k = lb k
section
variable {w w' w'' : World} {ρ ρ' ρ'' lb lb' lb'' : Nat → Nat} {u j : Nat} {B : Bk} {nd kr kr' kd : Nat} {xs : Nat → Int} {p : Int} {P : Nat → Pt} {s s' : Ws} {m m' : Mm}
theorem FL.refl (u j : Nat) (w : World) (ρ lb : Nat → Nat) : FL u j w w ρ ρ lb lb := ⟨Keeps.refl _ w, fun _ _ => ⟨rfl, rfl⟩⟩
theorem FL.trans (h : FL u j w w' ρ ρ' lb lb') (k : FL u j w' w'' ρ' ρ'' lb' lb'') : FL u j w w'' ρ ρ'' lb lb'' :=
  ⟨h.keeps.trans' k.keeps (fun _ _ e => e) (fun i hi e => by rw [(h.old i hi).1, (h.old i hi).2] at e; exact e), fun i hi => by
    have a := h.old i hi
    have b := k.old i (Nat.lt_of_lt_of_le hi h.keeps.size)
    exact ⟨b.1.trans a.1, b.2.trans a.2⟩⟩
theorem FL.new (k : Keeps (fun _ => False) w w') (ρ lb : Nat → Nat) : FL u j w w' ρ ρ lb lb := ⟨k.mono (fun _ _ e => e.elim), fun _ _ => ⟨rfl, rfl⟩⟩
theorem FM.S0 (h : FM w ρ lb u j B nd xs kr kd p P s m) : ¬ Sr u j 0 := Sr.not0 h.st
theorem FM.own (h : FM w ρ lb u j B nd xs kr kd p P s m) {S : Nat → Prop} (k : Keeps S w w') (hS : ∀ i, i < w.heap.size → S i → ρ i = 0 ∧ lb i = 0) : FM w' ρ lb u j B nd xs kr kd p P s m := by
  have hgl : B.gb < w.heap.size := World.block_lt_of_cell? _ _ h.mg.2.2
  have hdl : B.db < w.heap.size := World.block_lt_of_cell? _ _ h.dr.taken
  have no : ∀ i, i < w.heap.size → lb i ≠ 0 → ¬ S i := fun i hi hl e => hl (hS i hi e).2
  have st := st_wr0 h.st k (fun i hi e => (hS i hi e).1)
  have fr : Fr (fun i => lb i = 0) u j w w' ρ ρ := ⟨k.mono (fun i hi e => .inr (hS i hi e).2), fun _ _ => rfl⟩
  refine ⟨st, mg_keep h.mg k (no _ hgl (by rw [h.rg.2]; decide)), tr_keep h.tr k (no _ (by omega) (by rw [h.r0.2]; decide)), h.dr.keep k (no _ hdl (by rw [h.rd.2]; decide)) (no _ h.rr.2.2 (by rw [h.rr.2.1]; decide)), h.i64, h.r0, h.rg, ⟨h.rr.1, h.rr.2.1, Nat.lt_of_lt_of_le h.rr.2.2 k.size⟩, h.rd, fun i hi => ?_, fun i ab hi ha => ?_, fun i hi => h.bd i (Nat.le_trans k.size hi)⟩
  · have t := h.tc i hi
    exact ⟨t.1.keep (by show 0 < 13; decide) k (no _ (t.1.lt (by show 0 < 13; decide)) (by rw [t.2.2]; omega)), t.2⟩
  · have t := h.ax i ab hi ha
    exact ⟨t.ax.oth (by rw [t.wb, t.mb]; exact st) fr (fun q hq e => by have := t.lb q hq; omega), t.lb, t.mb, t.wb, t.gb, t.db⟩
theorem FM.new (h : FM w ρ lb u j B nd xs kr kd p P s m) (k : Keeps (fun _ => False) w w') : FM w' ρ lb u j B nd xs kr kd p P s m := h.own k (fun _ _ e => e.elim)
theorem FM.step (h : FM w ρ lb u j B nd xs kr kd p P s m) {i : Nat} (hi : i < 4) {A : Nat → Prop} (fr : Fr A u j w w' ρ ρ') (hA : ∀ k, k < w.heap.size → A k → lb k = 20 + i ∨ lb k = 2 ∨ k = B.tb i) (st : St w' ρ' u j B.wb B.mb s' m') (dr : IsDr w' B.db B.g nd xs kr') {p' : Pt} (tc : CL w' (B.tb i) (p'.T.cells B.mb B.wb B.gb B.db))
    (ax : ∀ ab, p'.T.a = some ab → AX w' ρ' u j p'.c ab p'.x p'.n p'.f s' m' ∧ (∀ k, Own p'.c ab k → lb k = 20 + i ∨ w.heap.size ≤ k) ∧ p'.c.mb = B.mb ∧ p'.c.wb = B.wb ∧ p'.c.gb = B.gb ∧ p'.c.db = B.db) :
    ∃ lb', FM w' ρ' lb' u j B nd xs kr' kd p (fun k => if k = i then p' else P k) s' m' ∧ FL u j w w' ρ ρ' lb lb' := by
  have S0 := h.S0
  have hgl : B.gb < w.heap.size := World.block_lt_of_cell? _ _ h.mg.2.2
  have hdl : B.db < w.heap.size := World.block_lt_of_cell? _ _ h.dr.taken
  have h0l : 0 < w.heap.size := by omega
  have hsz := fr.keeps.size
  have nt := h.tc i hi
  have no : ∀ k, k < w.heap.size → ρ k = 0 → (lb k ≠ 20 + i ∧ lb k ≠ 2 ∧ lb k ≠ 10 + i) → ¬ (Sr u j (ρ k) ∨ A k) := fun k hk hr hl e => e.elim (fun e => S0 (by rw [hr] at e; exact e)) (fun e => by
    rcases hA k hk e with e | e | e
    · omega
    · omega
    · rw [e, nt.2.2] at hl; omega)
  obtain ⟨lb', hlb⟩ : ∃ lb' : Nat → Nat, lb' = fun k => if k < w.heap.size then lb k else if k < w'.heap.size then 20 + i else 0 := ⟨_, rfl⟩
  have lo : ∀ k, k < w.heap.size → lb' k = lb k := fun k hk => by rw [hlb]; exact if_pos hk
  have ln : ∀ k, w.heap.size ≤ k → k < w'.heap.size → lb' k = 20 + i := fun k h1 h2 => by rw [hlb]; show (if _ then _ else _) = _; rw [if_neg (by omega), if_pos h2]
  refine ⟨lb', ⟨st, mg_keep h.mg fr.keeps (no _ hgl h.rg.1 (by rw [h.rg.2]; omega)), tr_keep h.tr fr.keeps (no _ h0l h.r0.1 (by rw [h.r0.2]; omega)), dr, h.i64, ⟨(fr.old _ h0l).trans h.r0.1, (lo _ h0l).trans h.r0.2⟩, ⟨(fr.old _ hgl).trans h.rg.1, (lo _ hgl).trans h.rg.2⟩, ⟨(fr.old _ h.rr.2.2).trans h.rr.1, (lo _ h.rr.2.2).trans h.rr.2.1, Nat.lt_of_lt_of_le h.rr.2.2 hsz⟩, ⟨(fr.old _ hdl).trans h.rd.1, (lo _ hdl).trans h.rd.2⟩, fun k hk => ?_, fun k ab hk ha => ?_, fun k hk => ?_⟩, ⟨fr.keeps.mono (fun k hk e => e.imp id (fun e => by rcases hA k hk e with e | e | e <;> first | omega | (rw [e, nt.2.2]; omega))), fun k hk => ⟨fr.old k hk, lo k hk⟩⟩⟩
  · have t := h.tc k hk
    have tl := t.1.lt (by show 0 < 13; decide)
    refine ⟨?_, (fr.old _ tl).trans t.2.1, (lo _ tl).trans t.2.2⟩
    by_cases e : k = i
    · simp only [if_pos e]; rw [e]; exact tc
    · simp only [if_neg e]; exact t.1.keep (by show 0 < 13; decide) fr.keeps (no _ tl t.2.1 (by rw [t.2.2]; omega))
  · by_cases e : k = i
    · simp only [if_pos e] at ha ⊢
      obtain ⟨a1, a2, a3, a4, a5, a6⟩ := ax ab ha
      refine ⟨a1, fun q hq => ?_, a3, a4, a5, a6⟩
      rw [e]
      have ql := a1.olt hq
      rcases a2 q hq with e' | e'
      · by_cases hq' : q < w.heap.size
        · exact (lo q hq').trans e'
        · exact ln q (by omega) ql
      · exact ln q e' ql
    · simp only [if_neg e] at ha ⊢
      have t := h.ax k ab hk ha
      refine ⟨t.ax.oth (by rw [t.wb, t.mb]; exact st) fr (fun q hq e' => ?_), fun q hq => (lo q (t.ax.olt hq)).trans (t.lb q hq), t.mb, t.wb, t.gb, t.db⟩
      have hl := t.lb q hq
      rcases hA q (t.ax.olt hq) e' with e' | e' | e'
      · omega
      · omega
      · rw [e', nt.2.2] at hl; omega
  · rw [hlb]; show (if _ then _ else _) = _; rw [if_neg (by omega), if_neg (by omega)]
theorem FM.fx (h : FM w ρ lb u j B nd xs kr kd p P s m) {i ab : Nat} (hi : i < 4) (ha : (P i).T.a = some ab) : Fx w ρ (P i).c ab kd p ∧ DX w ρ (P i).c ab B.g nd xs kr ∧ ∀ z, z = 0 ∨ z = (P i).c.gb → z ≠ (P i).c.db := by
  have t := h.ax i ab hi ha
  have nn : ∀ q, lb q ≠ 20 + i → q ≠ ab ∧ ¬ (P i).c.Q q := fun q hq => ⟨fun e => hq (t.lb q (.inl e)), fun e => hq (t.lb q (.inr e))⟩
  have e0 := h.r0
  have eg := h.rg
  have ed := h.rd
  have er := h.rr
  refine ⟨⟨by rw [t.gb]; exact h.mg, h.tr, fun q hq => ?_⟩, ⟨by rw [t.db]; exact h.dr, by rw [t.db]; exact ⟨ed.1, nn _ (by omega)⟩, ⟨er.1, nn _ (by omega)⟩, fun e => ?_, er.2.2, h.i64⟩, fun z hz e => ?_⟩
  · rw [t.gb] at hq
    rcases hq with e | e
    · rw [e]; exact ⟨e0.1, nn _ (by omega)⟩
    · rw [e]; exact ⟨eg.1, nn _ (by omega)⟩
  · rw [t.db] at e; rw [e] at er; omega
  · rw [t.db] at e
    rw [t.gb] at hz
    rcases hz with e' | e'
    · rw [e'] at e; rw [← e] at ed; omega
    · rw [e'] at e; rw [← e] at ed; omega
end
end Go.Proofs.YtgjndhbfjofkeaaGreatDoor

namespace Go.Proofs.YtgjndhbfjofkeaaGreatDoor
open Go.RowKit
structure PA (kd t : Nat) (P : Pt) (s : Ws) (m : Mm) : Prop where
  gx : Gx kd t P.x P.c.rs P.f s m
  th : P.x.thread = P.T.th
  st : P.x.stamp = P.T.st
  pr : P.x.prio = P.T.pr
  tr : 1 ≤ P.T.tr
  ln : P.c.rs.length ≤ t ∧ P.n ≤ t
  oc : P.T.oc ≠ 0 → P.x.alive = false
  rk : ∃ q : Nat, P.x.prio = (q : Int) ∧ q ≠ 0 ∧ q < m.cells.length ∧ Fre s q ∧ m.val q = P.x.rank
  kp : kpT kd = false → P.x.rank = 0
structure PQ (kd t i : Nat) (P : Pt) (s : Ws) (m : Mm) : Prop where
  th : P.T.th = (i : Int)
  jb : P.T.jb = 10 + (i : Int)
  tr : 0 ≤ P.T.tr ∧ P.T.tr ≤ (t : Int)
  no : P.T.a = none → P.T.tr = 0 ∧ P.T.oc = 0 ∧ P.T.st = -1
  so : ∀ ab, P.T.a = some ab → PA kd t P s m
structure FQ (kd t : Nat) (P : Nat → Pt) (s : Ws) (m : Mm) : Prop where
  pv : Pv s m
  c0 : 0 < m.cells.length
  f0 : Fre s 0
  pt : ∀ i, i < 4 → PQ kd t i (P i) s m
  dj : ∀ i k a b, i < 4 → k < 4 → i ≠ k → (P i).T.a = some a → (P k).T.a = some b → (P i).x.no ≠ (P k).x.no ∧ (P i).x.prio ≠ (P k).x.prio
section
variable {s s' : Ws} {m m' : Mm} {kd t t' i : Nat} {P : Nat → Pt} {p p' : Pt} {y : Nat → Prop} {z : Nat}
theorem PA.oth (h : PA kd t p s m) (hI : Inv s m) (g : Grw z y s m s' m') (hz : p.x.no ≠ z) (hy : ∀ q : Nat, p.x.prio = (q : Int) → ¬ y q) (hN : ∀ q i, q < m.cells.length → s.atts.length ≤ i → i < s'.atts.length → (s'.att i).status ≠ q ∧ (s'.att i).flag ≠ q) (ht : t ≤ t') : PA kd t' p s' m' := by
  obtain ⟨q, e, h0, hq, hf, hv⟩ := h.rk
  exact ⟨h.gx.grw hI g hz ht, h.th, h.st, h.pr, h.tr, by have := h.ln; omega, h.oc, ⟨q, e, h0, Nat.lt_of_lt_of_le hq g.ce, hf.grw g (fun i => hN q i hq), (g.pr q hq hf (hy q e)).trans hv⟩, h.kp⟩
theorem PQ.oth (h : PQ kd t i p s m) (hI : Inv s m) (g : Grw z y s m s' m') (hz : ∀ a, p.T.a = some a → p.x.no ≠ z ∧ ∀ q : Nat, p.x.prio = (q : Int) → ¬ y q) (hN : ∀ q i, q < m.cells.length → s.atts.length ≤ i → i < s'.atts.length → (s'.att i).status ≠ q ∧ (s'.att i).flag ≠ q) (ht : t ≤ t') : PQ kd t' i p s' m' :=
  ⟨h.th, h.jb, by have := h.tr; omega, h.no, fun ab ha => (h.so ab ha).oth hI g (hz ab ha).1 (hz ab ha).2 hN ht⟩
theorem FQ.upd (h : FQ kd t P s m) (_hi : i < 4) (g : Grw z y s m s' m') (pv : Pv s' m') (hN : ∀ q i, q < m.cells.length → s.atts.length ≤ i → i < s'.atts.length → (s'.att i).status ≠ q ∧ (s'.att i).flag ≠ q) (ht : t ≤ t')
    (hz : ∀ k a, k < 4 → k ≠ i → (P k).T.a = some a → (P k).x.no ≠ z ∧ ∀ q : Nat, (P k).x.prio = (q : Int) → ¬ y q) (hp : PQ kd t' i p' s' m') (hd : ∀ k a b, k < 4 → k ≠ i → p'.T.a = some a → (P k).T.a = some b → p'.x.no ≠ (P k).x.no ∧ p'.x.prio ≠ (P k).x.prio) :
    FQ kd t' (fun k => if k = i then p' else P k) s' m' := by
  refine ⟨pv, Nat.lt_of_lt_of_le h.c0 g.ce, h.f0.grw g (fun i => hN 0 i h.c0), fun k hk => ?_, fun k l a b hk hl hne ha hb => ?_⟩
  · by_cases e : k = i
    · simp only [if_pos e]; rw [e]; exact hp
    · simp only [if_neg e]; exact (h.pt k hk).oth h.pv.inv g (fun a ha => hz k a hk e ha) hN ht
  · by_cases e : k = i
    · have e' : l ≠ i := fun e' => hne (e.trans e'.symm)
      simp only [if_pos e, if_neg e'] at ha hb ⊢
      exact hd l a b hl e' ha hb
    · by_cases e' : l = i
      · simp only [if_neg e, if_pos e'] at ha hb ⊢
        have := hd k b a hk e hb ha
        exact ⟨this.1.symm, this.2.symm⟩
      · simp only [if_neg e, if_neg e'] at ha hb ⊢
        exact h.dj k l a b hk hl hne ha hb
theorem FQ.same (h : FQ kd t P s m) (hl : m'.cells.length = m.cells.length) (hv : ∀ c, m'.val c = m.val c) : FQ kd t P s m' := by
  have g := h.pv.same hl hv 0 (fun _ => False)
  refine ⟨g.1, by rw [hl]; exact h.c0, h.f0, fun k hk => ?_, h.dj⟩
  refine (h.pt k hk).oth h.pv.inv g.2 (fun a ha => ⟨?_, fun _ _ e => e⟩) (fun q i _ h1 h2 => by omega) (Nat.le_refl _)
  have := ((h.pt k hk).so a ha).gx.gc.no1
  omega
theorem FQ.go (h : FQ kd t P s m) (hi : i < 4) {ab : Nat} (ha : (P i).T.a = some ab) (hal : (P i).x.alive = true) {r : Ro} {x' : Tx} {rs' : List Rd} {n' : Nat} {f' : Int → Option Nat} {c' : Sc} (hc : c'.rs = rs') (po : PO kd t (P i).x (P i).c.rs (P i).n (P i).f s m r x' rs' n' f' s' m') :
    FQ kd (t + 1) (fun k => if k = i then ⟨(P i).T.out r.fin, c', x', n', f'⟩ else P k) s' m' := by
  have hp := h.pt i hi
  have hA := hp.so ab ha
  have l := po.ln
  have hN : ∀ q i, q < m.cells.length → s.atts.length ≤ i → i < s'.atts.length → (s'.att i).status ≠ q ∧ (s'.att i).flag ≠ q := fun q i _ h1 h2 => by omega
  have hT : ((P i).T.out r.fin).th = (P i).T.th ∧ ((P i).T.out r.fin).jb = (P i).T.jb ∧ ((P i).T.out r.fin).tr = (P i).T.tr ∧ ((P i).T.out r.fin).a = (P i).T.a ∧ ((P i).T.out r.fin).st = (P i).T.st ∧ ((P i).T.out r.fin).pr = (P i).T.pr := by
    unfold Tr.out; split <;> exact ⟨rfl, rfl, rfl, rfl, rfl, rfl⟩
  have ho0 : (P i).T.oc = 0 := by
    by_cases e : (P i).T.oc = 0
    · exact e
    · have := hA.oc e; rw [hal] at this; cases this
  have nn := po.sr.no
  refine h.upd hi po.gw po.pv hN (Nat.le_succ t) (fun k a hk hne hka => ?_) ⟨hT.1.trans hp.th, hT.2.1.trans hp.jb, ?_, fun e => ?_, fun ab' ha' => ?_⟩ (fun k a b hk hne _ hb => ?_)
  · have d := h.dj k i a ab hk hi hne hka ha
    exact ⟨d.1, fun q e e' => d.2 (e.trans e'.2.symm)⟩
  · have := hp.tr
    rw [hT.2.2.1]; omega
  · rw [hT.2.2.2.1, ha] at e; cases e
  · obtain ⟨q, e, h0, hq, hf, hv⟩ := hA.rk
    have hf' : Fre s' q := hf.grw po.gw (fun i => hN q i hq)
    refine ⟨by rw [hc]; exact po.gx, nn.2.1.trans (hA.th.trans hT.1.symm), nn.2.2.1.trans (hA.st.trans hT.2.2.2.2.1.symm), nn.2.2.2.trans (hA.pr.trans hT.2.2.2.2.2.symm), by rw [hT.2.2.1]; exact hA.tr, ?_, fun e => ?_, ⟨q, nn.2.2.2.trans e, h0, Nat.lt_of_lt_of_le hq po.gw.ce, hf', ?_⟩, fun e => ?_⟩
    · have := hA.ln
      show c'.rs.length ≤ t + 1 ∧ n' ≤ t + 1
      rw [hc]; omega
    · rcases po.sr.fi with e' | e'
      · exfalso
        apply e
        show ((P i).T.out r.fin).oc = 0
        unfold Tr.out
        rw [if_neg (by rw [e'.1]; decide)]
        exact ho0
      · exact e'.1
    · rcases po.sr.rk with ⟨_, _, hlt, hr, q', e', _, hv'⟩ | ⟨hk, hr⟩
      · obtain rfl : q' = q := by have := e'.symm.trans e; omega
        have := hA.gx.gc.rk
        rw [hv', hr, hv]
        exact wrap_id (by unfold In64; omega)
      · rw [po.gw.pr q hq hf (fun e => hk e.1), hv]; exact hr.symm
    · rcases po.sr.rk with ⟨_, e', _⟩ | ⟨_, hr⟩
      · rw [e] at e'; cases e'
      · exact hr.trans (hA.kp e)
  · have d := h.dj i k ab b hi hk (fun e => hne e.symm) ha hb
    exact ⟨by rw [nn.1]; exact d.1, by rw [nn.2.2.2]; exact d.2⟩
end
end Go.Proofs.YtgjndhbfjofkeaaGreatDoor

namespace Go.Proofs.YtgjndhbfjofkeaaGreatDoor
open Go.RowKit
section
variable {s s' : Ws} {m m' : Mm} {kd t t' i : Nat} {P : Nat → Pt} {p p' : Pt}
theorem Grw.mono {z : Nat} {y y' : Nat → Prop} (h : Grw z y s m s' m') (hy : ∀ q, y q → y' q) : Grw z y' s m s' m' := ⟨h.ob, h.al, h.at_, h.ll, h.lo, h.ce, h.st2, h.stn, fun q hq hf e => h.pr q hq hf (fun e' => e (hy q e'))⟩
theorem FQ.enter (h : FQ kd t P s m) (hi : i < 4) {q : Nat} (hq0 : q ≠ 0) (hq : q < m.cells.length) (hf : Fre s q) {st K : Int} (hst : In64 st) (hv : m.val q = K) (hK : 0 ≤ K ∧ K ≤ 255) (hkp : kpT kd = false → K = 0) (hoc : (P i).T.oc = 0) (hr : s.atts.length < 16384) (ho : ∀ k b, k < 4 → k ≠ i → (P k).T.a = some b → (P k).x.prio ≠ (q : Int)) {c' : Sc} (hc : c'.rs = []) (ab : Nat) :
    FQ kd (t + 1) (fun k => if k = i then ⟨(P i).T.begun (i : Int) st (q : Int) ab, c', Tx.fresh (i : Int) st (q : Int) s.atts.length K, 0, fun _ => none⟩ else P k) (s.beg (i : Int) st (q : Int) m.cells.length) ((m.make 1).make 0) := by
  obtain ⟨pv, g⟩ := h.pv.beg hr hq hf (i : Int) st hst s.atts.length (fun _ => False)
  have e : ∀ l, (s.beg (i : Int) st (q : Int) m.cells.length).att l = if l < s.atts.length then s.att l else if l = s.atts.length then ⟨(i : Int), st, (q : Int), m.cells.length, m.cells.length + 1⟩ else at0 := fun l => att_app
  have el : (s.beg (i : Int) st (q : Int) m.cells.length).atts.length = s.atts.length + 1 := by simp [Ws.beg]
  have hN : ∀ c l, c < m.cells.length → s.atts.length ≤ l → l < (s.beg (i : Int) st (q : Int) m.cells.length).atts.length → ((s.beg (i : Int) st (q : Int) m.cells.length).att l).status ≠ c ∧ ((s.beg (i : Int) st (q : Int) m.cells.length).att l).flag ≠ c := fun c l hc h1 h2 => by
    rw [e, if_neg (by omega), if_pos (by omega)]
    show m.cells.length ≠ c ∧ m.cells.length + 1 ≠ c
    omega
  have hp := h.pt i hi
  have gx := Gx.fresh (q := q) h.pv (i : Int) st hK kd (t + 1)
  refine h.upd hi g pv hN (Nat.le_succ t) (fun k a hk hne hka => ⟨?_, fun _ _ e => e⟩) ⟨rfl, hp.jb, ?_, fun e => (by cases e), fun ab' _ => ?_⟩ (fun k a b hk hne _ hb => ⟨?_, ?_⟩)
  · have := ((h.pt k hk).so a hka).gx.gc.no
    omega
  · have := hp.tr
    show 0 ≤ (P i).T.tr + 1 ∧ (P i).T.tr + 1 ≤ ((t + 1 : Nat) : Int)
    omega
  · refine ⟨by rw [hc]; exact gx, rfl, rfl, rfl, ?_, ?_, fun e => absurd hoc e, ⟨q, rfl, hq0, Nat.lt_of_lt_of_le hq g.ce, hf.grw g (fun l => hN q l hq), (g.pr q hq hf (fun e => e)).trans hv⟩, hkp⟩
    · have := hp.tr
      show 1 ≤ (P i).T.tr + 1
      omega
    · show c'.rs.length ≤ t + 1 ∧ 0 ≤ t + 1
      rw [hc]; exact ⟨Nat.zero_le _, Nat.zero_le _⟩
  · have := ((h.pt k hk).so b hb).gx.gc.no
    show s.atts.length ≠ (P k).x.no
    omega
  · exact fun e => ho k b hk hne hb e.symm
theorem FQ.clock (h : FQ kd t P s m) : FQ kd t P s ((m.bump 0).make 0) ∧ Fre s m.cells.length ∧ ((m.bump 0).make 0).val m.cells.length = 0 ∧ ((m.bump 0).make 0).cells.length = m.cells.length + 1 ∧ ((m.bump 0).make 0).val 0 = wrap64 (m.val 0 + 1) ∧ ∀ k b, k < 4 → (P k).T.a = some b → (P k).x.prio ≠ (m.cells.length : Int) := by
  have c0 := h.c0
  obtain ⟨p1, g1⟩ := h.pv.bump h.f0 0
  obtain ⟨p2, g2⟩ := p1.make 0 (by unfold In64; omega) 0 (fun c => c = 0)
  have g := g1.trans g2 (fun _ _ e => e)
  have l1 := m.len_bump 0
  refine ⟨⟨p2, Nat.lt_of_lt_of_le h.c0 g.ce, h.f0, fun k hk => ?_, h.dj⟩, Fre.new h.pv, ?_, ?_, ?_, fun k b hk hb e => ?_⟩
  · refine (h.pt k hk).oth h.pv.inv g (fun a ha => ⟨?_, fun q e e' => ?_⟩) (fun q l _ h1 h2 => by omega) (Nat.le_refl _)
    · have := ((h.pt k hk).so a ha).gx.gc.no1
      omega
    · obtain ⟨q', e1, e2, _⟩ := ((h.pt k hk).so a ha).rk
      rw [e] at e1
      omega
  · rw [Mm.val_make, if_pos l1.symm]
  · rw [Mm.len_make, l1]
  · rw [Mm.val_make, if_neg (by omega), Mm.val_bump, if_pos ⟨rfl, c0⟩]
  · obtain ⟨q', e1, _, e2, _⟩ := ((h.pt k hk).so b hb).rk
    rw [e] at e1
    omega
end
end Go.Proofs.YtgjndhbfjofkeaaGreatDoor

