import Derived.Test.YtfbbllokpikbiabGrS
namespace Go.Proofs.Ytfbbllokpikbiab
open Go.RowKit Go.Deep
attribute [local go_sem] Oper.semAt_some run_store_nf run_store_f
set_option maxRecDepth 100000 in
/-- A copy of numbers. -/
theorem copy_n {W : World} {a : Option Addr} {cap : Nat} {L : List Nat} (hl : PM W a L) (hz : a = none → cap = 0) (hn : L.length ≤ 4096) :
    ∃ v' W', (Builtin.append_ #[23, 23] 23 #[.slice (some ⟨W.heap.size, 0, none⟩) 0 0, .slice a L.length cap]).run Try.prog (W.alloc (.cells #[] 3)) = .ok v' W' ∧ W'.ownsRow W.heap.size 3 1 v' L.length (pvs L) ∧ Keeps (fun _ => False) W W' := by
  obtain ⟨i0, hi0, hzz⟩ := Option.map_eq_some_iff.1 iI
  simp only [Prod.mk.injEq] at hzz
  obtain ⟨hz0, hz1, hz2⟩ := hzz
  have k0 : Keeps (fun _ => False) W (W.alloc (.cells #[] 3)) := (Keeps.refl _ W).alloc _
  have o0 : (W.alloc (.cells #[] 3)).ownsRow W.heap.size 3 1 (.slice (some ⟨W.heap.size, 0, none⟩) 0 0) 0 [] := ⟨by simp, .inr ⟨W.heap.size, 0, #[], rfl, Nat.le_refl _, by rw [show (W.alloc (.cells #[] 3)).heap = W.heap.push (.cells #[] 3) from rfl]; simp, Nat.le_refl _, by unfold maxLen; omega, by simp, by simp⟩⟩
  cases a with
  | none =>
    have hl0 : L = [] := by
      cases L with
      | nil => rfl
      | cons c l =>
        obtain ⟨b, off, e, _⟩ := hl 0 (by simp)
        cases e
    subst hl0
    rw [hz rfl]
    exact ⟨_, _, run_append_owned_none (P := Try.prog) (w := W.alloc (.cells #[] 3)) W.heap.size 23 23 3 i0 1 uI hi0 _ 0 [] o0, o0, k0⟩
  | some p =>
    obtain ⟨v', w', hr, ho, hgr, _, _⟩ := run_append_own_at (P := Try.prog) (w := W.alloc (.cells #[] 3)) W.heap.size 23 23 3 i0 _ 1 8 uI hi0 hz0 hz1 hz2 rfl (by decide) _ 0 [] o0 p L.length cap (pvs L) (by rw [pvs_len]; omega) (fun j y hy => by
      have hj : j < L.length := by rw [← pvs_len]; exact (List.getElem?_eq_some_iff.1 hy).1
      obtain ⟨b, off, e, hc⟩ := hl j hj
      injection e with e
      subst e
      have e2 : (pvs L)[j]? = some (.int .i64 ((L.getD j 0 : Nat) : Int)) := by
        unfold pvs
        rw [List.getElem?_map, List.getElem?_eq_getElem hj, List.getD_eq_getElem?_getD, List.getElem?_eq_getElem hj]
        rfl
      rw [e2] at hy
      cases hy
      rw [add_atT]
      exact k0.cell hc (fun e => e)) (fun u hu => by
        unfold pvs at hu
        obtain ⟨x, -, rfl⟩ := List.mem_map.1 hu
        rfl) (by unfold maxLen; omega) (by omega) k0.size
    rw [Nat.zero_add, List.nil_append] at ho
    exact ⟨v', w', hr, ho, k0.trans' ((Keeps.refl _ _).grown hgr (S := fun i => i = W.heap.size) (fun i _ e => by simp [Value.ownBlock] at e; exact e.symm)) (fun _ _ e => e) (fun i hi e => by have e : i = W.heap.size := e; omega)⟩
set_option maxHeartbeats 1000000 in
set_option maxRecDepth 100000 in
theorem clone_n {w : World} {ad : Addr} {fc : Nat} {L : List Nat} (hl : PM w (some ad) L) (hn : L.length ≤ 4096) : Calls Try.prog 30 #[.slice (some ad) L.length fc] w fun e w' => ∃ v, e = .returned v ∧ w'.ownsRow w.heap.size 3 1 v L.length (pvs L) ∧ Keeps (fun _ => False) w w' := by
  obtain ⟨v', W', h1, h2, h3⟩ := copy_n (cap := fc) hl (fun e => by cases e) hn
  obtain ⟨va, vc, rfl, -⟩ := own_slice h2
  have HX : Hid (W'.ownsRow w.heap.size 3 1 (.slice va L.length vc) L.length (pvs L) ∧ Keeps (fun _ => False) w W') := ⟨h2, h3⟩
  clear h2 h3 hl
  generalize hN : L.length = N at *
  clear hN
  have hq : ∀ w : World, (binOp .eql 23 (.slice (some ad) N fc) (.slice none 0 0)).run Try.prog w = .ok (.bool false) w := fun w => by kernel_rfl
  go_enter Try.func30, Try.ntmps30
  go_wp2_with (at_builtin; refine wpList_append_tL rfl _ _ _ rfl _ _ _ W' rfl rfl h1 ?_; clear h1)
  go_ret
  exact ⟨_, rfl, HX.out.1, HX.out.2⟩
/-- A list is cut back. -/
theorem own_cutN {W : World} {base m k c : Nat} {a : Option Addr} {L R : List Nat} (h : W.ownsRow base 3 1 (.slice a (m + k) c) (m + k) (pvs (L ++ R))) (hm : L.length = m) (hk : 0 < k) : W.ownsRow base 3 1 (.slice a m c) m (pvs L) ∧ m + k ≤ c ∧ ∃ g, a = some ⟨g, 0, none⟩ := by
  rcases h.2 with ⟨e, _⟩ | ⟨g, cap, cur, e, hb, hc, h1, h2, h3, h4⟩
  · injection e with _ e _
    omega
  · injection e with e1 _ e3
    subst e1 e3
    refine ⟨⟨by rw [pvs_len]; omega, .inr ⟨g, c, cur, rfl, hb, hc, by omega, h2, h3, ?_⟩⟩, h1, g, rfl⟩
    have : (cur.toList.take ((m + k) * 1)).take (m * 1) = (pvs (L ++ R)).take (m * 1) := by rw [h4]
    rw [List.take_take, show min (m * 1) ((m + k) * 1) = m * 1 by omega] at this
    rw [this]
    unfold pvs
    rw [List.map_append, List.take_append_of_le_length (by rw [List.length_map]; omega), List.take_of_length_le (by rw [List.length_map]; omega)]
theorem pm_drop {W : World} {a : Option Addr} {L R : List Nat} {b : Nat} (h : PM W a (L ++ R)) (ha : a = some ⟨b, 0, none⟩) : PM W (some ⟨b, L.length, none⟩) R := fun i hi => by
  obtain ⟨b', off, e, hc⟩ := h (L.length + i) (by rw [List.length_append]; omega)
  rw [ha] at e
  injection e with e
  injection e with e1 e2 _
  subst e1 e2
  refine ⟨b, L.length, rfl, ?_⟩
  rw [List.getD_eq_getElem?_getD, List.getElem?_append_right (by omega), show L.length + i - L.length = i by omega, ← List.getD_eq_getElem?_getD, Nat.zero_add] at hc
  exact hc
theorem wpList_store_slc {w : World} {ops : Array Oper} {rest : List Oper} {o : Oper} {a : Act} {Q : Exit → Act → World → Prop} (t : TypeId) (hr : ∀ (W : World) (b : Nat), (W.cell? ⟨b, 0, none⟩).isSome = true → W.frozen? ⟨b, 0, none⟩ = false → ∀ sa sn sc, (storeVar t ⟨b, 0, none⟩ (.slice sa sn sc)).run Try.prog W = .ok () (W.setCell ⟨b, 0, none⟩ (.slice sa sn sc))) (hgd : o.guard = none) (hd : o.dst = none) (x y : Operand) (ho : o.op = .store t x y) (b : Nat) (hx : a.eval x = .pointer (some ⟨b, 0, none⟩)) (sa : Option Addr) (sn sc : Nat) (hy : a.eval y = .slice sa sn sc)
    {v : Value} (hB : CL w b [v]) (h : ∀ w1, CL w1 b [.slice sa sn sc] → Keeps (fun k => k = b) w w1 → w1.heap.size = w.heap.size → wpList Try.prog ops Q rest a w1) : wpList Try.prog ops Q (o :: rest) a w :=
  wpList_plain hgd fun _ hK => by
    unfold Oper.wp execOp
    simp only [ho, hx, hy, Instr.storeAt, Instr.sureAddr, Sem.run_bind, Sem.run_pure, Result.andThen_ok, hr w b (by rw [hB.c 0 _ rfl]; rfl) (hB.z 0 (by show 0 < 1; decide)) sa sn sc]
    refine hK _ _ ?_
    rw [hd]
    exact (h _ (hB.set (o := 0) (by show 0 < 1; decide) _) ((Keeps.refl (fun k => k = b) w).setCell (p := ⟨b, 0, none⟩) (fun _ => rfl) _) (by simp))
theorem st35 (W : World) (b : Nat) (h : (W.cell? ⟨b, 0, none⟩).isSome = true) (hz : W.frozen? ⟨b, 0, none⟩ = false) (sa : Option Addr) (sn sc : Nat) : (storeVar 23 ⟨b, 0, none⟩ (.slice sa sn sc)).run Try.prog W = .ok () (W.setCell ⟨b, 0, none⟩ (.slice sa sn sc)) := run_store_sl rfl h hz sa sn sc
theorem st57 (W : World) (b : Nat) (h : (W.cell? ⟨b, 0, none⟩).isSome = true) (hz : W.frozen? ⟨b, 0, none⟩ = false) (sa : Option Addr) (sn sc : Nat) : (storeVar 41 ⟨b, 0, none⟩ (.slice sa sn sc)).run Try.prog W = .ok () (W.setCell ⟨b, 0, none⟩ (.slice sa sn sc)) := by
  obtain ⟨u, hu⟩ := Option.isSome_iff_exists.1 h
  go_simp
/-- A part in memory. -/
structure Pq where
  a : Option Addr
  c : Nat
  l : List Nat
instance : Inhabited Pq := ⟨⟨none, 0, []⟩⟩
def Pq.val (q : Pq) : Value := .slice q.a q.l.length q.c
/-- The state of parts, as its closure finds it. -/
structure PX (bc lo hi mb n : Nat) (g : List Eg) (w : World) (T : List Nat) (bk : Nat → Nat) (tv : Value) (qs : List Pq) (av : Value) : Prop where
  c0 : w.cell? ⟨bc, 0, none⟩ = some (.map (some mb))
  c1 : w.cell? ⟨bc + 1, 0, none⟩ = some (.int .i64 ((n : Int) + 1))
  c2 : CL w (bc + 2) [av]
  c3 : CL w (bc + 3) [tv]
  f4 : FB w (bc + 4) n (nms bk)
  c5 : w.cell? ⟨bc + 5, 0, none⟩ = some (.slice (some ⟨bc + 4, 0, none⟩) n n)
  c6 : w.cell? ⟨bc + 6, 0, none⟩ = some (.func (.func 29) #[] #[.pointer (some ⟨bc + 3, 0, none⟩), .pointer (some ⟨bc + 5, 0, none⟩), .pointer (some ⟨bc, 0, none⟩), .pointer (some ⟨bc + 6, 0, none⟩), .pointer (some ⟨bc + 1, 0, none⟩), .pointer (some ⟨bc + 2, 0, none⟩)])
  l : LR w lo hi mb g
  h : hi ≤ bc
  z : bc + 7 ≤ w.heap.size
  rt : w.ownsRow (bc + 7) 3 1 tv T.length (pvs T)
  ra : w.ownsRow (bc + 7) 23 1 av qs.length (qs.map Pq.val)
  rq : ∀ q ∈ qs, w.ownsRow (bc + 7) 3 1 q.val q.l.length (pvs q.l)
  dq : qs.Pairwise (fun p q => ∀ b, p.val.ownBlock = some b → q.val.ownBlock ≠ some b)
  dt : ∀ q ∈ qs, ∀ b, q.val.ownBlock = some b → tv.ownBlock ≠ some b
section
variable {bc lo hi mb n : Nat} {g : List Eg} {w : World} {T : List Nat} {bk : Nat → Nat} {tv : Value} {qs : List Pq} {av : Value}
theorem PX.keep (h : PX bc lo hi mb n g w T bk tv qs av) {w' : World} (k : Keeps (fun _ => False) w w') : PX bc lo hi mb n g w' T bk tv qs av :=
  ⟨k.cell h.c0 (fun e => e), k.cell h.c1 (fun e => e), h.c2.stays k (fun e => e), h.c3.stays k (fun e => e), h.f4.keep k (fun e => e), k.cell h.c5 (fun e => e), k.cell h.c6 (fun e => e), h.l.keep k (fun _ _ _ e => e), h.h, Nat.le_trans h.z k.size, k.owns h.rt (fun _ _ e => e), k.owns h.ra (fun _ _ e => e), fun q hq => k.owns (h.rq q hq) (fun _ _ e => e), h.dq, h.dt⟩
/-- A number of the list of places is written. -/
theorem PX.put (h : PX bc lo hi mb n g w T bk tv qs av) {w' : World} {bk' : Nat → Nat} (hf : FB w' (bc + 4) n (nms bk')) (k : Keeps (fun i => i = bc + 4) w w') : PX bc lo hi mb n g w' T bk' tv qs av := by
  have ne : ∀ {i : Nat}, i ≠ bc + 4 → ¬ (fun i => i = bc + 4) i := fun h e => h e
  have low : ∀ {e : TypeId} {v : Value} {m : Nat} {xs : List Value}, w.ownsRow (bc + 7) e 1 v m xs → w'.ownsRow (bc + 7) e 1 v m xs := fun ho => k.owns ho (fun b hb e => by have := owns_baseT ho b hb; have e : b = bc + 4 := e; omega)
  exact ⟨k.cell h.c0 (ne (i := bc) (by omega)), k.cell h.c1 (ne (i := bc + 1) (by omega)), h.c2.stays k (ne (by omega)), h.c3.stays k (ne (by omega)), hf, k.cell h.c5 (ne (i := bc + 5) (by omega)), k.cell h.c6 (ne (i := bc + 6) (by omega)), h.l.keep k (fun b _ hb e => by have e : b = bc + 4 := e; have := h.h; omega), h.h, Nat.le_trans h.z k.size, low h.rt, low h.ra, fun q hq => low (h.rq q hq), h.dq, h.dt⟩
/-- The trail is another one: a row of its own, and its box. -/
theorem PX.trail (h : PX bc lo hi mb n g w T bk tv qs av) {w1 w2 : World} {T' : List Nat} {tv' : Value} (k1 : Keeps (fun i => tv.ownBlock = some i) w w1) (hr : w1.ownsRow (bc + 7) 3 1 tv' T'.length (pvs T')) (hob : tv'.ownBlock = tv.ownBlock ∨ ∃ b, tv'.ownBlock = some b ∧ w.heap.size ≤ b) (k2 : Keeps (fun i => i = bc + 3) w1 w2) (hc : CL w2 (bc + 3) [tv']) : PX bc lo hi mb n g w2 T' bk tv' qs av := by
  have nt : ∀ {i : Nat}, i < bc + 7 → ¬ tv.ownBlock = some i := fun hi e => by have := owns_baseT h.rt _ e; omega
  have n3 : ∀ {i : Nat}, i ≠ bc + 3 → ¬ (fun i => i = bc + 3) i := fun h e => h e
  have low2 : ∀ {e : TypeId} {v : Value} {m : Nat} {xs : List Value}, w1.ownsRow (bc + 7) e 1 v m xs → w2.ownsRow (bc + 7) e 1 v m xs := fun ho => k2.owns ho (fun b hb e => by have := owns_baseT ho b hb; have e : b = bc + 3 := e; omega)
  have hra : w1.ownsRow (bc + 7) 23 1 av qs.length (qs.map Pq.val) := k1.owns h.ra (fun b hb e => own_apart h.ra h.rt (by decide) b hb e)
  exact ⟨k2.cell (k1.cell h.c0 (nt (by show bc < bc + 7; omega))) (n3 (i := bc) (by omega)), k2.cell (k1.cell h.c1 (nt (by show bc + 1 < bc + 7; omega))) (n3 (i := bc + 1) (by omega)), (h.c2.stays k1 (nt (by omega))).stays k2 (n3 (by omega)), hc, (h.f4.keep k1 (nt (by omega))).keep k2 (n3 (by omega)), k2.cell (k1.cell h.c5 (nt (by show bc + 5 < bc + 7; omega))) (n3 (i := bc + 5) (by omega)), k2.cell (k1.cell h.c6 (nt (by show bc + 6 < bc + 7; omega))) (n3 (i := bc + 6) (by omega)), (h.l.keep k1 (fun b _ hb e => nt (by have := h.h; omega) e)).keep k2 (fun b _ hb e => by have e : b = bc + 3 := e; have := h.h; omega), h.h, by have := k1.size; have := k2.size; have := h.z; omega, low2 hr, low2 hra, fun q hq => low2 (k1.owns (h.rq q hq) (fun b hb e => h.dt q hq b hb e)), h.dq, fun q hq b hb e => by
    rcases hob with r | ⟨b', r, hb'⟩
    · rw [r] at e
      exact h.dt q hq b hb e
    · rw [r] at e
      injection e with e
      have := owns_lt' (h.rq q hq) b hb
      omega⟩
/-- A part more. -/
theorem PX.part (h : PX bc lo hi mb n g w T bk tv qs av) {w1 w2 : World} {q : Pq} {av' : Value} (hq : w.ownsRow (bc + 7) 3 1 q.val q.l.length (pvs q.l)) (hq1 : ∀ p ∈ qs, ∀ b, p.val.ownBlock = some b → q.val.ownBlock ≠ some b) (hq2 : ∀ b, q.val.ownBlock = some b → tv.ownBlock ≠ some b) (k1 : Keeps (fun i => av.ownBlock = some i) w w1) (hr : w1.ownsRow (bc + 7) 23 1 av' (qs.length + 1) (qs.map Pq.val ++ [q.val])) (k2 : Keeps (fun i => i = bc + 2) w1 w2) (hc : CL w2 (bc + 2) [av']) : PX bc lo hi mb n g w2 T bk tv (qs ++ [q]) av' := by
  have nt : ∀ {i : Nat}, i < bc + 7 → ¬ av.ownBlock = some i := fun hi e => by have := owns_baseT h.ra _ e; omega
  have n3 : ∀ {i : Nat}, i ≠ bc + 2 → ¬ (fun i => i = bc + 2) i := fun h e => h e
  have low2 : ∀ {e : TypeId} {v : Value} {m : Nat} {xs : List Value}, w1.ownsRow (bc + 7) e 1 v m xs → w2.ownsRow (bc + 7) e 1 v m xs := fun ho => k2.owns ho (fun b hb e => by have := owns_baseT ho b hb; have e : b = bc + 2 := e; omega)
  have apart : ∀ {v : Value} {m : Nat} {xs : List Value}, w.ownsRow (bc + 7) 3 1 v m xs → w1.ownsRow (bc + 7) 3 1 v m xs := fun ho => k1.owns ho (fun b hb e => own_apart ho h.ra (by decide) b hb e)
  refine ⟨k2.cell (k1.cell h.c0 (nt (by show bc < bc + 7; omega))) (n3 (i := bc) (by omega)), k2.cell (k1.cell h.c1 (nt (by show bc + 1 < bc + 7; omega))) (n3 (i := bc + 1) (by omega)), hc, (h.c3.stays k1 (nt (by omega))).stays k2 (n3 (by omega)), (h.f4.keep k1 (nt (by omega))).keep k2 (n3 (by omega)), k2.cell (k1.cell h.c5 (nt (by show bc + 5 < bc + 7; omega))) (n3 (i := bc + 5) (by omega)), k2.cell (k1.cell h.c6 (nt (by show bc + 6 < bc + 7; omega))) (n3 (i := bc + 6) (by omega)), (h.l.keep k1 (fun b _ hb e => nt (by have := h.h; omega) e)).keep k2 (fun b _ hb e => by have e : b = bc + 2 := e; have := h.h; omega), h.h, by have := k1.size; have := k2.size; have := h.z; omega, low2 (apart h.rt), ?_, fun p hp => ?_, ?_, fun p hp b hb e => ?_⟩
  · rw [List.length_append, List.map_append]
    exact low2 hr
  · rcases List.mem_append.1 hp with hp | hp
    · exact low2 (apart (h.rq p hp))
    · simp only [List.mem_singleton] at hp
      subst hp
      exact low2 (apart hq)
  · rw [List.pairwise_append]
    exact ⟨h.dq, by simp, fun p hp p' hp' => by simp only [List.mem_singleton] at hp'; subst hp'; exact hq1 p hp⟩
  · rcases List.mem_append.1 hp with hp | hp
    · exact h.dt p hp b hb e
    · simp only [List.mem_singleton] at hp
      subst hp
      exact hq2 b hb e
end
end Go.Proofs.Ytfbbllokpikbiab
