import Derived.Test.YtfbbllokpikbiabGrM
namespace Go.Proofs.Ytfbbllokpikbiab
open Go.RowKit Go.Deep
/-- The blocks from lo to hi are as they were. -/
def Ag (lo hi : Nat) (W W' : World) : Prop := ∀ b, lo ≤ b → b < hi → W'.heap[b]? = W.heap[b]?
theorem Ag.refl (lo hi : Nat) (W : World) : Ag lo hi W W := fun _ _ _ => rfl
theorem Ag.trans {lo hi : Nat} {W W' W'' : World} (h : Ag lo hi W W') (h' : Ag lo hi W' W'') : Ag lo hi W W'' := fun b h1 h2 => (h' b h1 h2).trans (h b h1 h2)
theorem Ag.of {lo hi : Nat} {W W' : World} {S : Nat → Prop} (k : Keeps S W W') (hs : hi ≤ W.heap.size) (hS : ∀ b, lo ≤ b → b < hi → ¬ S b) : Ag lo hi W W' := fun b h1 h2 => k.block b (by omega) (hS b h1 h2)
theorem PM.ag {lo hi : Nat} {W W' : World} {a : Option Addr} {L : List Nat} (h : PM W a L) (hb : ∀ b off, a = some ⟨b, off, none⟩ → lo ≤ b ∧ b < hi) (k : Ag lo hi W W') : PM W' a L := fun i hi2 => by
  obtain ⟨b, off, e, hc⟩ := h i hi2
  obtain ⟨h1, h2⟩ := hb b off e
  exact ⟨b, off, e, (World.cell?_of_block (k b h1 h2)).trans hc⟩
section
variable {w0 w : World} {g : List Eg} {n : Nat} {o : OV} {xs : List It} {F : List Nat} {cf : Nat → Nat} {v : Value} {L : List Nat}
theorem comes_any (h : OS w0 w g n o xs F cf v L) {P : Nat → Prop} (hq : Qs xs P) (hP : ∀ u, P u → u < n) (hn : n ≤ 4096) {x : Nat} (hx : x < n) (hnp : ¬ P x) : Calls Try.prog 42 #[.int .i64 (x : Int), .pointer (some ⟨o.pa, 0, none⟩), .pointer (some ⟨o.pr, 0, none⟩)] w fun e w' => e = .returned (.tuple #[]) ∧ ∃ ys F', OS w0 w' g n o ys F' cf v L ∧ Qs ys (fun u => P u ∨ (u = x ∧ cf x = 0)) ∧ Ag o.lo o.hi w w' := by
  by_cases hc : cf x = 0
  · refine (comes_yes h hx hn hc (hq.no hnp) (Nat.lt_of_lt_of_le (hq.len hP hnp hx) hn)).mono ?_
    rintro e w' ⟨rfl, ys, F', hO, hp, hL⟩
    exact ⟨rfl, ys, F', hO, (hq.add hp hO.q.nodup).congr (fun u => by simp [hc]), Ag.of hL.keeps h.l.s (fun b h1 h2 e => (h.dF b e).2.2.2 ⟨h1, h2⟩)⟩
  · refine (comes_no h hx hc).mono ?_
    rintro e w' ⟨rfl, k⟩
    exact ⟨rfl, xs, F, h.keep k, hq.congr (fun u => by simp [hc]), Ag.of k h.l.s (fun _ _ _ e => e)⟩
theorem take_os (h : OS w0 w g n o xs F cf v L) {P : Nat → Prop} (hq : Qs xs P) (hl : 0 < xs.length) : Calls Try.prog 45 #[.pointer (some ⟨o.qb, 0, none⟩)] w fun e w' => ∃ (x : Nat) (ys : List It) (F' : List Nat), e = .returned (.tuple #[.agg #[.int .i64 (x : Int), .int .i64 (x : Int)], .int .i64 0]) ∧ OS w0 w' g n o ys F' cf v L ∧ Qs ys (fun u => P u ∧ u ≠ x) ∧ P x ∧ ∀ u, P u → x ≤ u := by
  refine (take_some h.q hl).mono ?_
  rintro e w' ⟨x, ys, F', rfl, hQ, hp, hb, hL⟩
  obtain ⟨u, rfl, h1, h2, h3⟩ := hq.take hp hb
  exact ⟨u, ys, F', rfl, h.queue hQ hL, h3, h1, h2⟩
/-- A number behind the list. -/
theorem app_os (h : OS w0 w g n o xs F cf v L) (hm : (L.length + 1) * 8 ≤ 140737488355328) (x : Nat) : ∃ a' c' W', (Builtin.append_ #[23, 23] 23 #[v, .slice (some ⟨w.heap.size, 0, none⟩) 1 1]).run Try.prog (w.alloc (.cells #[.int .i64 (x : Int)] 3)) = .ok (.slice a' (L.length + 1) c') W' ∧ OS w0 W' g n o xs F cf (.slice a' (L.length + 1) c') (L ++ [x]) ∧ Keeps (fun i => v.ownBlock = some i) w W' := by
  obtain ⟨a', c', W', h1, h2, h3, h4⟩ := append_n h.r h.k.size hm x
  exact ⟨a', c', W', h1, h.row (by rw [List.length_append]; exact h2) h3 h4, h3⟩
end
theorem tc0 (g : List Eg) : tc (g.take 0) = fun _ => 0 := by funext u; rw [List.take_zero]; rfl
theorem tc_up (g : List Eg) (c : Eg) : ∀ u, upD (tc g) c.t (tc g c.t + 1) u = tc (g ++ [c]) u := fun u => by
  rw [tc_snoc]
  unfold upD
  by_cases h : u = c.t
  · rw [if_pos h, if_pos h.symm, h]
  · rw [if_neg h, if_neg (fun e => h e.symm)]; rfl
theorem cJ_up {g : List Eg} {L : List Nat} {v j : Nat} (hj : j < (ldN g v).length) : ∀ u, upD (cJ g L v j) ((ldN g v).getD j 0) (cJ g L v (j + 1) ((ldN g v).getD j 0)) u = cJ g L v (j + 1) u := fun u => by
  have h := cJ_next (L := L) hj u
  unfold upD
  by_cases e : u = (ldN g v).getD j 0
  · rw [if_pos e, e]
  · rw [if_neg e, h, if_neg (fun q => e q.symm)]; rfl
/-- A node's edges lead to none that has come. -/
theorem ord_to {g : List Eg} {n : Nat} {L : List Nat} {v x : Nat} (h : OrdL g n L) (hv : Fre g n L v) (hx : x ∈ ldN g v) : x ∉ L ++ [v] := fun hm => by
  obtain ⟨e, he, hf, ht⟩ := mem_ldN.1 hx
  rcases List.mem_append.1 hm with hm | hm
  · exact hv.2.1 (hf ▸ h.closed e he (ht ▸ hm))
  · simp only [List.mem_singleton] at hm
    have := hv.2.2 e he (ht.trans hm)
    rw [hf] at this
    exact hv.2.1 this
/-- What oneByOne answers. -/
def OnP (g : List Eg) (n : Nat) (w : World) (e : Ending) (w' : World) : Prop := ∃ v L, e = .returned v ∧ w'.ownsRow w.heap.size 3 1 v L.length (pvs L) ∧ OrdL g n L ∧ (∀ u, ¬ Fre g n L u) ∧ Keeps (fun _ => False) w w'
/-- The state at the head of the last loop. -/
structure OH (w0 W : World) (g : List Eg) (n : Nat) (o : OV) (v : Value) (L : List Nat) (xs : List It) (F : List Nat) : Prop where
  s : OS w0 W g n o xs F (cnt g L) v L
  o : OrdL g n L
  q : Qs xs (Fre g n L)
theorem OrdL.len {g : List Eg} {n : Nat} {L : List Nat} (h : OrdL g n L) : L.length ≤ n := nodup_leN n L h.nodup h.lt
theorem OH.start {w0 W : World} {g : List Eg} {n : Nat} {o : OV} {xs : List It} {F : List Nat} (h : OS w0 W g n o xs F (tc g) (.slice none 0 0) []) (hq : Qs xs (fun u => u < n ∧ tc g u = 0)) : OH w0 W g n o (.slice none 0 0) [] xs F := by
  have e : tc g = cnt g [] := funext (tc_cnt g)
  rw [e] at h
  exact ⟨h, .nil, hq.congr (fun u => by rw [fre_cnt, tc_cnt]; simp)⟩
/-- The state within a node's edges. -/
structure OI (w0 W : World) (g : List Eg) (n : Nat) (o : OV) (v : Value) (L : List Nat) (x j : Nat) (xs : List It) (F : List Nat) : Prop where
  s : OS w0 W g n o xs F (cJ g L x j) v (L ++ [x])
  q : Qs xs (fun u => u < n ∧ u ∉ L ++ [x] ∧ cJ g L x j u = 0)
theorem OI.start {w0 W : World} {g : List Eg} {n : Nat} {o : OV} {v : Value} {L : List Nat} {x : Nat} {xs : List It} {F : List Nat} (h : OS w0 W g n o xs F (cnt g L) v (L ++ [x])) (hx : Fre g n L x) (hq : Qs xs (fun u => Fre g n L u ∧ u ≠ x)) : OI w0 W g n o v L x 0 xs F := by
  have e : cnt g L = cJ g L x 0 := funext (fun u => (cJ_zero hx.2.1 u).symm)
  refine ⟨by rw [← e]; exact h, hq.congr (fun u => ?_)⟩
  rw [cJ_zero hx.2.1, fre_cnt]
  simp [List.mem_append]
  constructor
  · rintro ⟨⟨a, b, c⟩, d⟩; exact ⟨a, ⟨b, d⟩, c⟩
  · rintro ⟨a, ⟨b, d⟩, c⟩; exact ⟨⟨a, b, c⟩, d⟩
theorem OI.done {w0 W : World} {g : List Eg} {n : Nat} {o : OV} {v : Value} {L : List Nat} {x j : Nat} {xs : List It} {F : List Nat} (h : OI w0 W g n o v L x j xs F) (hj : (ldN g x).length ≤ j) (ho : OrdL g n L) (hx : Fre g n L x) (hl : ∀ u, Fre g n L u → x ≤ u) : OH w0 W g n o v (L ++ [x]) xs F := by
  have e : cJ g L x j = cnt g (L ++ [x]) := funext (cJ_end hj)
  have hs := h.s
  rw [e] at hs
  exact ⟨hs, ho.snoc hx hl, h.q.congr (fun u => by rw [cJ_end hj, fre_cnt])⟩
theorem OI.next {w0 : World} {g : List Eg} {n : Nat} {o : OV} {v : Value} {L : List Nat} {x j : Nat} {xs' : List It} {F' : List Nat} (hj : j < (ldN g x).length) (ho : OrdL g n L) (hx : Fre g n L x) (hlt : (ldN g x).getD j 0 < n) {W' : World} (hs : OS w0 W' g n o xs' F' (cJ g L x (j + 1)) v (L ++ [x])) (hq : Qs xs' (fun u => (u < n ∧ u ∉ L ++ [x] ∧ cJ g L x j u = 0) ∨ (u = (ldN g x).getD j 0 ∧ cJ g L x (j + 1) ((ldN g x).getD j 0) = 0))) : OI w0 W' g n o v L x (j + 1) xs' F' := by
  refine ⟨hs, hq.congr (fun u => ?_)⟩
  have hn := cJ_next (L := L) hj u
  constructor
  · rintro (⟨a, b, c⟩ | ⟨rfl, c⟩)
    · exact ⟨a, b, by omega⟩
    · exact ⟨hlt, ord_to ho hx (getD_memN hj), c⟩
  · rintro ⟨a, b, c⟩
    by_cases e : u = (ldN g x).getD j 0
    · exact .inr ⟨e, e ▸ c⟩
    · rw [if_neg (fun q => e q.symm)] at hn
      exact .inl ⟨a, b, by omega⟩
end Go.Proofs.Ytfbbllokpikbiab
