import Derived.Test.YtfbbllokpikbiabGrW
namespace Go.Proofs.Ytfbbllokpikbiab
open Go.RowKit Go.Deep
attribute [local go_sem] Oper.semAt_some run_store_nf run_store_f
/-- What Parts answers, the program's and the document's. -/
def PsA (n : Int) (l : List Ed) (P : List (List Nat)) (ec : Int) : Prop := (fltG n l ≠ 0 ∧ ec = fltG n l ∧ P = []) ∨ (fltG n l = 0 ∧ ec = 0 ∧ ∀ (m : Nat) (g : List Eg), n = (m : Int) → l = g.map Eg.ed → PtA g m P)
theorem PsA.one {n : Int} {l : List Ed} {P P' : List (List Nat)} {ec ec' : Int} (h : PsA n l P ec) (h' : PsA n l P' ec') : P = P' ∧ ec = ec' := by
  rcases h with ⟨h1, h2, h3⟩ | ⟨h1, h2, h3⟩ <;> rcases h' with ⟨g1, g2, g3⟩ | ⟨g1, g2, g3⟩
  · exact ⟨h3.trans g3.symm, h2.trans g2.symm⟩
  · exact absurd g1 h1
  · exact absurd h1 g1
  · obtain ⟨m, g, e1, -, e2, -⟩ := good_eg h1
    exact ⟨(h3 m g e1 e2).one (g3 m g e1 e2), h2.trans g2.symm⟩
theorem PsA.ok {m : Nat} {g : List Eg} {P : List (List Nat)} (h0 : fltG (m : Int) (g.map Eg.ed) = 0) (h : PtA g m P) : PsA (m : Int) (g.map Eg.ed) P 0 := .inr ⟨h0, rfl, fun m' g' e1 e2 => by
  obtain rfl : m = m' := by omega
  rw [← eg_inj e2]
  exact h⟩
def PsP (n : Int) (l : List Ed) (w : World) (e : Ending) (w' : World) : Prop := ∃ v qs ec, e = .returned (.tuple #[v, .int .i64 ec]) ∧ PV w.heap.size w' v qs ∧ PsA n l (qs.map Pq.l) ec ∧ Keeps (fun _ => False) w w'
theorem PV.low {base base' : Nat} {w : World} {v : Value} {qs : List Pq} (h : PV base w v qs) (hb : base' ≤ base) : PV base' w v qs := ⟨owns_low h.ra hb, fun q hq => owns_low (h.rq q hq) hb, h.dq⟩
set_option maxHeartbeats 1000000 in
set_option maxRecDepth 100000 in
theorem Parts_any {w : World} {a : Option Addr} {cap : Nat} {l : List Ed} (n : Int) (hl : EL w a l) (hlen : l.length ≤ 4398046511104) : Calls Try.prog 14 #[.int .i64 n, .slice a l.length cap] w (PsP n l w) := by
  by_cases h0 : fltG n l = 0
  · have hfa := fault_any (cap := cap) n hl hlen
    obtain ⟨m, g, rfl, hm, rfl, hbl⟩ := good_eg h0
    have HPX : Hid (∀ v qs w1 w', Keeps (fun _ => False) w w1 → PV w1.heap.size w' v qs → PtA g m (qs.map Pq.l) → Keeps (fun _ => False) w1 w' → PsP (m : Int) (g.map Eg.ed) w (.returned (.tuple #[v, .int .i64 0])) w') := fun v qs w1 w' k1 h1 h2 k2 => ⟨v, qs, 0, rfl, h1.low k1.size, PsA.ok h0 h2, k1.trans k2⟩
    rw [List.length_map] at hlen
    have HLO : Hid (∀ W, Keeps (fun _ => False) w W → Calls Try.prog 18 #[.slice a g.length cap] W fun e w' => ∃ mb, e = .returned (.map (some mb)) ∧ LR w' W.heap.size w'.heap.size mb g ∧ Keeps (fun _ => False) W w') := fun W k => leadsOf_any (hl.keep k) hbl hm hlen
    have HPA : Hid (∀ W lo hi mb, LR W lo hi mb g → Calls Try.prog 19 #[.int .i64 (m : Int), .map (some mb)] W (PaP g m W)) := fun W lo hi mb h => parts_any h hbl hm hlen
    rw [h0] at hfa
    clear h0 hl
    rw [List.length_map] at hfa ⊢
    generalize g.length = N at *
    go_enter Try.func14, Try.ntmps14
    go_wp2_with (first | (go_at_call 17; refine hfa.mono ?_; clear hfa; rintro e w1 ⟨rfl, k1⟩; have hlo := HLO.out w1 k1) | (go_at_call 18; refine hlo.mono ?_; clear hlo; rintro e w2 ⟨mb, rfl, hLR, k2⟩; have hpa := HPA.out w2 _ _ _ hLR; clear hLR) | (go_at_call 19; refine hpa.mono ?_; clear hpa; rintro e w3 ⟨v, qs, rfl, hV, hA, k3⟩; obtain ⟨va, vc, rfl, -⟩ := own_slice hV.ra; have HX : Hid (PsP (m : Int) (g.map Eg.ed) w (.returned (.tuple #[.slice va qs.length vc, .int .i64 0])) w3) := HPX.out _ qs w2 w3 (k1.trans k2) hV hA k3; clear hV hA HPX HPA HLO; generalize qs.length = Q at *))
    go_ret2
    exact HX.out
  · refine (Parts_no (cap := cap) n hl hlen h0).mono ?_
    rintro e w' ⟨rfl, k⟩
    exact ⟨_, [], _, rfl, ⟨World.ownsRow_nil _ _ _ _, (fun q hq => by cases hq), List.Pairwise.nil⟩, .inl ⟨h0, rfl, rfl⟩, k⟩
end Go.Proofs.Ytfbbllokpikbiab
