import Derived.Test.YtfbbllokpikbiabGrO
namespace Go.Proofs.Ytfbbllokpikbiab
open Go.RowKit Go.Deep
attribute [local go_sem] Oper.semAt_some run_store_nf run_store_f
/-- What Order answers, the program's and the document's. -/
def OrA (n : Int) (l : List Ed) (L : List Nat) (ok : Bool) (ec : Int) : Prop := (fltG n l ≠ 0 ∧ ec = fltG n l ∧ ok = false ∧ L = []) ∨ (fltG n l = 0 ∧ ec = 0 ∧ ∀ (m : Nat) (g : List Eg), n = (m : Int) → l = g.map Eg.ed → OrdL g m L ∧ (∀ u, ¬ Fre g m L u) ∧ ok = decide (L.length = m))
theorem OrA.one {n : Int} {l : List Ed} {L L' : List Nat} {ok ok' : Bool} {ec ec' : Int} (h : OrA n l L ok ec) (h' : OrA n l L' ok' ec') : L = L' ∧ ok = ok' ∧ ec = ec' := by
  rcases h with ⟨h1, h2, h3, h4⟩ | ⟨h1, h2, h3⟩ <;> rcases h' with ⟨g1, g2, g3, g4⟩ | ⟨g1, g2, g3⟩
  · exact ⟨h4.trans g4.symm, h3.trans g3.symm, h2.trans g2.symm⟩
  · exact absurd g1 h1
  · exact absurd h1 g1
  · obtain ⟨m, g, e1, -, e2, -⟩ := good_eg h1
    obtain ⟨a1, a2, a3⟩ := h3 m g e1 e2
    obtain ⟨b1, b2, b3⟩ := g3 m g e1 e2
    obtain rfl := a1.one b1 a2 b2
    exact ⟨rfl, a3.trans b3.symm, h2.trans g2.symm⟩
def OrP (n : Int) (l : List Ed) (w : World) (e : Ending) (w' : World) : Prop := ∃ v L ok ec, e = .returned (.tuple #[v, .bool ok, .int .i64 ec]) ∧ w'.ownsRow w.heap.size 3 1 v L.length (pvs L) ∧ OrA n l L ok ec ∧ Keeps (fun _ => False) w w'
theorem OrA.ok {m : Nat} {g : List Eg} {L : List Nat} (h0 : fltG (m : Int) (g.map Eg.ed) = 0) (h1 : OrdL g m L) (h2 : ∀ u, ¬ Fre g m L u) : OrA (m : Int) (g.map Eg.ed) L (decide (L.length = m)) 0 := .inr ⟨h0, rfl, fun m' g' e1 e2 => by
  obtain rfl : m = m' := by omega
  rw [← eg_inj e2]
  exact ⟨h1, h2, rfl⟩⟩
set_option maxHeartbeats 1500000 in
set_option maxRecDepth 100000 in
theorem Order_any {w : World} {a : Option Addr} {cap : Nat} {l : List Ed} (n : Int) (hl : EL w a l) (hlen : l.length ≤ 4398046511104) : Calls Try.prog 16 #[.int .i64 n, .slice a l.length cap] w (OrP n l w) := by
  have hfa := fault_any (cap := cap) n hl hlen
  have HP : Hid (∀ v L ok ec w', w'.ownsRow w.heap.size 3 1 v L.length (pvs L) → OrA n l L ok ec → Keeps (fun _ => False) w w' → OrP n l w (.returned (.tuple #[v, .bool ok, .int .i64 ec])) w') := fun v L ok ec w' h1 h2 h3 => ⟨v, L, ok, ec, rfl, h1, h2, h3⟩
  by_cases h0 : fltG n l = 0
  · obtain ⟨m, g, rfl, hm, rfl, hbl⟩ := good_eg h0
    have HPX : Hid (∀ v L w', w'.ownsRow w.heap.size 3 1 v L.length (pvs L) → OrdL g m L → (∀ u, ¬ Fre g m L u) → Keeps (fun _ => False) w w' → OrP (m : Int) (g.map Eg.ed) w (.returned (.tuple #[v, .bool (decide (L.length = m)), .int .i64 0])) w') := fun v L w' h1 h2 h3 h4 => HP.out v L _ 0 w' h1 (OrA.ok h0 h2 h3) h4
    have HOB : Hid (∀ W, Keeps (fun _ => False) w W → Calls Try.prog 28 #[.int .i64 (m : Int), .slice a g.length cap] W (OnP g m W)) := fun W k => oneByOne_any (hl.keep k) hbl hm (by rw [List.length_map] at hlen; exact hlen)
    rw [h0] at hfa
    clear HP h0 hl
    rw [List.length_map] at hfa hlen ⊢
    generalize g.length = N at *
    go_enter Try.func16, Try.ntmps16
    go_wp2_with (first | (go_at_call 17; refine hfa.mono ?_; clear hfa; rintro e w1 ⟨rfl, k1⟩; have hob := HOB.out w1 k1) | (go_at_call 28; refine hob.mono ?_; clear hob; rintro e w2 ⟨v, L, rfl, hr, ho, hf, k2⟩; obtain ⟨va, vc, rfl, -⟩ := own_slice hr; have HX : Hid (OrP (m : Int) (g.map Eg.ed) w (.returned (.tuple #[.slice va L.length vc, .bool (decide (L.length = m)), .int .i64 0])) w2) := HPX.out _ L w2 (owns_low hr k1.size) ho hf (k1.trans k2); clear HPX HOB hr ho hf; obtain ⟨M, hM⟩ : ∃ M, M = L.length := ⟨_, rfl⟩; rw [← hM] at HX; rw [← hM]; clear hM; have s1 : ((M : Int) == (m : Int)) = decide (M = m) := (by rw [Bool.eq_iff_iff, beq_iff_eq, decide_eq_true_iff]; omega); have s2 : (M == m) = decide (M = m) := (by rw [Bool.eq_iff_iff]; simp)))
    generalize decide (M = m) = bb at *
    go_ret3
    exact HX.out
  · have s1 : (fltG n l == 0) = false := by rw [beq_eq_false_iff_ne]; exact h0
    have s2 : (fltG n l != 0) = true := by rw [bne_iff_ne]; exact h0
    have HPX : Hid (∀ w', Keeps (fun _ => False) w w' → OrP n l w (.returned (.tuple #[.slice none 0 0, .bool false, .int .i64 (fltG n l)])) w') := fun w' k => HP.out _ [] _ _ w' (World.ownsRow_nil _ _ _ _) (.inl ⟨h0, rfl, rfl, rfl⟩) k
    clear HP h0
    generalize fltG n l = R at *
    generalize l.length = N at *
    go_enter Try.func16, Try.ntmps16
    go_wp2_with (go_at_call 17; refine hfa.mono ?_; clear hfa; rintro e w1 ⟨rfl, k1⟩)
    go_ret3
    exact HPX.out _ k1
/-- What first answers. -/
def FiR (g : List Eg) (n : Nat) (L : List Nat) (r : Int) : Prop := (∃ v : Nat, r = (v : Int) ∧ Fre g n L v ∧ ∀ u, Fre g n L u → v ≤ u) ∨ (r = -1 ∧ ∀ u, ¬ Fre g n L u)
def FiP (g : List Eg) (n : Nat) (L : List Nat) (w : World) (e : Ending) (w' : World) : Prop := ∃ r, e = .returned (.int .i64 r) ∧ FiR g n L r ∧ Keeps (fun _ => False) w w'
/-- Who is held, after so many edges. -/
def HeI (g : List Eg) (n : Nat) (L : List Nat) (i : Nat) (H : Nat → Bool) : Prop := ∀ v, v < n → (H v = true ↔ ∃ e ∈ g.take i, e.t = v ∧ e.f ∉ L)
theorem HeI.no {g : List Eg} {n : Nat} {L : List Nat} {i : Nat} {H : Nat → Bool} (h : HeI g n L i H) (hi : i < g.length) (hf : (g.getD i eg0).f ∈ L) : HeI g n L (i + 1) H := fun v hv => by
  rw [h v hv, take_eg hi]
  constructor
  · rintro ⟨e, he, h1, h2⟩; exact ⟨e, List.mem_append_left _ he, h1, h2⟩
  · rintro ⟨e, he, h1, h2⟩
    rcases List.mem_append.1 he with he | he
    · exact ⟨e, he, h1, h2⟩
    · simp only [List.mem_singleton] at he
      subst he
      exact absurd hf h2
theorem HeI.yes {g : List Eg} {n : Nat} {L : List Nat} {i : Nat} {H : Nat → Bool} (h : HeI g n L i H) (hi : i < g.length) (hf : (g.getD i eg0).f ∉ L) : HeI g n L (i + 1) (upB H (g.getD i eg0).t) := fun v hv => by
  rw [take_eg hi]
  unfold upB
  by_cases e : v = (g.getD i eg0).t
  · rw [if_pos e]
    exact ⟨fun _ => ⟨_, List.mem_append_right _ (by simp), e.symm, hf⟩, fun _ => rfl⟩
  · rw [if_neg e, h v hv]
    constructor
    · rintro ⟨c, he, h1, h2⟩; exact ⟨c, List.mem_append_left _ he, h1, h2⟩
    · rintro ⟨c, he, h1, h2⟩
      rcases List.mem_append.1 he with he | he
      · exact ⟨c, he, h1, h2⟩
      · simp only [List.mem_singleton] at he
        subst he
        exact absurd h1.symm e
theorem mks_up {M : Nat → Bool} {x : Nat} : ∀ i, upV (mks M) x (.bool true) i = mks (upB M x) i := fun i => by unfold upV mks upB; split <;> rfl
end Go.Proofs.Ytfbbllokpikbiab
