import Derived.Test.YtfbbllokpikbiabCyD
namespace Go.Proofs.Ytfbbllokpikbiab
open Go.RowKit Go.Deep
attribute [local go_sem] Oper.semAt_some run_store_nf run_store_f
/-- What a cycle that was told is. -/
structure RndA (g : List Eg) (m : Nat) (L : List Nat) : Prop where
  le : L.length ≤ m
  lt : ∀ i, i < L.length → L.getD i 0 < m ∧ L.getD 0 0 ≤ L.getD i 0
  nd : ∀ i j, i < L.length → j < i → L.getD j 0 ≠ L.getD i 0
  st : ∀ i, i + 1 < L.length → ∃ e ∈ g, e.f = L.getD i 0 ∧ e.t = L.getD (i + 1) 0
  la : 0 < L.length → ∃ e ∈ g, e.f = L.getD (L.length - 1) 0 ∧ e.t = L.getD 0 0
  no : ∀ v, v < m → Rch g v v → 0 < L.length ∧ L.getD 0 0 ≤ v
theorem CycA.rnd {g : List Eg} {m : Nat} {L : List Nat} (hn : Bln g m) (h : CycA g m L) : RndA g m L := by
  rcases h with ⟨rfl, h⟩ | ⟨a, K, ha, hno, hM, hI, hK⟩
  · exact ⟨Nat.zero_le _, fun i hi => absurd hi (Nat.not_lt_zero i), fun i j hi => absurd hi (Nat.not_lt_zero i), fun i hi => absurd hi (Nat.not_lt_zero _), fun hi => absurd hi (Nat.lt_irrefl _), fun v hv hr => absurd hr (h v hv)⟩
  · have hD : ∀ i, 0 < i → i < L.length → Dst g a (L.getD i 0) (K - i) := fun i hi hl => by
      have := (hI.st (i - 1) (by omega)).2.1
      rw [show i - 1 + 1 = i by omega] at this
      exact this
    have hE : ∀ i, i + 1 < L.length → ∃ e ∈ g, e.f = L.getD i 0 ∧ e.t = L.getD (i + 1) 0 := fun i hi => (hI.st i hi).1
    have hR : ∀ i, i < L.length → i = 0 ∨ Rch g a (L.getD i 0) := fun i => by
      induction i with
      | zero => exact fun _ => .inl rfl
      | succ i ih =>
        intro hi
        obtain ⟨e, he, e1, e2⟩ := hE i hi
        refine .inr ?_
        have h1 : Rch g (L.getD i 0) (L.getD (i + 1) 0) := ⟨1, by rw [← e1, ← e2]; exact .one e he⟩
        rcases ih (by omega) with h0 | h0
        · subst h0; rw [hI.h0] at h1; exact h1
        · exact h0.trans h1
    have hP : ∀ i, 0 < i → i < L.length → Pth g (K - i) (L.getD i 0) a := fun i hi hl => ((hD i hi hl).mn (by omega)).1
    have hRR : ∀ i, i < L.length → Rch g (L.getD i 0) (L.getD i 0) := fun i hi => by
      by_cases h0 : i = 0
      · subst h0; rw [hI.h0]; exact ⟨K, hM.1⟩
      · exact Rch.trans ⟨_, hP i (by omega) hi⟩ ((hR i hi).resolve_left h0)
    have hlt : ∀ i, i < L.length → L.getD i 0 < m := fun i hi => by obtain ⟨k, hk⟩ := hRR i hi; exact hk.lt hn
    have hge : ∀ v, v < m → Rch g v v → a ≤ v := fun v _ hr => Nat.le_of_not_lt (fun q => hno v q hr)
    refine ⟨by rw [hK]; exact hM.le hn, fun i hi => ⟨hlt i hi, by rw [hI.h0]; exact hge _ (hlt i hi) (hRR i hi)⟩, fun i j hi hj e => ?_, hE, fun _ => ?_, fun v hv hr => ⟨hI.pos, by rw [hI.h0]; exact hge v hv hr⟩⟩
    · have di := hD i (by omega) hi
      by_cases h0 : j = 0
      · subst h0
        rw [← e, hI.h0] at di
        have := di.zero
        omega
      · have dj := hD j (by omega) (by omega)
        rw [e] at dj
        have h1 := di.2 _ dj.1
        have h2 := dj.2 _ di.1
        omega
    · have hp : Pth g 1 (L.getD (L.length - 1) 0) a := by
        by_cases h1 : L.length = 1
        · have := hM.1
          rw [← hK, h1] at this
          rw [h1, show 1 - 1 = 0 from rfl, hI.h0]
          exact this
        · have hpos := hI.pos
          have := hP (L.length - 1) (by omega) (by omega)
          rw [show K - (L.length - 1) = 1 by omega] at this
          exact this
      obtain ⟨e, he, e1, e2⟩ := hp.head
      refine ⟨e, he, e1, ?_⟩
      rw [hI.h0]
      rcases e2 with ⟨_, e2⟩ | e2
      · exact e2
      · have := e2.pos; omega
/-- Is there an edge from x to y? -/
def thB (g : List Eg) (x y : Nat) : Bool := g.any (fun e => e.f == x && e.t == y)
theorem thB_snoc (g : List Eg) (c : Eg) (x y : Nat) : thB (g ++ [c]) x y = (thB g x y || (c.f == x && c.t == y)) := by unfold thB; rw [List.any_append]; simp
theorem thB_of {g : List Eg} {x y : Nat} (h : ∃ e ∈ g, e.f = x ∧ e.t = y) : thB g x y = true := by
  obtain ⟨e, he, e1, e2⟩ := h
  unfold thB
  rw [List.any_eq_true]
  exact ⟨e, he, by simp [e1, e2]⟩
def e11 : Ed := ⟨1, 1, 0, 0⟩
theorem one_cyc (W : World) : Calls Try.prog 7 #[.int .i64 2, .slice (some ⟨W.heap.size, 0, none⟩) 1 1] (W.alloc (.cells e11.cells.toArray 30)) fun e w' => ∃ vb vo vc, e = .returned (.tuple #[.slice (some ⟨vb, vo, none⟩) 1 vc, .int .i64 0]) ∧ w'.cell? ⟨vb, vo, none⟩ = some (.int .i64 1) ∧ Keeps (fun _ => False) W w' := by
  refine (Cycle_any (cap := 1) (l := [e11]) 2 (el_made W [e11]) (by decide)).mono ?_
  rintro e w' ⟨va, vc, L, ec, rfl, hr, hA, k⟩
  have hA2 : CcA 2 [e11] [1] 0 := .inr ⟨by decide, rfl, fun m g e1 e2 => by
    obtain rfl : m = 2 := by omega
    have e3 : [e11] = [(⟨1, 1, 0, 0⟩ : Eg)].map Eg.ed := rfl
    rw [e3] at e2
    rw [← eg_inj e2]
    refine .inr ⟨1, 1, by omega, fun v hv => ?_, ⟨.one (⟨1, 1, 0, 0⟩ : Eg) (by simp), fun j hj => hj.pos⟩, CyI.start _ 1 1 (by omega), rfl⟩
    rintro ⟨k, hk⟩
    obtain rfl : v = 0 := by omega
    obtain ⟨e, he, e1, -⟩ := hk.head
    simp at he
    subst he
    simp at e1⟩
  obtain ⟨rfl, rfl⟩ := hA.one hA2
  obtain ⟨b, off, rfl, hc⟩ := (PM.of hr) 0 (by decide)
  exact ⟨b, off, vc, rfl, hc, ((Keeps.refl _ W).alloc _).trans k⟩
set_option maxHeartbeats 1500000 in
set_option maxRecDepth 100000 in
theorem ground_bad {w : World} {a : Option Addr} {cap : Nat} {l : List Ed} (n : Int) (hl : EL w a l) (hlen : l.length ≤ 4398046510976) (v : Int) (h0 : fltG n l ≠ 0) : Calls Try.prog 3 #[.int .i64 n, .slice a l.length cap, .int .i64 v] w fun e w' => e = .returned (.bool true) ∧ Below w.heap.size w w' := by
  have hcy : Calls Try.prog 7 #[.int .i64 n, .slice a l.length cap] w fun e w' => ∃ va vc, e = .returned (.tuple #[.slice va 0 vc, .int .i64 (fltG n l)]) ∧ Keeps (fun _ => False) w w' := by
    refine (Cycle_any (cap := cap) n hl (by omega)).mono ?_
    rintro e w' ⟨va, vc, L, ec, rfl, -, hA, k⟩
    rcases hA with ⟨-, rfl, rfl⟩ | ⟨q, -⟩
    · exact ⟨va, vc, rfl, k⟩
    · exact absurd q h0
  have HRE : Hid (∀ W, Keeps (fun _ => False) w W → Calls Try.prog 8 #[.int .i64 n, .slice a l.length cap, .int .i64 v, .int .i64 v] W fun e w' => e = .returned (.tuple #[.bool false, .int .i64 (fltG n l)]) ∧ Keeps (fun _ => False) W w') := fun W k => by
    refine (Reaches_any (cap := cap) n v v (hl.keep k) (by omega)).mono ?_
    rintro e w' ⟨x, ec, rfl, hA, k⟩
    rcases hA with ⟨-, rfl, rfl⟩ | ⟨q, -⟩ | ⟨q, -⟩
    · exact ⟨rfl, k⟩
    · exact absurd q h0
    · exact absurd q h0
  have HGD : Hid (∀ W, Keeps (fun _ => False) w W → Calls Try.prog 9 #[.int .i64 n, .slice a l.length cap] W fun e w' => e = .returned (.bool false) ∧ Keeps (fun _ => False) W w') := fun W k => by
    have h := good_any (cap := cap) n (hl.keep k) (by omega)
    rw [decide_eq_false h0] at h
    exact h
  have s1 : (fltG n l == 0) = false := by rw [beq_eq_false_iff_ne]; exact h0
  have s2 : (fltG n l != 0) = true := by rw [bne_iff_ne]; exact h0
  clear h0 hl
  generalize fltG n l = R at *
  generalize l.length = N at *
  go_enter Try.func3, Try.ntmps3
  go_wp2_with (first | (refine wpList_build1L uE iE (by decide) (by decide) rfl _ rfl e11.cells rfl rfl ?_) | (go_at_call 7; refine hcy.mono ?_; clear hcy; rintro e w1 ⟨va, vc, rfl, k1⟩; have hre := HRE.out w1 k1) | (go_at_call 8; refine hre.mono ?_; clear hre; rintro e w2 ⟨rfl, k2⟩; have hoc := one_cyc w2) | (go_at_call 7; refine hoc.mono ?_; clear hoc; rintro e w3 ⟨xb, xo, xc, rfl, hx, k3⟩; have hgd := HGD.out w3 ((k1.trans k2).trans k3)) | (go_at_call 9; refine hgd.mono ?_; clear hgd; rintro e w4 ⟨rfl, k4⟩))
  go_ret
  exact ⟨rfl, (((k1.trans k2).trans k3).trans k4).below (Nat.le_refl _) (fun _ _ e => e)⟩
set_option maxHeartbeats 1500000 in
set_option maxRecDepth 100000 in
theorem ground_out {w : World} {a : Option Addr} {cap : Nat} {l : List Ed} (n : Int) (hl : EL w a l) (hlen : l.length ≤ 4398046510976) (v : Int) (h0 : fltG n l = 0) (hv : v < 0 ∨ n ≤ v) : Calls Try.prog 3 #[.int .i64 n, .slice a l.length cap, .int .i64 v] w fun e w' => e = .returned (.bool true) ∧ Below w.heap.size w w' := by
  have hcy : Calls Try.prog 7 #[.int .i64 n, .slice a l.length cap] w fun e w' => ∃ va vn vc, e = .returned (.tuple #[.slice va vn vc, .int .i64 0]) ∧ Keeps (fun _ => False) w w' := by
    refine (Cycle_any (cap := cap) n hl (by omega)).mono ?_
    rintro e w' ⟨va, vc, L, ec, rfl, -, hA, k⟩
    rcases hA with ⟨q, -⟩ | ⟨-, rfl, -⟩
    · exact absurd h0 q
    · exact ⟨va, _, vc, rfl, k⟩
  have HRE : Hid (∀ W, Keeps (fun _ => False) w W → Calls Try.prog 8 #[.int .i64 n, .slice a l.length cap, .int .i64 v, .int .i64 v] W fun e w' => e = .returned (.tuple #[.bool false, .int .i64 201]) ∧ Keeps (fun _ => False) W w') := fun W k => by
    refine (Reaches_any (cap := cap) n v v (hl.keep k) (by omega)).mono ?_
    rintro e w' ⟨x, ec, rfl, hA, k⟩
    have hN : (isN n v && isN n v) = false := by
      cases h : isN n v
      · rfl
      · have := isN_iff.1 h; omega
    rcases hA with ⟨q, -⟩ | ⟨-, -, rfl, rfl⟩ | ⟨-, q, -⟩
    · exact absurd h0 q
    · exact ⟨rfl, k⟩
    · rw [hN] at q; cases q
  have HGD : Hid (∀ W, Keeps (fun _ => False) w W → Calls Try.prog 9 #[.int .i64 n, .slice a l.length cap] W fun e w' => e = .returned (.bool true) ∧ Keeps (fun _ => False) W w') := fun W k => by
    have h := good_any (cap := cap) n (hl.keep k) (by omega)
    rw [decide_eq_true h0] at h
    exact h
  clear h0 hl
  generalize l.length = N at *
  by_cases g1 : v < 0
  · have s1 : decide (v < 0) = true := decide_eq_true g1
    clear hv g1
    go_enter Try.func3, Try.ntmps3
    go_wp2_with (first | (refine wpList_build1L uE iE (by decide) (by decide) rfl _ rfl e11.cells rfl rfl ?_) | (go_at_call 7; refine hcy.mono ?_; clear hcy; rintro e w1 ⟨va, vn, vc, rfl, k1⟩; have hre := HRE.out w1 k1) | (go_at_call 8; refine hre.mono ?_; clear hre; rintro e w2 ⟨rfl, k2⟩; have hoc := one_cyc w2) | (go_at_call 7; refine hoc.mono ?_; clear hoc; rintro e w3 ⟨xb, xo, xc, rfl, hx, k3⟩; have hgd := HGD.out w3 ((k1.trans k2).trans k3)) | (go_at_call 9; refine hgd.mono ?_; clear hgd; rintro e w4 ⟨rfl, k4⟩))
    go_ret
    exact ⟨rfl, (((k1.trans k2).trans k3).trans k4).below (Nat.le_refl _) (fun _ _ e => e)⟩
  · have s1 : decide (v < 0) = false := decide_eq_false g1
    have s2 : decide (n ≤ v) = true := decide_eq_true (by omega)
    have s3 : decide (v ≥ n) = true := decide_eq_true (by omega)
    clear hv g1
    go_enter Try.func3, Try.ntmps3
    go_wp2_with (first | (refine wpList_build1L uE iE (by decide) (by decide) rfl _ rfl e11.cells rfl rfl ?_) | (go_at_call 7; refine hcy.mono ?_; clear hcy; rintro e w1 ⟨va, vn, vc, rfl, k1⟩; have hre := HRE.out w1 k1) | (go_at_call 8; refine hre.mono ?_; clear hre; rintro e w2 ⟨rfl, k2⟩; have hoc := one_cyc w2) | (go_at_call 7; refine hoc.mono ?_; clear hoc; rintro e w3 ⟨xb, xo, xc, rfl, hx, k3⟩; have hgd := HGD.out w3 ((k1.trans k2).trans k3)) | (go_at_call 9; refine hgd.mono ?_; clear hgd; rintro e w4 ⟨rfl, k4⟩))
    go_ret
    exact ⟨rfl, (((k1.trans k2).trans k3).trans k4).below (Nat.le_refl _) (fun _ _ e => e)⟩
end Go.Proofs.Ytfbbllokpikbiab
