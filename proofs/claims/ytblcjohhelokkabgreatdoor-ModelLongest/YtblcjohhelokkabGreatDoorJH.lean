import Derived.Test.YtblcjohhelokkabGreatDoorJD
import Derived.Test.YtblcjohhelokkabGreatDoorPhI
import Derived.Test.YtblcjohhelokkabGreatDoorLgM
import Derived.Test.YtblcjohhelokkabGreatDoorLgU
namespace Go.Proofs.YtblcjohhelokkabGreatDoor
open Go.RowKit Go.Deep Go.ChangeShapes Go.WideShapes Go.ChangeAt
attribute [local go_sem] Oper.semAt_some run_store_nf run_store_f
def txt2 : ByteArray := ⟨#[103, 101, 116, 32, 114, 49, 32, 64, 48, 10, 97, 100, 100, 32, 114, 49, 32, 114, 49, 32, 49, 10, 112, 117, 116, 32, 64, 48, 32, 114, 49, 10, 100, 111, 110, 101, 32, 114, 49]⟩
def prg2 : List Ins := [⟨1, 1, false, 0, false, 0, false, 0, 0, 0, 0⟩, ⟨6, 1, false, 0, true, 1, false, 1, 1, 0, 0⟩, ⟨3, 0, false, 0, true, 1, false, 0, 0, 0, 0⟩, ⟨10, 0, false, 0, true, 1, false, 0, 0, 0, 0⟩]
theorem rd2 : rd (lns txt2) 0 [] = some prg2 := by kernel_rfl
theorem ln2 : ∀ x ∈ lns txt2, x.size ≤ 4096 := by
  have h : lns txt2 = [⟨#[103, 101, 116, 32, 114, 49, 32, 64, 48]⟩, ⟨#[97, 100, 100, 32, 114, 49, 32, 114, 49, 32, 49]⟩, ⟨#[112, 117, 116, 32, 64, 48, 32, 114, 49]⟩, ⟨#[100, 111, 110, 101, 32, 114, 49]⟩] := by kernel_rfl
  rw [h]
  intro x hx
  rcases (by simpa using hx : x = _ ∨ x = _ ∨ x = _ ∨ x = _) with rfl | rfl | rfl | rfl <;> decide
theorem chk2 : (chk prg2).1 = 0 := by kernel_rfl
theorem rfs2 : rfs 2 0 100 = 0 := by kernel_rfl
theorem gor2 : (gor prg2 [5, 7] [] 100 0 rs0).1.oc = 1 ∧ (gor prg2 [5, 7] [] 100 0 rs0).1.rs = 6 ∧ (gor prg2 [5, 7] [] 100 0 rs0).2 = 4 ∧ lft [5, 7] (gor prg2 [5, 7] [] 100 0 rs0).1 2 = [6, 7] := by
  refine ⟨?_, ?_, ?_, ?_⟩ <;> kernel_rfl
theorem run2 {w : World} {a ao : Option Addr} {cap co : Nat} (hT : LT w) (hl : ISL w a prg2) (hO : NUM w ao [5, 7]) : Calls Tryz.prog 8 #[.slice a 4 cap, .slice ao 2 co, .slice none 0 0, .int .i64 100] w fun e w' => ∃ b, e = .returned (.tuple #[.agg #[.int .i64 1, .int .i64 6, .slice (some ⟨b, 0, none⟩) 2 2, .int .i64 4], .int .i64 0]) ∧ CL w' b (nvs [6, 7]) ∧ Keeps (fun _ => False) w w' := by
  have h := run_any (cap := cap) (co := co) (ag := none) (cg := 0) (gs := []) hT hl (by decide) hO (fun i x hx => by simp at hx) 100
  refine Calls.mono h ?_
  rintro e w' ⟨v, x, rfl, hP, k⟩
  rcases hP with ⟨h0, _⟩ | ⟨_, h1, _⟩ | ⟨_, _, rfl, b, _, rfl, hC, _⟩
  · exact (h0 chk2).elim
  · exact (h1 rfs2).elim
  · obtain ⟨e1, e2, e3, e4⟩ := gor2
    have t100 : Int.toNat 100 = 100 := rfl
    rw [t100] at hC ⊢
    have l2 : ([5, 7] : List Int).length = 2 := rfl
    rw [l2] at hC ⊢
    rw [e4] at hC
    rw [e1, e2, e3]
    exact ⟨b, rfl, hC, k⟩
theorem two_num (w : World) (o : Obj) (x y : Int) : NUM ((w.alloc o).alloc (.cells #[.int .i64 x, .int .i64 y] 2)) (some ⟨w.heap.size + 1, 0, none⟩) [x, y] := NUM.ofCL (by
  have := CL.made (w.alloc o) [.int .i64 x, .int .i64 y] 2
  rw [show (w.alloc o).heap.size = w.heap.size + 1 by simp] at this
  exact this)
set_option maxHeartbeats 800000 in
set_option maxRecDepth 1000000 in
theorem head11 {w : World} (hT : PT w) (hNT : NT w) : Calls Tryz.prog 4 #[] w fun e w' => e = .returned (.bool true) ∧ Keeps (fun _ => False) w w' := by
  have hP := parse_ok txt2 (by decide) hT hNT rd2 ln2
  have hLT := hT.lt
  clear hT hNT
  go_enter Tryz.func4, Tryz.ntmps4
  go_wp2_with fail
  refine (show Calls Tryz.prog 10 #[.string txt2] w _ from hP).mono ?_
  clear hP
  rintro e w1 ⟨v, rfl, hown, k1⟩
  obtain ⟨a, cap, rfl, hI⟩ := isl_of_owns hown rfl
  clear hown
  have l4 : prg2.length = 4 := rfl
  rw [l4]
  clear l4
  obtain ⟨W2, hW2⟩ : ∃ W2, W2 = (w1.alloc (.cells #[.int .i64 0, .int .i64 0, .int .i64 0] 39)).alloc (.cells #[.int .i64 5, .int .i64 7] 2) := ⟨_, rfl⟩
  have k2 : Keeps (fun _ => False) w1 W2 := by rw [hW2]; exact ((Keeps.refl _ w1).alloc _).alloc _
  have s2 : W2.heap.size = w1.heap.size + 2 := by rw [hW2]; simp
  have hN : NUM W2 (some ⟨w1.heap.size + 1, 0, none⟩) [5, 7] := by rw [hW2]; exact two_num w1 _ 5 7
  have hR := run2 (cap := cap) (co := 2) (hLT.keep (k1.trans k2)) (hI.keep k2) hN
  have HW2 : Hid (_ = _) := hW2
  clear hW2 hI hN hLT
  have K2 := k1.trans k2
  clear k1 k2
  go_wp2_with (first | (go_at_call 7; refine (num11 _ _).mono ?_; rintro e wn ⟨rfl, en⟩; subst wn) | (go_at_call 8; rw [← HW2.out]; clear HW2; refine hR.mono ?_; clear hR; rintro e w3 ⟨b, rfl, C3, k3⟩; obtain ⟨W4, hW4⟩ : ∃ W4, W4 = (w3.alloc (.cells #[.int .i64 1, .int .i64 6, .slice (some ⟨b, 0, none⟩) 2 2, .int .i64 4] 33)).alloc (.cells #[.int .i64 6, .int .i64 7] 2) := ⟨_, rfl⟩; have HW4 : Hid (_ = _) := hW4; clear hW4) | (go_at_call 9; rw [← HW4.out]; have K4 : Keeps (fun _ => False) w3 W4 := (by rw [HW4.out]; exact ((Keeps.refl _ w3).alloc _).alloc _); have hB : NUM W4 (some ⟨w3.heap.size + 1, 0, none⟩) [6, 7] := (by rw [HW4.out]; exact two_num w3 _ 6 7); refine (same_ok (xs := [6, 7]) 2 2 1 6 4 ((NUM.ofCL C3).keep K4) hB (by decide)).mono ?_; rintro e w5 ⟨rfl, k5⟩))
  go_ret
  exact ⟨rfl, ((K2.trans k3).trans K4).trans k5⟩
end Go.Proofs.YtblcjohhelokkabGreatDoor
namespace Go.Proofs.YtblcjohhelokkabGreatDoor
open Go.RowKit
section
variable {l : List Ins} {os : List Int} {gs : List (Bool × Int)}
theorem gor_end (f c : Nat) {s : Rs} (h : ¬ s.oc = 0) : gor l os gs f c s = (s, c) := by
  cases f with
  | zero => rfl
  | succ f => exact if_neg h
theorem gor_step (f c : Nat) {s : Rs} (h : s.oc = 0) : gor l os gs (f + 1) c s = gor l os gs f (c + 1) (mstp os gs (atI l s.pl.toNat) s) := if_pos h
theorem gor_count : ∀ (f c : Nat) (s : Rs), c ≤ (gor l os gs f c s).2 ∧ (gor l os gs f c s).2 ≤ c + f ∧ ((gor l os gs f c s).1.oc = 0 → (gor l os gs f c s).2 = c + f) ∧ (s.oc = 0 → ¬ (gor l os gs f c s).1.oc = 0 → c + 1 ≤ (gor l os gs f c s).2)
  | 0, c, s => ⟨Nat.le_refl _, Nat.le_refl _, fun _ => rfl, fun h h2 => (h2 h).elim⟩
  | f + 1, c, s => by
    by_cases h : s.oc = 0
    · rw [gor_step f c h]
      have := gor_count f (c + 1) (mstp os gs (atI l s.pl.toNat) s)
      exact ⟨by omega, by omega, fun h => by have := this.2.2.1 h; omega, fun _ _ => this.1⟩
    · rw [gor_end (f + 1) c h]
      exact ⟨Nat.le_refl _, Nat.le_add_right _ _, fun h2 => (h h2).elim, fun h2 => (h h2).elim⟩
theorem gor_mono : ∀ (f c : Nat) (s : Rs), ¬ (gor l os gs f c s).1.oc = 0 → ∀ f', (gor l os gs f c s).2 ≤ c + f' → gor l os gs f' c s = gor l os gs f c s
  | 0, c, s, h, f', _ => gor_end f' c h
  | f + 1, c, s, h, f', hf => by
    by_cases h0 : s.oc = 0
    · rw [gor_step f c h0] at h hf ⊢
      have hc := (gor_count (l := l) (os := os) (gs := gs) f (c + 1) (mstp os gs (atI l s.pl.toNat) s)).1
      obtain ⟨f'', rfl⟩ : ∃ f'', f' = f'' + 1 := ⟨f' - 1, by omega⟩
      rw [gor_step f'' c h0]
      exact gor_mono f (c + 1) _ h f'' (by omega)
    · rw [gor_end (f + 1) c h0, gor_end f' c h0]
theorem gor_below : ∀ (f c : Nat) (s : Rs), s.oc = 0 → ¬ (gor l os gs f c s).1.oc = 0 → ∀ n, c + n + 1 = (gor l os gs f c s).2 → (gor l os gs n c s).1.oc = 0 ∧ (gor l os gs n c s).2 = c + n
  | 0, _, _, h0, h, _, _ => (h h0).elim
  | f + 1, c, s, h0, h, n, hn => by
    cases n with
    | zero => exact ⟨h0, rfl⟩
    | succ n =>
      rw [gor_step f c h0] at h hn
      rw [gor_step n c h0]
      by_cases h1 : (mstp os gs (atI l s.pl.toNat) s).oc = 0
      · have := gor_below f (c + 1) _ h1 h n (by omega)
        exact ⟨this.1, by omega⟩
      · rw [gor_end f (c + 1) h1] at hn
        have hn : c + (n + 1) + 1 = c + 1 := hn
        omega
/-- A result comes of a commit alone. -/
theorem mstp_rs (q : Ins) (s : Rs) (h : s.rs = 0) : (mstp os gs q s).oc = 1 ∨ (mstp os gs q s).rs = 0 := by
  have hr : ∀ x, (s.inc.rdo os gs x).rs = s.rs := fun x => by unfold Rs.rdo; split <;> rfl
  have hw : ∀ x, (s.inc.wro os x).rs = s.rs := fun x => by unfold Rs.wro; split <;> rfl
  unfold mstp
  split
  · split
    · right
      unfold mstpO
      split
      · exact (hr _).trans h
      · split
        · exact (hw _).trans h
        · split
          · exact (hw _).trans h
          · split <;> exact h
    · exact .inr h
  · split
    · exact .inr h
    · split
      · exact .inr h
      · split
        · split <;> exact .inr h
        · split
          · exact .inr h
          · split
            · exact .inr h
            · exact .inl rfl
theorem gor_rs : ∀ (f c : Nat) (s : Rs), (s.oc = 1 ∨ s.rs = 0) → ((gor l os gs f c s).1.oc = 1 ∨ (gor l os gs f c s).1.rs = 0)
  | 0, _, _, h => h
  | f + 1, c, s, h => by
    by_cases h0 : s.oc = 0
    · rw [gor_step f c h0]
      exact gor_rs f (c + 1) _ (mstp_rs _ s (h.resolve_left (by omega)))
    · rw [gor_end (f + 1) c h0]; exact h
end
end Go.Proofs.YtblcjohhelokkabGreatDoor
namespace Go.Proofs.YtblcjohhelokkabGreatDoor
open Go.RowKit
attribute [local go_sem] Oper.semAt_some run_store_nf run_store_f
theorem run_fine {w : World} {a ao ag : Option Addr} {cap co cg : Nat} {l : List Ins} {os : List Int} {gs : List (Bool × Int)} (hT : LT w) (hl : ISL w a l) (hO : NUM w ao os) (hG : GVN w ag gs) (hc : (chk l).1 = 0) (h16 : os.length ≤ 16) (h40 : gs.length ≤ 4096) (f : Nat) (hf : f ≤ 10000) {F : Rs × Nat} (hF : gor l os gs f 0 rs0 = F) {L : List Int} (hL : lft os F.1 os.length = L) : Calls Tryz.prog 8 #[.slice a l.length cap, .slice ao os.length co, .slice ag gs.length cg, .int .i64 (f : Int)] w fun e w' => ∃ b, e = .returned (.tuple #[.agg #[.int .i64 F.1.oc, .int .i64 F.1.rs, .slice (some ⟨b, 0, none⟩) os.length os.length, .int .i64 (F.2 : Int)], .int .i64 0]) ∧ CL w' b (nvs L) ∧ Keeps (fun _ => False) w w' := by
  have hl64 := (chk_ok hc).1
  refine (run_any (cap := cap) (co := co) (cg := cg) hT hl (by omega) hO hG (f : Int)).mono ?_
  rintro e w' ⟨v, x, rfl, hP, k⟩
  have hr : rfs os.length gs.length (f : Int) = 0 := by
    unfold rfs
    rw [if_neg (by omega), if_neg (by omega), if_neg (by omega)]
  rcases hP with ⟨h0, _⟩ | ⟨_, h1, _⟩ | ⟨_, _, rfl, b, _, rfl, hC, _⟩
  · exact (h0 hc).elim
  · exact (h1 hr).elim
  · rw [Int.toNat_natCast, hF] at hC ⊢
    rw [hL] at hC
    exact ⟨b, rfl, hC, k⟩
theorem run_bad {w : World} {a ao ag : Option Addr} {cap co cg : Nat} {l : List Ins} {os : List Int} {gs : List (Bool × Int)} (hT : LT w) (hl : ISL w a l) (hlen : l.length ≤ 9223372036854775807) (hO : NUM w ao os) (hG : GVN w ag gs) (fuel : Int) (hb : ¬ ((chk l).1 = 0 ∧ rfs os.length gs.length fuel = 0)) : Calls Tryz.prog 8 #[.slice a l.length cap, .slice ao os.length co, .slice ag gs.length cg, .int .i64 fuel] w fun e w' => ∃ x, e = .returned (.tuple #[zA, .int .i64 x]) ∧ ¬ x = 0 ∧ Keeps (fun _ => False) w w' := by
  refine (run_any (cap := cap) (co := co) (cg := cg) hT hl hlen hO hG fuel).mono ?_
  rintro e w' ⟨v, x, rfl, hP, k⟩
  rcases hP with ⟨h0, rfl, rfl⟩ | ⟨_, h1, rfl, rfl⟩ | ⟨h0, h1, _⟩
  · exact ⟨_, rfl, h0, k⟩
  · exact ⟨_, rfl, h1, k⟩
  · exact (hb ⟨h0, h1⟩).elim
end Go.Proofs.YtblcjohhelokkabGreatDoor
namespace Go.Proofs.YtblcjohhelokkabGreatDoor
open Go.RowKit Go.Deep Go.ChangeShapes Go.WideShapes Go.ChangeAt
/-- Numbers that were handed in. -/
theorem open_nums {H : Type} {enc : TypeId × Value → H} {P : Program} {W : World} {spare : Nat → Bool} {held : Bool} {t e : TypeId} {fuel : Nat} {a : Option Addr} {len cap : Nat} {x : DataW H × List MemPlace}
    (ht : P.underlying t = some (.slice e)) (he : P.underlying e = some (.int .i64)) (ce : P.cellsOf e = 1)
    (h : DataW.trod enc P W 0 spare held fuel t [.slice a len cap] = some x) : ∃ l : List Int, l.length = len ∧ NUM W a l := by
  by_cases h0 : len = 0
  · subst h0
    exact ⟨[], rfl, fun i x hi => by simp at hi⟩
  rcases open_slice ht h with ⟨hcs, _⟩ | ⟨a', len', cap', m, n, D, Pl, hcs, hb, hl, hm, hmm, rfl, hx⟩
  · simp at hcs; omega
  simp at hcs
  obtain ⟨rfl, rfl, rfl⟩ := hcs
  have hlm : len ≤ m := by rw [hmm]; split <;> omega
  have each : ∀ i, i < len → ∃ v : Int, W.cell? (a'.add i) = some (.int .i64 v) := by
    intro i hi
    obtain ⟨cs', h1, h2⟩ := hx i (by omega)
    rw [ce] at h1
    obtain ⟨_, hlen, hcell⟩ := World.cells?_some h1
    obtain ⟨v, rfl, _⟩ := DataW.trod_int he h2
    have cj := hcell 0 (by omega)
    rw [add_add] at cj
    refine ⟨v, ?_⟩
    simpa using cj
  obtain ⟨b, off, spot⟩ := a'
  obtain ⟨v0, z0⟩ := each 0 (by omega)
  have hspot : spot = none := by simpa [Addr.add] using World.cell?_spot z0
  subst hspot
  obtain ⟨V, hV⟩ := choose_lt each
  refine ⟨(List.range len).map V, by simp, fun i x hi => ?_⟩
  have hil : i < len := by have := (List.getElem?_eq_some_iff.1 hi).1; simpa using this
  have : x = V i := by simpa [hil] using hi.symm
  subst this
  have hv := hV i hil
  rw [add_at] at hv
  exact ⟨b, off, rfl, hv⟩
/-- Given reads that were handed in. -/
theorem open_givs {H : Type} {enc : TypeId × Value → H} {P : Program} {W : World} {spare : Nat → Bool} {held : Bool} {t e : TypeId} {g0 g1 : Field} {fuel : Nat} {a : Option Addr} {len cap : Nat} {x : DataW H × List MemPlace}
    (ht : P.underlying t = some (.slice e)) (hs : P.underlying e = some (.struct #[g0, g1])) (ce : P.cellsOf e = 2) (o0 : g0.offset = 0) (o1 : g1.offset = 1) (c0 : P.cellsOf g0.type = 1) (c1 : P.cellsOf g1.type = 1) (u0 : P.underlying g0.type = some .bool) (u1 : P.underlying g1.type = some (.int .i64))
    (h : DataW.trod enc P W 0 spare held fuel t [.slice a len cap] = some x) : ∃ l : List (Bool × Int), l.length = len ∧ GVN W a l := by
  by_cases h0 : len = 0
  · subst h0
    exact ⟨[], rfl, fun i x hi => by simp at hi⟩
  rcases open_slice ht h with ⟨hcs, _⟩ | ⟨a', len', cap', m, n, D, Pl, hcs, hb, hl, hm, hmm, rfl, hx⟩
  · simp at hcs; omega
  simp at hcs
  obtain ⟨rfl, rfl, rfl⟩ := hcs
  have hlm : len ≤ m := by rw [hmm]; split <;> omega
  have each : ∀ i, i < len → ∃ q : Bool × Int, W.cell? (a'.add (i * 2)) = some (.bool q.1) ∧ W.cell? (a'.add (i * 2 + 1)) = some (.int .i64 q.2) := by
    intro i hi
    obtain ⟨cs', h1, h2⟩ := hx i (by omega)
    rw [ce] at h1
    obtain ⟨_, hlen, hcell⟩ := World.cells?_some h1
    match cs', hlen with
    | [z0, z1], _ =>
      obtain ⟨b, q, rfl, rfl⟩ := open_opd hs o0 o1 c0 c1 u0 u1 h2
      have cj := hcell 0 (by omega)
      have ck := hcell 1 (by omega)
      rw [add_add] at cj ck
      refine ⟨(b, q), ?_, ?_⟩
      · simpa using cj
      · simpa using ck
  obtain ⟨b, off, spot⟩ := a'
  obtain ⟨q0, z0, _⟩ := each 0 (by omega)
  have hspot : spot = none := by simpa [Addr.add] using World.cell?_spot z0
  subst hspot
  obtain ⟨V, hV⟩ := choose_lt each
  refine ⟨(List.range len).map V, by simp, fun i x hi => ?_⟩
  have hil : i < len := by have := (List.getElem?_eq_some_iff.1 hi).1; simpa using this
  have : x = V i := by simpa [hil] using hi.symm
  subst this
  obtain ⟨hv, hu⟩ := hV i hil
  rw [add_at] at hv hu
  exact ⟨b, off, rfl, hv, by rw [← Nat.add_assoc] at hu; exact hu⟩
end Go.Proofs.YtblcjohhelokkabGreatDoor
namespace Go.Proofs.YtblcjohhelokkabGreatDoor
open Go.RowKit
section
variable {l : List Ins} {os : List Int} {gs : List (Bool × Int)}
/-- Behind an instruction the run has ended, or it stands where a walk may go on. -/
theorem mstp_nx {p : Nat} {s : Rs} (hp : s.pl = (p : Int)) (hcan : (l.getD p ins0).can l.length = true) : ¬ (mstp os gs (l.getD p ins0) s).oc = 0 ∨ (mstp os gs (l.getD p ins0) s).pl.toNat ∈ nx l p := by
  have hc := can_code hcan
  unfold nx
  generalize l.getD p ins0 = q at *
  have n1 : q.nxt (p : Int) = if q.code = 8 then [q.to] else if q.code = 7 then [q.to, (p : Int) + 1] else if q.code = 9 ∨ q.code = 10 then [] else [(p : Int) + 1] := rfl
  have pi : s.inc.pl = (p : Int) + 1 := by show s.pl + 1 = _; rw [hp]
  have na : q.code ≤ 6 → q.nxt (p : Int) = [(p : Int) + 1] := fun h => by rw [n1, if_neg (by omega), if_neg (by omega), if_neg (by omega)]
  have n7 : q.code = 7 → q.nxt (p : Int) = [q.to, (p : Int) + 1] := fun h => by rw [n1, if_neg (by omega), if_pos h]
  have n8 : q.code = 8 → q.nxt (p : Int) = [q.to] := fun h => by rw [n1, if_pos h]
  clear n1
  unfold mstp
  split
  · rw [na (by omega)]
    split
    · right
      rw [(mstpO_ok os gs q s _).2, hp]
      simp
    · left
      show ¬ (3 : Int) = 0
      decide
  · split
    · rw [na (by omega)]
      right
      show (s.inc.pl).toNat ∈ _
      rw [pi]; simp
    · split
      · rw [na (by omega)]
        right
        show (s.inc.pl).toNat ∈ _
        rw [pi]; simp
      · split
        · rename_i e
          rw [n7 e]
          right
          split
          · simp
          · rw [pi]; simp
        · split
          · rename_i e
            rw [n8 e]
            right
            simp
          · left
            split
            · show ¬ (2 : Int) = 0
              decide
            · show ¬ (1 : Int) = 0
              decide
theorem gor_ht (hcan : ∀ p, p < l.length → (l.getD p ins0).can l.length = true) {p h : Nat} (H : Ht l.length (nx l) p h) : ∀ (c : Nat) (s : Rs), s.oc = 0 → s.pl = (p : Int) → ¬ (gor l os gs (h + 1) c s).1.oc = 0 := by
  induction H with
  | fin =>
    intro c s h0 hp
    rw [gor_step 0 c h0]
    have e : atI l s.pl.toNat = doneI := if_pos (by omega)
    rw [e]
    show ¬ (1 : Int) = 0
    decide
  | step p m g hp hs hl hm ih =>
    intro c s h0 hpl
    rw [gor_step (m + 1) c h0]
    have e : atI l s.pl.toNat = l.getD p ins0 := by
      rw [show s.pl.toNat = p by omega]
      exact if_neg (by omega)
    rw [e]
    have hq := mstp_pl os gs _ s (hcan p hp) ⟨by omega, by omega⟩
    generalize hs' : mstp os gs (l.getD p ins0) s = s' at *
    have hn := mstp_nx (os := os) (gs := gs) hpl (hcan p hp)
    rw [hs'] at hn
    by_cases h1 : s'.oc = 0
    · have hin := hn.resolve_left (fun e => e h1)
      have := ih _ hin (c + 1) s' h1 (by omega)
      have hc := gor_count (l := l) (os := os) (gs := gs) (g s'.pl.toNat + 1) (c + 1) s'
      have hle := hl _ hin
      rw [gor_mono _ _ _ this (m + 1) (by omega)]
      exact this
    · rw [gor_end (m + 1) (c + 1) h1]
      exact h1
end
end Go.Proofs.YtblcjohhelokkabGreatDoor
namespace Go.Proofs.YtblcjohhelokkabGreatDoor
open Go.RowKit Go.Deep Go.ChangeShapes Go.WideShapes Go.ChangeAt
/-- A list's room. -/
theorem open_cap {H : Type} {enc : TypeId × Value → H} {P : Program} {W : World} {spare : Nat → Bool} {held : Bool} {t e : TypeId} {fuel : Nat} {a : Option Addr} {len cap : Nat} {x : DataW H × List MemPlace}
    (ht : P.underlying t = some (.slice e)) (h : DataW.trod enc P W 0 spare held fuel t [.slice a len cap] = some x) : len ≤ cap := by
  rcases open_slice ht h with ⟨hcs, _⟩ | ⟨a', len', cap', m, n, D, Pl, hcs, hb, hl, hm, hmm, rfl, hx⟩
  · simp at hcs; omega
  · simp at hcs
    obtain ⟨rfl, rfl, rfl⟩ := hcs
    exact hl
end Go.Proofs.YtblcjohhelokkabGreatDoor
namespace Go.Proofs.YtblcjohhelokkabGreatDoor
open Go.RowKit
attribute [local go_sem] Oper.semAt_some run_store_nf run_store_f
theorem owns_blk' {W : World} {base n : Nat} {a : Option Addr} {cap : Nat} {l : List Ins} (h : W.ownsRow base 52 11 (.slice a n cap) n (icl l)) : ∀ b off, a = some ⟨b, off, none⟩ → b < W.heap.size := fun b off ea => by
  rcases h.2 with ⟨h1, _⟩ | ⟨g, cap, cur, h1, h2⟩
  · injection h1 with h1 _ _
    rw [h1] at ea; cases ea
  · have hb := owns_lt' h
    injection h1 with h1 _ _
    subst h1
    injection ea with ea
    injection ea with ea _ _
    subst ea
    exact hb _ rfl
theorem NUM.take {w : World} {a : Option Addr} {os : List Int} (h : NUM w a os) (n : Nat) : NUM w a (os.take n) := fun i x hx => by
  rw [List.getElem?_take] at hx
  split at hx
  · exact h i x hx
  · cases hx
theorem GVN.take {w : World} {a : Option Addr} {os : List (Bool × Int)} (h : GVN w a os) (n : Nat) : GVN w a (os.take n) := fun i x hx => by
  rw [List.getElem?_take] at hx
  split at hx
  · exact h i x hx
  · cases hx
set_option maxHeartbeats 1600000 in
set_option maxRecDepth 1000000 in
theorem longest11 {w : World} {a ao ag : Option Addr} {cap co cg : Nat} {l : List Ins} {os : List Int} {gs : List (Bool × Int)} (hT : PT w) (hNT : NT w) (hl : ISL w a l) (hlen : l.length * 88 ≤ 140737488355328) (hO : NUM w ao os) (hoc : os.length ≤ co) (hG : GVN w ag gs) (hgc : gs.length ≤ cg) : Calls Tryz.prog 3 #[.slice a l.length cap, .slice ao os.length co, .slice ag gs.length cg] w fun e w' => e = .returned (.bool true) ∧ Below w.heap.size w w' := by
  have hH := head11 hT hNT
  have hLT := hT.lt
  clear hT hNT
  have hPr := fun W (k : Keeps (fun _ => False) w W) => prog_any (cap := cap) (hl.keep k) hlen
  have hLo := fun W (k : Keeps (fun _ => False) w W) a' cap' (hI : ISL W a' l) hA => longest_any (cap := cap') (hLT.keep k) hI hA (by omega)
  clear hl
  go_enter Tryz.func3, Tryz.ntmps3
  go_wp2_with (first | (go_at_call 4; refine hH.mono ?_; clear hH; rintro e w1 ⟨rfl, k1⟩) | (go_at_call 5; refine (hPr w1 k1).mono ?_; clear hPr; rintro e w2 ⟨v, rfl, hown, k2⟩; obtain ⟨a', cap', rfl, hI⟩ := isl_of_owns hown rfl; have hbk := owns_blk' hown; clear hown; have K2 := k1.trans k2))
  refine (hLo w2 K2 a' cap' hI hbk).mono ?_
  clear hLo
  rintro e w3 ⟨x, y, rfl, hP, k3⟩
  have K3 := K2.trans k3
  have hI3 := hI.keep k3
  clear hbk hI k1 k2 k3
  by_cases hy : y = 0
  · subst hy
    have hP2 : (chk l).1 = 0 ∧ ∃ h : Nat, Ht l.length (nx l) 0 h ∧ x = (h : Int) := by
      rcases hP with ⟨h0, _, h1⟩ | ⟨h0, ⟨h, hh, e, _⟩ | ⟨_, _, e⟩⟩
      · exact (h0 h1.symm).elim
      · exact ⟨h0, h, hh, e⟩
      · cases e
    obtain ⟨hc, h, hH0, rfl⟩ := hP2
    clear hP
    have hh64 := hH0.le
    have hl64 := (chk_ok hc).1
    obtain ⟨f, hf⟩ : ∃ f, f = h + 1 := ⟨_, rfl⟩
    have hf10 : f ≤ 10000 := by omega
    have hw : IntKind.i64.wrap ((h : Int) + 1) = (h : Int) + 1 := by rw [IntKind.wrap_i64]; omega
    by_cases h16 : 16 < os.length
    · have b1 : decide ((16 : Int) < (os.length : Int)) = true := decide_eq_true (by omega)
      have b1n : decide (16 < os.length) = true := decide_eq_true h16
      obtain ⟨bo, oo, rfl, _⟩ := hO 0 _ (List.getElem?_eq_getElem (by omega))
      have co16 : 16 ≤ co := by omega
      have hO2 := hO.take 16
      have l16 : (os.take 16).length = 16 := by rw [List.length_take]; omega
      by_cases h40 : 4096 < gs.length
      · have b2 : decide ((4096 : Int) < (gs.length : Int)) = true := decide_eq_true (by omega)
        have b2n : decide (4096 < gs.length) = true := decide_eq_true h40
        obtain ⟨bg, og, rfl, _⟩ := hG 0 _ (List.getElem?_eq_getElem (by omega))
        have cg40 : 4096 ≤ cg := by omega
        have hG2 := hG.take 4096
        have g40 : (gs.take 4096).length = 4096 := by rw [List.length_take]; omega
        clear hO hG
        have hnz := gor_ht (os := os.take 16) (gs := gs.take 4096) (chk_ok hc).2 hH0 0 rs0 rfl rfl
        rw [← hf] at hnz
        obtain ⟨F, hF⟩ : ∃ F, gor l (os.take 16) (gs.take 4096) f 0 rs0 = F := ⟨_, rfl⟩
        have gc := gor_count (l := l) (os := os.take 16) (gs := gs.take 4096) f 0 rs0
        have gm := gor_mono (l := l) (os := os.take 16) (gs := gs.take 4096) f 0 rs0 hnz 10000
        rw [hF] at gc gm hnz
        obtain ⟨⟨rg, st, nm, rd, pl, oc, rs⟩, c⟩ := F
        simp only at gc gm hnz
        have hF2 := gm (by omega)
        have hocb : (oc != 0) = true := by simpa using hnz
        have hcf : decide ((c : Int) ≤ (h : Int) + 1) = true := decide_eq_true (by omega)
        have hcg : (c : Int) ≤ (h : Int) + 1 := by omega
        have hch : c ≤ h + 1 := by omega
        have hci : decide (c ≤ h + 1) = true := decide_eq_true hch
        obtain ⟨L, hLe⟩ : ∃ L, lft (os.take 16) ⟨rg, st, nm, rd, pl, oc, rs⟩ (os.take 16).length = L := ⟨_, rfl⟩
        have L16 : L.length = 16 := by rw [← hLe, lft_len]; exact l16
        have hR1 := fun W (k : Keeps (fun _ => False) w W) a' cap' (hI : ISL W a' l) => run_fine (cap := cap') (co := co) (cg := cg) (hLT.keep k) hI (hO2.keep k) (hG2.keep k) hc (by have := l16; omega) (by have := g40; omega) f hf10 hF hLe
        have hR2 := fun W (k : Keeps (fun _ => False) w W) a' cap' (hI : ISL W a' l) => run_fine (cap := cap') (co := co) (cg := cg) (hLT.keep k) hI (hO2.keep k) (hG2.keep k) hc (by have := l16; omega) (by have := g40; omega) 10000 (Nat.le_refl _) hF2 hLe
        rw [show ((10000 : Nat) : Int) = 10000 from rfl] at hR2
        rw [show (f : Int) = (h : Int) + 1 by omega] at hR1
        rw [l16] at hR1 hR2
        rw [g40] at hR1 hR2
        clear hF hF2 gc gm hLe hH0
        clear hLT hO2 hG2
        go_wp2_with (first | (go_at_call 8; refine (hR1 w3 K3 a' cap' hI3).mono ?_; clear hR1; rintro e w4 ⟨b4, rfl, C4, k4⟩; obtain ⟨W4, hW4⟩ : ∃ W4, W4 = w4.alloc (.cells #[.int .i64 oc, .int .i64 rs, .slice (some ⟨b4, 0, none⟩) 16 16, .int .i64 (c : Int)] 33) := ⟨_, rfl⟩; have HW4 : Hid (_ = _) := hW4; clear hW4; have KA4 : Keeps (fun _ => False) w4 W4 := (by rw [HW4.out]; exact (Keeps.refl _ w4).alloc _); have CA4 : CL W4 w4.heap.size [.int .i64 oc, .int .i64 rs, .slice (some ⟨b4, 0, none⟩) 16 16, .int .i64 (c : Int)] := (by rw [HW4.out]; exact CL.made w4 _ _); have k4 := k4.trans KA4; have K4 := K3.trans k4; have hI4 := hI3.keep k4; have N4 := (NUM.ofCL C4).keep KA4; clear C4) | (go_at_call 8; rw [← HW4.out]; refine (hR2 W4 K4 a' cap' hI4).mono ?_; clear hR2; rintro e w5 ⟨b5, rfl, C5, k5⟩; obtain ⟨W5, hW5⟩ : ∃ W5, W5 = w5.alloc (.cells #[.int .i64 oc, .int .i64 rs, .slice (some ⟨b5, 0, none⟩) 16 16, .int .i64 (c : Int)] 33) := ⟨_, rfl⟩; have HW5 : Hid (_ = _) := hW5; clear hW5; have KA5 : Keeps (fun _ => False) w5 W5 := (by rw [HW5.out]; exact (Keeps.refl _ w5).alloc _); have CA5 : CL W5 w5.heap.size [.int .i64 oc, .int .i64 rs, .slice (some ⟨b5, 0, none⟩) 16 16, .int .i64 (c : Int)] := (by rw [HW5.out]; exact CL.made w5 _ _); have k5 := k5.trans KA5; have K5 := K4.trans k5; have N5 := (NUM.ofCL C5).keep KA5; have A5 := CA4.keep (by show 0 < 4; decide) k5 (fun e => e); have M4 := N4.keep k5; have hs := same_ok (xs := L) 16 16 oc rs (c : Int) M4 N5 (by omega); rw [L16] at hs; have y0 := A5.c 0 _ rfl; have y1 := A5.c 1 _ rfl; have y2 := A5.c 2 _ rfl; have y3 := A5.c 3 _ rfl; have z0 := CA5.c 0 _ rfl; have z1 := CA5.c 1 _ rfl; have z2 := CA5.c 2 _ rfl; have z3 := CA5.c 3 _ rfl) | (go_at_call 7; rw [← HW5.out]; clear HW5; refine (num11 _ _).mono ?_; rintro e wn ⟨rfl, en⟩; subst wn) | (go_at_call 7; refine (num11 _ _).mono ?_; rintro e wn ⟨rfl, en⟩; subst wn) | (go_at_call 9; refine hs.mono ?_; clear hs; rintro e w6 ⟨rfl, k6⟩))
        go_ret
        exact ⟨rfl, (K5.trans k6).below (Nat.le_refl _) (fun _ _ e => e)⟩
      · have b2 : decide ((4096 : Int) < (gs.length : Int)) = false := decide_eq_false (by omega)
        have b2n : decide (4096 < gs.length) = false := decide_eq_false h40
        have hG2 := hG
        obtain ⟨M, g40⟩ : ∃ M, gs.length = M := ⟨_, rfl⟩
        rw [g40] at b2 b2n h40 hgc
        clear hO hG
        have hnz := gor_ht (os := os.take 16) (gs := gs) (chk_ok hc).2 hH0 0 rs0 rfl rfl
        rw [← hf] at hnz
        obtain ⟨F, hF⟩ : ∃ F, gor l (os.take 16) (gs) f 0 rs0 = F := ⟨_, rfl⟩
        have gc := gor_count (l := l) (os := os.take 16) (gs := gs) f 0 rs0
        have gm := gor_mono (l := l) (os := os.take 16) (gs := gs) f 0 rs0 hnz 10000
        rw [hF] at gc gm hnz
        obtain ⟨⟨rg, st, nm, rd, pl, oc, rs⟩, c⟩ := F
        simp only at gc gm hnz
        have hF2 := gm (by omega)
        have hocb : (oc != 0) = true := by simpa using hnz
        have hcf : decide ((c : Int) ≤ (h : Int) + 1) = true := decide_eq_true (by omega)
        have hcg : (c : Int) ≤ (h : Int) + 1 := by omega
        have hch : c ≤ h + 1 := by omega
        have hci : decide (c ≤ h + 1) = true := decide_eq_true hch
        obtain ⟨L, hLe⟩ : ∃ L, lft (os.take 16) ⟨rg, st, nm, rd, pl, oc, rs⟩ (os.take 16).length = L := ⟨_, rfl⟩
        have L16 : L.length = 16 := by rw [← hLe, lft_len]; exact l16
        have hR1 := fun W (k : Keeps (fun _ => False) w W) a' cap' (hI : ISL W a' l) => run_fine (cap := cap') (co := co) (cg := cg) (hLT.keep k) hI (hO2.keep k) (hG2.keep k) hc (by have := l16; omega) (by have := g40; omega) f hf10 hF hLe
        have hR2 := fun W (k : Keeps (fun _ => False) w W) a' cap' (hI : ISL W a' l) => run_fine (cap := cap') (co := co) (cg := cg) (hLT.keep k) hI (hO2.keep k) (hG2.keep k) hc (by have := l16; omega) (by have := g40; omega) 10000 (Nat.le_refl _) hF2 hLe
        rw [show ((10000 : Nat) : Int) = 10000 from rfl] at hR2
        rw [show (f : Int) = (h : Int) + 1 by omega] at hR1
        rw [l16] at hR1 hR2
        rw [g40] at hR1 hR2
        clear hF hF2 gc gm hLe hH0
        clear hLT hO2 hG2
        rw [g40]
        clear g40
        go_wp2_with (first | (go_at_call 8; refine (hR1 w3 K3 a' cap' hI3).mono ?_; clear hR1; rintro e w4 ⟨b4, rfl, C4, k4⟩; obtain ⟨W4, hW4⟩ : ∃ W4, W4 = w4.alloc (.cells #[.int .i64 oc, .int .i64 rs, .slice (some ⟨b4, 0, none⟩) 16 16, .int .i64 (c : Int)] 33) := ⟨_, rfl⟩; have HW4 : Hid (_ = _) := hW4; clear hW4; have KA4 : Keeps (fun _ => False) w4 W4 := (by rw [HW4.out]; exact (Keeps.refl _ w4).alloc _); have CA4 : CL W4 w4.heap.size [.int .i64 oc, .int .i64 rs, .slice (some ⟨b4, 0, none⟩) 16 16, .int .i64 (c : Int)] := (by rw [HW4.out]; exact CL.made w4 _ _); have k4 := k4.trans KA4; have K4 := K3.trans k4; have hI4 := hI3.keep k4; have N4 := (NUM.ofCL C4).keep KA4; clear C4) | (go_at_call 8; rw [← HW4.out]; refine (hR2 W4 K4 a' cap' hI4).mono ?_; clear hR2; rintro e w5 ⟨b5, rfl, C5, k5⟩; obtain ⟨W5, hW5⟩ : ∃ W5, W5 = w5.alloc (.cells #[.int .i64 oc, .int .i64 rs, .slice (some ⟨b5, 0, none⟩) 16 16, .int .i64 (c : Int)] 33) := ⟨_, rfl⟩; have HW5 : Hid (_ = _) := hW5; clear hW5; have KA5 : Keeps (fun _ => False) w5 W5 := (by rw [HW5.out]; exact (Keeps.refl _ w5).alloc _); have CA5 : CL W5 w5.heap.size [.int .i64 oc, .int .i64 rs, .slice (some ⟨b5, 0, none⟩) 16 16, .int .i64 (c : Int)] := (by rw [HW5.out]; exact CL.made w5 _ _); have k5 := k5.trans KA5; have K5 := K4.trans k5; have N5 := (NUM.ofCL C5).keep KA5; have A5 := CA4.keep (by show 0 < 4; decide) k5 (fun e => e); have M4 := N4.keep k5; have hs := same_ok (xs := L) 16 16 oc rs (c : Int) M4 N5 (by omega); rw [L16] at hs; have y0 := A5.c 0 _ rfl; have y1 := A5.c 1 _ rfl; have y2 := A5.c 2 _ rfl; have y3 := A5.c 3 _ rfl; have z0 := CA5.c 0 _ rfl; have z1 := CA5.c 1 _ rfl; have z2 := CA5.c 2 _ rfl; have z3 := CA5.c 3 _ rfl) | (go_at_call 7; rw [← HW5.out]; clear HW5; refine (num11 _ _).mono ?_; rintro e wn ⟨rfl, en⟩; subst wn) | (go_at_call 7; refine (num11 _ _).mono ?_; rintro e wn ⟨rfl, en⟩; subst wn) | (go_at_call 9; refine hs.mono ?_; clear hs; rintro e w6 ⟨rfl, k6⟩))
        go_ret
        exact ⟨rfl, (K5.trans k6).below (Nat.le_refl _) (fun _ _ e => e)⟩
    · have b1 : decide ((16 : Int) < (os.length : Int)) = false := decide_eq_false (by omega)
      have b1n : decide (16 < os.length) = false := decide_eq_false h16
      have hO2 := hO
      obtain ⟨N, l16⟩ : ∃ N, os.length = N := ⟨_, rfl⟩
      rw [l16] at b1 b1n h16 hoc
      by_cases h40 : 4096 < gs.length
      · have b2 : decide ((4096 : Int) < (gs.length : Int)) = true := decide_eq_true (by omega)
        have b2n : decide (4096 < gs.length) = true := decide_eq_true h40
        obtain ⟨bg, og, rfl, _⟩ := hG 0 _ (List.getElem?_eq_getElem (by omega))
        have cg40 : 4096 ≤ cg := by omega
        have hG2 := hG.take 4096
        have g40 : (gs.take 4096).length = 4096 := by rw [List.length_take]; omega
        clear hO hG
        have hnz := gor_ht (os := os) (gs := gs.take 4096) (chk_ok hc).2 hH0 0 rs0 rfl rfl
        rw [← hf] at hnz
        obtain ⟨F, hF⟩ : ∃ F, gor l (os) (gs.take 4096) f 0 rs0 = F := ⟨_, rfl⟩
        have gc := gor_count (l := l) (os := os) (gs := gs.take 4096) f 0 rs0
        have gm := gor_mono (l := l) (os := os) (gs := gs.take 4096) f 0 rs0 hnz 10000
        rw [hF] at gc gm hnz
        obtain ⟨⟨rg, st, nm, rd, pl, oc, rs⟩, c⟩ := F
        simp only at gc gm hnz
        have hF2 := gm (by omega)
        have hocb : (oc != 0) = true := by simpa using hnz
        have hcf : decide ((c : Int) ≤ (h : Int) + 1) = true := decide_eq_true (by omega)
        have hcg : (c : Int) ≤ (h : Int) + 1 := by omega
        have hch : c ≤ h + 1 := by omega
        have hci : decide (c ≤ h + 1) = true := decide_eq_true hch
        obtain ⟨L, hLe⟩ : ∃ L, lft (os) ⟨rg, st, nm, rd, pl, oc, rs⟩ (os).length = L := ⟨_, rfl⟩
        have L16 : L.length = N := by rw [← hLe, lft_len]; exact l16
        have hR1 := fun W (k : Keeps (fun _ => False) w W) a' cap' (hI : ISL W a' l) => run_fine (cap := cap') (co := co) (cg := cg) (hLT.keep k) hI (hO2.keep k) (hG2.keep k) hc (by have := l16; omega) (by have := g40; omega) f hf10 hF hLe
        have hR2 := fun W (k : Keeps (fun _ => False) w W) a' cap' (hI : ISL W a' l) => run_fine (cap := cap') (co := co) (cg := cg) (hLT.keep k) hI (hO2.keep k) (hG2.keep k) hc (by have := l16; omega) (by have := g40; omega) 10000 (Nat.le_refl _) hF2 hLe
        rw [show ((10000 : Nat) : Int) = 10000 from rfl] at hR2
        rw [show (f : Int) = (h : Int) + 1 by omega] at hR1
        rw [l16] at hR1 hR2
        rw [g40] at hR1 hR2
        clear hF hF2 gc gm hLe hH0
        clear hLT hO2 hG2
        rw [l16]
        clear l16
        go_wp2_with (first | (go_at_call 8; refine (hR1 w3 K3 a' cap' hI3).mono ?_; clear hR1; rintro e w4 ⟨b4, rfl, C4, k4⟩; obtain ⟨W4, hW4⟩ : ∃ W4, W4 = w4.alloc (.cells #[.int .i64 oc, .int .i64 rs, .slice (some ⟨b4, 0, none⟩) N N, .int .i64 (c : Int)] 33) := ⟨_, rfl⟩; have HW4 : Hid (_ = _) := hW4; clear hW4; have KA4 : Keeps (fun _ => False) w4 W4 := (by rw [HW4.out]; exact (Keeps.refl _ w4).alloc _); have CA4 : CL W4 w4.heap.size [.int .i64 oc, .int .i64 rs, .slice (some ⟨b4, 0, none⟩) N N, .int .i64 (c : Int)] := (by rw [HW4.out]; exact CL.made w4 _ _); have k4 := k4.trans KA4; have K4 := K3.trans k4; have hI4 := hI3.keep k4; have N4 := (NUM.ofCL C4).keep KA4; clear C4) | (go_at_call 8; rw [← HW4.out]; refine (hR2 W4 K4 a' cap' hI4).mono ?_; clear hR2; rintro e w5 ⟨b5, rfl, C5, k5⟩; obtain ⟨W5, hW5⟩ : ∃ W5, W5 = w5.alloc (.cells #[.int .i64 oc, .int .i64 rs, .slice (some ⟨b5, 0, none⟩) N N, .int .i64 (c : Int)] 33) := ⟨_, rfl⟩; have HW5 : Hid (_ = _) := hW5; clear hW5; have KA5 : Keeps (fun _ => False) w5 W5 := (by rw [HW5.out]; exact (Keeps.refl _ w5).alloc _); have CA5 : CL W5 w5.heap.size [.int .i64 oc, .int .i64 rs, .slice (some ⟨b5, 0, none⟩) N N, .int .i64 (c : Int)] := (by rw [HW5.out]; exact CL.made w5 _ _); have k5 := k5.trans KA5; have K5 := K4.trans k5; have N5 := (NUM.ofCL C5).keep KA5; have A5 := CA4.keep (by show 0 < 4; decide) k5 (fun e => e); have M4 := N4.keep k5; have hs := same_ok (xs := L) N N oc rs (c : Int) M4 N5 (by omega); rw [L16] at hs; have y0 := A5.c 0 _ rfl; have y1 := A5.c 1 _ rfl; have y2 := A5.c 2 _ rfl; have y3 := A5.c 3 _ rfl; have z0 := CA5.c 0 _ rfl; have z1 := CA5.c 1 _ rfl; have z2 := CA5.c 2 _ rfl; have z3 := CA5.c 3 _ rfl) | (go_at_call 7; rw [← HW5.out]; clear HW5; refine (num11 _ _).mono ?_; rintro e wn ⟨rfl, en⟩; subst wn) | (go_at_call 7; refine (num11 _ _).mono ?_; rintro e wn ⟨rfl, en⟩; subst wn) | (go_at_call 9; refine hs.mono ?_; clear hs; rintro e w6 ⟨rfl, k6⟩))
        go_ret
        exact ⟨rfl, (K5.trans k6).below (Nat.le_refl _) (fun _ _ e => e)⟩
      · have b2 : decide ((4096 : Int) < (gs.length : Int)) = false := decide_eq_false (by omega)
        have b2n : decide (4096 < gs.length) = false := decide_eq_false h40
        have hG2 := hG
        obtain ⟨M, g40⟩ : ∃ M, gs.length = M := ⟨_, rfl⟩
        rw [g40] at b2 b2n h40 hgc
        clear hO hG
        have hnz := gor_ht (os := os) (gs := gs) (chk_ok hc).2 hH0 0 rs0 rfl rfl
        rw [← hf] at hnz
        obtain ⟨F, hF⟩ : ∃ F, gor l (os) (gs) f 0 rs0 = F := ⟨_, rfl⟩
        have gc := gor_count (l := l) (os := os) (gs := gs) f 0 rs0
        have gm := gor_mono (l := l) (os := os) (gs := gs) f 0 rs0 hnz 10000
        rw [hF] at gc gm hnz
        obtain ⟨⟨rg, st, nm, rd, pl, oc, rs⟩, c⟩ := F
        simp only at gc gm hnz
        have hF2 := gm (by omega)
        have hocb : (oc != 0) = true := by simpa using hnz
        have hcf : decide ((c : Int) ≤ (h : Int) + 1) = true := decide_eq_true (by omega)
        have hcg : (c : Int) ≤ (h : Int) + 1 := by omega
        have hch : c ≤ h + 1 := by omega
        have hci : decide (c ≤ h + 1) = true := decide_eq_true hch
        obtain ⟨L, hLe⟩ : ∃ L, lft (os) ⟨rg, st, nm, rd, pl, oc, rs⟩ (os).length = L := ⟨_, rfl⟩
        have L16 : L.length = N := by rw [← hLe, lft_len]; exact l16
        have hR1 := fun W (k : Keeps (fun _ => False) w W) a' cap' (hI : ISL W a' l) => run_fine (cap := cap') (co := co) (cg := cg) (hLT.keep k) hI (hO2.keep k) (hG2.keep k) hc (by have := l16; omega) (by have := g40; omega) f hf10 hF hLe
        have hR2 := fun W (k : Keeps (fun _ => False) w W) a' cap' (hI : ISL W a' l) => run_fine (cap := cap') (co := co) (cg := cg) (hLT.keep k) hI (hO2.keep k) (hG2.keep k) hc (by have := l16; omega) (by have := g40; omega) 10000 (Nat.le_refl _) hF2 hLe
        rw [show ((10000 : Nat) : Int) = 10000 from rfl] at hR2
        rw [show (f : Int) = (h : Int) + 1 by omega] at hR1
        rw [l16] at hR1 hR2
        rw [g40] at hR1 hR2
        clear hF hF2 gc gm hLe hH0
        clear hLT hO2 hG2
        rw [l16, g40]
        clear l16 g40
        go_wp2_with (first | (go_at_call 8; refine (hR1 w3 K3 a' cap' hI3).mono ?_; clear hR1; rintro e w4 ⟨b4, rfl, C4, k4⟩; obtain ⟨W4, hW4⟩ : ∃ W4, W4 = w4.alloc (.cells #[.int .i64 oc, .int .i64 rs, .slice (some ⟨b4, 0, none⟩) N N, .int .i64 (c : Int)] 33) := ⟨_, rfl⟩; have HW4 : Hid (_ = _) := hW4; clear hW4; have KA4 : Keeps (fun _ => False) w4 W4 := (by rw [HW4.out]; exact (Keeps.refl _ w4).alloc _); have CA4 : CL W4 w4.heap.size [.int .i64 oc, .int .i64 rs, .slice (some ⟨b4, 0, none⟩) N N, .int .i64 (c : Int)] := (by rw [HW4.out]; exact CL.made w4 _ _); have k4 := k4.trans KA4; have K4 := K3.trans k4; have hI4 := hI3.keep k4; have N4 := (NUM.ofCL C4).keep KA4; clear C4) | (go_at_call 8; rw [← HW4.out]; refine (hR2 W4 K4 a' cap' hI4).mono ?_; clear hR2; rintro e w5 ⟨b5, rfl, C5, k5⟩; obtain ⟨W5, hW5⟩ : ∃ W5, W5 = w5.alloc (.cells #[.int .i64 oc, .int .i64 rs, .slice (some ⟨b5, 0, none⟩) N N, .int .i64 (c : Int)] 33) := ⟨_, rfl⟩; have HW5 : Hid (_ = _) := hW5; clear hW5; have KA5 : Keeps (fun _ => False) w5 W5 := (by rw [HW5.out]; exact (Keeps.refl _ w5).alloc _); have CA5 : CL W5 w5.heap.size [.int .i64 oc, .int .i64 rs, .slice (some ⟨b5, 0, none⟩) N N, .int .i64 (c : Int)] := (by rw [HW5.out]; exact CL.made w5 _ _); have k5 := k5.trans KA5; have K5 := K4.trans k5; have N5 := (NUM.ofCL C5).keep KA5; have A5 := CA4.keep (by show 0 < 4; decide) k5 (fun e => e); have M4 := N4.keep k5; have hs := same_ok (xs := L) N N oc rs (c : Int) M4 N5 (by omega); rw [L16] at hs; have y0 := A5.c 0 _ rfl; have y1 := A5.c 1 _ rfl; have y2 := A5.c 2 _ rfl; have y3 := A5.c 3 _ rfl; have z0 := CA5.c 0 _ rfl; have z1 := CA5.c 1 _ rfl; have z2 := CA5.c 2 _ rfl; have z3 := CA5.c 3 _ rfl) | (go_at_call 7; rw [← HW5.out]; clear HW5; refine (num11 _ _).mono ?_; rintro e wn ⟨rfl, en⟩; subst wn) | (go_at_call 7; refine (num11 _ _).mono ?_; rintro e wn ⟨rfl, en⟩; subst wn) | (go_at_call 9; refine hs.mono ?_; clear hs; rintro e w6 ⟨rfl, k6⟩))
        go_ret
        exact ⟨rfl, (K5.trans k6).below (Nat.le_refl _) (fun _ _ e => e)⟩
  · have hyb : (y != 0) = true := by simpa using hy
    clear hLT hO hG hP
    generalize os.length = N at *
    generalize gs.length = M at *
    go_wp2_with (go_at_call 7; refine (num11 _ _).mono ?_; rintro e wn ⟨rfl, en⟩; subst wn)
    go_ret
    exact ⟨rfl, K3.below (Nat.le_refl _) (fun _ _ e => e)⟩
end Go.Proofs.YtblcjohhelokkabGreatDoor
