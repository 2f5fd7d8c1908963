import Derived.Test.YtpdhjokbhofglaaStB
namespace Go.Proofs.Ytpdhjokbhofglaa
open Go.RowKit Go.Shelf

set_option maxHeartbeats 1600000 in
set_option maxRecDepth 1000000 in
theorem begink_ok {w : World} {mb : Nat} {s : Mm} {F : List Nat} (h : MI w mb s F) (st th : Int) (hm : s.may st th = true) :
    Calls Try.prog 6 #[.pointer (some ⟨mb, 0, none⟩), .int .i64 st, .int .i64 th] w fun e w' => e = .returned (.int .i64 0) ∧ w' = ((((w.setCell ⟨mb, 2, none⟩ (.int .i64 st)).setCell ⟨mb, 3, none⟩ (.int .i64 th)).setCell ⟨mb, 4, none⟩ (.bool true)).setCell ⟨mb, 5, none⟩ (.bool true)) := by
  obtain ⟨vc, vl, h, rfl⟩ := h
  have hp := peq mb
  have c2 := h.f2
  have c3 := h.f3
  have c4 := h.f4
  have c5 := h.f5
  have z2 := h.z 2 (by omega)
  have z3 := h.z 3 (by omega)
  have z4 := h.z 4 (by omega)
  have z5 := h.z 5 (by omega)
  clear h
  simp only [Mm.may, Bool.and_eq_true, decide_eq_true_eq] at hm
  obtain ⟨⟨m1, m2⟩, m3⟩ := hm
  have b1 : decide (st < 0) = false := by simp; omega
  have b2 : decide (th < 0) = false := by simp; omega
  clear m1 m2
  cases hb : s.begun with
  | false =>
    rw [hb] at c4
    go_enter Try.func6, Try.ntmps6
    go_wp2_with fail
    go_ret
    exact ⟨rfl, rfl⟩
  | true =>
    rw [hb] at c4 m3
    have b3 : decide (st ≤ s.step) = false := by simpa using m3
    clear m3
    go_enter Try.func6, Try.ntmps6
    go_wp2_with fail
    go_ret
    exact ⟨rfl, rfl⟩


theorem MP.mb {w0 w : World} {R : Nat → Prop} {mb : Nat} {s : Mm} (h : MP w0 R w mb s) : w0.heap.size ≤ mb ∧ ¬ R mb := by
  obtain ⟨F, h, hF, _, _⟩ := h
  exact hF _ h.mem
/-- Blocks without cells are left alone. -/
theorem MI.others {w w' : World} {mb : Nat} {s : Mm} {F : List Nat} (h : MI w mb s F) (k : Keeps (fun g => g ∈ F) w w') : KeepsOthers w w' := by
  obtain ⟨vc, vl, h, rfl⟩ := h
  have own : ∀ {e z n : Nat} {v : Value} {xs : List Value}, w.ownsRow 0 e z v n xs → ∀ g, v.ownBlock = some g → ∀ o : Obj, w.heap[g]? = some o → o.isCells = true := fun {e z n v xs} hw g hg' o ho => by
    rcases hw.2 with ⟨h', _⟩ | ⟨g', c, cur, h', _, hgg, _⟩
    · rw [h'] at hg'; cases hg'
    · rw [h'] at hg'
      cases hg'
      rw [ho] at hgg
      cases hgg
      rfl
  refine ⟨k.size, fun g o ho hc => (k.block g (Array.getElem?_eq_some_iff.1 ho).1 (fun e => ?_)).trans ho⟩
  have : o.isCells = true := by
    simp at e
    rcases e with e | e | e
    · exact cells_of h.f0 e.symm ho
    · exact own h.rc g e o ho
    · exact own h.rl g e o ho
  rw [hc] at this
  cases this
/-- Add, and what stood in the log's rows stands there still; blocks without cells are left alone. -/
theorem paddo {w0 w : World} {R : Nat → Prop} {mb : Nat} {s : Mm} (h : MP w0 R w mb s) {c : Nat} (hc : c < s.cells.length) (hfr : s.free = true) (hlog : (s.log.length + 1) * 56 ≤ 140737488355328) (u : Int) :
    Calls Try.prog 10 #[.pointer (some ⟨mb, 0, none⟩), .int .i64 (c : Int), .int .i64 u] w fun e w' =>
      e = .returned (.tuple #[.int .i64 (ca s.cells c).2, .int .i64 0]) ∧ MP w0 R w' mb (s.take 3 c (wrap64 ((ca s.cells c).2 + u)) true) ∧ KP w0 R w w' ∧ KeepsOthers w w' ∧ ∀ a cap, w.cell? ⟨mb, 1, none⟩ = some (.slice a s.log.length cap) → KR a s.log.length w w' := by
  obtain ⟨F, h, hF, hk, hR⟩ := h
  refine (addk_ok h hc hfr hlog u).mono ?_
  rintro e w' ⟨rfl, ⟨F', h', l⟩, ok⟩
  obtain ⟨m1, m2⟩ := MP.next h hF hk hR h' l
  exact ⟨rfl, m1, m2, h.others l.1, fun a cap e g ea o u ho hc => ok _ e g (by rw [ea]; rfl) o u ho hc⟩
theorem KR.put {a : Option Addr} {n : Nat} {w7 : World} (hg : ∀ g, a = some ⟨g, 0, none⟩ → g < w7.heap.size) (W : World) (l : Nat) (o o' : Obj) (hl : w7.heap.size ≤ l) (_ : W.heap[l]? = some o) (_ : o.isCells = false) (_ : o.isWalk = false) : KR a n W (W.putObj l o') :=
  KR.of (S := fun i => i = l) ((Keeps.refl _ W).grown (grownBy_putObj' W l o') (fun i _ e => by cases e; rfl)) (fun g e => by have := hg g e; omega)
theorem cell_kept {A B : World} {row : Option Nat} {p : Addr} {v : Value} (h : A.cell? p = some v) (hg : A.grownBy B row) (hr : ∀ r, row = some r → ∃ o : Obj, A.heap[r]? = some o ∧ o.isCells = false) : B.cell? p = some v := by
  have k : Keeps (fun i => row = some i) A B := (Keeps.refl _ A).grown hg (fun i _ e => e)
  refine k.cell h (fun e => ?_)
  obtain ⟨o, h1, h2⟩ := hr _ e
  have := cells_of h rfl h1
  rw [h2] at this
  cases this
theorem RowAt.kept {A B : World} {row : Option Nat} {g o : Nat} {r : Rw} (h : RowAt A g o r) (hg : A.grownBy B row) (hr : ∀ r, row = some r → ∃ o : Obj, A.heap[r]? = some o ∧ o.isCells = false) : RowAt B g o r :=
  ⟨cell_kept h.r0 hg hr, cell_kept h.r1 hg hr, cell_kept h.r2 hg hr, cell_kept h.r3 hg hr, cell_kept h.r4 hg hr, cell_kept h.r5 hg hr, cell_kept h.r6 hg hr⟩
/-- Begin, and the log lies as it lay. -/
theorem pbegink {w0 w : World} {R : Nat → Prop} {mb : Nat} {s : Mm} (h : MP w0 R w mb s) (st th : Int) (hm : s.may st th = true) :
    Calls Try.prog 6 #[.pointer (some ⟨mb, 0, none⟩), .int .i64 st, .int .i64 th] w fun e w' => e = .returned (.int .i64 0) ∧ MP w0 R w' mb (s.begin st th) ∧ KP w0 R w w' ∧ KeepsOthers w w' ∧
      ∀ a n cap, w.cell? ⟨mb, 1, none⟩ = some (.slice a n cap) → w'.cell? ⟨mb, 1, none⟩ = some (.slice a n cap) ∧ KR a n w w' := by
  obtain ⟨F, h, hF, hk, hR⟩ := h
  refine (begink_ok h st th hm).mono ?_
  rintro e w' ⟨rfl, rfl⟩
  obtain ⟨vc, vl, h, rfl⟩ := h
  obtain ⟨h1, k1⟩ := h.begin st th
  obtain ⟨m1, m2⟩ := MP.next (w0 := w0) (R := R) ⟨vc, vl, h, rfl⟩ hF hk hR ⟨vc, vl, h1, rfl⟩ ⟨k1.mono (fun _ _ e => by simp [e]), fun _ e => .inl e⟩
  refine ⟨rfl, m1, m2, MI.others ⟨vc, vl, h, rfl⟩ (k1.mono (fun _ _ e => by simp [e])), fun a n cap hc => ?_⟩
  have e1 := h1.f1
  have e2 := hc.symm.trans h.f1
  rw [← Option.some.inj e2] at e1
  refine ⟨e1, fun g e o u _ hu => k1.cell hu (fun hg => h.nl ?_)⟩
  have hv := Option.some.inj e2
  rw [← hv, e]
  have hg' : g = mb := hg
  rw [hg']
  rfl
/-- Where four pieces of code have gone by. -/
theorem cut4 {F : Fence} {n : Nat} {P : Program} {Q : Exit → Act → World → Prop} {K : Act → World → Prop} {c1 c2 c3 c4 C : Code} (h : ∀ a w, (c1.seq (c2.seq (c3.seq (c4.seq C)))).wpIn F n P Q a w → K a w) :
    ∃ K' : Act → World → Prop, (∀ a w, C.wpIn F n P Q a w → K' a w) ∧ ∀ a w, c1.wpIn F n P (Exit.then (fun a w => c2.wpIn F n P (Exit.then (fun a w => c3.wpIn F n P (Exit.then (fun a w => c4.wpIn F n P (Exit.then K' Q) a w) Q) a w) Q) a w) Q) a w → K a w :=
  ⟨fun a w => C.wpIn F n P Q a w, fun _ _ h => h, fun a w hh => by
    refine h a w (wpIn_seq (wpIn_mono hh fun e a w q => ?_))
    cases e
    case normal =>
      refine wpIn_seq (wpIn_mono q fun e a w q => ?_)
      cases e
      case normal =>
        refine wpIn_seq (wpIn_mono q fun e a w q => ?_)
        cases e
        case normal => exact wpIn_seq q
        all_goals exact q
      all_goals exact q
    all_goals exact q⟩
/-- A block that holds no cells is looked after, too. -/
theorem MP.addD {w0 w : World} {R : Nat → Prop} {mb : Nat} {s : Mm} (h : MP w0 R w mb s) {D : Nat} {o : Obj} (hD : w.heap[D]? = some o) (ho : o.isCells = false) : MP w0 (fun g => R g ∨ g = D) w mb s := by
  obtain ⟨F, ⟨vc, vl, h, rfl⟩, hF, hk, hR⟩ := h
  have own : ∀ {e z n : Nat} {v : Value} {xs : List Value}, w.ownsRow 0 e z v n xs → ∀ g, v.ownBlock = some g → ¬ g = D := fun {e z n v xs} hw g hg' er => by
    subst er
    rcases hw.2 with ⟨h', _⟩ | ⟨g', c, cur, h', _, hgg, _⟩
    · rw [h'] at hg'; cases hg'
    · rw [h'] at hg'
      cases hg'
      rw [hD] at hgg
      cases hgg
      cases ho
  refine ⟨_, ⟨vc, vl, h, rfl⟩, fun k hk' => ⟨(hF k hk').1, ?_⟩, hk, fun k e => e.elim (hR k) (fun e => by subst e; exact (Array.getElem?_eq_some_iff.1 hD).1)⟩
  rintro (e | e)
  · exact (hF k hk').2 e
  · simp at hk'
    rcases hk' with e' | e' | e'
    · subst e
      have := cells_of h.f0 (by exact e'.symm) hD
      rw [ho] at this
      cases this
    · exact own h.rc k e' e
    · exact own h.rl k e' e
theorem SX.addD {W0 : World} {bm mb c4 c5 : Nat} {al : Option Addr} {cl : Nat} {L : List Rw} {st : Nat} {fm : Int} {R : Nat → Prop} {W : World} {sp : Mm} {p : Nat} (h : SX W0 bm mb c4 c5 al cl L st fm R W sp p) {D : Nat} {o : Obj} (hD : W.heap[D]? = some o) (ho : o.isCells = false) : SX W0 bm mb c4 c5 al cl L st fm (fun g => R g ∨ g = D) W sp p :=
  ⟨h.mp.addD hD ho, h.b9, h.bL, h.bS, h.bN, h.b1, h.b2, h.bF, h.bP, h.rl, fun g hg => .inl (h.ir g hg)⟩
/-- What is known of the memory between two passes. -/
structure FX (L : List Rw) (st ln : Nat) (sp : Mm) (p k : Nat) : Prop where
  p1 : p ≤ 1
  pk : k ≤ 1 → p = 0
  ps : p = 1 → st < L.length
  ll : sp.log.length = L.length + p
  pr : ∀ i, i < L.length → ra sp.log i = ra L i
  ga : p = 0 → GA sp ln
theorem FX.next {L : List Rw} {st ln : Nat} {sp : Mm} {p k : Nat} (h : FX L st ln sp p k) : FX L st ln sp p (k + 1) :=
  ⟨h.p1, fun e => h.pk (by omega), h.ps, h.ll, h.pr, h.ga⟩
theorem FX.put {L : List Rw} {st ln : Nat} {sp : Mm} {k : Nat} (h : FX L st ln sp 0 k) (hs : st < L.length) (c : Nat) (v : Int) : FX L st ln ((sp.begin (ln : Int) 0).take 3 c v true) 1 2 :=
  ⟨Nat.le_refl _, fun e => by omega, fun _ => hs, by have := h.ll; simp [Mm.take, Mm.begin]; omega, fun i hi => by
    rw [← h.pr i hi]
    have := h.ll
    show (sp.log ++ [_]).getD i rw0 = sp.log.getD i rw0
    simp [List.getD_eq_getElem?_getD, List.getElem?_append_left (show i < sp.log.length by omega)], fun e => by omega⟩
theorem FX.rows {L : List Rw} {st ln : Nat} {sp : Mm} {p k : Nat} (h : FX L st ln sp p k) : sp.log.length - st = (L.length - st) + p := by
  have h1 := h.p1; have h2 := h.ps; have h3 := h.ll; omega
/-- The blocks that are looked after from the start. -/
def SB (bm c4 c5 : Nat) (al : Option Addr) (cl n : Nat) (g : Nat) : Prop := g = bm ∨ g = c4 ∨ g = c4 + 1 ∨ g = c4 + 1 + 1 ∨ g = c4 + 1 + 1 + 1 ∨ g = c4 + 1 + 1 + 1 + 1 ∨ g = c5 ∨ g = c5 + 1 ∨ (Value.slice al n cl).ownBlock = some g
/-- A pass: its four boxes beside all that. -/
structure PX (W0 : World) (bm mb c4 c5 : Nat) (al : Option Addr) (cl : Nat) (L : List Rw) (st : Nat) (fm : Int) (R : Nat → Prop) (b : Nat) (ps stp hv : Int) (kd : Nat) (D : Nat → Nat) (W : World) (sp : Mm) (p n : Nat) : Prop where
  sx : SX W0 bm mb c4 c5 al cl L st fm R W sp p
  b0 : Boxed W b 3 (.int .i64 ps)
  b1 : Boxed W (b + 1) 3 (.int .i64 stp)
  b2 : Boxed W (b + 1 + 1) 3 (.int .i64 hv)
  b3 : Boxed W (b + 1 + 1 + 1) 3 (.int .i64 (n : Int))
  ib : ∀ g, b ≤ g → g < b + 4 → R g
  lo : W0.heap.size ≤ b
  hi : ∀ g, SB bm c4 c5 al cl L.length g → g < b
  dd : ∀ i, i < kd → R (D i) ∧ D i < b ∧ W.heap[D i]? = some (.deferred (some []))
section
variable {W0 : World} {bm mb c4 c5 : Nat} {al : Option Addr} {cl : Nat} {L : List Rw} {st : Nat} {fm : Int} {R : Nat → Prop} {b : Nat} {ps stp hv : Int} {kd : Nat} {D : Nat → Nat} {W W' : World} {sp sp' : Mm} {p n : Nat}
theorem PX.mem (h : PX W0 bm mb c4 c5 al cl L st fm R b ps stp hv kd D W sp p n) (hm : MP W0 R W' mb sp') (k : KP W0 R W W') : PX W0 bm mb c4 c5 al cl L st fm R b ps stp hv kd D W' sp' p n :=
  ⟨h.sx.mem hm k, bx_keeps h.b0 k (fun e => e.2 (h.ib _ (by omega) (by omega))), bx_keeps h.b1 k (fun e => e.2 (h.ib _ (by omega) (by omega))), bx_keeps h.b2 k (fun e => e.2 (h.ib _ (by omega) (by omega))), bx_keeps h.b3 k (fun e => e.2 (h.ib _ (by omega) (by omega))), h.ib, h.lo, h.hi, fun i hi => ⟨(h.dd i hi).1, (h.dd i hi).2.1, (k.block _ (h.sx.mp.lt (h.dd i hi).1) (fun e => e.2 (h.dd i hi).1)).trans (h.dd i hi).2.2⟩⟩
theorem PX.new (h : PX W0 bm mb c4 c5 al cl L st fm R b ps stp hv kd D W sp p n) (k : Keeps (fun _ => False) W W') : PX W0 bm mb c4 c5 al cl L st fm R b ps stp hv kd D W' sp p n := h.mem (h.sx.mp.new k) (KP.new k)
theorem PX.kept {row : Option Nat} (h : PX W0 bm mb c4 c5 al cl L st fm R b ps stp hv kd D W sp p n) (hg : W.grownBy W' row) (hr : ∀ r, row = some r → b ≤ r ∧ ∃ o : Obj, W.heap[r]? = some o ∧ o.isCells = false) : PX W0 bm mb c4 c5 al cl L st fm R b ps stp hv kd D W' sp p n := by
  have bx : ∀ {B : Nat} {t : TypeId} {v : Value}, Boxed W B t v → ¬ row = some B := fun {B t v} hb e => by
    obtain ⟨_, o, h1, h2⟩ := hr B e
    rw [show W.heap[B]? = _ from hb] at h1
    cases h1
    cases h2
  have k : Keeps (fun i => row = some i) W W' := (Keeps.refl _ W).grown hg (fun _ _ e => e)
  exact ⟨h.sx.kept hg (fun r e => ⟨Nat.le_trans h.lo (hr r e).1, (hr r e).2⟩), bx_keeps h.b0 k (bx h.b0), bx_keeps h.b1 k (bx h.b1), bx_keeps h.b2 k (bx h.b2), bx_keeps h.b3 k (bx h.b3), h.ib, h.lo, h.hi, fun i hi => ⟨(h.dd i hi).1, (h.dd i hi).2.1, (hg.block _ (h.sx.mp.lt (h.dd i hi).1) (fun e => by have := (hr _ e.symm).1; have := (h.dd i hi).2.1; omega)).trans (h.dd i hi).2.2⟩⟩
/-- n goes on. -/
theorem PX.setn (h : PX W0 bm mb c4 c5 al cl L st fm R b ps stp hv kd D W sp p n) (m : Nat) : PX W0 bm mb c4 c5 al cl L st fm R b ps stp hv kd D (W.setCell ⟨b + 1 + 1 + 1, 0, none⟩ (.int .i64 (m : Int))) sp p m := by
  have k : Keeps (fun g => g = b + 1 + 1 + 1) W (W.setCell ⟨b + 1 + 1 + 1, 0, none⟩ (.int .i64 (m : Int))) := (Keeps.refl (fun g => g = b + 1 + 1 + 1) W).setCell (p := ⟨b + 1 + 1 + 1, 0, none⟩) (fun _ => rfl) _
  exact ⟨h.sx.wr (by have := h.lo; omega) (h.ib _ (by omega) (by omega)) (fun g hg e => by have := h.hi g hg; omega) _, bx_keeps h.b0 k (by omega), bx_keeps h.b1 k (by omega), bx_keeps h.b2 k (by omega), h.b3.set _, h.ib, h.lo, h.hi, fun i hi => ⟨(h.dd i hi).1, (h.dd i hi).2.1, (k.block _ (h.sx.mp.lt (h.dd i hi).1) (fun e => by have := (h.dd i hi).2.1; omega)).trans (h.dd i hi).2.2⟩⟩
/-- 'have' is cut. -/
theorem PX.seth (h : PX W0 bm mb c4 c5 al cl L st fm R b ps stp hv kd D W sp p n) (m : Int) : PX W0 bm mb c4 c5 al cl L st fm R b ps stp m kd D (W.setCell ⟨b + 1 + 1, 0, none⟩ (.int .i64 m)) sp p n := by
  have k : Keeps (fun g => g = b + 1 + 1) W (W.setCell ⟨b + 1 + 1, 0, none⟩ (.int .i64 m)) := (Keeps.refl (fun g => g = b + 1 + 1) W).setCell (p := ⟨b + 1 + 1, 0, none⟩) (fun _ => rfl) _
  exact ⟨h.sx.wr (by have := h.lo; omega) (h.ib _ (by omega) (by omega)) (fun g hg e => by have := h.hi g hg; omega) _, bx_keeps h.b0 k (by omega), bx_keeps h.b1 k (by omega), h.b2.set _, bx_keeps h.b3 k (by omega), h.ib, h.lo, h.hi, fun i hi => ⟨(h.dd i hi).1, (h.dd i hi).2.1, (k.block _ (h.sx.mp.lt (h.dd i hi).1) (fun e => by have := (h.dd i hi).2.1; omega)).trans (h.dd i hi).2.2⟩⟩
/-- put is written. -/
theorem PX.putp (h : PX W0 bm mb c4 c5 al cl L st fm R b ps stp hv kd D W sp p n) (hb : W0.heap.size ≤ c5 + 1) (hd : c5 + 1 ≠ bm ∧ (c5 + 1 ≠ c4 ∧ c5 + 1 ≠ c4 + 1 ∧ c5 + 1 ≠ c4 + 1 + 1 ∧ c5 + 1 ≠ c4 + 1 + 1 + 1 ∧ c5 + 1 ≠ c4 + 1 + 1 + 1 + 1) ∧ ¬ (Value.slice al L.length cl).ownBlock = some (c5 + 1)) (q : Nat) : PX W0 bm mb c4 c5 al cl L st fm R b ps stp hv kd D (W.setCell ⟨c5 + 1, 0, none⟩ (.int .i64 (q : Int))) sp q n := by
  have k : Keeps (fun g => g = c5 + 1) W (W.setCell ⟨c5 + 1, 0, none⟩ (.int .i64 (q : Int))) := (Keeps.refl (fun g => g = c5 + 1) W).setCell (p := ⟨c5 + 1, 0, none⟩) (fun _ => rfl) _
  have hc := h.hi (c5 + 1) (.inr (.inr (.inr (.inr (.inr (.inr (.inr (.inl rfl))))))))
  exact ⟨h.sx.put hb hd q, bx_keeps h.b0 k (by omega), bx_keeps h.b1 k (by omega), bx_keeps h.b2 k (by omega), bx_keeps h.b3 k (by omega), h.ib, h.lo, h.hi, fun i hi => ⟨(h.dd i hi).1, (h.dd i hi).2.1, (k.block _ (h.sx.mp.lt (h.dd i hi).1) (fun e => by have e' := (h.dd i hi).2.2; rw [show D i = c5 + 1 from e, show W.heap[c5 + 1]? = _ from h.sx.bP] at e'; cases e')).trans (h.dd i hi).2.2⟩⟩
/-- A pass begins. -/
theorem SX.pass (h : SX W0 bm mb c4 c5 al cl L st fm R W sp p) (ps stp hv : Int) (hlo : W0.heap.size ≤ W.heap.size) (hd : ∀ i, i < kd → R (D i) ∧ W.heap[D i]? = some (.deferred (some []))) : PX W0 bm mb c4 c5 al cl L st fm (fun g => R g ∨ (W.heap.size ≤ g ∧ g < W.heap.size + 4)) W.heap.size ps stp hv kd D ((((W.alloc (.cells #[.int .i64 ps] 3)).alloc (.cells #[.int .i64 stp] 3)).alloc (.cells #[.int .i64 hv] 3)).alloc (.cells #[.int .i64 0] 3)) sp p 0 := by
  have q : ∀ (w : World) (t : TypeId) (v : Value) (n : Nat), w.heap.size = n → Boxed (w.alloc (.cells #[v] t)) n t v := fun w t v n e => e ▸ Boxed.new w t v
  have no : ∀ {a c : World} {B : Nat} {t : TypeId} {v : Value}, Boxed a B t v → Keeps (fun _ => False) a c → Boxed c B t v := fun h k => bx_keeps h k (fun e => e)
  have a1 : ∀ (w : World) (o : Obj), Keeps (fun _ => False) w (w.alloc o) := fun w o => (Keeps.refl _ w).alloc o
  refine ⟨h.more (fun g => W.heap.size ≤ g ∧ g < W.heap.size + 4) ((((a1 _ _).alloc _).alloc _).alloc _) (fun g e => ⟨e.1, by simp; omega⟩), ?_, ?_, ?_, ?_, fun g h1 h2 => .inr ⟨h1, h2⟩, hlo, fun g hg => h.mp.lt (h.ir g hg), fun i hi => ⟨.inl (hd i hi).1, h.mp.lt (hd i hi).1, (((((a1 _ _).alloc _).alloc _).alloc _).block _ (h.mp.lt (hd i hi).1) (fun e => e)).trans (hd i hi).2⟩⟩
  · exact no (q _ _ _ _ rfl) (((a1 _ _).alloc _).alloc _)
  · exact no (q _ _ _ _ (by simp)) ((a1 _ _).alloc _)
  · exact no (q _ _ _ _ (by simp)) (a1 _ _)
  · exact q _ _ _ _ (by simp)
end
/-- The deferrals behind k passes. -/
def dsl (k : Nat) (D : Nat → Nat) : List Deferred := (List.range k).reverse.map fun i => { target := .collected (D i), args := #[] }
def upD (D : Nat → Nat) (k x : Nat) (i : Nat) : Nat := if i = k then x else D i
theorem dsl_succ (k : Nat) (D : Nat → Nat) (x : Nat) : dsl (k + 1) (upD D k x) = { target := .collected x, args := #[] } :: dsl k D := by
  unfold dsl
  rw [List.range_succ, List.reverse_append]
  simp only [List.reverse_cons, List.reverse_nil, List.nil_append, List.cons_append, List.map_cons, upD, if_true]
  congr 1
  refine List.map_congr_left fun i hi => ?_
  have : i < k := by simpa using hi
  rw [if_neg (by omega)]
/-- What stands between two passes. -/
structure LX (W0 : World) (bm mb c4 c5 : Nat) (al : Option Addr) (cl : Nat) (L : List Rw) (st : Nat) (fm : Int) (ln : Nat) (R : Nat → Prop) (D : Nat → Nat) (W : World) (sp : Mm) (p k : Nat) : Prop where
  k3 : k ≤ 3
  sx : SX W0 bm mb c4 c5 al cl L st fm R W sp p
  fx : FX L st ln sp p k
  dd : ∀ i, i < k → R (D i) ∧ W.heap[D i]? = some (.deferred (some []))
  dl : ∀ i, i < k → W0.heap.size ≤ D i ∧ ∀ j, j < i → D j < D i
theorem PX.next {W0 : World} {bm mb c4 c5 : Nat} {al : Option Addr} {cl : Nat} {L : List Rw} {st : Nat} {fm : Int} {ln : Nat} {R : Nat → Prop} {b : Nat} {ps stp hv : Int} {D : Nat → Nat} {W : World} {sp : Mm} {p n k x : Nat} (h : PX W0 bm mb c4 c5 al cl L st fm R b ps stp hv k D W sp p n) (hk : k < 3) (hf : FX L st ln sp p (k + 1)) (hl : ∀ i, i < k → W0.heap.size ≤ D i ∧ ∀ j, j < i → D j < D i) (hx : W.heap[x]? = some (.deferred (some []))) (hb : b ≤ x) :
    LX W0 bm mb c4 c5 al cl L st fm ln (fun g => R g ∨ g = x) (upD D k x) W sp p (k + 1) where
  k3 := hk
  sx := h.sx.addD hx rfl
  fx := hf
  dd i hi := by
    unfold upD
    split
    · exact ⟨.inr rfl, hx⟩
    · exact ⟨.inl (h.dd i (by omega)).1, (h.dd i (by omega)).2.2⟩
  dl i hi := by
    unfold upD
    split
    · refine ⟨Nat.le_trans h.lo hb, fun j hj => ?_⟩
      rw [if_neg (show ¬ j = k by omega)]
      have := (h.dd j (by omega)).2.1
      omega
    · refine ⟨(hl i (by omega)).1, fun j hj => ?_⟩
      rw [if_neg (show ¬ j = k by omega)]
      exact (hl i (by omega)).2 j hj
theorem boxed_kept {A B : World} {row : Option Nat} {b t : Nat} {v : Value} (hb : Boxed A b t v) (hg : A.grownBy B row) (hr : ∀ r, row = some r → ∃ o : Obj, A.heap[r]? = some o ∧ o.isCells = false) : Boxed B b t v :=
  hb.kept hg (fun e' => by obtain ⟨o, ho, hc⟩ := hr _ e'.symm; rw [show _ = _ from hb] at ho; cases ho; cases hc)
/-- Two worlds beside a box that may be written. -/
structure CI (w6 : World) (H : Nat) (W : World) (k : Nat) : Prop where
  kp : Keeps (fun k => k = H ∨ w6.heap.size ≤ k) w6 W
  ba : Boxed W H 3 (.int .i64 (k : Int))
theorem CI.kept {w6 A B : World} {H k : Nat} {row : Option Nat} (h : CI w6 H A k) (hg : A.grownBy B row) (hr : ∀ r, row = some r → w6.heap.size ≤ r ∧ ∃ o : Obj, A.heap[r]? = some o ∧ o.isCells = false) : CI w6 H B k :=
  ⟨h.kp.grown hg (fun i _ e => .inr (hr i e).1), boxed_kept h.ba hg (fun r e => (hr r e).2)⟩
theorem CI.set {w6 A : World} {H k : Nat} (h : CI w6 H A k) (j : Nat) : CI w6 H (A.setCell ⟨H, 0, none⟩ (.int .i64 (j : Int))) j :=
  ⟨h.kp.setCell (p := ⟨H, 0, none⟩) (fun _ => .inl rfl) _, h.ba.set _⟩
end Go.Proofs.Ytpdhjokbhofglaa
