import Derived.Test.YtehblpbefkopbaaDoorXeC
import Derived.Test.YtehblpbefkopbaaDoorXaM
import Derived.Test.YtehblpbefkopbaaDoorParseW
import Derived.Test.YtehblpbefkopbaaDoorXaC
import Derived.Test.YtehblpbefkopbaaDoorXcD
import Derived.Test.YtehblpbefkopbaaDoorXqB
namespace Go.Proofs.YtehblpbefkopbaaDoor
open Go.RowKit Go.ChangeShapes Go.WideShapes Go.ChangeAt Go.Deep
attribute [local go_sem] Oper.semAt_some run_store_nf run_store_f
/-- What the printing leans on. -/
structure PG (w : World) : Prop where
  g : SG w
  h : 6 ≤ w.heap.size
  t : Lib.TabIs Tryd.prog w "internal/strconv.uint64pow10" .u64 Lib.pow10Tab
theorem varK {P : Program} {w w' : World} {n : String} {cs : Array Value} (hb : Below w.heap.size w w') (h : w.var? P n = some cs) : w'.var? P n = some cs := by
  cases hg : P.globalNamed n with
  | none => simp [World.var?, hg] at h
  | some g =>
    by_cases hlt : g < w.heap.size
    · exact var?_below hb hg hlt h
    · have : w.heap[g]? = none := by simp; omega
      simp [World.var?, hg, this] at h
theorem PG.keep {w w' : World} (h : PG w) (k : Keeps (fun _ => False) w w') : PG w' := ⟨h.g.keep k (fun _ _ e => e), Nat.le_trans h.h k.size, varK (k.below (Nat.le_refl _) (fun _ _ e => e)) h.t⟩
theorem bs_ext {x : ByteArray} {l : Bs} (h : x.data.toList = l) : x = bs l := by rw [← h, bs_of]
theorem app_bl (x y : ByteArray) : (x ++ y).data.toList = x.data.toList ++ y.data.toList := by simp [ByteArray.data_append]
theorem brk_len (c : Bool) (t : Bs) : (brk c t).length ≤ t.length + 2 := by
  unfold brk
  cases c with
  | true => simp
  | false => simp
theorem pE_len {e : Tr} (h : WfE e) : (pE e).length ≤ 24 * bgE e := by
  induction h with
  | num h0 h => have := (itoa_dg h0 h).2.2; rw [pE, if_pos rfl, bgE, bgL]; omega
  | name h => obtain ⟨b, r, rfl, -, -, h3⟩ := (nm_wd h).1; rw [pE, if_neg (by decide), bgE, bgL]; omega
  | obj _ ih => rw [pE, if_pos rfl, bg_one]; simp; omega
  | tak _ ih => rw [pE, if_neg (by decide), if_pos rfl, bg_one]; simp [kTake]; omega
  | @neg a _ ih => have := brk_len (decide (stE a < 6)) (pE a); rw [pE, if_neg (by decide), if_neg (by decide), if_pos rfl, bg_one, List.length_cons]; omega
  | @not a _ ih => have := brk_len (decide (stE a < 6)) (pE a); rw [pE, if_neg (by decide), if_neg (by decide), if_neg (by decide), bg_one, List.length_cons]; omega
  | @bin w a b hb _ _ iha ihb =>
    rw [pE, bg_two]
    split
    · rename_i h8
      have hw : w.length = 3 := by rcases (pair_facts hb h8).1 with rfl | rfl <;> rfl
      simp; omega
    · rename_i h8
      have hw := (op_facts hb h8).2.2.2.2.1
      have h1 := brk_len (decide (stE a < (bnd w).2)) (pE a)
      have h2 := brk_len (decide (stE b < (bnd w).1 + 1)) (pE b)
      simp; omega
/-- An expression that lies somewhere. -/
def PtX (W : World) (B b o : Nat) (t : Tr) : Prop := b < B ∧ ∃ l, TC W (fun g => g < B) 32 t l ∧ ∀ j x, l[j]? = some x → W.cell? ⟨b, o + j, none⟩ = some x
theorem PtX.keep {S : Nat → Prop} {W W' : World} {B b o : Nat} {t : Tr} (h : PtX W B b o t) (k : Keeps S W W') (hB : ∀ i, i < B → ¬ S i) : PtX W' B b o t := by
  obtain ⟨h1, l, h2, h3⟩ := h
  exact ⟨h1, l, h2.stay (k.stay (fun i hi _ => hB i hi)), fun j x e => k.cell (h3 j x e) (hB b h1)⟩
/-- An expression's cells. -/
structure X4 (W : World) (b o : Nat) (k n : Int) (w : Bs) (p : Option Addr) (m c : Nat) : Prop where
  c0 : W.cell? ⟨b, o, none⟩ = some (.int .i64 k)
  c1 : W.cell? ⟨b, o + 1, none⟩ = some (.int .i64 n)
  c2 : W.cell? ⟨b, o + 2, none⟩ = some (.string (bs w))
  c3 : W.cell? ⟨b, o + 3, none⟩ = some (.slice p m c)
theorem PtX.cells {W : World} {B b o : Nat} {k n : Int} {w : Bs} {ps : List Tr} (h : PtX W B b o (.mk k n w ps)) : ∃ p c, X4 W b o k n w p ps.length c ∧ ∀ i t, ps[i]? = some t → ∃ g, p = some ⟨g, 0, none⟩ ∧ PtX W B g (i * 4) t := by
  obtain ⟨hb, l, hT, hc⟩ := h
  unfold TC at hT
  obtain ⟨-, -, -, a, xs, rfl, ho, hx⟩ := hT
  obtain ⟨p, c, rfl, hget, -, hown⟩ := own_slice ho.1
  refine ⟨p, c, ⟨by have := hc 0 _ rfl; rwa [Nat.add_zero] at this, hc 1 _ rfl, hc 2 _ rfl, hc 3 _ rfl⟩, fun i t hi => ?_⟩
  obtain ⟨ys, hy, hyc⟩ := hx.at i t hi
  obtain ⟨k', n', s', a', rfl⟩ := hy.shape
  obtain ⟨g, rfl, -⟩ := hget _ _ (hyc 0 _ rfl)
  refine ⟨g, rfl, ho.2 g (hown g 0 rfl).2, _, hy, fun j x e => ?_⟩
  obtain ⟨g', e', h'⟩ := hget _ _ (hyc j x e)
  injection e' with e'; injection e' with e' _ _; subst e'
  exact h'
set_option maxHeartbeats 1000000 in
set_option maxRecDepth 100000 in
theorem strength_any {t : Tr} (ht : WfE t) {W : World} {B b o : Nat} (hG : PG W) (h : PtX W B b o t) : Calls Tryd.prog 57 #[.pointer (some ⟨b, o, none⟩)] W fun e w' => e = .returned (.int .i64 (stE t : Int)) ∧ Keeps (fun _ => False) W w' := by
  obtain ⟨k, n, w, ps⟩ := t
  obtain ⟨p, c, hc, -⟩ := h.cells
  obtain ⟨c0, -, c2, -⟩ := hc
  have hb := fun W (k : Keeps (fun _ => False) W W) => binding_any w hG.g
  have hbn := binding_any w hG.g
  obtain ⟨st, hst⟩ : ∃ st, st = (bnd w).1 := ⟨_, rfl⟩
  have hs7 : stE (.mk 7 n w ps) = st := by rw [hst]; rfl
  rw [← hst] at hbn
  clear hb hst
  have hfld : ∀ (s1 : ByteArray) (w' : World), (Instr.field 113 (.agg #[.string s1, .int .i64 (st : Int), .int .i64 ((bnd w).2 : Int)]) 1).run Tryd.prog w' = .ok (.int .i64 (st : Int)) w' := fun _ _ => by kernel_rfl
  obtain ⟨s, hs⟩ : ∃ s, s = bs w := ⟨_, rfl⟩
  rw [← hs] at c2 hbn
  clear hs h
  cases ht with
  | num h0 hn =>
    go_enter Tryd.func57, Tryd.ntmps57
    go_wp2_with fail
    go_ret
    exact ⟨rfl, Keeps.refl _ _⟩
  | name hn =>
    go_enter Tryd.func57, Tryd.ntmps57
    go_wp2_with fail
    go_ret
    exact ⟨rfl, Keeps.refl _ _⟩
  | obj ha =>
    go_enter Tryd.func57, Tryd.ntmps57
    go_wp2_with fail
    go_ret
    exact ⟨rfl, Keeps.refl _ _⟩
  | tak ha =>
    go_enter Tryd.func57, Tryd.ntmps57
    go_wp2_with fail
    go_ret
    exact ⟨rfl, Keeps.refl _ _⟩
  | neg ha =>
    go_enter Tryd.func57, Tryd.ntmps57
    go_wp2_with fail
    go_ret
    exact ⟨rfl, Keeps.refl _ _⟩
  | not ha =>
    go_enter Tryd.func57, Tryd.ntmps57
    go_wp2_with fail
    go_ret
    exact ⟨rfl, Keeps.refl _ _⟩
  | bin hb ha hc =>
    go_enter Tryd.func57, Tryd.ntmps57
    go_wp2_with (go_at_call 58; refine hbn.mono ?_; clear hbn; rintro e w1 ⟨s1, rfl, k1⟩)
    go_ret
    exact ⟨by rw [hs7]; rfl, k1⟩
def TX (t : Tr) : Prop := ∀ (W : World) (B b o : Nat), PG W → PtX W B b o t → Calls Tryd.prog 26 #[.pointer (some ⟨b, o, none⟩)] W fun e w' => e = .returned (.string (bs (pE t))) ∧ Keeps (fun _ => False) W w'
set_option maxHeartbeats 1000000 in
set_option maxRecDepth 100000 in
theorem operand_any {t : Tr} (ht : WfE t) (hX : TX t) (hz : bgE t ≤ 1048576) {W : World} {B b o : Nat} (hG : PG W) (h : PtX W B b o t) (lv : Nat) : Calls Tryd.prog 43 #[.pointer (some ⟨b, o, none⟩), .int .i64 (lv : Int)] W fun e w' => e = .returned (.string (bs (brk (decide (stE t < lv)) (pE t)))) ∧ Keeps (fun _ => False) W w' := by
  have hS := strength_any ht hG h
  have hT := fun W1 (k : Keeps (fun _ => False) W W1) => hX W1 B b o (hG.keep k) (h.keep k (fun _ _ e => e))
  have hl := pE_len ht
  obtain ⟨A, hA⟩ : ∃ A, A = bs (pE t) := ⟨_, rfl⟩
  have hAz : A.size ≤ 100000000 := by rw [hA, bs_size]; omega
  have HA : Hid (A = bs (pE t)) := hA
  simp only [← hA] at hT
  obtain ⟨st, hst⟩ : ∃ st, st = stE t := ⟨_, rfl⟩
  rw [← hst] at hS ⊢
  clear hst hA hl h
  have n0 : ¬ (9223372036854775807 < 1 + A.size) := by omega
  have m0 : ¬ (1 + A.size > 9223372036854775807) := by omega
  have n1 : ¬ (9223372036854775807 < 1 + A.size + 1) := by omega
  have m1 : ¬ (1 + A.size + 1 > 9223372036854775807) := by omega
  by_cases c : st < lv
  · have d1 : decide ((st : Int) < (lv : Int)) = true := decide_eq_true (by omega)
    have d2 : decide (st < lv) = true := decide_eq_true c
    have fin : (⟨#[40]⟩ ++ A ++ ⟨#[41]⟩ : ByteArray) = bs (brk true (pE t)) := bs_ext (by rw [app_bl, app_bl, HA.out]; rfl)
    rw [d2]
    rw [← fin]
    clear fin
    go_enter Tryd.func43, Tryd.ntmps43
    go_wp2_with (first | (go_at_call 57; refine hS.mono ?_; clear hS; rintro e w1 ⟨rfl, k1⟩; have hT1 := hT w1 k1) | (go_at_call 26; refine hT1.mono ?_; clear hT1; rintro e w2 ⟨rfl, k2⟩))
    go_ret
    exact ⟨rfl, k1.trans k2⟩
  · have d1 : decide ((st : Int) < (lv : Int)) = false := decide_eq_false (by omega)
    have d2 : decide (st < lv) = false := decide_eq_false c
    have fin : A = bs (brk false (pE t)) := HA.out
    rw [d2]
    rw [← fin]
    clear fin
    go_enter Tryd.func43, Tryd.ntmps43
    go_wp2_with (first | (go_at_call 57; refine hS.mono ?_; clear hS; rintro e w1 ⟨rfl, k1⟩; have hT1 := hT w1 k1) | (go_at_call 26; refine hT1.mono ?_; clear hT1; rintro e w2 ⟨rfl, k2⟩))
    go_ret
    exact ⟨rfl, k1.trans k2⟩
set_option maxHeartbeats 1000000 in
set_option maxRecDepth 100000 in
theorem text_obj {a : Tr} (ha : WfE a) (hz : bgE a ≤ 1048576) (hX : TX a) : TX (.mk 3 0 [] [a]) := by
  intro W B b o hG h
  obtain ⟨p, c, hc, hps⟩ := h.cells
  obtain ⟨c0, c1, c2, c3⟩ := hc
  obtain ⟨g, rfl, hg⟩ := hps 0 a rfl
  clear hps h c1 c2
  have hl := pE_len ha
  have hT := hX W B g 0 hG hg
  obtain ⟨A, hA⟩ : ∃ A, A = bs (pE a) := ⟨_, rfl⟩
  have hAz : A.size ≤ 100000000 := by rw [hA, bs_size]; omega
  rw [← hA] at hT
  have fin : (⟨#[91]⟩ ++ A ++ ⟨#[93]⟩ : ByteArray) = bs (pE (.mk 3 0 [] [a])) := bs_ext (by rw [app_bl, app_bl, hA, pE, if_pos rfl]; rfl)
  rw [← fin]
  clear fin hA hl hX hG hg
  have n0 : ¬ (9223372036854775807 < 1 + A.size) := by omega
  have m0 : ¬ (1 + A.size > 9223372036854775807) := by omega
  have n1 : ¬ (9223372036854775807 < 1 + A.size + 1) := by omega
  have m1 : ¬ (1 + A.size + 1 > 9223372036854775807) := by omega
  go_enter Tryd.func26, Tryd.ntmps26
  go_wp2_with (go_at_call 26; refine hT.mono ?_; clear hT; rintro e w1 ⟨rfl, k1⟩)
  go_ret
  exact ⟨rfl, k1⟩
set_option maxHeartbeats 1000000 in
set_option maxRecDepth 100000 in
theorem text_tak {a : Tr} (ha : WfE a) (hz : bgE a ≤ 1048576) (hX : TX a) : TX (.mk 4 0 [] [a]) := by
  intro W B b o hG h
  obtain ⟨p, c, hc, hps⟩ := h.cells
  obtain ⟨c0, c1, c2, c3⟩ := hc
  obtain ⟨g, rfl, hg⟩ := hps 0 a rfl
  clear hps h c1 c2
  have hl := pE_len ha
  have hT := hX W B g 0 hG hg
  obtain ⟨A, hA⟩ : ∃ A, A = bs (pE a) := ⟨_, rfl⟩
  have hAz : A.size ≤ 100000000 := by rw [hA, bs_size]; omega
  rw [← hA] at hT
  have fin : (⟨#[116, 97, 107, 101, 32, 91]⟩ ++ A ++ ⟨#[93]⟩ : ByteArray) = bs (pE (.mk 4 0 [] [a])) := bs_ext (by rw [app_bl, app_bl, hA, pE, if_neg (by decide), if_pos rfl]; rfl)
  rw [← fin]
  clear fin hA hl hX hG hg
  have n0 : ¬ (9223372036854775807 < 6 + A.size) := by omega
  have m0 : ¬ (6 + A.size > 9223372036854775807) := by omega
  have n1 : ¬ (9223372036854775807 < 6 + A.size + 1) := by omega
  have m1 : ¬ (6 + A.size + 1 > 9223372036854775807) := by omega
  go_enter Tryd.func26, Tryd.ntmps26
  go_wp2_with (go_at_call 26; refine hT.mono ?_; clear hT; rintro e w1 ⟨rfl, k1⟩)
  go_ret
  exact ⟨rfl, k1⟩
set_option maxHeartbeats 1000000 in
set_option maxRecDepth 100000 in
theorem text_neg {a : Tr} (ha : WfE a) (hz : bgE a ≤ 1048576) (hX : TX a) : TX (.mk 5 0 [] [a]) := by
  intro W B b o hG h
  obtain ⟨p, c, hc, hps⟩ := h.cells
  obtain ⟨c0, c1, c2, c3⟩ := hc
  obtain ⟨g, rfl, hg⟩ := hps 0 a rfl
  clear hps h c1 c2
  have hl := pE_len ha
  have hT := operand_any ha hX hz hG hg 6
  have hl2 := brk_len (decide (stE a < 6)) (pE a)
  obtain ⟨A, hA⟩ : ∃ A, A = bs (brk (decide (stE a < 6)) (pE a)) := ⟨_, rfl⟩
  have hAz : A.size ≤ 100000000 := by rw [hA, bs_size]; omega
  rw [← hA] at hT
  have fin : (⟨#[45]⟩ ++ A : ByteArray) = bs (pE (.mk 5 0 [] [a])) := bs_ext (by rw [app_bl, hA, pE, if_neg (by decide), if_neg (by decide), if_pos rfl]; rfl)
  rw [← fin]
  clear fin hA hl hl2 hX hG hg
  have n0 : ¬ (9223372036854775807 < 1 + A.size) := by omega
  have m0 : ¬ (1 + A.size > 9223372036854775807) := by omega
  go_enter Tryd.func26, Tryd.ntmps26
  go_wp2_with (go_at_call 43; refine hT.mono ?_; clear hT; rintro e w1 ⟨rfl, k1⟩)
  go_ret
  exact ⟨rfl, k1⟩
set_option maxHeartbeats 1000000 in
set_option maxRecDepth 100000 in
theorem text_not {a : Tr} (ha : WfE a) (hz : bgE a ≤ 1048576) (hX : TX a) : TX (.mk 6 0 [] [a]) := by
  intro W B b o hG h
  obtain ⟨p, c, hc, hps⟩ := h.cells
  obtain ⟨c0, c1, c2, c3⟩ := hc
  obtain ⟨g, rfl, hg⟩ := hps 0 a rfl
  clear hps h c1 c2
  have hl := pE_len ha
  have hT := operand_any ha hX hz hG hg 6
  have hl2 := brk_len (decide (stE a < 6)) (pE a)
  obtain ⟨A, hA⟩ : ∃ A, A = bs (brk (decide (stE a < 6)) (pE a)) := ⟨_, rfl⟩
  have hAz : A.size ≤ 100000000 := by rw [hA, bs_size]; omega
  rw [← hA] at hT
  have fin : (⟨#[33]⟩ ++ A : ByteArray) = bs (pE (.mk 6 0 [] [a])) := bs_ext (by rw [app_bl, hA, pE, if_neg (by decide), if_neg (by decide), if_neg (by decide)]; rfl)
  rw [← fin]
  clear fin hA hl hl2 hX hG hg
  have n0 : ¬ (9223372036854775807 < 1 + A.size) := by omega
  have m0 : ¬ (1 + A.size > 9223372036854775807) := by omega
  go_enter Tryd.func26, Tryd.ntmps26
  go_wp2_with (go_at_call 43; refine hT.mono ?_; clear hT; rintro e w1 ⟨rfl, k1⟩)
  go_ret
  exact ⟨rfl, k1⟩
set_option maxHeartbeats 1000000 in
set_option maxRecDepth 100000 in
theorem text_num {n : Int} (hn : In64 n) : TX (.mk 1 n [] []) := by
  intro W B b o hG h
  obtain ⟨p, c, hc, -⟩ := h.cells
  obtain ⟨c0, c1, -, -⟩ := hc
  have hF := format_any n hn W hG.t
  rw [pE, if_pos rfl]
  clear hG h
  go_enter Tryd.func26, Tryd.ntmps26
  go_wp2_with (go_at_call 42; refine hF.mono ?_; clear hF; rintro e w1 ⟨rfl, k1⟩)
  go_ret
  exact ⟨rfl, Keeps.ofBelow k1⟩
set_option maxHeartbeats 1000000 in
set_option maxRecDepth 100000 in
theorem text_name {w : Bs} : TX (.mk 2 0 w []) := by
  intro W B b o _ h
  obtain ⟨p, c, hc, -⟩ := h.cells
  obtain ⟨c0, -, c2, -⟩ := hc
  rw [pE, if_neg (by decide)]
  clear h
  generalize bs w = s at *
  go_enter Tryd.func26, Tryd.ntmps26
  go_wp2_with fail
  go_ret
  exact ⟨rfl, Keeps.refl _ _⟩
set_option maxHeartbeats 1500000 in
set_option maxRecDepth 100000 in
theorem bin_pair {w : Bs} {a b : Tr} (hb : 0 < (bnd w).1) (h8 : (bnd w).2 = 8) (ha : WfE a) (hc : WfE b) (hza : bgE a ≤ 1048576) (hzb : bgE b ≤ 1048576) (hX : TX a) (hY : TX b) {W : World} {B b0 o : Nat} (hG : PG W) (h : PtX W B b0 o (.mk 7 0 w [a, b])) : Calls Tryd.prog 44 #[.pointer (some ⟨b0, o, none⟩)] W fun e w' => e = .returned (.string (bs (pE (.mk 7 0 w [a, b])))) ∧ Keeps (fun _ => False) W w' := by
  obtain ⟨p, c, hcc, hps⟩ := h.cells
  obtain ⟨-, -, c2, c3⟩ := hcc
  obtain ⟨g, rfl, hg1⟩ := hps 0 a rfl
  obtain ⟨g2, eg, hg2⟩ := hps 1 b rfl
  injection eg with eg; injection eg with eg _ _; subst eg
  clear hps h
  have hl := pE_len ha
  have hl2 := pE_len hc
  have hbn := binding_any w hG.g
  have hw3 : w.length = 3 := by rcases (pair_facts hb h8).1 with rfl | rfl <;> rfl
  obtain ⟨s, hs⟩ : ∃ s, s = bs w := ⟨_, rfl⟩
  have hsz : s.size ≤ 10 := by rw [hs, bs_size]; omega
  rw [← hs] at c2 hbn
  have hTa := fun W1 (k : Keeps (fun _ => False) W W1) => hX W1 B g 0 (hG.keep k) (hg1.keep k (fun _ _ e => e))
  have hTb := fun W1 (k : Keeps (fun _ => False) W W1) => hY W1 B g 4 (hG.keep k) (hg2.keep k (fun _ _ e => e))
  obtain ⟨A, hA⟩ : ∃ A, A = bs (pE a) := ⟨_, rfl⟩
  obtain ⟨C, hC⟩ : ∃ C, C = bs (pE b) := ⟨_, rfl⟩
  have hAz : A.size ≤ 100000000 := by rw [hA, bs_size]; omega
  have hCz : C.size ≤ 100000000 := by rw [hC, bs_size]; omega
  simp only [← hA] at hTa
  simp only [← hC] at hTb
  have fin : (s ++ ⟨#[40]⟩ ++ A ++ ⟨#[44, 32]⟩ ++ C ++ ⟨#[41]⟩ : ByteArray) = bs (pE (.mk 7 0 w [a, b])) := bs_ext (by rw [app_bl, app_bl, app_bl, app_bl, app_bl, hA, hC, hs, pE, if_pos h8, bs_list, bs_list, bs_list]; simp)
  rw [← fin]
  rw [h8] at hbn
  obtain ⟨st, hst⟩ : ∃ st, st = (bnd w).1 := ⟨_, rfl⟩
  rw [← hst] at hbn
  clear fin hA hC hs hl hl2 hX hY hG hg1 hg2 hst hw3 h8 hb
  have n0 : ¬ (9223372036854775807 < s.size + 1) := by omega
  have m0 : ¬ (s.size + 1 > 9223372036854775807) := by omega
  have n1 : ¬ (9223372036854775807 < s.size + 1 + A.size) := by omega
  have m1 : ¬ (s.size + 1 + A.size > 9223372036854775807) := by omega
  have n2 : ¬ (9223372036854775807 < s.size + 1 + A.size + 2) := by omega
  have m2 : ¬ (s.size + 1 + A.size + 2 > 9223372036854775807) := by omega
  have n3 : ¬ (9223372036854775807 < s.size + 1 + A.size + 2 + C.size) := by omega
  have m3 : ¬ (s.size + 1 + A.size + 2 + C.size > 9223372036854775807) := by omega
  have n4 : ¬ (9223372036854775807 < s.size + 1 + A.size + 2 + C.size + 1) := by omega
  have m4 : ¬ (s.size + 1 + A.size + 2 + C.size + 1 > 9223372036854775807) := by omega
  go_enter Tryd.func44, Tryd.ntmps44
  refine wp_seq_k (fun KK hKK => ?_)
  have hKH : Hid _ := hKK
  clear hKK
  go_wp2_with fail
  refine hKH.out _ _ ?_
  clear hKH KK
  refine wp_seq_k (fun KK hKK => ?_)
  have hKH : Hid _ := hKK
  clear hKK
  go_wp2_with (go_at_call 58; refine hbn.mono ?_; clear hbn; rintro e w1 ⟨s1, rfl, k1⟩)
  refine hKH.out _ _ ?_
  clear hKH KK
  obtain ⟨W1, hW1⟩ : ∃ W1, W1 = w1.alloc (.cells #[.string s1, .int .i64 (st : Int), .int .i64 8] 113) := ⟨_, rfl⟩
  have kW : Keeps (fun _ => False) w1 W1 := by rw [hW1]; exact (Keeps.refl _ w1).alloc _
  have cW : CL W1 w1.heap.size [.string s1, .int .i64 (st : Int), .int .i64 8] := by rw [hW1]; exact CL.made w1 _ _
  rw [show w1.alloc (.cells #[.string s1, .int .i64 (st : Int), .int .i64 8] 113) = W1 from hW1.symm]
  clear hW1
  have K1 := k1.trans kW
  have b1 := cW.c 1 _ rfl
  have b2 := cW.c 2 _ rfl
  have c2 := K1.cell c2 (fun e => e)
  have c3 := K1.cell c3 (fun e => e)
  refine wp_seq_k (fun KK hKK => ?_)
  clear hKK
  refine wp_seq_k (fun K2 hK2 => ?_)
  have hKJ : Hid _ := hK2
  clear hK2
  go_wp2_with fail
  refine hKJ.out _ _ ?_
  clear hKJ K2
  refine wp_cond_true (by rfl) ?_
  refine wp_seq_k (fun K2 hK2 => ?_)
  have hKI : Hid _ := hK2
  clear hK2
  go_wp2_with fail
  refine wp_region_held_drew (S := fun w' => Keeps (fun _ => False) W1 w') (by kernel_rfl) (Keeps.refl _ W1).drew (fun hHeld => ?_)
  refine wpAnyH_take (i := 0) (v := ?_) rfl (by kernel_rfl) (by kernel_rfl) (by kernel_rfl) (fun _ _ _ h => h) (Or.inl ⟨by rfl, ?_⟩) (by assumption) ?_
  rotate_left
  · intro wx hSw; have p2 := hSw.cell c2 (fun e => e); have p3 := hSw.cell c3 (fun e => e); clear hSw; go_simp <;> with_reducible rfl
  (try simp only [List.getElem_toArray]); (try simp only [List.getElem_cons_succ]); (try simp only [List.getElem_cons_zero]); (try simp only [Act.put]); (try simp only [List.setIfInBounds_toArray]); (repeat first | simp only [List.set_cons_succ] | simp only [List.set_cons_zero])
  refine wpAnyH_take (i := 1) (v := ?_) rfl (by kernel_rfl) (by kernel_rfl) (by kernel_rfl) (fun _ _ _ h => h) (Or.inl ⟨by rfl, ?_⟩) (by assumption) ?_
  rotate_left
  · intro wx hSw; have p2 := hSw.cell c2 (fun e => e); have p3 := hSw.cell c3 (fun e => e); clear hSw; go_simp <;> with_reducible rfl
  (try simp only [List.getElem_toArray]); (try simp only [List.getElem_cons_succ]); (try simp only [List.getElem_cons_zero]); (try simp only [Act.put]); (try simp only [List.setIfInBounds_toArray]); (repeat first | simp only [List.set_cons_succ] | simp only [List.set_cons_zero])
  refine wpAnyH_take (i := 2) (v := ?_) rfl (by kernel_rfl) (by kernel_rfl) (by kernel_rfl) (fun _ _ _ h => h) (Or.inl ⟨by rfl, ?_⟩) (by assumption) ?_
  rotate_left
  · intro wx hSw; have p2 := hSw.cell c2 (fun e => e); have p3 := hSw.cell c3 (fun e => e); clear hSw; go_simp <;> with_reducible rfl
  (try simp only [List.getElem_toArray]); (try simp only [List.getElem_cons_succ]); (try simp only [List.getElem_cons_zero]); (try simp only [Act.put]); (try simp only [List.setIfInBounds_toArray]); (repeat first | simp only [List.set_cons_succ] | simp only [List.set_cons_zero])
  refine wpAnyH_take (i := 3) (v := ?_) rfl (by kernel_rfl) (by kernel_rfl) (by kernel_rfl) (fun _ _ _ h => h) (Or.inl ⟨by rfl, ?_⟩) (by assumption) ?_
  rotate_left
  · intro wx hSw; have p2 := hSw.cell c2 (fun e => e); have p3 := hSw.cell c3 (fun e => e); clear hSw; go_simp <;> with_reducible rfl
  (try simp only [List.getElem_toArray]); (try simp only [List.getElem_cons_succ]); (try simp only [List.getElem_cons_zero]); (try simp only [Act.put]); (try simp only [List.setIfInBounds_toArray]); (repeat first | simp only [List.set_cons_succ] | simp only [List.set_cons_zero])
  refine wpAnyH_take (i := 4) (v := ?_) rfl (by kernel_rfl) (by kernel_rfl) (by kernel_rfl) (fun _ _ _ h => h) (Or.inl ⟨by rfl, ?_⟩) (by assumption) ?_
  rotate_left
  · intro wx hSw; have p2 := hSw.cell c2 (fun e => e); have p3 := hSw.cell c3 (fun e => e); clear hSw; go_simp <;> with_reducible rfl
  (try simp only [List.getElem_toArray]); (try simp only [List.getElem_cons_succ]); (try simp only [List.getElem_cons_zero]); (try simp only [Act.put]); (try simp only [List.setIfInBounds_toArray]); (repeat first | simp only [List.set_cons_succ] | simp only [List.set_cons_zero])
  refine wpAnyH_take (i := 5) (v := ?_) rfl (by kernel_rfl) (by kernel_rfl) (by kernel_rfl) (fun _ _ _ h => h) (Or.inl ⟨by rfl, ?_⟩) (by assumption) ?_
  rotate_left
  · intro wx hSw; have p2 := hSw.cell c2 (fun e => e); have p3 := hSw.cell c3 (fun e => e); clear hSw; go_simp <;> with_reducible rfl
  (try simp only [List.getElem_toArray]); (try simp only [List.getElem_cons_succ]); (try simp only [List.getElem_cons_zero]); (try simp only [Act.put]); (try simp only [List.setIfInBounds_toArray]); (repeat first | simp only [List.set_cons_succ] | simp only [List.set_cons_zero])
  refine wpAnyH_take (i := 6) (v := ?_) rfl (by kernel_rfl) (by kernel_rfl) (by kernel_rfl) (fun _ _ _ h => h) (Or.inl ⟨by rfl, ?_⟩) (by assumption) ?_
  rotate_left
  · intro wx hSw; have p2 := hSw.cell c2 (fun e => e); have p3 := hSw.cell c3 (fun e => e); clear hSw; go_simp <;> with_reducible rfl
  (try simp only [List.getElem_toArray]); (try simp only [List.getElem_cons_succ]); (try simp only [List.getElem_cons_zero]); (try simp only [Act.put]); (try simp only [List.setIfInBounds_toArray]); (repeat first | simp only [List.set_cons_succ] | simp only [List.set_cons_zero])
  refine wpAnyH_take (i := 7) (v := ?_) rfl (by kernel_rfl) (by kernel_rfl) (by kernel_rfl) (fun _ _ _ h => h) (Or.inl ⟨by rfl, ?_⟩) (by assumption) ?_
  rotate_left
  · intro wx hSw; have p2 := hSw.cell c2 (fun e => e); have p3 := hSw.cell c3 (fun e => e); clear hSw; go_simp <;> with_reducible rfl
  (try simp only [List.getElem_toArray]); (try simp only [List.getElem_cons_succ]); (try simp only [List.getElem_cons_zero]); (try simp only [Act.put]); (try simp only [List.setIfInBounds_toArray]); (repeat first | simp only [List.set_cons_succ] | simp only [List.set_cons_zero])
  refine wpAnyH_take (i := 8) (v := ?_) rfl (by kernel_rfl) (by kernel_rfl) (by kernel_rfl) (fun _ _ _ h => h) (Or.inl ⟨by rfl, ?_⟩) (by assumption) ?_
  rotate_left
  · intro wx hSw; have p2 := hSw.cell c2 (fun e => e); have p3 := hSw.cell c3 (fun e => e); clear hSw; go_simp <;> with_reducible rfl
  (try simp only [List.getElem_toArray]); (try simp only [List.getElem_cons_succ]); (try simp only [List.getElem_cons_zero]); (try simp only [Act.put]); (try simp only [List.setIfInBounds_toArray]); (repeat first | simp only [List.set_cons_succ] | simp only [List.set_cons_zero])
  refine wpAnyH_take (i := 9) (v := ?_) rfl (by kernel_rfl) (by kernel_rfl) (by kernel_rfl) (fun _ _ _ h => h) (Or.inl ⟨by rfl, ?_⟩) (by assumption) ?_
  rotate_left
  · intro wx hSw; have p2 := hSw.cell c2 (fun e => e); have p3 := hSw.cell c3 (fun e => e); clear hSw; go_simp <;> with_reducible rfl
  (try simp only [List.getElem_toArray]); (try simp only [List.getElem_cons_succ]); (try simp only [List.getElem_cons_zero]); (try simp only [Act.put]); (try simp only [List.setIfInBounds_toArray]); (repeat first | simp only [List.set_cons_succ] | simp only [List.set_cons_zero])
  refine wpAnyH_take (i := 13) (v := ?_) rfl (by kernel_rfl) (by kernel_rfl) (by kernel_rfl) (fun _ _ _ h => h) (Or.inl ⟨by rfl, ?_⟩) (by assumption) ?_
  rotate_left
  · intro wx hSw; have p2 := hSw.cell c2 (fun e => e); have p3 := hSw.cell c3 (fun e => e); clear hSw; go_simp <;> with_reducible rfl
  (try simp only [List.getElem_toArray]); (try simp only [List.getElem_cons_succ]); (try simp only [List.getElem_cons_zero]); (try simp only [Act.put]); (try simp only [List.setIfInBounds_toArray]); (repeat first | simp only [List.set_cons_succ] | simp only [List.set_cons_zero])
  refine wpAnyH_take (i := 14) (v := ?_) rfl (by kernel_rfl) (by kernel_rfl) (by kernel_rfl) (fun _ _ _ h => h) (Or.inl ⟨by rfl, ?_⟩) (by assumption) ?_
  rotate_left
  · intro wx hSw; have p2 := hSw.cell c2 (fun e => e); have p3 := hSw.cell c3 (fun e => e); clear hSw; go_simp <;> with_reducible rfl
  (try simp only [List.getElem_toArray]); (try simp only [List.getElem_cons_succ]); (try simp only [List.getElem_cons_zero]); (try simp only [Act.put]); (try simp only [List.setIfInBounds_toArray]); (repeat first | simp only [List.set_cons_succ] | simp only [List.set_cons_zero])
  refine wpAnyH_take (i := 15) (v := ?_) rfl (by kernel_rfl) (by kernel_rfl) (by kernel_rfl) (fun _ _ _ h => h) (Or.inl ⟨by rfl, ?_⟩) (by assumption) ?_
  rotate_left
  · intro wx hSw; have p2 := hSw.cell c2 (fun e => e); have p3 := hSw.cell c3 (fun e => e); clear hSw; go_simp <;> with_reducible rfl
  (try simp only [List.getElem_toArray]); (try simp only [List.getElem_cons_succ]); (try simp only [List.getElem_cons_zero]); (try simp only [Act.put]); (try simp only [List.setIfInBounds_toArray]); (repeat first | simp only [List.set_cons_succ] | simp only [List.set_cons_zero])
  refine wpAnyH_take (i := 16) (v := ?_) rfl (by kernel_rfl) (by kernel_rfl) (by kernel_rfl) (fun _ _ _ h => h) (Or.inl ⟨by rfl, ?_⟩) (by assumption) ?_
  rotate_left
  · intro wx hSw; have p2 := hSw.cell c2 (fun e => e); have p3 := hSw.cell c3 (fun e => e); clear hSw; go_simp <;> with_reducible rfl
  (try simp only [List.getElem_toArray]); (try simp only [List.getElem_cons_succ]); (try simp only [List.getElem_cons_zero]); (try simp only [Act.put]); (try simp only [List.setIfInBounds_toArray]); (repeat first | simp only [List.set_cons_succ] | simp only [List.set_cons_zero])
  refine wpAnyH_take (i := 17) (v := ?_) rfl (by kernel_rfl) (by kernel_rfl) (by kernel_rfl) (fun _ _ _ h => h) (Or.inl ⟨by rfl, ?_⟩) (by assumption) ?_
  rotate_left
  · intro wx hSw; have p2 := hSw.cell c2 (fun e => e); have p3 := hSw.cell c3 (fun e => e); clear hSw; go_simp <;> with_reducible rfl
  (try simp only [List.getElem_toArray]); (try simp only [List.getElem_cons_succ]); (try simp only [List.getElem_cons_zero]); (try simp only [Act.put]); (try simp only [List.setIfInBounds_toArray]); (repeat first | simp only [List.set_cons_succ] | simp only [List.set_cons_zero])
  refine wpAnyH_one 10 (by kernel_rfl) rfl rfl ?_
  refine wp_call1 26 _  rfl _  rfl  (fun _ _ => rfl) ((hTa W1.drew (K1.trans (Keeps.refl _ W1).drew)).mono ?_)
  rintro e v1 ⟨rfl, kv1⟩
  have k1a : Keeps (fun _ => False) W1 v1 := (Keeps.refl (fun _ => False) W1).drew.trans kv1
  refine ⟨_, rfl, k1a, fun hS1 => ?_⟩
  (try simp only [List.getElem_toArray]); (try simp only [List.getElem_cons_succ]); (try simp only [List.getElem_cons_zero]); (try simp only [Act.put]); (try simp only [List.setIfInBounds_toArray]); (repeat first | simp only [List.set_cons_succ] | simp only [List.set_cons_zero])
  refine wpAnyH_take (i := 11) (v := ?_) rfl (by kernel_rfl) (by kernel_rfl) (by kernel_rfl) (fun _ _ _ h => h) (Or.inl ⟨by rfl, ?_⟩) (by assumption) ?_
  rotate_left
  · intro wx hSw; have p2 := hSw.cell c2 (fun e => e); have p3 := hSw.cell c3 (fun e => e); clear hSw; go_simp <;> with_reducible rfl
  (try simp only [List.getElem_toArray]); (try simp only [List.getElem_cons_succ]); (try simp only [List.getElem_cons_zero]); (try simp only [Act.put]); (try simp only [List.setIfInBounds_toArray]); (repeat first | simp only [List.set_cons_succ] | simp only [List.set_cons_zero])
  refine wpAnyH_take (i := 12) (v := ?_) rfl (by kernel_rfl) (by kernel_rfl) (by kernel_rfl) (fun _ _ _ h => h) (Or.inl ⟨by rfl, ?_⟩) (by assumption) ?_
  rotate_left
  · intro wx hSw; have p2 := hSw.cell c2 (fun e => e); have p3 := hSw.cell c3 (fun e => e); clear hSw; go_simp <;> with_reducible rfl
  (try simp only [List.getElem_toArray]); (try simp only [List.getElem_cons_succ]); (try simp only [List.getElem_cons_zero]); (try simp only [Act.put]); (try simp only [List.setIfInBounds_toArray]); (repeat first | simp only [List.set_cons_succ] | simp only [List.set_cons_zero])
  refine wpAnyH_one 18 (by kernel_rfl) rfl rfl ?_
  refine wp_call1 26 _  rfl _  rfl  (fun _ _ => rfl) ((hTb v1 (K1.trans k1a)).mono ?_)
  rintro e v2 ⟨rfl, kv2⟩
  have k2a : Keeps (fun _ => False) W1 v2 := k1a.trans kv2
  refine ⟨_, rfl, k2a, fun hS2 => ?_⟩
  (try simp only [List.getElem_toArray]); (try simp only [List.getElem_cons_succ]); (try simp only [List.getElem_cons_zero]); (try simp only [Act.put]); (try simp only [List.setIfInBounds_toArray]); (repeat first | simp only [List.set_cons_succ] | simp only [List.set_cons_zero])
  refine wpAnyH_take (i := 19) (v := ?_) rfl (by kernel_rfl) (by kernel_rfl) (by kernel_rfl) (fun _ _ _ h => h) (Or.inl ⟨by rfl, ?_⟩) (by assumption) ?_
  rotate_left
  · intro wx hSw; have p2 := hSw.cell c2 (fun e => e); have p3 := hSw.cell c3 (fun e => e); clear hSw; go_simp <;> with_reducible rfl
  (try simp only [List.getElem_toArray]); (try simp only [List.getElem_cons_succ]); (try simp only [List.getElem_cons_zero]); (try simp only [Act.put]); (try simp only [List.setIfInBounds_toArray]); (repeat first | simp only [List.set_cons_succ] | simp only [List.set_cons_zero])
  refine wpAnyH_take (i := 20) (v := ?_) rfl (by kernel_rfl) (by kernel_rfl) (by kernel_rfl) (fun _ _ _ h => h) (Or.inl ⟨by rfl, ?_⟩) (by assumption) ?_
  rotate_left
  · intro wx hSw; have p2 := hSw.cell c2 (fun e => e); have p3 := hSw.cell c3 (fun e => e); clear hSw; go_simp <;> with_reducible rfl
  (try simp only [List.getElem_toArray]); (try simp only [List.getElem_cons_succ]); (try simp only [List.getElem_cons_zero]); (try simp only [Act.put]); (try simp only [List.setIfInBounds_toArray]); (repeat first | simp only [List.set_cons_succ] | simp only [List.set_cons_zero])
  refine wpAnyH_take (i := 21) (v := ?_) rfl (by kernel_rfl) (by kernel_rfl) (by kernel_rfl) (fun _ _ _ h => h) (Or.inl ⟨by rfl, ?_⟩) (by assumption) ?_
  rotate_left
  · intro wx hSw; have p2 := hSw.cell c2 (fun e => e); have p3 := hSw.cell c3 (fun e => e); clear hSw; go_simp <;> with_reducible rfl
  (try simp only [List.getElem_toArray]); (try simp only [List.getElem_cons_succ]); (try simp only [List.getElem_cons_zero]); (try simp only [Act.put]); (try simp only [List.setIfInBounds_toArray]); (repeat first | simp only [List.set_cons_succ] | simp only [List.set_cons_zero])
  refine wpAnyH_done (by kernel_rfl) ?_ _
  refine hKI.out _ _ ?_
  clear hKI
  go_wp2_with fail
  go_ret
  exact ⟨rfl, K1.trans k2a⟩
set_option maxHeartbeats 1500000 in
set_option maxRecDepth 100000 in
theorem bin_op {w : Bs} {a b : Tr} (hb : 0 < (bnd w).1) (h8 : (bnd w).2 ≠ 8) (ha : WfE a) (hc : WfE b) (hza : bgE a ≤ 1048576) (hzb : bgE b ≤ 1048576) (hX : TX a) (hY : TX b) {W : World} {B b0 o : Nat} (hG : PG W) (h : PtX W B b0 o (.mk 7 0 w [a, b])) : Calls Tryd.prog 44 #[.pointer (some ⟨b0, o, none⟩)] W fun e w' => e = .returned (.string (bs (pE (.mk 7 0 w [a, b])))) ∧ Keeps (fun _ => False) W w' := by
  obtain ⟨p, c, hcc, hps⟩ := h.cells
  obtain ⟨-, -, c2, c3⟩ := hcc
  obtain ⟨g, rfl, hg1⟩ := hps 0 a rfl
  obtain ⟨g2, eg, hg2⟩ := hps 1 b rfl
  injection eg with eg; injection eg with eg _ _; subst eg
  clear hps h
  have hl := pE_len ha
  have hl2 := pE_len hc
  have hbn := binding_any w hG.g
  have hf := op_facts hb h8
  have hw2 := hf.2.2.2.2.1
  obtain ⟨s, hs⟩ : ∃ s, s = bs w := ⟨_, rfl⟩
  have hsz : s.size ≤ 10 := by rw [hs, bs_size]; omega
  rw [← hs] at c2 hbn
  obtain ⟨st, hst⟩ : ∃ st, st = (bnd w).1 := ⟨_, rfl⟩
  obtain ⟨lf, hlf⟩ : ∃ lf, lf = (bnd w).2 := ⟨_, rfl⟩
  have hTa := fun W1 (k : Keeps (fun _ => False) W W1) => operand_any ha hX hza (hG.keep k) (hg1.keep k (fun _ _ e => e)) lf
  have hTb := fun W1 (k : Keeps (fun _ => False) W W1) => operand_any hc hY hzb (hG.keep k) (hg2.keep k (fun _ _ e => e)) (st + 1)
  have hq1 := brk_len (decide (stE a < lf)) (pE a)
  have hq2 := brk_len (decide (stE b < st + 1)) (pE b)
  obtain ⟨A, hA⟩ : ∃ A, A = bs (brk (decide (stE a < lf)) (pE a)) := ⟨_, rfl⟩
  obtain ⟨C, hC⟩ : ∃ C, C = bs (brk (decide (stE b < st + 1)) (pE b)) := ⟨_, rfl⟩
  have hAz : A.size ≤ 100000000 := by rw [hA, bs_size]; omega
  have hCz : C.size ≤ 100000000 := by rw [hC, bs_size]; omega
  have ec : ((st + 1 : Nat) : Int) = (st : Int) + 1 := by omega
  simp only [← hA] at hTa
  simp only [← hC] at hTb
  rw [ec] at hTb
  have fin : (A ++ ⟨#[32]⟩ ++ s ++ ⟨#[32]⟩ ++ C : ByteArray) = bs (pE (.mk 7 0 w [a, b])) := bs_ext (by rw [app_bl, app_bl, app_bl, app_bl, hA, hC, hs, pE, if_neg h8, bs_list, bs_list, bs_list, ← hst, ← hlf]; simp)
  rw [← fin]
  have h8' : lf ≠ 8 := by rw [hlf]; exact h8
  have e8 : ((lf : Int) == 8) = false := by rw [beq_eq_false_iff_ne]; omega
  have e9 : (lf == 8) = false := by rw [beq_eq_false_iff_ne]; exact h8'
  have hst5 : st ≤ 5 := by rw [hst]; exact hf.2.2.2.1
  have ew : IntKind.i64.wrap ((st : Int) + 1) = (st : Int) + 1 := by rw [IntKind.wrap_i64]; omega
  rw [← hst, ← hlf] at hbn
  clear fin hA hC hs hl hl2 hX hY hG hg1 hg2 hst hlf hw2 h8 hb hf ec h8' hst5 hq1 hq2
  have n0 : ¬ (9223372036854775807 < A.size + 1) := by omega
  have m0 : ¬ (A.size + 1 > 9223372036854775807) := by omega
  have n1 : ¬ (9223372036854775807 < A.size + 1 + s.size) := by omega
  have m1 : ¬ (A.size + 1 + s.size > 9223372036854775807) := by omega
  have n2 : ¬ (9223372036854775807 < A.size + 1 + s.size + 1) := by omega
  have m2 : ¬ (A.size + 1 + s.size + 1 > 9223372036854775807) := by omega
  have n3 : ¬ (9223372036854775807 < A.size + 1 + s.size + 1 + C.size) := by omega
  have m3 : ¬ (A.size + 1 + s.size + 1 + C.size > 9223372036854775807) := by omega
  go_enter Tryd.func44, Tryd.ntmps44
  refine wp_seq_k (fun KK hKK => ?_)
  have hKH : Hid _ := hKK
  clear hKK
  go_wp2_with fail
  refine hKH.out _ _ ?_
  clear hKH KK
  refine wp_seq_k (fun KK hKK => ?_)
  have hKH : Hid _ := hKK
  clear hKK
  go_wp2_with (go_at_call 58; refine hbn.mono ?_; clear hbn; rintro e w1 ⟨s1, rfl, k1⟩)
  refine hKH.out _ _ ?_
  clear hKH KK
  obtain ⟨W1, hW1⟩ : ∃ W1, W1 = w1.alloc (.cells #[.string s1, .int .i64 (st : Int), .int .i64 (lf : Int)] 113) := ⟨_, rfl⟩
  have kW : Keeps (fun _ => False) w1 W1 := by rw [hW1]; exact (Keeps.refl _ w1).alloc _
  have cW : CL W1 w1.heap.size [.string s1, .int .i64 (st : Int), .int .i64 (lf : Int)] := by rw [hW1]; exact CL.made w1 _ _
  rw [show w1.alloc (.cells #[.string s1, .int .i64 (st : Int), .int .i64 (lf : Int)] 113) = W1 from hW1.symm]
  clear hW1
  have K1 := k1.trans kW
  have b1 := cW.c 1 _ rfl
  have b2 := cW.c 2 _ rfl
  have c2 := K1.cell c2 (fun e => e)
  have c3 := K1.cell c3 (fun e => e)
  refine wp_seq_k (fun K2 hK2 => ?_)
  have hKJ : Hid _ := hK2
  clear hK2
  go_wp2_with fail
  refine hKJ.out _ _ ?_
  clear hKJ K2
  refine wp_seq_k (fun K2 hK2 => ?_)
  have hKI : Hid _ := hK2
  clear hK2
  go_wp2_with fail
  refine wp_region_held_drew (S := fun w' => Keeps (fun _ => False) W1 w') (by kernel_rfl) (Keeps.refl _ W1).drew (fun hHeld => ?_)
  refine wpAnyH_take (i := 0) (v := ?_) rfl (by kernel_rfl) (by kernel_rfl) (by kernel_rfl) (fun _ _ _ h => h) (Or.inl ⟨by rfl, ?_⟩) (by assumption) ?_
  rotate_left
  · intro wx hSw; have p2 := hSw.cell c2 (fun e => e); have p3 := hSw.cell c3 (fun e => e); have q1 := hSw.cell b1 (fun e => e); have q2 := hSw.cell b2 (fun e => e); clear hSw; go_simp <;> with_reducible rfl
  (try simp only [List.getElem_toArray]); (try simp only [List.getElem_cons_succ]); (try simp only [List.getElem_cons_zero]); (try simp only [Act.put]); (try simp only [List.setIfInBounds_toArray]); (repeat first | simp only [List.set_cons_succ] | simp only [List.set_cons_zero])
  refine wpAnyH_take (i := 1) (v := ?_) rfl (by kernel_rfl) (by kernel_rfl) (by kernel_rfl) (fun _ _ _ h => h) (Or.inl ⟨by rfl, ?_⟩) (by assumption) ?_
  rotate_left
  · intro wx hSw; have p2 := hSw.cell c2 (fun e => e); have p3 := hSw.cell c3 (fun e => e); have q1 := hSw.cell b1 (fun e => e); have q2 := hSw.cell b2 (fun e => e); clear hSw; go_simp <;> with_reducible rfl
  (try simp only [List.getElem_toArray]); (try simp only [List.getElem_cons_succ]); (try simp only [List.getElem_cons_zero]); (try simp only [Act.put]); (try simp only [List.setIfInBounds_toArray]); (repeat first | simp only [List.set_cons_succ] | simp only [List.set_cons_zero])
  refine wpAnyH_take (i := 2) (v := ?_) rfl (by kernel_rfl) (by kernel_rfl) (by kernel_rfl) (fun _ _ _ h => h) (Or.inl ⟨by rfl, ?_⟩) (by assumption) ?_
  rotate_left
  · intro wx hSw; have p2 := hSw.cell c2 (fun e => e); have p3 := hSw.cell c3 (fun e => e); have q1 := hSw.cell b1 (fun e => e); have q2 := hSw.cell b2 (fun e => e); clear hSw; go_simp <;> with_reducible rfl
  (try simp only [List.getElem_toArray]); (try simp only [List.getElem_cons_succ]); (try simp only [List.getElem_cons_zero]); (try simp only [Act.put]); (try simp only [List.setIfInBounds_toArray]); (repeat first | simp only [List.set_cons_succ] | simp only [List.set_cons_zero])
  refine wpAnyH_take (i := 3) (v := ?_) rfl (by kernel_rfl) (by kernel_rfl) (by kernel_rfl) (fun _ _ _ h => h) (Or.inl ⟨by rfl, ?_⟩) (by assumption) ?_
  rotate_left
  · intro wx hSw; have p2 := hSw.cell c2 (fun e => e); have p3 := hSw.cell c3 (fun e => e); have q1 := hSw.cell b1 (fun e => e); have q2 := hSw.cell b2 (fun e => e); clear hSw; go_simp <;> with_reducible rfl
  (try simp only [List.getElem_toArray]); (try simp only [List.getElem_cons_succ]); (try simp only [List.getElem_cons_zero]); (try simp only [Act.put]); (try simp only [List.setIfInBounds_toArray]); (repeat first | simp only [List.set_cons_succ] | simp only [List.set_cons_zero])
  refine wpAnyH_take (i := 4) (v := ?_) rfl (by kernel_rfl) (by kernel_rfl) (by kernel_rfl) (fun _ _ _ h => h) (Or.inl ⟨by rfl, ?_⟩) (by assumption) ?_
  rotate_left
  · intro wx hSw; have p2 := hSw.cell c2 (fun e => e); have p3 := hSw.cell c3 (fun e => e); have q1 := hSw.cell b1 (fun e => e); have q2 := hSw.cell b2 (fun e => e); clear hSw; go_simp <;> with_reducible rfl
  (try simp only [List.getElem_toArray]); (try simp only [List.getElem_cons_succ]); (try simp only [List.getElem_cons_zero]); (try simp only [Act.put]); (try simp only [List.setIfInBounds_toArray]); (repeat first | simp only [List.set_cons_succ] | simp only [List.set_cons_zero])
  refine wpAnyH_take (i := 5) (v := ?_) rfl (by kernel_rfl) (by kernel_rfl) (by kernel_rfl) (fun _ _ _ h => h) (Or.inl ⟨by rfl, ?_⟩) (by assumption) ?_
  rotate_left
  · intro wx hSw; have p2 := hSw.cell c2 (fun e => e); have p3 := hSw.cell c3 (fun e => e); have q1 := hSw.cell b1 (fun e => e); have q2 := hSw.cell b2 (fun e => e); clear hSw; go_simp <;> with_reducible rfl
  (try simp only [List.getElem_toArray]); (try simp only [List.getElem_cons_succ]); (try simp only [List.getElem_cons_zero]); (try simp only [Act.put]); (try simp only [List.setIfInBounds_toArray]); (repeat first | simp only [List.set_cons_succ] | simp only [List.set_cons_zero])
  refine wpAnyH_take (i := 6) (v := ?_) rfl (by kernel_rfl) (by kernel_rfl) (by kernel_rfl) (fun _ _ _ h => h) (Or.inl ⟨by rfl, ?_⟩) (by assumption) ?_
  rotate_left
  · intro wx hSw; have p2 := hSw.cell c2 (fun e => e); have p3 := hSw.cell c3 (fun e => e); have q1 := hSw.cell b1 (fun e => e); have q2 := hSw.cell b2 (fun e => e); clear hSw; go_simp <;> with_reducible rfl
  (try simp only [List.getElem_toArray]); (try simp only [List.getElem_cons_succ]); (try simp only [List.getElem_cons_zero]); (try simp only [Act.put]); (try simp only [List.setIfInBounds_toArray]); (repeat first | simp only [List.set_cons_succ] | simp only [List.set_cons_zero])
  refine wpAnyH_take (i := 9) (v := ?_) rfl (by kernel_rfl) (by kernel_rfl) (by kernel_rfl) (fun _ _ _ h => h) (Or.inl ⟨by rfl, ?_⟩) (by assumption) ?_
  rotate_left
  · intro wx hSw; have p2 := hSw.cell c2 (fun e => e); have p3 := hSw.cell c3 (fun e => e); have q1 := hSw.cell b1 (fun e => e); have q2 := hSw.cell b2 (fun e => e); clear hSw; go_simp <;> with_reducible rfl
  (try simp only [List.getElem_toArray]); (try simp only [List.getElem_cons_succ]); (try simp only [List.getElem_cons_zero]); (try simp only [Act.put]); (try simp only [List.setIfInBounds_toArray]); (repeat first | simp only [List.set_cons_succ] | simp only [List.set_cons_zero])
  refine wpAnyH_take (i := 10) (v := ?_) rfl (by kernel_rfl) (by kernel_rfl) (by kernel_rfl) (fun _ _ _ h => h) (Or.inl ⟨by rfl, ?_⟩) (by assumption) ?_
  rotate_left
  · intro wx hSw; have p2 := hSw.cell c2 (fun e => e); have p3 := hSw.cell c3 (fun e => e); have q1 := hSw.cell b1 (fun e => e); have q2 := hSw.cell b2 (fun e => e); clear hSw; go_simp <;> with_reducible rfl
  (try simp only [List.getElem_toArray]); (try simp only [List.getElem_cons_succ]); (try simp only [List.getElem_cons_zero]); (try simp only [Act.put]); (try simp only [List.setIfInBounds_toArray]); (repeat first | simp only [List.set_cons_succ] | simp only [List.set_cons_zero])
  refine wpAnyH_take (i := 11) (v := ?_) rfl (by kernel_rfl) (by kernel_rfl) (by kernel_rfl) (fun _ _ _ h => h) (Or.inl ⟨by rfl, ?_⟩) (by assumption) ?_
  rotate_left
  · intro wx hSw; have p2 := hSw.cell c2 (fun e => e); have p3 := hSw.cell c3 (fun e => e); have q1 := hSw.cell b1 (fun e => e); have q2 := hSw.cell b2 (fun e => e); clear hSw; go_simp <;> with_reducible rfl
  (try simp only [List.getElem_toArray]); (try simp only [List.getElem_cons_succ]); (try simp only [List.getElem_cons_zero]); (try simp only [Act.put]); (try simp only [List.setIfInBounds_toArray]); (repeat first | simp only [List.set_cons_succ] | simp only [List.set_cons_zero])
  refine wpAnyH_take (i := 12) (v := ?_) rfl (by kernel_rfl) (by kernel_rfl) (by kernel_rfl) (fun _ _ _ h => h) (Or.inl ⟨by rfl, ?_⟩) (by assumption) ?_
  rotate_left
  · intro wx hSw; have p2 := hSw.cell c2 (fun e => e); have p3 := hSw.cell c3 (fun e => e); have q1 := hSw.cell b1 (fun e => e); have q2 := hSw.cell b2 (fun e => e); clear hSw; go_simp <;> with_reducible rfl
  (try simp only [List.getElem_toArray]); (try simp only [List.getElem_cons_succ]); (try simp only [List.getElem_cons_zero]); (try simp only [Act.put]); (try simp only [List.setIfInBounds_toArray]); (repeat first | simp only [List.set_cons_succ] | simp only [List.set_cons_zero])
  refine wpAnyH_take (i := 15) (v := ?_) rfl (by kernel_rfl) (by kernel_rfl) (by kernel_rfl) (fun _ _ _ h => h) (Or.inl ⟨by rfl, ?_⟩) (by assumption) ?_
  rotate_left
  · intro wx hSw; have p2 := hSw.cell c2 (fun e => e); have p3 := hSw.cell c3 (fun e => e); have q1 := hSw.cell b1 (fun e => e); have q2 := hSw.cell b2 (fun e => e); clear hSw; go_simp <;> with_reducible rfl
  (try simp only [List.getElem_toArray]); (try simp only [List.getElem_cons_succ]); (try simp only [List.getElem_cons_zero]); (try simp only [Act.put]); (try simp only [List.setIfInBounds_toArray]); (repeat first | simp only [List.set_cons_succ] | simp only [List.set_cons_zero])
  refine wpAnyH_take (i := 16) (v := ?_) rfl (by kernel_rfl) (by kernel_rfl) (by kernel_rfl) (fun _ _ _ h => h) (Or.inl ⟨by rfl, ?_⟩) (by assumption) ?_
  rotate_left
  · intro wx hSw; have p2 := hSw.cell c2 (fun e => e); have p3 := hSw.cell c3 (fun e => e); have q1 := hSw.cell b1 (fun e => e); have q2 := hSw.cell b2 (fun e => e); clear hSw; go_simp <;> with_reducible rfl
  (try simp only [List.getElem_toArray]); (try simp only [List.getElem_cons_succ]); (try simp only [List.getElem_cons_zero]); (try simp only [Act.put]); (try simp only [List.setIfInBounds_toArray]); (repeat first | simp only [List.set_cons_succ] | simp only [List.set_cons_zero])
  refine wpAnyH_take (i := 17) (v := ?_) rfl (by kernel_rfl) (by kernel_rfl) (by kernel_rfl) (fun _ _ _ h => h) (Or.inl ⟨by rfl, ?_⟩) (by assumption) ?_
  rotate_left
  · intro wx hSw; have p2 := hSw.cell c2 (fun e => e); have p3 := hSw.cell c3 (fun e => e); have q1 := hSw.cell b1 (fun e => e); have q2 := hSw.cell b2 (fun e => e); clear hSw; go_simp <;> with_reducible rfl
  (try simp only [List.getElem_toArray]); (try simp only [List.getElem_cons_succ]); (try simp only [List.getElem_cons_zero]); (try simp only [Act.put]); (try simp only [List.setIfInBounds_toArray]); (repeat first | simp only [List.set_cons_succ] | simp only [List.set_cons_zero])
  refine wpAnyH_take (i := 18) (v := ?_) rfl (by kernel_rfl) (by kernel_rfl) (by kernel_rfl) (fun _ _ _ h => h) (Or.inl ⟨by rfl, ?_⟩) (by assumption) ?_
  rotate_left
  · intro wx hSw; have p2 := hSw.cell c2 (fun e => e); have p3 := hSw.cell c3 (fun e => e); have q1 := hSw.cell b1 (fun e => e); have q2 := hSw.cell b2 (fun e => e); clear hSw; go_simp <;> with_reducible rfl
  (try simp only [List.getElem_toArray]); (try simp only [List.getElem_cons_succ]); (try simp only [List.getElem_cons_zero]); (try simp only [Act.put]); (try simp only [List.setIfInBounds_toArray]); (repeat first | simp only [List.set_cons_succ] | simp only [List.set_cons_zero])
  refine wpAnyH_take (i := 19) (v := ?_) rfl (by kernel_rfl) (by kernel_rfl) (by kernel_rfl) (fun _ _ _ h => h) (Or.inl ⟨by rfl, ?_⟩) (by assumption) ?_
  rotate_left
  · intro wx hSw; have p2 := hSw.cell c2 (fun e => e); have p3 := hSw.cell c3 (fun e => e); have q1 := hSw.cell b1 (fun e => e); have q2 := hSw.cell b2 (fun e => e); clear hSw; go_simp <;> with_reducible rfl
  (try simp only [List.getElem_toArray]); (try simp only [List.getElem_cons_succ]); (try simp only [List.getElem_cons_zero]); (try simp only [Act.put]); (try simp only [List.setIfInBounds_toArray]); (repeat first | simp only [List.set_cons_succ] | simp only [List.set_cons_zero])
  refine wpAnyH_take (i := 20) (v := ?_) rfl (by kernel_rfl) (by kernel_rfl) (by kernel_rfl) (fun _ _ _ h => h) (Or.inl ⟨by rfl, ?_⟩) (by assumption) ?_
  rotate_left
  · intro wx hSw; have p2 := hSw.cell c2 (fun e => e); have p3 := hSw.cell c3 (fun e => e); have q1 := hSw.cell b1 (fun e => e); have q2 := hSw.cell b2 (fun e => e); clear hSw; go_simp <;> with_reducible rfl
  (try simp only [List.getElem_toArray]); (try simp only [List.getElem_cons_succ]); (try simp only [List.getElem_cons_zero]); (try simp only [Act.put]); (try simp only [List.setIfInBounds_toArray]); (repeat first | simp only [List.set_cons_succ] | simp only [List.set_cons_zero])
  refine wpAnyH_take (i := 21) (v := ?_) rfl (by kernel_rfl) (by kernel_rfl) (by kernel_rfl) (fun _ _ _ h => h) (Or.inl ⟨by rfl, ?_⟩) (by assumption) ?_
  rotate_left
  · intro wx hSw; have p2 := hSw.cell c2 (fun e => e); have p3 := hSw.cell c3 (fun e => e); have q1 := hSw.cell b1 (fun e => e); have q2 := hSw.cell b2 (fun e => e); clear hSw; go_simp <;> with_reducible rfl
  (try simp only [List.getElem_toArray]); (try simp only [List.getElem_cons_succ]); (try simp only [List.getElem_cons_zero]); (try simp only [Act.put]); (try simp only [List.setIfInBounds_toArray]); (repeat first | simp only [List.set_cons_succ] | simp only [List.set_cons_zero])
  refine wpAnyH_take (i := 22) (v := ?_) rfl (by kernel_rfl) (by kernel_rfl) (by kernel_rfl) (fun _ _ _ h => h) (Or.inl ⟨by rfl, ?_⟩) (by assumption) ?_
  rotate_left
  · intro wx hSw; have p2 := hSw.cell c2 (fun e => e); have p3 := hSw.cell c3 (fun e => e); have q1 := hSw.cell b1 (fun e => e); have q2 := hSw.cell b2 (fun e => e); clear hSw; go_simp <;> with_reducible rfl
  (try simp only [List.getElem_toArray]); (try simp only [List.getElem_cons_succ]); (try simp only [List.getElem_cons_zero]); (try simp only [Act.put]); (try simp only [List.setIfInBounds_toArray]); (repeat first | simp only [List.set_cons_succ] | simp only [List.set_cons_zero])
  refine wpAnyH_one 7 (by kernel_rfl) rfl rfl ?_
  refine wp_call2 43 _ _ rfl _ _ rfl rfl (fun _ _ => rfl) ((hTa W1.drew (K1.trans (Keeps.refl _ W1).drew)).mono ?_)
  rintro e v1 ⟨rfl, kv1⟩
  have k1a : Keeps (fun _ => False) W1 v1 := (Keeps.refl (fun _ => False) W1).drew.trans kv1
  refine ⟨_, rfl, k1a, fun hS1 => ?_⟩
  (try simp only [List.getElem_toArray]); (try simp only [List.getElem_cons_succ]); (try simp only [List.getElem_cons_zero]); (try simp only [Act.put]); (try simp only [List.setIfInBounds_toArray]); (repeat first | simp only [List.set_cons_succ] | simp only [List.set_cons_zero])
  refine wpAnyH_take (i := 8) (v := ?_) rfl (by kernel_rfl) (by kernel_rfl) (by kernel_rfl) (fun _ _ _ h => h) (Or.inl ⟨by rfl, ?_⟩) (by assumption) ?_
  rotate_left
  · intro wx hSw; have p2 := hSw.cell c2 (fun e => e); have p3 := hSw.cell c3 (fun e => e); have q1 := hSw.cell b1 (fun e => e); have q2 := hSw.cell b2 (fun e => e); clear hSw; go_simp <;> with_reducible rfl
  (try simp only [List.getElem_toArray]); (try simp only [List.getElem_cons_succ]); (try simp only [List.getElem_cons_zero]); (try simp only [Act.put]); (try simp only [List.setIfInBounds_toArray]); (repeat first | simp only [List.set_cons_succ] | simp only [List.set_cons_zero])
  refine wpAnyH_take (i := 13) (v := ?_) rfl (by kernel_rfl) (by kernel_rfl) (by kernel_rfl) (fun _ _ _ h => h) (Or.inl ⟨by rfl, ?_⟩) (by assumption) ?_
  rotate_left
  · intro wx hSw; have p2 := hSw.cell c2 (fun e => e); have p3 := hSw.cell c3 (fun e => e); have q1 := hSw.cell b1 (fun e => e); have q2 := hSw.cell b2 (fun e => e); clear hSw; go_simp <;> with_reducible rfl
  (try simp only [List.getElem_toArray]); (try simp only [List.getElem_cons_succ]); (try simp only [List.getElem_cons_zero]); (try simp only [Act.put]); (try simp only [List.setIfInBounds_toArray]); (repeat first | simp only [List.set_cons_succ] | simp only [List.set_cons_zero])
  refine wpAnyH_take (i := 14) (v := ?_) rfl (by kernel_rfl) (by kernel_rfl) (by kernel_rfl) (fun _ _ _ h => h) (Or.inl ⟨by rfl, ?_⟩) (by assumption) ?_
  rotate_left
  · intro wx hSw; have p2 := hSw.cell c2 (fun e => e); have p3 := hSw.cell c3 (fun e => e); have q1 := hSw.cell b1 (fun e => e); have q2 := hSw.cell b2 (fun e => e); clear hSw; go_simp <;> with_reducible rfl
  (try simp only [List.getElem_toArray]); (try simp only [List.getElem_cons_succ]); (try simp only [List.getElem_cons_zero]); (try simp only [Act.put]); (try simp only [List.setIfInBounds_toArray]); (repeat first | simp only [List.set_cons_succ] | simp only [List.set_cons_zero])
  refine wpAnyH_one 23 (by kernel_rfl) rfl rfl ?_
  refine wp_call2 43 _ _ rfl _ _ rfl rfl (fun _ _ => rfl) ((hTb v1 (K1.trans k1a)).mono ?_)
  rintro e v2 ⟨rfl, kv2⟩
  have k2a : Keeps (fun _ => False) W1 v2 := k1a.trans kv2
  refine ⟨_, rfl, k2a, fun hS2 => ?_⟩
  (try simp only [List.getElem_toArray]); (try simp only [List.getElem_cons_succ]); (try simp only [List.getElem_cons_zero]); (try simp only [Act.put]); (try simp only [List.setIfInBounds_toArray]); (repeat first | simp only [List.set_cons_succ] | simp only [List.set_cons_zero])
  refine wpAnyH_take (i := 24) (v := ?_) rfl (by kernel_rfl) (by kernel_rfl) (by kernel_rfl) (fun _ _ _ h => h) (Or.inl ⟨by rfl, ?_⟩) (by assumption) ?_
  rotate_left
  · intro wx hSw; have p2 := hSw.cell c2 (fun e => e); have p3 := hSw.cell c3 (fun e => e); have q1 := hSw.cell b1 (fun e => e); have q2 := hSw.cell b2 (fun e => e); clear hSw; go_simp <;> with_reducible rfl
  (try simp only [List.getElem_toArray]); (try simp only [List.getElem_cons_succ]); (try simp only [List.getElem_cons_zero]); (try simp only [Act.put]); (try simp only [List.setIfInBounds_toArray]); (repeat first | simp only [List.set_cons_succ] | simp only [List.set_cons_zero])
  refine wpAnyH_take (i := 25) (v := ?_) rfl (by kernel_rfl) (by kernel_rfl) (by kernel_rfl) (fun _ _ _ h => h) (Or.inl ⟨by rfl, ?_⟩) (by assumption) ?_
  rotate_left
  · intro wx hSw; have p2 := hSw.cell c2 (fun e => e); have p3 := hSw.cell c3 (fun e => e); have q1 := hSw.cell b1 (fun e => e); have q2 := hSw.cell b2 (fun e => e); clear hSw; go_simp <;> with_reducible rfl
  (try simp only [List.getElem_toArray]); (try simp only [List.getElem_cons_succ]); (try simp only [List.getElem_cons_zero]); (try simp only [Act.put]); (try simp only [List.setIfInBounds_toArray]); (repeat first | simp only [List.set_cons_succ] | simp only [List.set_cons_zero])
  refine wpAnyH_done (by kernel_rfl) ?_ _
  refine hKI.out _ _ ?_
  clear hKI
  go_wp2_with fail
  go_ret
  exact ⟨rfl, K1.trans k2a⟩
set_option maxHeartbeats 1000000 in
set_option maxRecDepth 100000 in
theorem text_bin {w : Bs} {a b : Tr} (hb : 0 < (bnd w).1) (ha : WfE a) (hc : WfE b) (hza : bgE a ≤ 1048576) (hzb : bgE b ≤ 1048576) (hX : TX a) (hY : TX b) : TX (.mk 7 0 w [a, b]) := by
  intro W B b0 o hG h
  have hB : Calls Tryd.prog 44 #[.pointer (some ⟨b0, o, none⟩)] W fun e w' => e = .returned (.string (bs (pE (.mk 7 0 w [a, b])))) ∧ Keeps (fun _ => False) W w' := by
    by_cases h8 : (bnd w).2 = 8
    · exact bin_pair hb h8 ha hc hza hzb hX hY hG h
    · exact bin_op hb h8 ha hc hza hzb hX hY hG h
  obtain ⟨p, c, hcc, -⟩ := h.cells
  obtain ⟨c0, -, -, -⟩ := hcc
  clear h hG hX hY
  generalize bs (pE (.mk 7 0 w [a, b])) = s at *
  go_enter Tryd.func26, Tryd.ntmps26
  go_wp2_with (go_at_call 44; refine hB.mono ?_; clear hB; rintro e w1 ⟨rfl, k1⟩)
  go_ret
  exact ⟨rfl, k1⟩
theorem text_all {t : Tr} (h : WfE t) : bgE t ≤ 1048576 → TX t := by
  induction h with
  | num _ h => exact fun _ => text_num h
  | name _ => exact fun _ => text_name
  | obj ha ih => exact fun hz => by rw [bg_one] at hz; exact text_obj ha (by omega) (ih (by omega))
  | tak ha ih => exact fun hz => by rw [bg_one] at hz; exact text_tak ha (by omega) (ih (by omega))
  | neg ha ih => exact fun hz => by rw [bg_one] at hz; exact text_neg ha (by omega) (ih (by omega))
  | not ha ih => exact fun hz => by rw [bg_one] at hz; exact text_not ha (by omega) (ih (by omega))
  | bin hb ha hc iha ihb => exact fun hz => by rw [bg_two] at hz; exact text_bin hb ha hc (by omega) (by omega) (iha (by omega)) (ihb (by omega))
/-! A program that passes Check: it is well formed, and its text is within the limit. -/
theorem wrE_ok {k n : Int} {w : Bs} {ps : List Tr} (h : wrE (.mk k n w ps) = false) : okE k n w ps.length = true ∧ wrL ps = false := by
  rw [wrE] at h
  split at h
  · rename_i hk; exact ⟨hk, h⟩
  · cases h
theorem wfE_of {k n : Int} {w : Bs} {ps : List Tr} (hn : In64 n) (ho : okE k n w ps.length = true) (hp : ∀ t ∈ ps, WfE t) : WfE (.mk k n w ps) := by
  unfold okE at ho
  split at ho
  · rename_i hk
    simp only [Bool.and_eq_true, decide_eq_true_eq, List.isEmpty_iff] at ho
    obtain ⟨⟨h0, rfl⟩, h2⟩ := ho
    obtain rfl := List.eq_nil_of_length_eq_zero h2
    rw [hk]
    exact .num h0 hn
  · split at ho
    · rename_i hk
      simp only [Bool.and_eq_true, decide_eq_true_eq] at ho
      obtain ⟨⟨rfl, h1⟩, h2⟩ := ho
      obtain rfl := List.eq_nil_of_length_eq_zero h2
      rw [hk]
      exact .name h1
    · split at ho
      · rename_i hk
        simp only [Bool.and_eq_true, decide_eq_true_eq, List.isEmpty_iff] at ho
        obtain ⟨⟨rfl, rfl⟩, h2⟩ := ho
        match ps, h2, hp with
        | [a], _, hp =>
          have ha := hp a (by simp)
          rcases hk with rfl | rfl | rfl | rfl
          · exact .obj ha
          · exact .tak ha
          · exact .neg ha
          · exact .not ha
      · split at ho
        · rename_i hk
          simp only [Bool.and_eq_true, decide_eq_true_eq] at ho
          obtain ⟨⟨rfl, h1⟩, h2⟩ := ho
          match ps, h2, hp with
          | [a, b], _, hp =>
            rw [hk]
            exact .bin h1 (hp a (by simp)) (hp b (by simp))
        · cases ho
mutual
theorem TC.wf {w : World} {P : Nat → Prop} {e : TypeId} : ∀ {t : Tr} {l : List Value}, TC w P e t l → wrE t = false → WfE t
  | .mk k n wd ps, l, h, hw => by
    unfold TC at h
    obtain ⟨-, hn, -, a, xs, -, -, hx⟩ := h
    obtain ⟨h1, h2⟩ := wrE_ok hw
    exact wfE_of (by unfold I64 at hn; unfold In64; omega) h1 (TL.wf hx h2)
theorem TL.wf {w : World} {P : Nat → Prop} {e : TypeId} : ∀ {t : List Tr} {l : List Value}, TL w P e t l → wrL t = false → ∀ x ∈ t, WfE x
  | [], l, h, _ => fun x hx => by cases hx
  | t :: r, l, h, hw => by
    unfold TL at h
    obtain ⟨ys, zs, -, h2, h3⟩ := h
    rw [wrL, Bool.or_eq_false_iff] at hw
    intro x hx
    rcases List.mem_cons.1 hx with hx | hx
    · rw [hx]; exact TC.wf h2 hw.1
    · exact TL.wf h3 hw.2 x hx
end
theorem isZr_eq {t : Tr} (h : isZr t = true) : t = tr0 := by
  obtain ⟨k, n, w, ps⟩ := t
  unfold isZr at h
  simp only [Bool.and_eq_true, decide_eq_true_eq, List.isEmpty_iff] at h
  obtain ⟨⟨⟨rfl, rfl⟩, rfl⟩, rfl⟩ := h
  rfl
theorem wfS_of {k : Int} {w : Bs} {a b : Tr} {th el : List St} (ho : okS k w a b th.length el.length = true) (ha : usA k = true → WfE a) (hb : usB k = true → WfE b) (ht : WfL th) (he : WfL el) : WfS (.mk k w a b th el) := by
  unfold okS at ho
  simp only [Bool.and_eq_true, decide_eq_true_eq] at ho
  obtain ⟨⟨⟨⟨⟨⟨h1, h2⟩, h3⟩, h4⟩, h5⟩, h6⟩, h7⟩ := ho
  have hk : k = 1 ∨ k = 2 ∨ k = 3 ∨ k = 4 ∨ k = 5 ∨ k = 6 ∨ k = 7 := by omega
  unfold WfS
  rcases hk with rfl | rfl | rfl | rfl | rfl | rfl | rfl
  · have h3 : isNm w = true := h3
    have h5 : isZr b = true := by simpa [usB] using h5
    have h6 : th.length = 0 := by simpa [usT] using h6
    have h7 : el.length = 0 := by simpa [usE] using h7
    exact .inl ⟨rfl, h3, ha rfl, isZr_eq h5, List.eq_nil_of_length_eq_zero h6, List.eq_nil_of_length_eq_zero h7⟩
  · have h3 : w = [] := by simpa [usW] using h3
    have h6 : th.length = 0 := by simpa [usT] using h6
    have h7 : el.length = 0 := by simpa [usE] using h7
    exact .inr (.inl ⟨rfl, h3, ha rfl, hb rfl, List.eq_nil_of_length_eq_zero h6, List.eq_nil_of_length_eq_zero h7⟩)
  · have h3 : w = [] := by simpa [usW] using h3
    have h5 : isZr b = true := by simpa [usB] using h5
    have h6 : th.length = 0 := by simpa [usT] using h6
    have h7 : el.length = 0 := by simpa [usE] using h7
    exact .inr (.inr (.inl ⟨rfl, h3, ha rfl, isZr_eq h5, List.eq_nil_of_length_eq_zero h6, List.eq_nil_of_length_eq_zero h7⟩))
  · have h3 : w = [] := by simpa [usW] using h3
    have h5 : isZr b = true := by simpa [usB] using h5
    exact .inr (.inr (.inr (.inl ⟨rfl, h3, ha rfl, isZr_eq h5, ht, he⟩)))
  · have h3 : w = [] := by simpa [usW] using h3
    have h5 : isZr b = true := by simpa [usB] using h5
    have h7 : el.length = 0 := by simpa [usE] using h7
    exact .inr (.inr (.inr (.inr (.inl ⟨rfl, h3, ha rfl, isZr_eq h5, ht, List.eq_nil_of_length_eq_zero h7⟩))))
  · have h3 : w = [] := by simpa [usW] using h3
    have h4 : isZr a = true := by simpa [usA] using h4
    have h5 : isZr b = true := by simpa [usB] using h5
    have h6 : th.length = 0 := by simpa [usT] using h6
    have h7 : el.length = 0 := by simpa [usE] using h7
    exact .inr (.inr (.inr (.inr (.inr (.inl ⟨rfl, h3, isZr_eq h4, isZr_eq h5, List.eq_nil_of_length_eq_zero h6, List.eq_nil_of_length_eq_zero h7⟩)))))
  · have h3 : w = [] := by simpa [usW] using h3
    have h5 : isZr b = true := by simpa [usB] using h5
    have h6 : th.length = 0 := by simpa [usT] using h6
    have h7 : el.length = 0 := by simpa [usE] using h7
    exact .inr (.inr (.inr (.inr (.inr (.inr ⟨rfl, h3, ha rfl, isZr_eq h5, List.eq_nil_of_length_eq_zero h6, List.eq_nil_of_length_eq_zero h7⟩)))))
mutual
theorem SC.wf {w : World} {P : Nat → Prop} {e s : TypeId} : ∀ {t : St} {l : List Value}, SC w P e s t l → wrS t = false → WfS t
  | .mk k wd a b th el, l, h, hw => by
    unfold SC at h
    obtain ⟨-, -, la, lb, tv, ev, xs, ys, -, ha, hb, -, ht, -, he⟩ := h
    rw [wrS] at hw
    split at hw
    · rename_i ho
      simp only [Bool.or_eq_false_iff] at hw
      obtain ⟨⟨⟨h1, h2⟩, h3⟩, h4⟩ := hw
      exact wfS_of ho (fun hu => TC.wf ha (by rw [if_pos hu] at h1; exact h1)) (fun hu => TC.wf hb (by rw [if_pos hu] at h2; exact h2)) (SL.wf ht h3) (SL.wf he h4)
    · cases hw
theorem SL.wf {w : World} {P : Nat → Prop} {e s : TypeId} : ∀ {t : List St} {l : List Value}, SL w P e s t l → wrSL t = false → WfL t
  | [], l, h, _ => by unfold WfL; trivial
  | t :: r, l, h, hw => by
    unfold SL at h
    obtain ⟨ys, zs, -, h2, h3⟩ := h
    rw [wrSL, Bool.or_eq_false_iff] at hw
    unfold WfL
    exact ⟨SC.wf h2 hw.1, SL.wf h3 hw.2⟩
end
/-! ### The length. -/
theorem szE_one {k : Int} {a : Tr} (hk : k = 3 ∨ k = 4 ∨ k = 5 ∨ k = 6) : szE (.mk k 0 [] [a]) = ((szE a).1 + 1, min ((szE a).2 + 1) 513) := by
  rw [szE, if_pos (by rcases hk with rfl | rfl | rfl | rfl <;> simp [okE]), szL, szL, wth_zero']; rfl
theorem szE_two {w : Bs} {a b : Tr} (h : 0 < (bnd w).1) : szE (.mk 7 0 w [a, b]) = (max (szE a).1 (szE b).1 + 1, min ((szE a).2 + (szE b).2 + 1) 513) := by
  rw [szE, if_pos (by unfold okE; simp [h]), szL, szL, szL, wth_zero']; rfl
theorem pE_sz {e : Tr} (h : WfE e) : 1 ≤ (szE e).1 ∧ 1 ≤ (szE e).2 ∧ ((szE e).2 ≤ 512 → (pE e).length ≤ 24 * (szE e).2) := by
  have brk_len : ∀ (c : Bool) (t : Bs), (brk c t).length ≤ t.length + 2 := by
    intro c t
    unfold brk
    cases c <;> simp
  induction h with
  | @num n h0 h =>
    have e : szE (.mk 1 n [] []) = (1, 1) := by
      rw [szE, if_pos (by unfold okE; simp [h0]), szL]; rfl
    have := (itoa_dg h0 h).2.2
    rw [e, pE, if_pos rfl]
    exact ⟨by decide, by decide, fun _ => by omega⟩
  | @name w h =>
    have e : szE (.mk 2 0 w []) = (1, 1) := by
      rw [szE, if_pos (by unfold okE; simp [h]), szL]; rfl
    obtain ⟨b, r, rfl, -, -, h3⟩ := (nm_wd h).1
    rw [e, pE, if_neg (by decide)]
    exact ⟨by decide, by decide, fun _ => by omega⟩
  | @obj a _ ih =>
    rw [szE_one (.inl rfl), pE, if_pos rfl]
    refine ⟨by omega, by simp only; omega, fun h => ?_⟩
    simp only at h ⊢
    have := ih.2.2 (by omega)
    simp; omega
  | @tak a _ ih =>
    rw [szE_one (.inr (.inl rfl)), pE, if_neg (by decide), if_pos rfl]
    refine ⟨by omega, by simp only; omega, fun h => ?_⟩
    simp only at h ⊢
    have := ih.2.2 (by omega)
    simp [kTake]; omega
  | @neg a _ ih =>
    rw [szE_one (.inr (.inr (.inl rfl))), pE, if_neg (by decide), if_neg (by decide), if_pos rfl]
    refine ⟨by omega, by simp only; omega, fun h => ?_⟩
    simp only at h ⊢
    have := ih.2.2 (by omega)
    have h2 := brk_len (decide (stE a < 6)) (pE a)
    rw [List.length_cons]; omega
  | @not a _ ih =>
    rw [szE_one (.inr (.inr (.inr rfl))), pE, if_neg (by decide), if_neg (by decide), if_neg (by decide)]
    refine ⟨by omega, by simp only; omega, fun h => ?_⟩
    simp only at h ⊢
    have := ih.2.2 (by omega)
    have h2 := brk_len (decide (stE a < 6)) (pE a)
    rw [List.length_cons]; omega
  | @bin w a b hb _ _ iha ihb =>
    rw [szE_two hb, pE]
    refine ⟨by omega, by simp only; omega, fun h => ?_⟩
    simp only at h ⊢
    have h1 := iha.2.2 (by omega)
    have h2 := ihb.2.2 (by omega)
    split
    · rename_i h8
      have hw : w.length = 3 := by rcases (pair_facts hb h8).1 with rfl | rfl <;> rfl
      simp; omega
    · rename_i h8
      have hw := (op_facts hb h8).2.2.2.2.1
      have h3 := brk_len (decide (stE a < (bnd w).2)) (pE a)
      have h4 := brk_len (decide (stE b < (bnd w).1 + 1)) (pE b)
      simp; omega
def LnS (s : St) : Prop := 1 ≤ (szS s).1 ∧ 1 ≤ (szS s).2 ∧ ∀ t : Bs, (szS s).2 ≤ 512 → t.length + (szS s).1 ≤ 24 → t.length + (pS t s).length + 1 ≤ 64 * (szS s).2
def LnL (l : List St) : Prop := ∀ t : Bs, (szSL l).2 ≤ 512 → t.length + (szSL l).1 ≤ 24 → (pL t l).length ≤ 64 * (szSL l).2
theorem lnL_cons {s : St} {r : List St} (h1 : LnS s) (h2 : LnL r) : LnL (s :: r) := by
  intro t hn hd
  rw [szSL] at hn hd ⊢
  unfold wth at hn hd ⊢
  simp only at hn hd ⊢
  have e1 := h1.2.2 t (by omega) (by omega)
  have e2 := h2 t (by omega) (by omega)
  rw [pL]
  simp
  omega
theorem und (x : Nat × Nat) : undr x = (x.1 + 1, min (x.2 + 1) 513) := rfl
theorem ln_asg {w : Bs} {a : Tr} (hw : isNm w = true) (ha : WfE a) : LnS (.mk 1 w a tr0 [] []) := by
  have e : szS (.mk 1 w a tr0 [] []) = ((szE a).1 + 1, min ((szE a).2 + 1) 513) := by
    rw [szS, if_pos (by unfold okS; simp [usW, usA, usB, usT, usE, hw, isZr, tr0]), szSL, if_pos (by decide), if_neg (by decide), wth_zero', wth_zero', wth_zero', und]
  obtain ⟨h1, h2, h3⟩ := pE_sz ha
  obtain ⟨b, r, rfl, -, -, h16⟩ := (nm_wd hw).1
  unfold LnS
  rw [e]
  refine ⟨by omega, by simp only; omega, fun t hn hd => ?_⟩
  simp only at hn hd ⊢
  have := h3 (by omega)
  rw [pS, if_pos rfl]
  simp at h16 ⊢
  omega
theorem ln_sto {a b : Tr} (ha : WfE a) (hb : WfE b) : LnS (.mk 2 [] a b [] []) := by
  have e : szS (.mk 2 [] a b [] []) = (max (szE a).1 (szE b).1 + 1, min ((szE a).2 + (szE b).2 + 1) 513) := by
    rw [szS, if_pos (by unfold okS; simp [usW, usA, usB, usT, usE]), szSL, if_pos (by decide), if_pos (by decide), wth_zero', wth_zero', und]; rfl
  obtain ⟨h1, h2, h3⟩ := pE_sz ha
  obtain ⟨g1, g2, g3⟩ := pE_sz hb
  unfold LnS
  rw [e]
  refine ⟨by omega, by simp only; omega, fun t hn hd => ?_⟩
  simp only at hn hd ⊢
  have := h3 (by omega)
  have := g3 (by omega)
  rw [pS, if_neg (by decide), if_pos rfl]
  simp
  omega
theorem ln_rel {a : Tr} (ha : WfE a) : LnS (.mk 3 [] a tr0 [] []) := by
  have e : szS (.mk 3 [] a tr0 [] []) = ((szE a).1 + 1, min ((szE a).2 + 1) 513) := by
    rw [szS, if_pos (by unfold okS; simp [usW, usA, usB, usT, usE, isZr, tr0]), szSL, if_pos (by decide), if_neg (by decide), wth_zero', wth_zero', wth_zero', und]
  obtain ⟨h1, h2, h3⟩ := pE_sz ha
  unfold LnS
  rw [e]
  refine ⟨by omega, by simp only; omega, fun t hn hd => ?_⟩
  simp only at hn hd ⊢
  have := h3 (by omega)
  rw [pS, if_neg (by decide), if_neg (by decide), if_pos rfl]
  simp [kRel]
  omega
theorem ln_ret {a : Tr} (ha : WfE a) : LnS (.mk 7 [] a tr0 [] []) := by
  have e : szS (.mk 7 [] a tr0 [] []) = ((szE a).1 + 1, min ((szE a).2 + 1) 513) := by
    rw [szS, if_pos (by unfold okS; simp [usW, usA, usB, usT, usE, isZr, tr0]), szSL, if_pos (by decide), if_neg (by decide), wth_zero', wth_zero', wth_zero', und]
  obtain ⟨h1, h2, h3⟩ := pE_sz ha
  unfold LnS
  rw [e]
  refine ⟨by omega, by simp only; omega, fun t hn hd => ?_⟩
  simp only at hn hd ⊢
  have := h3 (by omega)
  rw [pS, if_neg (by decide), if_neg (by decide), if_neg (by decide), if_neg (by decide), if_neg (by decide), if_neg (by decide)]
  simp [kRet]
  omega
theorem ln_abo : LnS (.mk 6 [] tr0 tr0 [] []) := by
  have e : szS (.mk 6 [] tr0 tr0 [] []) = (1, 1) := by
    rw [szS, if_pos (by unfold okS; simp [usW, usA, usB, usT, usE, isZr, tr0]), szSL, if_neg (by decide), if_neg (by decide), wth_zero', wth_zero', und]; rfl
  unfold LnS
  rw [e]
  refine ⟨by omega, by simp only; omega, fun t hn hd => ?_⟩
  simp only at hn hd ⊢
  rw [pS, if_neg (by decide), if_neg (by decide), if_neg (by decide), if_neg (by decide), if_neg (by decide), if_pos rfl]
  simp [kAbort]
  omega
theorem ln_whl {a : Tr} {th : List St} (ha : WfE a) (hl : LnL th) : LnS (.mk 5 [] a tr0 th []) := by
  have e : szS (.mk 5 [] a tr0 th []) = (max (szE a).1 (szSL th).1 + 1, min ((szE a).2 + (szSL th).2 + 1) 513) := by
    rw [szS, if_pos (by unfold okS; simp [usW, usA, usB, usT, usE, isZr, tr0]), szSL, if_pos (by decide), if_neg (by decide), wth_zero', wth_zero', und]; rfl
  obtain ⟨h1, h2, h3⟩ := pE_sz ha
  unfold LnS
  rw [e]
  refine ⟨by omega, by simp only; omega, fun t hn hd => ?_⟩
  simp only at hn hd ⊢
  have := h3 (by omega)
  have hL := hl (t ++ [9]) (by omega) (by simp; omega)
  rw [pS, if_neg (by decide), if_neg (by decide), if_neg (by decide), if_neg (by decide), if_pos rfl]
  simp [kWhile] at hL ⊢
  omega
theorem ln_if {a : Tr} {th el : List St} (ha : WfE a) (hl : LnL th) (hm : LnL el) (ho : ∀ s, el = [s] → kdS s = 4 → LnS s) : LnS (.mk 4 [] a tr0 th el) := by
  have e : szS (.mk 4 [] a tr0 th el) = (max (max (szE a).1 (szSL th).1) (szSL el).1 + 1, min ((szE a).2 + (szSL th).2 + (szSL el).2 + 1) 513) := by
    rw [szS, if_pos (by unfold okS; simp [usW, usA, usB, usT, usE, isZr, tr0]), if_pos (by decide), if_neg (by decide), wth_zero', und]; rfl
  obtain ⟨h1, h2, h3⟩ := pE_sz ha
  unfold LnS
  rw [e]
  refine ⟨by omega, by simp only; omega, fun t hn hd => ?_⟩
  simp only at hn hd ⊢
  have hA := h3 (by omega)
  have hL := hl (t ++ [9]) (by omega) (by simp; omega)
  have hO : (pO t el).length ≤ 9 + t.length + 64 * (szSL el).2 := by
    cases el with
    | nil => rw [pO]; simp
    | cons s r =>
      rw [pO]
      by_cases hc : (r.isEmpty && decide (kdS s = 4)) = true
      · rw [if_pos hc]
        have hr : r = [] := by
          simp only [Bool.and_eq_true, List.isEmpty_iff] at hc
          exact hc.1
        subst hr
        have h4 : kdS s = 4 := by simpa using hc
        have hs := (ho s rfl h4).2.2 t
        have ez : szSL [s] = szS s := by rw [szSL, szSL, wth_zero']
        rw [ez] at hn hd ⊢
        have := hs (by omega) (by omega)
        simp [kElse]
        omega
      · rw [if_neg hc]
        have := hm (t ++ [9]) (by omega) (by simp; omega)
        rw [pL] at this
        simp [kElse] at this ⊢
        omega
  rw [pS, if_neg (by decide), if_neg (by decide), if_neg (by decide), if_pos rfl]
  simp [kIf] at hL ⊢
  omega
theorem lnS : ∀ n : Nat, (∀ s, bgS s ≤ n → WfS s → LnS s) ∧ (∀ l, bgSL l ≤ n → WfL l → LnL l)
  | 0 => by
    refine ⟨fun s h => absurd h (by have := bgS_pos s; omega), fun l h _ => ?_⟩
    cases l with
    | nil => intro t _ _; rw [pL]; simp
    | cons s r => exact absurd h (by have := bgS_pos s; rw [bgSL]; omega)
  | n + 1 => by
    obtain ⟨i1, i2⟩ := lnS n
    have j1 : ∀ s, bgS s ≤ n + 1 → WfS s → LnS s := by
      intro s hb hw
      obtain ⟨k, w, a, b, th, el⟩ := s
      rw [bgS_eq] at hb
      have ha := bgE_pos a
      unfold WfS at hw
      rcases hw with ⟨rfl, h1, h2, rfl, rfl, rfl⟩ | ⟨rfl, rfl, h1, h2, rfl, rfl⟩ | ⟨rfl, rfl, h1, rfl, rfl, rfl⟩ | ⟨rfl, rfl, h1, rfl, h2, h3⟩ | ⟨rfl, rfl, h1, rfl, h2, rfl⟩ | ⟨rfl, rfl, rfl, rfl, rfl, rfl⟩ | ⟨rfl, rfl, h1, rfl, rfl, rfl⟩
      · exact ln_asg h1 h2
      · exact ln_sto h1 h2
      · exact ln_rel h1
      · refine ln_if h1 (i2 th (by omega) h2) (i2 el (by omega) h3) (fun s hs _ => ?_)
        subst hs
        have e : bgSL [s] = bgS s := by rw [bgSL, bgSL]; rfl
        rw [e] at hb
        unfold WfL at h3
        exact i1 s (by omega) h3.1
      · exact ln_whl h1 (i2 th (by omega) h2)
      · exact ln_abo
      · exact ln_ret h1
    refine ⟨j1, fun l h hw => ?_⟩
    cases l with
    | nil => intro t _ _; rw [pL]; simp
    | cons s r =>
      unfold WfL at hw
      have e : bgSL (s :: r) = bgS s + bgSL r := by rw [bgSL]
      rw [e] at h
      have := bgS_pos s
      exact lnL_cons (j1 s (by omega) hw.1) (i2 r (by omega) hw.2)
theorem chk_zero {l : List St} (h : chk l = 0) : wrSL l = false ∧ (szSL l).1 ≤ 24 ∧ (szSL l).2 ≤ 512 := by
  unfold chk at h
  split at h
  · cases h
  · rename_i h1
    split at h
    · cases h
    · split at h
      · cases h
      · rename_i h2
        split at h
        · cases h
        · rename_i h3
          exact ⟨by simpa using h1, by omega, by omega⟩
/-- The text of a program is within the limit. -/
theorem pL_len {l : List St} (hw : WfL l) (h : chk l = 0) : (pL [] l).length ≤ 32768 := by
  obtain ⟨-, h1, h2⟩ := chk_zero h
  have := (lnS (bgSL l)).2 l (Nat.le_refl _) hw [] h2 (by simpa using h1)
  omega
/-- A statement, and a list of them, that lie somewhere. -/
def PtT (W : World) (B b o : Nat) (s : St) : Prop := b < B ∧ ∃ l, SC W (fun g => g < B) 32 34 s l ∧ ∀ j x, l[j]? = some x → W.cell? ⟨b, o + j, none⟩ = some x
def PtL (W : World) (B : Nat) (p : Option Addr) (c : Nat) (l : List St) : Prop := ∃ xs, OwnP W (fun g => g < B) 34 12 (.slice p l.length c) l.length xs ∧ SL W (fun g => g < B) 32 34 l xs
theorem PtT.keep {W W' : World} {B b o : Nat} {s : St} (h : PtT W B b o s) (k : Keeps (fun _ => False) W W') : PtT W' B b o s := by
  obtain ⟨h1, l, h2, h3⟩ := h
  exact ⟨h1, l, h2.stay (k.stay (fun _ _ _ e => e)), fun j x e => k.cell (h3 j x e) (fun e => e)⟩
theorem PtL.keep {W W' : World} {B : Nat} {p : Option Addr} {c : Nat} {l : List St} (h : PtL W B p c l) (k : Keeps (fun _ => False) W W') : PtL W' B p c l := by
  obtain ⟨xs, h1, h2⟩ := h
  exact ⟨xs, h1.stay (k.stay (fun _ _ _ e => e)), h2.stay (k.stay (fun _ _ _ e => e))⟩
theorem PtL.at {W : World} {B : Nat} {p : Option Addr} {c : Nat} {l : List St} (h : PtL W B p c l) {i : Nat} {s : St} (hi : l[i]? = some s) : ∃ g, p = some ⟨g, 0, none⟩ ∧ PtT W B g (i * 12) s := by
  obtain ⟨xs, h1, h2⟩ := h
  obtain ⟨p', c', e, hget, -, hown⟩ := own_slice h1.1
  injection e with e1 _ e3
  subst e1 e3
  obtain ⟨ys, hy, hyc⟩ := h2.at i s hi
  have hl := hy.len
  have h0 : ys[0]? = some ys[0] := List.getElem?_eq_getElem (by omega)
  obtain ⟨g, rfl, -⟩ := hget _ _ (hyc 0 _ h0)
  refine ⟨g, rfl, h1.2 g (hown g 0 rfl).2, ys, hy, fun j x e => ?_⟩
  obtain ⟨g', e', h'⟩ := hget _ _ (hyc j x e)
  injection e' with e'; injection e' with e' _ _; subst e'
  exact h'
/-- A statement's parts. -/
structure T12 (W : World) (B b o : Nat) (k : Int) (w : Bs) (a b' : Tr) (th el : List St) (pt : Option Addr) (ct : Nat) (pe : Option Addr) (ce : Nat) : Prop where
  c0 : W.cell? ⟨b, o, none⟩ = some (.int .i64 k)
  c1 : W.cell? ⟨b, o + 1, none⟩ = some (.string (bs w))
  xa : PtX W B b (o + 2) a
  xb : PtX W B b (o + 6) b'
  c10 : W.cell? ⟨b, o + 10, none⟩ = some (.slice pt th.length ct)
  c11 : W.cell? ⟨b, o + 11, none⟩ = some (.slice pe el.length ce)
  t : PtL W B pt ct th
  e : PtL W B pe ce el
theorem PtT.cells {W : World} {B b o : Nat} {k : Int} {w : Bs} {a b' : Tr} {th el : List St} (h : PtT W B b o (.mk k w a b' th el)) : ∃ pt ct pe ce, T12 W B b o k w a b' th el pt ct pe ce := by
  obtain ⟨hb, l, hS, hc⟩ := h
  obtain ⟨-, -, ka, na, sa, pa, ma, ca, kb, nb, sb, pb, mb, cb, pt, ct, pe, ce, xt, xe, rfl, ha, hbb, h1, h2, h3, h4⟩ := hS.parts
  refine ⟨pt, ct, pe, ce, by have := hc 0 _ rfl; rwa [Nat.add_zero] at this, hc 1 _ rfl, ⟨hb, _, ha, fun j x e => ?_⟩, ⟨hb, _, hbb, fun j x e => ?_⟩, hc 10 _ rfl, hc 11 _ rfl, ⟨xt, h1, h2⟩, ⟨xe, h3, h4⟩⟩
  · rw [Nat.add_assoc]
    refine hc (2 + j) x ?_
    rw [← List.getElem?_drop, ← e]
    exact List.getElem?_append_left (l₂ := [.int .i64 kb, .int .i64 nb, .string sb, .slice pb mb cb, .slice pt th.length ct, .slice pe el.length ce]) (List.getElem?_eq_some_iff.1 e).1
  · rw [Nat.add_assoc]
    refine hc (6 + j) x ?_
    rw [← List.getElem?_drop, ← e]
    exact List.getElem?_append_left (l₂ := [.slice pt th.length ct, .slice pe el.length ce]) (List.getElem?_eq_some_iff.1 e).1
def TS (s : St) : Prop := ∀ (W : World) (B b o : Nat) (T : Bs), PG W → PtT W B b o s → (szS s).2 ≤ 512 → T.length + (szS s).1 ≤ 24 → Calls Tryd.prog 18 #[.pointer (some ⟨b, o, none⟩), .string (bs T)] W fun e w' => e = .returned (.string (bs (pS T s))) ∧ Keeps (fun _ => False) W w'
def TN (l : List St) : Prop := ∀ (W : World) (B : Nat) (p : Option Addr) (c : Nat) (T : Bs), PG W → PtL W B p c l → (szSL l).2 ≤ 512 → T.length + (szSL l).1 ≤ 24 → Calls Tryd.prog 11 #[.slice p l.length c, .string (bs T)] W fun e w' => e = .returned (.string (bs (pL T l))) ∧ Keeps (fun _ => False) W w'
def pB (T : Bs) (l : List St) : Bs := 123 :: 10 :: (pL (T ++ [9]) l ++ (T ++ [125]))
set_option maxHeartbeats 1500000 in
set_option maxRecDepth 100000 in
theorem block_any {l : List St} (hN : TN l) (hL : LnL l) {W : World} {B : Nat} {p : Option Addr} {c : Nat} {T : Bs} (hG : PG W) (h : PtL W B p c l) (hn : (szSL l).2 ≤ 512) (hd : T.length + 1 + (szSL l).1 ≤ 24) : Calls Tryd.prog 27 #[.slice p l.length c, .string (bs T)] W fun e w' => e = .returned (.string (bs (pB T l))) ∧ Keeps (fun _ => False) W w' := by
  have hd2 : (T ++ [9]).length + (szSL l).1 ≤ 24 := by rw [List.length_append]; exact hd
  have hC := hN W B p c (T ++ [9]) hG h hn hd2
  have hl := hL (T ++ [9]) hn hd2
  obtain ⟨t, ht⟩ : ∃ t, t = bs T := ⟨_, rfl⟩
  have htz : t.size ≤ 24 := by rw [ht, bs_size]; omega
  have e1 : t ++ ⟨#[9]⟩ = bs (T ++ [9]) := bs_ext (by rw [app_bl, ht]; rfl)
  obtain ⟨X, hX⟩ : ∃ X, X = bs (pL (T ++ [9]) l) := ⟨_, rfl⟩
  have hXz : X.size ≤ 100000 := by rw [hX, bs_size]; omega
  rw [← hX, ← e1] at hC
  have fin : (⟨#[123, 10]⟩ ++ X ++ t ++ ⟨#[125]⟩ : ByteArray) = bs (pB T l) := bs_ext (by rw [app_bl, app_bl, app_bl, hX, ht, bs_list, bs_list]; unfold pB; simp)
  rw [← ht, ← fin]
  obtain ⟨n, hn2⟩ : ∃ n, n = l.length := ⟨_, rfl⟩
  rw [← hn2] at hC ⊢
  clear fin hX ht e1 hl hd hd2 hn h hG hL hN hn2
  have n0 : ¬ (9223372036854775807 < t.size + 1) := by omega
  have m0 : ¬ (t.size + 1 > 9223372036854775807) := by omega
  have n1 : ¬ (9223372036854775807 < 2 + X.size) := by omega
  have m1 : ¬ (2 + X.size > 9223372036854775807) := by omega
  have n2 : ¬ (9223372036854775807 < 2 + X.size + t.size) := by omega
  have m2 : ¬ (2 + X.size + t.size > 9223372036854775807) := by omega
  have n3 : ¬ (9223372036854775807 < 2 + X.size + t.size + 1) := by omega
  have m3 : ¬ (2 + X.size + t.size + 1 > 9223372036854775807) := by omega
  go_enter Tryd.func27, Tryd.ntmps27
  go_wp2_with (go_at_call 11; refine hC.mono ?_; clear hC; rintro e w1 ⟨rfl, k1⟩)
  go_ret
  exact ⟨rfl, k1⟩
set_option maxHeartbeats 1500000 in
set_option maxRecDepth 100000 in
theorem other_any {l : List St} (hN : TN l) (hL : LnL l) (hS : ∀ s, l = [s] → TS s) (hS2 : ∀ s, l = [s] → LnS s) {W : World} {B : Nat} {p : Option Addr} {c : Nat} {T : Bs} (hG : PG W) (h : PtL W B p c l) (hn : (szSL l).2 ≤ 512) (hd : T.length + 1 + (szSL l).1 ≤ 24) : Calls Tryd.prog 28 #[.slice p l.length c, .string (bs T)] W fun e w' => e = .returned (.string (bs (pO T l))) ∧ Keeps (fun _ => False) W w' := by
  cases l with
  | nil =>
    rw [pO]
    clear hN hL hS hS2 h hG hn hd
    generalize bs T = t
    go_enter Tryd.func28, Tryd.ntmps28
    go_wp2_with fail
    go_ret
    exact ⟨rfl, Keeps.refl _ _⟩
  | cons s r =>
    have hB := block_any hN hL hG h hn hd
    have hl := hL (T ++ [9]) hn (by rw [List.length_append]; exact hd)
    have htz : (bs T).size ≤ 24 := by rw [bs_size]; omega
    obtain ⟨g, rfl, hp⟩ := h.at (i := 0) rfl
    have hpl : (pB T (s :: r)).length ≤ 100000 := by unfold pB; simp at hl ⊢; rw [bs_size] at htz; omega
    obtain ⟨k, w, a, b, th, el⟩ := s
    obtain ⟨pt, ct, pe, ce, hc⟩ := hp.cells
    have c0 := hc.c0
    rw [Nat.zero_mul] at c0
    by_cases hcc : (r.isEmpty && decide (kdS (.mk k w a b th el) = 4)) = true
    · have hr : r = [] := by
        simp only [Bool.and_eq_true, List.isEmpty_iff] at hcc
        exact hcc.1
      subst hr
      have h4 : k = 4 := by
        have h9 := hcc
        rw [Bool.and_eq_true] at h9
        exact of_decide_eq_true h9.2
      have ez : szSL [St.mk k w a b th el] = szS (.mk k w a b th el) := by rw [szSL, szSL, wth_zero']
      rw [ez] at hn hd
      have hT := hS _ rfl W B g 0 T hG (by rwa [Nat.zero_mul] at hp) hn (by omega)
      have hz := (hS2 _ rfl).2.2 T hn (by omega)
      rw [pO, if_pos hcc]
      obtain ⟨X, hX⟩ : ∃ X, X = bs (pS T (.mk k w a b th el)) := ⟨_, rfl⟩
      have hXz : X.size ≤ 100000 := by rw [hX, bs_size]; omega
      rw [← hX] at hT
      have fin : (⟨#[32, 101, 108, 115, 101, 32]⟩ ++ X : ByteArray) = bs (32 :: (kElse ++ (32 :: pS T (.mk k w a b th el)))) := bs_ext (by rw [app_bl, hX]; rfl)
      rw [← fin]
      subst h4
      generalize bs T = t at *
      clear fin hX hB hl hpl hn hd hN hL hS hS2 h hG hc hp hcc ez hz
      have n0 : ¬ (9223372036854775807 < 6 + X.size) := by omega
      have m0 : ¬ (6 + X.size > 9223372036854775807) := by omega
      show Calls _ _ #[.slice (some ⟨g, 0, none⟩) 1 c, .string t] W _
      go_enter Tryd.func28, Tryd.ntmps28
      go_wp2_with (go_at_call 18; refine hT.mono ?_; clear hT; rintro e w1 ⟨rfl, k1⟩)
      go_ret
      exact ⟨rfl, k1⟩
    · obtain ⟨X, hX⟩ : ∃ X, X = bs (pB T (.mk k w a b th el :: r)) := ⟨_, rfl⟩
      have hXz : X.size ≤ 100000 := by rw [hX, bs_size]; omega
      rw [← hX] at hB
      have fin : (⟨#[32, 101, 108, 115, 101, 32]⟩ ++ X : ByteArray) = bs (pO T (.mk k w a b th el :: r)) := bs_ext (by rw [app_bl, hX, pO, if_neg hcc]; unfold pB; rw [pL]; simp [bs, kElse])
      rw [← fin]
      obtain ⟨n, hn2⟩ : ∃ n, n = (St.mk k w a b th el :: r).length := ⟨_, rfl⟩
      have hn1 : 1 ≤ n := by rw [hn2]; simp
      have hdis : n = 1 → k ≠ 4 := fun e1 e2 => by
        apply hcc
        rw [hn2] at e1
        have hr : r = [] := by simpa using e1
        simp [hr, kdS, e2]
      rw [← hn2] at hB ⊢
      generalize bs T = t at *
      clear fin hX hl hpl hn hd hN hL hS hS2 h hG hc hp hcc hn2
      have n0 : ¬ (9223372036854775807 < 6 + X.size) := by omega
      have m0 : ¬ (6 + X.size > 9223372036854775807) := by omega
      have z1 : ((n : Int) == 0) = false := by rw [beq_eq_false_iff_ne]; omega
      have z2 : (n == 0) = false := by rw [beq_eq_false_iff_ne]; omega
      have i1 : (0 : Int) < (n : Int) := by omega
      have i2 : 0 < n := by omega
      by_cases h1 : n = 1
      · have hk4 : (k == 4) = false := by rw [beq_eq_false_iff_ne]; exact hdis h1
        clear hdis
        subst h1
        go_enter Tryd.func28, Tryd.ntmps28
        go_wp2_with (go_at_call 27; refine hB.mono ?_; clear hB; rintro e w1 ⟨rfl, k1⟩)
        go_ret
        exact ⟨rfl, k1⟩
      · have z3 : ((n : Int) == 1) = false := by rw [beq_eq_false_iff_ne]; omega
        have z4 : (n == 1) = false := by rw [beq_eq_false_iff_ne]; omega
        clear hdis
        go_enter Tryd.func28, Tryd.ntmps28
        go_wp2_with (go_at_call 27; refine hB.mono ?_; clear hB; rintro e w1 ⟨rfl, k1⟩)
        go_ret
        exact ⟨rfl, k1⟩
end Go.Proofs.YtehblpbefkopbaaDoor
namespace Go.Proofs.YtehblpbefkopbaaDoor
open Go.RowKit Go.ChangeShapes Go.WideShapes Go.ChangeAt Go.Deep
attribute [local go_sem] Oper.semAt_some run_store_nf run_store_f
set_option maxHeartbeats 1500000 in
set_option maxRecDepth 100000 in
theorem sx_asg {w : Bs} {a : Tr} (hw : isNm w = true) (ha : WfE a) (hza : bgE a ≤ 1048576) : TS (.mk 1 w a tr0 [] []) := by
  intro W B b0 o T hG h hn hd
  obtain ⟨pt, ct, pe, ce, hc⟩ := h.cells
  have c0 := hc.c0
  have c1 := hc.c1
  have c10 := hc.c10
  have c11 := hc.c11
  have hTA := fun W1 (k : Keeps (fun _ => False) W W1) => text_all ha hza W1 B b0 (o + 2) (hG.keep k) (hc.xa.keep k (fun _ _ e => e))
  have hLA := pE_len ha
  obtain ⟨A, hA⟩ : ∃ A, A = bs (pE a) := ⟨_, rfl⟩
  have hzA : A.size ≤ 100000000 := by rw [hA, bs_size]; omega
  simp only [← hA] at hTA
  obtain ⟨s, hs⟩ : ∃ s, s = bs w := ⟨_, rfl⟩
  have hsz : s.size ≤ 16 := by
    obtain ⟨x, y, e, -, -, h3⟩ := (nm_wd hw).1
    rw [hs, bs_size]; exact h3
  rw [← hs] at c1
  have fin : (s ++ ⟨#[32, 58, 61, 32]⟩ ++ A ++ ⟨#[59]⟩ : ByteArray) = bs (pS T (.mk 1 w a tr0 [] [])) := bs_ext (by rw [app_bl, app_bl, app_bl, hA, hs, pS, if_pos rfl, bs_list, bs_list]; simp)
  rw [← fin]
  generalize bs T = t at *
  clear fin hA hs hLA hc h hG hn hd hw
  have n0 : ¬ (9223372036854775807 < s.size + 4) := by omega
  have m0 : ¬ (s.size + 4 > 9223372036854775807) := by omega
  have n1 : ¬ (9223372036854775807 < s.size + 4 + A.size) := by omega
  have m1 : ¬ (s.size + 4 + A.size > 9223372036854775807) := by omega
  have n2 : ¬ (9223372036854775807 < s.size + 4 + A.size + 1) := by omega
  have m2 : ¬ (s.size + 4 + A.size + 1 > 9223372036854775807) := by omega
  go_enter Tryd.func18, Tryd.ntmps18
  go_wp2_with fail
  rename_i K hK
  have hKI : Hid _ := hK
  clear hK
  refine wp_region_held_drew (S := fun w' => Keeps (fun _ => False) W w') (by kernel_rfl) (Keeps.refl _ W).drew (fun hHeld => ?_)
  refine wpAnyH_take (i := 0) (v := ?_) rfl (by kernel_rfl) (by kernel_rfl) (by kernel_rfl) (fun _ _ _ h => h) (Or.inl ⟨by rfl, ?_⟩) (by assumption) ?_
  rotate_left
  · intro wx hSw; have p0 := hSw.cell c0 (fun e => e); have p1 := hSw.cell c1 (fun e => e); have p10 := hSw.cell c10 (fun e => e); have p11 := hSw.cell c11 (fun e => e); clear hSw; go_simp <;> with_reducible rfl
  (try simp only [List.getElem_toArray]); (try simp only [List.getElem_cons_succ]); (try simp only [List.getElem_cons_zero]); (try simp only [Act.put]); (try simp only [List.setIfInBounds_toArray]); (repeat first | simp only [List.set_cons_succ] | simp only [List.set_cons_zero])
  refine wpAnyH_take (i := 1) (v := ?_) rfl (by kernel_rfl) (by kernel_rfl) (by kernel_rfl) (fun _ _ _ h => h) (Or.inl ⟨by rfl, ?_⟩) (by assumption) ?_
  rotate_left
  · intro wx hSw; have p0 := hSw.cell c0 (fun e => e); have p1 := hSw.cell c1 (fun e => e); have p10 := hSw.cell c10 (fun e => e); have p11 := hSw.cell c11 (fun e => e); clear hSw; go_simp <;> with_reducible rfl
  (try simp only [List.getElem_toArray]); (try simp only [List.getElem_cons_succ]); (try simp only [List.getElem_cons_zero]); (try simp only [Act.put]); (try simp only [List.setIfInBounds_toArray]); (repeat first | simp only [List.set_cons_succ] | simp only [List.set_cons_zero])
  refine wpAnyH_take (i := 2) (v := ?_) rfl (by kernel_rfl) (by kernel_rfl) (by kernel_rfl) (fun _ _ _ h => h) (Or.inl ⟨by rfl, ?_⟩) (by assumption) ?_
  rotate_left
  · intro wx hSw; have p0 := hSw.cell c0 (fun e => e); have p1 := hSw.cell c1 (fun e => e); have p10 := hSw.cell c10 (fun e => e); have p11 := hSw.cell c11 (fun e => e); clear hSw; go_simp <;> with_reducible rfl
  (try simp only [List.getElem_toArray]); (try simp only [List.getElem_cons_succ]); (try simp only [List.getElem_cons_zero]); (try simp only [Act.put]); (try simp only [List.setIfInBounds_toArray]); (repeat first | simp only [List.set_cons_succ] | simp only [List.set_cons_zero])
  refine wpAnyH_take (i := 3) (v := ?_) rfl (by kernel_rfl) (by kernel_rfl) (by kernel_rfl) (fun _ _ _ h => h) (Or.inl ⟨by rfl, ?_⟩) (by assumption) ?_
  rotate_left
  · intro wx hSw; have p0 := hSw.cell c0 (fun e => e); have p1 := hSw.cell c1 (fun e => e); have p10 := hSw.cell c10 (fun e => e); have p11 := hSw.cell c11 (fun e => e); clear hSw; go_simp <;> with_reducible rfl
  (try simp only [List.getElem_toArray]); (try simp only [List.getElem_cons_succ]); (try simp only [List.getElem_cons_zero]); (try simp only [Act.put]); (try simp only [List.setIfInBounds_toArray]); (repeat first | simp only [List.set_cons_succ] | simp only [List.set_cons_zero])
  refine wpAnyH_take (i := 4) (v := ?_) rfl (by kernel_rfl) (by kernel_rfl) (by kernel_rfl) (fun _ _ _ h => h) (Or.inl ⟨by rfl, ?_⟩) (by assumption) ?_
  rotate_left
  · intro wx hSw; have p0 := hSw.cell c0 (fun e => e); have p1 := hSw.cell c1 (fun e => e); have p10 := hSw.cell c10 (fun e => e); have p11 := hSw.cell c11 (fun e => e); clear hSw; go_simp <;> with_reducible rfl
  (try simp only [List.getElem_toArray]); (try simp only [List.getElem_cons_succ]); (try simp only [List.getElem_cons_zero]); (try simp only [Act.put]); (try simp only [List.setIfInBounds_toArray]); (repeat first | simp only [List.set_cons_succ] | simp only [List.set_cons_zero])
  refine wpAnyH_take (i := 5) (v := ?_) rfl (by kernel_rfl) (by kernel_rfl) (by kernel_rfl) (fun _ _ _ h => h) (Or.inl ⟨by rfl, ?_⟩) (by assumption) ?_
  rotate_left
  · intro wx hSw; have p0 := hSw.cell c0 (fun e => e); have p1 := hSw.cell c1 (fun e => e); have p10 := hSw.cell c10 (fun e => e); have p11 := hSw.cell c11 (fun e => e); clear hSw; go_simp <;> with_reducible rfl
  (try simp only [List.getElem_toArray]); (try simp only [List.getElem_cons_succ]); (try simp only [List.getElem_cons_zero]); (try simp only [Act.put]); (try simp only [List.setIfInBounds_toArray]); (repeat first | simp only [List.set_cons_succ] | simp only [List.set_cons_zero])
  refine wpAnyH_take (i := 6) (v := ?_) rfl (by kernel_rfl) (by kernel_rfl) (by kernel_rfl) (fun _ _ _ h => h) (Or.inl ⟨by rfl, ?_⟩) (by assumption) ?_
  rotate_left
  · intro wx hSw; have p0 := hSw.cell c0 (fun e => e); have p1 := hSw.cell c1 (fun e => e); have p10 := hSw.cell c10 (fun e => e); have p11 := hSw.cell c11 (fun e => e); clear hSw; go_simp <;> with_reducible rfl
  (try simp only [List.getElem_toArray]); (try simp only [List.getElem_cons_succ]); (try simp only [List.getElem_cons_zero]); (try simp only [Act.put]); (try simp only [List.setIfInBounds_toArray]); (repeat first | simp only [List.set_cons_succ] | simp only [List.set_cons_zero])
  refine wpAnyH_take (i := 7) (v := ?_) rfl (by kernel_rfl) (by kernel_rfl) (by kernel_rfl) (fun _ _ _ h => h) (Or.inl ⟨by rfl, ?_⟩) (by assumption) ?_
  rotate_left
  · intro wx hSw; have p0 := hSw.cell c0 (fun e => e); have p1 := hSw.cell c1 (fun e => e); have p10 := hSw.cell c10 (fun e => e); have p11 := hSw.cell c11 (fun e => e); clear hSw; go_simp <;> with_reducible rfl
  (try simp only [List.getElem_toArray]); (try simp only [List.getElem_cons_succ]); (try simp only [List.getElem_cons_zero]); (try simp only [Act.put]); (try simp only [List.setIfInBounds_toArray]); (repeat first | simp only [List.set_cons_succ] | simp only [List.set_cons_zero])
  refine wpAnyH_one 8 (by kernel_rfl) rfl rfl ?_
  refine wp_call1 26 _  rfl _  rfl  (fun _ _ => rfl) ((hTA W.drew (Keeps.refl (fun _ => False) W).drew).mono ?_)
  rintro e v1 ⟨rfl, kv1⟩
  have k1a : Keeps (fun _ => False) W v1 := (Keeps.refl (fun _ => False) W).drew.trans kv1
  refine ⟨_, rfl, k1a, fun hS1 => ?_⟩
  (try simp only [List.getElem_toArray]); (try simp only [List.getElem_cons_succ]); (try simp only [List.getElem_cons_zero]); (try simp only [Act.put]); (try simp only [List.setIfInBounds_toArray]); (repeat first | simp only [List.set_cons_succ] | simp only [List.set_cons_zero])
  refine wpAnyH_take (i := 9) (v := ?_) rfl (by kernel_rfl) (by kernel_rfl) (by kernel_rfl) (fun _ _ _ h => h) (Or.inl ⟨by rfl, ?_⟩) (by assumption) ?_
  rotate_left
  · intro wx hSw; have p0 := hSw.cell c0 (fun e => e); have p1 := hSw.cell c1 (fun e => e); have p10 := hSw.cell c10 (fun e => e); have p11 := hSw.cell c11 (fun e => e); clear hSw; go_simp <;> with_reducible rfl
  (try simp only [List.getElem_toArray]); (try simp only [List.getElem_cons_succ]); (try simp only [List.getElem_cons_zero]); (try simp only [Act.put]); (try simp only [List.setIfInBounds_toArray]); (repeat first | simp only [List.set_cons_succ] | simp only [List.set_cons_zero])
  refine wpAnyH_take (i := 10) (v := ?_) rfl (by kernel_rfl) (by kernel_rfl) (by kernel_rfl) (fun _ _ _ h => h) (Or.inl ⟨by rfl, ?_⟩) (by assumption) ?_
  rotate_left
  · intro wx hSw; have p0 := hSw.cell c0 (fun e => e); have p1 := hSw.cell c1 (fun e => e); have p10 := hSw.cell c10 (fun e => e); have p11 := hSw.cell c11 (fun e => e); clear hSw; go_simp <;> with_reducible rfl
  (try simp only [List.getElem_toArray]); (try simp only [List.getElem_cons_succ]); (try simp only [List.getElem_cons_zero]); (try simp only [Act.put]); (try simp only [List.setIfInBounds_toArray]); (repeat first | simp only [List.set_cons_succ] | simp only [List.set_cons_zero])
  refine wpAnyH_take (i := 11) (v := ?_) rfl (by kernel_rfl) (by kernel_rfl) (by kernel_rfl) (fun _ _ _ h => h) (Or.inl ⟨by rfl, ?_⟩) (by assumption) ?_
  rotate_left
  · intro wx hSw; have p0 := hSw.cell c0 (fun e => e); have p1 := hSw.cell c1 (fun e => e); have p10 := hSw.cell c10 (fun e => e); have p11 := hSw.cell c11 (fun e => e); clear hSw; go_simp <;> with_reducible rfl
  (try simp only [List.getElem_toArray]); (try simp only [List.getElem_cons_succ]); (try simp only [List.getElem_cons_zero]); (try simp only [Act.put]); (try simp only [List.setIfInBounds_toArray]); (repeat first | simp only [List.set_cons_succ] | simp only [List.set_cons_zero])
  refine wpAnyH_done (by kernel_rfl) ?_ _
  refine hKI.out _ _ ?_
  clear hKI
  go_wp2_with fail
  go_ret
  exact ⟨rfl, k1a⟩
set_option maxHeartbeats 1500000 in
set_option maxRecDepth 100000 in
theorem sx_sto {a b : Tr} (ha : WfE a) (hza : bgE a ≤ 1048576) (hb : WfE b) (hzb : bgE b ≤ 1048576) : TS (.mk 2 [] a b [] []) := by
  intro W B b0 o T hG h hn hd
  obtain ⟨pt, ct, pe, ce, hc⟩ := h.cells
  have c0 := hc.c0
  have c1 := hc.c1
  have c10 := hc.c10
  have c11 := hc.c11
  have hTA := fun W1 (k : Keeps (fun _ => False) W W1) => text_all ha hza W1 B b0 (o + 2) (hG.keep k) (hc.xa.keep k (fun _ _ e => e))
  have hLA := pE_len ha
  obtain ⟨A, hA⟩ : ∃ A, A = bs (pE a) := ⟨_, rfl⟩
  have hzA : A.size ≤ 100000000 := by rw [hA, bs_size]; omega
  simp only [← hA] at hTA
  have hTC := fun W1 (k : Keeps (fun _ => False) W W1) => text_all hb hzb W1 B b0 (o + 6) (hG.keep k) (hc.xb.keep k (fun _ _ e => e))
  have hLC := pE_len hb
  obtain ⟨C, hC⟩ : ∃ C, C = bs (pE b) := ⟨_, rfl⟩
  have hzC : C.size ≤ 100000000 := by rw [hC, bs_size]; omega
  simp only [← hC] at hTC
  have fin : (⟨#[91]⟩ ++ A ++ ⟨#[93, 32, 58, 61, 32]⟩ ++ C ++ ⟨#[59]⟩ : ByteArray) = bs (pS T (.mk 2 [] a b [] [])) := bs_ext (by rw [app_bl, app_bl, app_bl, app_bl, hA, hC, pS, if_neg (by decide), if_pos rfl, bs_list, bs_list]; simp)
  rw [← fin]
  generalize bs T = t at *
  clear fin hA hC hLA hLC hc h hG hn hd
  have n0 : ¬ (9223372036854775807 < 1 + A.size) := by omega
  have m0 : ¬ (1 + A.size > 9223372036854775807) := by omega
  have n1 : ¬ (9223372036854775807 < 1 + A.size + 5) := by omega
  have m1 : ¬ (1 + A.size + 5 > 9223372036854775807) := by omega
  have n2 : ¬ (9223372036854775807 < 1 + A.size + 5 + C.size) := by omega
  have m2 : ¬ (1 + A.size + 5 + C.size > 9223372036854775807) := by omega
  have n3 : ¬ (9223372036854775807 < 1 + A.size + 5 + C.size + 1) := by omega
  have m3 : ¬ (1 + A.size + 5 + C.size + 1 > 9223372036854775807) := by omega
  go_enter Tryd.func18, Tryd.ntmps18
  go_wp2_with fail
  rename_i K hK
  have hKI : Hid _ := hK
  clear hK
  refine wp_region_held_drew (S := fun w' => Keeps (fun _ => False) W w') (by kernel_rfl) (Keeps.refl _ W).drew (fun hHeld => ?_)
  refine wpAnyH_take (i := 0) (v := ?_) rfl (by kernel_rfl) (by kernel_rfl) (by kernel_rfl) (fun _ _ _ h => h) (Or.inl ⟨by rfl, ?_⟩) (by assumption) ?_
  rotate_left
  · intro wx hSw; have p0 := hSw.cell c0 (fun e => e); have p1 := hSw.cell c1 (fun e => e); have p10 := hSw.cell c10 (fun e => e); have p11 := hSw.cell c11 (fun e => e); clear hSw; go_simp <;> with_reducible rfl
  (try simp only [List.getElem_toArray]); (try simp only [List.getElem_cons_succ]); (try simp only [List.getElem_cons_zero]); (try simp only [Act.put]); (try simp only [List.setIfInBounds_toArray]); (repeat first | simp only [List.set_cons_succ] | simp only [List.set_cons_zero])
  refine wpAnyH_take (i := 1) (v := ?_) rfl (by kernel_rfl) (by kernel_rfl) (by kernel_rfl) (fun _ _ _ h => h) (Or.inl ⟨by rfl, ?_⟩) (by assumption) ?_
  rotate_left
  · intro wx hSw; have p0 := hSw.cell c0 (fun e => e); have p1 := hSw.cell c1 (fun e => e); have p10 := hSw.cell c10 (fun e => e); have p11 := hSw.cell c11 (fun e => e); clear hSw; go_simp <;> with_reducible rfl
  (try simp only [List.getElem_toArray]); (try simp only [List.getElem_cons_succ]); (try simp only [List.getElem_cons_zero]); (try simp only [Act.put]); (try simp only [List.setIfInBounds_toArray]); (repeat first | simp only [List.set_cons_succ] | simp only [List.set_cons_zero])
  refine wpAnyH_take (i := 2) (v := ?_) rfl (by kernel_rfl) (by kernel_rfl) (by kernel_rfl) (fun _ _ _ h => h) (Or.inl ⟨by rfl, ?_⟩) (by assumption) ?_
  rotate_left
  · intro wx hSw; have p0 := hSw.cell c0 (fun e => e); have p1 := hSw.cell c1 (fun e => e); have p10 := hSw.cell c10 (fun e => e); have p11 := hSw.cell c11 (fun e => e); clear hSw; go_simp <;> with_reducible rfl
  (try simp only [List.getElem_toArray]); (try simp only [List.getElem_cons_succ]); (try simp only [List.getElem_cons_zero]); (try simp only [Act.put]); (try simp only [List.setIfInBounds_toArray]); (repeat first | simp only [List.set_cons_succ] | simp only [List.set_cons_zero])
  refine wpAnyH_take (i := 6) (v := ?_) rfl (by kernel_rfl) (by kernel_rfl) (by kernel_rfl) (fun _ _ _ h => h) (Or.inl ⟨by rfl, ?_⟩) (by assumption) ?_
  rotate_left
  · intro wx hSw; have p0 := hSw.cell c0 (fun e => e); have p1 := hSw.cell c1 (fun e => e); have p10 := hSw.cell c10 (fun e => e); have p11 := hSw.cell c11 (fun e => e); clear hSw; go_simp <;> with_reducible rfl
  (try simp only [List.getElem_toArray]); (try simp only [List.getElem_cons_succ]); (try simp only [List.getElem_cons_zero]); (try simp only [Act.put]); (try simp only [List.setIfInBounds_toArray]); (repeat first | simp only [List.set_cons_succ] | simp only [List.set_cons_zero])
  refine wpAnyH_take (i := 7) (v := ?_) rfl (by kernel_rfl) (by kernel_rfl) (by kernel_rfl) (fun _ _ _ h => h) (Or.inl ⟨by rfl, ?_⟩) (by assumption) ?_
  rotate_left
  · intro wx hSw; have p0 := hSw.cell c0 (fun e => e); have p1 := hSw.cell c1 (fun e => e); have p10 := hSw.cell c10 (fun e => e); have p11 := hSw.cell c11 (fun e => e); clear hSw; go_simp <;> with_reducible rfl
  (try simp only [List.getElem_toArray]); (try simp only [List.getElem_cons_succ]); (try simp only [List.getElem_cons_zero]); (try simp only [Act.put]); (try simp only [List.setIfInBounds_toArray]); (repeat first | simp only [List.set_cons_succ] | simp only [List.set_cons_zero])
  refine wpAnyH_take (i := 8) (v := ?_) rfl (by kernel_rfl) (by kernel_rfl) (by kernel_rfl) (fun _ _ _ h => h) (Or.inl ⟨by rfl, ?_⟩) (by assumption) ?_
  rotate_left
  · intro wx hSw; have p0 := hSw.cell c0 (fun e => e); have p1 := hSw.cell c1 (fun e => e); have p10 := hSw.cell c10 (fun e => e); have p11 := hSw.cell c11 (fun e => e); clear hSw; go_simp <;> with_reducible rfl
  (try simp only [List.getElem_toArray]); (try simp only [List.getElem_cons_succ]); (try simp only [List.getElem_cons_zero]); (try simp only [Act.put]); (try simp only [List.setIfInBounds_toArray]); (repeat first | simp only [List.set_cons_succ] | simp only [List.set_cons_zero])
  refine wpAnyH_one 3 (by kernel_rfl) rfl rfl ?_
  refine wp_call1 26 _  rfl _  rfl  (fun _ _ => rfl) ((hTA W.drew (Keeps.refl (fun _ => False) W).drew).mono ?_)
  rintro e v1 ⟨rfl, kv1⟩
  have k1a : Keeps (fun _ => False) W v1 := (Keeps.refl (fun _ => False) W).drew.trans kv1
  refine ⟨_, rfl, k1a, fun hS1 => ?_⟩
  (try simp only [List.getElem_toArray]); (try simp only [List.getElem_cons_succ]); (try simp only [List.getElem_cons_zero]); (try simp only [Act.put]); (try simp only [List.setIfInBounds_toArray]); (repeat first | simp only [List.set_cons_succ] | simp only [List.set_cons_zero])
  refine wpAnyH_take (i := 4) (v := ?_) rfl (by kernel_rfl) (by kernel_rfl) (by kernel_rfl) (fun _ _ _ h => h) (Or.inl ⟨by rfl, ?_⟩) (by assumption) ?_
  rotate_left
  · intro wx hSw; have p0 := hSw.cell c0 (fun e => e); have p1 := hSw.cell c1 (fun e => e); have p10 := hSw.cell c10 (fun e => e); have p11 := hSw.cell c11 (fun e => e); clear hSw; go_simp <;> with_reducible rfl
  (try simp only [List.getElem_toArray]); (try simp only [List.getElem_cons_succ]); (try simp only [List.getElem_cons_zero]); (try simp only [Act.put]); (try simp only [List.setIfInBounds_toArray]); (repeat first | simp only [List.set_cons_succ] | simp only [List.set_cons_zero])
  refine wpAnyH_take (i := 5) (v := ?_) rfl (by kernel_rfl) (by kernel_rfl) (by kernel_rfl) (fun _ _ _ h => h) (Or.inl ⟨by rfl, ?_⟩) (by assumption) ?_
  rotate_left
  · intro wx hSw; have p0 := hSw.cell c0 (fun e => e); have p1 := hSw.cell c1 (fun e => e); have p10 := hSw.cell c10 (fun e => e); have p11 := hSw.cell c11 (fun e => e); clear hSw; go_simp <;> with_reducible rfl
  (try simp only [List.getElem_toArray]); (try simp only [List.getElem_cons_succ]); (try simp only [List.getElem_cons_zero]); (try simp only [Act.put]); (try simp only [List.setIfInBounds_toArray]); (repeat first | simp only [List.set_cons_succ] | simp only [List.set_cons_zero])
  refine wpAnyH_one 9 (by kernel_rfl) rfl rfl ?_
  refine wp_call1 26 _  rfl _  rfl  (fun _ _ => rfl) ((hTC v1 k1a).mono ?_)
  rintro e v2 ⟨rfl, kv2⟩
  have k2a : Keeps (fun _ => False) W v2 := k1a.trans kv2
  refine ⟨_, rfl, k2a, fun hS2 => ?_⟩
  (try simp only [List.getElem_toArray]); (try simp only [List.getElem_cons_succ]); (try simp only [List.getElem_cons_zero]); (try simp only [Act.put]); (try simp only [List.setIfInBounds_toArray]); (repeat first | simp only [List.set_cons_succ] | simp only [List.set_cons_zero])
  refine wpAnyH_take (i := 10) (v := ?_) rfl (by kernel_rfl) (by kernel_rfl) (by kernel_rfl) (fun _ _ _ h => h) (Or.inl ⟨by rfl, ?_⟩) (by assumption) ?_
  rotate_left
  · intro wx hSw; have p0 := hSw.cell c0 (fun e => e); have p1 := hSw.cell c1 (fun e => e); have p10 := hSw.cell c10 (fun e => e); have p11 := hSw.cell c11 (fun e => e); clear hSw; go_simp <;> with_reducible rfl
  (try simp only [List.getElem_toArray]); (try simp only [List.getElem_cons_succ]); (try simp only [List.getElem_cons_zero]); (try simp only [Act.put]); (try simp only [List.setIfInBounds_toArray]); (repeat first | simp only [List.set_cons_succ] | simp only [List.set_cons_zero])
  refine wpAnyH_take (i := 11) (v := ?_) rfl (by kernel_rfl) (by kernel_rfl) (by kernel_rfl) (fun _ _ _ h => h) (Or.inl ⟨by rfl, ?_⟩) (by assumption) ?_
  rotate_left
  · intro wx hSw; have p0 := hSw.cell c0 (fun e => e); have p1 := hSw.cell c1 (fun e => e); have p10 := hSw.cell c10 (fun e => e); have p11 := hSw.cell c11 (fun e => e); clear hSw; go_simp <;> with_reducible rfl
  (try simp only [List.getElem_toArray]); (try simp only [List.getElem_cons_succ]); (try simp only [List.getElem_cons_zero]); (try simp only [Act.put]); (try simp only [List.setIfInBounds_toArray]); (repeat first | simp only [List.set_cons_succ] | simp only [List.set_cons_zero])
  refine wpAnyH_take (i := 12) (v := ?_) rfl (by kernel_rfl) (by kernel_rfl) (by kernel_rfl) (fun _ _ _ h => h) (Or.inl ⟨by rfl, ?_⟩) (by assumption) ?_
  rotate_left
  · intro wx hSw; have p0 := hSw.cell c0 (fun e => e); have p1 := hSw.cell c1 (fun e => e); have p10 := hSw.cell c10 (fun e => e); have p11 := hSw.cell c11 (fun e => e); clear hSw; go_simp <;> with_reducible rfl
  (try simp only [List.getElem_toArray]); (try simp only [List.getElem_cons_succ]); (try simp only [List.getElem_cons_zero]); (try simp only [Act.put]); (try simp only [List.setIfInBounds_toArray]); (repeat first | simp only [List.set_cons_succ] | simp only [List.set_cons_zero])
  refine wpAnyH_done (by kernel_rfl) ?_ _
  refine hKI.out _ _ ?_
  clear hKI
  go_wp2_with fail
  go_ret
  exact ⟨rfl, k2a⟩
set_option maxHeartbeats 1500000 in
set_option maxRecDepth 100000 in
theorem sx_rel {a : Tr} (ha : WfE a) (hza : bgE a ≤ 1048576) : TS (.mk 3 [] a tr0 [] []) := by
  intro W B b0 o T hG h hn hd
  obtain ⟨pt, ct, pe, ce, hc⟩ := h.cells
  have c0 := hc.c0
  have c1 := hc.c1
  have c10 := hc.c10
  have c11 := hc.c11
  have hTA := fun W1 (k : Keeps (fun _ => False) W W1) => text_all ha hza W1 B b0 (o + 2) (hG.keep k) (hc.xa.keep k (fun _ _ e => e))
  have hLA := pE_len ha
  obtain ⟨A, hA⟩ : ∃ A, A = bs (pE a) := ⟨_, rfl⟩
  have hzA : A.size ≤ 100000000 := by rw [hA, bs_size]; omega
  simp only [← hA] at hTA
  have fin : (⟨#[114, 101, 108, 101, 97, 115, 101, 32, 91]⟩ ++ A ++ ⟨#[93, 59]⟩ : ByteArray) = bs (pS T (.mk 3 [] a tr0 [] [])) := bs_ext (by rw [app_bl, app_bl, hA, pS, if_neg (by decide), if_neg (by decide), if_pos rfl, bs_list]; simp [kRel])
  rw [← fin]
  have hT1 := hTA W (Keeps.refl _ W)
  generalize bs T = t at *
  clear fin hA hLA hc h hG hn hd hTA
  have n0 : ¬ (9223372036854775807 < 9 + A.size) := by omega
  have m0 : ¬ (9 + A.size > 9223372036854775807) := by omega
  have n1 : ¬ (9223372036854775807 < 9 + A.size + 2) := by omega
  have m1 : ¬ (9 + A.size + 2 > 9223372036854775807) := by omega
  go_enter Tryd.func18, Tryd.ntmps18
  go_wp2_with (go_at_call 26; refine hT1.mono ?_; clear hT1; rintro e w1 ⟨rfl, k1⟩)
  go_ret
  exact ⟨rfl, k1⟩
set_option maxHeartbeats 1500000 in
set_option maxRecDepth 100000 in
theorem sx_ret {a : Tr} (ha : WfE a) (hza : bgE a ≤ 1048576) : TS (.mk 7 [] a tr0 [] []) := by
  intro W B b0 o T hG h hn hd
  obtain ⟨pt, ct, pe, ce, hc⟩ := h.cells
  have c0 := hc.c0
  have c1 := hc.c1
  have c10 := hc.c10
  have c11 := hc.c11
  have hTA := fun W1 (k : Keeps (fun _ => False) W W1) => text_all ha hza W1 B b0 (o + 2) (hG.keep k) (hc.xa.keep k (fun _ _ e => e))
  have hLA := pE_len ha
  obtain ⟨A, hA⟩ : ∃ A, A = bs (pE a) := ⟨_, rfl⟩
  have hzA : A.size ≤ 100000000 := by rw [hA, bs_size]; omega
  simp only [← hA] at hTA
  have fin : (⟨#[114, 101, 116, 117, 114, 110, 32]⟩ ++ A ++ ⟨#[59]⟩ : ByteArray) = bs (pS T (.mk 7 [] a tr0 [] [])) := bs_ext (by rw [app_bl, app_bl, hA, pS, if_neg (by decide), if_neg (by decide), if_neg (by decide), if_neg (by decide), if_neg (by decide), if_neg (by decide), bs_list]; simp [kRet])
  rw [← fin]
  have hT1 := hTA W (Keeps.refl _ W)
  generalize bs T = t at *
  clear fin hA hLA hc h hG hn hd hTA
  have n0 : ¬ (9223372036854775807 < 7 + A.size) := by omega
  have m0 : ¬ (7 + A.size > 9223372036854775807) := by omega
  have n1 : ¬ (9223372036854775807 < 7 + A.size + 1) := by omega
  have m1 : ¬ (7 + A.size + 1 > 9223372036854775807) := by omega
  go_enter Tryd.func18, Tryd.ntmps18
  go_wp2_with (go_at_call 26; refine hT1.mono ?_; clear hT1; rintro e w1 ⟨rfl, k1⟩)
  go_ret
  exact ⟨rfl, k1⟩
set_option maxHeartbeats 1500000 in
set_option maxRecDepth 100000 in
theorem sx_abo  : TS (.mk 6 [] tr0 tr0 [] []) := by
  intro W B b0 o T hG h hn hd
  obtain ⟨pt, ct, pe, ce, hc⟩ := h.cells
  have c0 := hc.c0
  have c1 := hc.c1
  have c10 := hc.c10
  have c11 := hc.c11
  have fin : (⟨#[97, 98, 111, 114, 116, 59]⟩ : ByteArray) = bs (pS T (.mk 6 [] tr0 tr0 [] [])) := bs_ext (by rw [pS, if_neg (by decide), if_neg (by decide), if_neg (by decide), if_neg (by decide), if_neg (by decide), if_pos rfl]; rfl)
  rw [← fin]
  generalize bs T = t at *
  clear fin hc h hG hn hd
  go_enter Tryd.func18, Tryd.ntmps18
  go_wp2_with fail
  go_ret
  exact ⟨rfl, Keeps.refl _ _⟩
set_option maxHeartbeats 1500000 in
set_option maxRecDepth 100000 in
theorem sx_whl {a : Tr} {th : List St} (ha : WfE a) (hza : bgE a ≤ 1048576) (hN : TN th) (hL : LnL th) : TS (.mk 5 [] a tr0 th []) := by
  intro W B b0 o T hG h hn hd
  obtain ⟨pt, ct, pe, ce, hc⟩ := h.cells
  have c0 := hc.c0
  have c1 := hc.c1
  have c10 := hc.c10
  have c11 := hc.c11
  have hTA := fun W1 (k : Keeps (fun _ => False) W W1) => text_all ha hza W1 B b0 (o + 2) (hG.keep k) (hc.xa.keep k (fun _ _ e => e))
  have hLA := pE_len ha
  obtain ⟨A, hA⟩ : ∃ A, A = bs (pE a) := ⟨_, rfl⟩
  have hzA : A.size ≤ 100000000 := by rw [hA, bs_size]; omega
  simp only [← hA] at hTA
  have e : szS (.mk 5 [] a tr0 th []) = (max (szE a).1 (szSL th).1 + 1, min ((szE a).2 + (szSL th).2 + 1) 513) := by
    rw [szS, if_pos (by unfold okS; simp [usW, usA, usB, usT, usE, isZr, tr0]), szSL, if_pos (by decide), if_neg (by decide), wth_zero', wth_zero', und]; rfl
  rw [e] at hn hd
  simp only at hn hd
  have hlB := hL (T ++ [9]) (by omega) (by rw [List.length_append]; show T.length + 1 + _ ≤ 24; omega)
  have hB := fun W1 (k : Keeps (fun _ => False) W W1) => block_any hN hL (W := W1) (T := T) (hG.keep k) (hc.t.keep k) (by omega) (by omega)
  obtain ⟨C, hC⟩ : ∃ C, C = bs (pB T th) := ⟨_, rfl⟩
  have hzC : C.size ≤ 100000000 := by rw [hC, bs_size]; unfold pB; simp at hlB ⊢; omega
  simp only [← hC] at hB
  have fin : (⟨#[119, 104, 105, 108, 101, 32]⟩ ++ A ++ ⟨#[32]⟩ ++ C : ByteArray) = bs (pS T (.mk 5 [] a tr0 th [])) := bs_ext (by rw [app_bl, app_bl, app_bl, hA, hC, pS, if_neg (by decide), if_neg (by decide), if_neg (by decide), if_neg (by decide), if_pos rfl, bs_list, bs_list]; unfold pB; simp [kWhile])
  rw [← fin]
  obtain ⟨n, hn2⟩ : ∃ n, n = th.length := ⟨_, rfl⟩
  rw [← hn2] at c10 hB
  generalize bs T = t at *
  clear fin hA hC hLA hlB hc h hG hn hd e hn2 hN hL
  have n0 : ¬ (9223372036854775807 < 6 + A.size) := by omega
  have m0 : ¬ (6 + A.size > 9223372036854775807) := by omega
  have n1 : ¬ (9223372036854775807 < 6 + A.size + 1) := by omega
  have m1 : ¬ (6 + A.size + 1 > 9223372036854775807) := by omega
  have n2 : ¬ (9223372036854775807 < 6 + A.size + 1 + C.size) := by omega
  have m2 : ¬ (6 + A.size + 1 + C.size > 9223372036854775807) := by omega
  go_enter Tryd.func18, Tryd.ntmps18
  go_wp2_with fail
  rename_i K hK
  have hKI : Hid _ := hK
  clear hK
  refine wp_region_held_drew (S := fun w' => Keeps (fun _ => False) W w') (by kernel_rfl) (Keeps.refl _ W).drew (fun hHeld => ?_)
  refine wpAnyH_take (i := 0) (v := ?_) rfl (by kernel_rfl) (by kernel_rfl) (by kernel_rfl) (fun _ _ _ h => h) (Or.inl ⟨by rfl, ?_⟩) (by assumption) ?_
  rotate_left
  · intro wx hSw; have p0 := hSw.cell c0 (fun e => e); have p1 := hSw.cell c1 (fun e => e); have p10 := hSw.cell c10 (fun e => e); have p11 := hSw.cell c11 (fun e => e); clear hSw; go_simp <;> with_reducible rfl
  (try simp only [List.getElem_toArray]); (try simp only [List.getElem_cons_succ]); (try simp only [List.getElem_cons_zero]); (try simp only [Act.put]); (try simp only [List.setIfInBounds_toArray]); (repeat first | simp only [List.set_cons_succ] | simp only [List.set_cons_zero])
  refine wpAnyH_take (i := 1) (v := ?_) rfl (by kernel_rfl) (by kernel_rfl) (by kernel_rfl) (fun _ _ _ h => h) (Or.inl ⟨by rfl, ?_⟩) (by assumption) ?_
  rotate_left
  · intro wx hSw; have p0 := hSw.cell c0 (fun e => e); have p1 := hSw.cell c1 (fun e => e); have p10 := hSw.cell c10 (fun e => e); have p11 := hSw.cell c11 (fun e => e); clear hSw; go_simp <;> with_reducible rfl
  (try simp only [List.getElem_toArray]); (try simp only [List.getElem_cons_succ]); (try simp only [List.getElem_cons_zero]); (try simp only [Act.put]); (try simp only [List.setIfInBounds_toArray]); (repeat first | simp only [List.set_cons_succ] | simp only [List.set_cons_zero])
  refine wpAnyH_take (i := 2) (v := ?_) rfl (by kernel_rfl) (by kernel_rfl) (by kernel_rfl) (fun _ _ _ h => h) (Or.inl ⟨by rfl, ?_⟩) (by assumption) ?_
  rotate_left
  · intro wx hSw; have p0 := hSw.cell c0 (fun e => e); have p1 := hSw.cell c1 (fun e => e); have p10 := hSw.cell c10 (fun e => e); have p11 := hSw.cell c11 (fun e => e); clear hSw; go_simp <;> with_reducible rfl
  (try simp only [List.getElem_toArray]); (try simp only [List.getElem_cons_succ]); (try simp only [List.getElem_cons_zero]); (try simp only [Act.put]); (try simp only [List.setIfInBounds_toArray]); (repeat first | simp only [List.set_cons_succ] | simp only [List.set_cons_zero])
  refine wpAnyH_take (i := 6) (v := ?_) rfl (by kernel_rfl) (by kernel_rfl) (by kernel_rfl) (fun _ _ _ h => h) (Or.inl ⟨by rfl, ?_⟩) (by assumption) ?_
  rotate_left
  · intro wx hSw; have p0 := hSw.cell c0 (fun e => e); have p1 := hSw.cell c1 (fun e => e); have p10 := hSw.cell c10 (fun e => e); have p11 := hSw.cell c11 (fun e => e); clear hSw; go_simp <;> with_reducible rfl
  (try simp only [List.getElem_toArray]); (try simp only [List.getElem_cons_succ]); (try simp only [List.getElem_cons_zero]); (try simp only [Act.put]); (try simp only [List.setIfInBounds_toArray]); (repeat first | simp only [List.set_cons_succ] | simp only [List.set_cons_zero])
  refine wpAnyH_take (i := 7) (v := ?_) rfl (by kernel_rfl) (by kernel_rfl) (by kernel_rfl) (fun _ _ _ h => h) (Or.inl ⟨by rfl, ?_⟩) (by assumption) ?_
  rotate_left
  · intro wx hSw; have p0 := hSw.cell c0 (fun e => e); have p1 := hSw.cell c1 (fun e => e); have p10 := hSw.cell c10 (fun e => e); have p11 := hSw.cell c11 (fun e => e); clear hSw; go_simp <;> with_reducible rfl
  (try simp only [List.getElem_toArray]); (try simp only [List.getElem_cons_succ]); (try simp only [List.getElem_cons_zero]); (try simp only [Act.put]); (try simp only [List.setIfInBounds_toArray]); (repeat first | simp only [List.set_cons_succ] | simp only [List.set_cons_zero])
  refine wpAnyH_take (i := 8) (v := ?_) rfl (by kernel_rfl) (by kernel_rfl) (by kernel_rfl) (fun _ _ _ h => h) (Or.inl ⟨by rfl, ?_⟩) (by assumption) ?_
  rotate_left
  · intro wx hSw; have p0 := hSw.cell c0 (fun e => e); have p1 := hSw.cell c1 (fun e => e); have p10 := hSw.cell c10 (fun e => e); have p11 := hSw.cell c11 (fun e => e); clear hSw; go_simp <;> with_reducible rfl
  (try simp only [List.getElem_toArray]); (try simp only [List.getElem_cons_succ]); (try simp only [List.getElem_cons_zero]); (try simp only [Act.put]); (try simp only [List.setIfInBounds_toArray]); (repeat first | simp only [List.set_cons_succ] | simp only [List.set_cons_zero])
  refine wpAnyH_take (i := 9) (v := ?_) rfl (by kernel_rfl) (by kernel_rfl) (by kernel_rfl) (fun _ _ _ h => h) (Or.inl ⟨by rfl, ?_⟩) (by assumption) ?_
  rotate_left
  · intro wx hSw; have p0 := hSw.cell c0 (fun e => e); have p1 := hSw.cell c1 (fun e => e); have p10 := hSw.cell c10 (fun e => e); have p11 := hSw.cell c11 (fun e => e); clear hSw; go_simp <;> with_reducible rfl
  (try simp only [List.getElem_toArray]); (try simp only [List.getElem_cons_succ]); (try simp only [List.getElem_cons_zero]); (try simp only [Act.put]); (try simp only [List.setIfInBounds_toArray]); (repeat first | simp only [List.set_cons_succ] | simp only [List.set_cons_zero])
  refine wpAnyH_take (i := 10) (v := ?_) rfl (by kernel_rfl) (by kernel_rfl) (by kernel_rfl) (fun _ _ _ h => h) (Or.inl ⟨by rfl, ?_⟩) (by assumption) ?_
  rotate_left
  · intro wx hSw; have p0 := hSw.cell c0 (fun e => e); have p1 := hSw.cell c1 (fun e => e); have p10 := hSw.cell c10 (fun e => e); have p11 := hSw.cell c11 (fun e => e); clear hSw; go_simp <;> with_reducible rfl
  (try simp only [List.getElem_toArray]); (try simp only [List.getElem_cons_succ]); (try simp only [List.getElem_cons_zero]); (try simp only [Act.put]); (try simp only [List.setIfInBounds_toArray]); (repeat first | simp only [List.set_cons_succ] | simp only [List.set_cons_zero])
  refine wpAnyH_one 3 (by kernel_rfl) rfl rfl ?_
  refine wp_call1 26 _  rfl _  rfl  (fun _ _ => rfl) ((hTA W.drew (Keeps.refl (fun _ => False) W).drew).mono ?_)
  rintro e v1 ⟨rfl, kv1⟩
  have k1a : Keeps (fun _ => False) W v1 := (Keeps.refl (fun _ => False) W).drew.trans kv1
  refine ⟨_, rfl, k1a, fun hS1 => ?_⟩
  (try simp only [List.getElem_toArray]); (try simp only [List.getElem_cons_succ]); (try simp only [List.getElem_cons_zero]); (try simp only [Act.put]); (try simp only [List.setIfInBounds_toArray]); (repeat first | simp only [List.set_cons_succ] | simp only [List.set_cons_zero])
  refine wpAnyH_take (i := 4) (v := ?_) rfl (by kernel_rfl) (by kernel_rfl) (by kernel_rfl) (fun _ _ _ h => h) (Or.inl ⟨by rfl, ?_⟩) (by assumption) ?_
  rotate_left
  · intro wx hSw; have p0 := hSw.cell c0 (fun e => e); have p1 := hSw.cell c1 (fun e => e); have p10 := hSw.cell c10 (fun e => e); have p11 := hSw.cell c11 (fun e => e); clear hSw; go_simp <;> with_reducible rfl
  (try simp only [List.getElem_toArray]); (try simp only [List.getElem_cons_succ]); (try simp only [List.getElem_cons_zero]); (try simp only [Act.put]); (try simp only [List.setIfInBounds_toArray]); (repeat first | simp only [List.set_cons_succ] | simp only [List.set_cons_zero])
  refine wpAnyH_take (i := 5) (v := ?_) rfl (by kernel_rfl) (by kernel_rfl) (by kernel_rfl) (fun _ _ _ h => h) (Or.inl ⟨by rfl, ?_⟩) (by assumption) ?_
  rotate_left
  · intro wx hSw; have p0 := hSw.cell c0 (fun e => e); have p1 := hSw.cell c1 (fun e => e); have p10 := hSw.cell c10 (fun e => e); have p11 := hSw.cell c11 (fun e => e); clear hSw; go_simp <;> with_reducible rfl
  (try simp only [List.getElem_toArray]); (try simp only [List.getElem_cons_succ]); (try simp only [List.getElem_cons_zero]); (try simp only [Act.put]); (try simp only [List.setIfInBounds_toArray]); (repeat first | simp only [List.set_cons_succ] | simp only [List.set_cons_zero])
  refine wpAnyH_one 11 (by kernel_rfl) rfl rfl ?_
  refine wp_call2 27 _ _  rfl _ _  rfl rfl  (fun _ _ => rfl) ((hB v1 k1a).mono ?_)
  rintro e v2 ⟨rfl, kv2⟩
  have k2a : Keeps (fun _ => False) W v2 := k1a.trans kv2
  refine ⟨_, rfl, k2a, fun hS2 => ?_⟩
  (try simp only [List.getElem_toArray]); (try simp only [List.getElem_cons_succ]); (try simp only [List.getElem_cons_zero]); (try simp only [Act.put]); (try simp only [List.setIfInBounds_toArray]); (repeat first | simp only [List.set_cons_succ] | simp only [List.set_cons_zero])
  refine wpAnyH_take (i := 12) (v := ?_) rfl (by kernel_rfl) (by kernel_rfl) (by kernel_rfl) (fun _ _ _ h => h) (Or.inl ⟨by rfl, ?_⟩) (by assumption) ?_
  rotate_left
  · intro wx hSw; have p0 := hSw.cell c0 (fun e => e); have p1 := hSw.cell c1 (fun e => e); have p10 := hSw.cell c10 (fun e => e); have p11 := hSw.cell c11 (fun e => e); clear hSw; go_simp <;> with_reducible rfl
  (try simp only [List.getElem_toArray]); (try simp only [List.getElem_cons_succ]); (try simp only [List.getElem_cons_zero]); (try simp only [Act.put]); (try simp only [List.setIfInBounds_toArray]); (repeat first | simp only [List.set_cons_succ] | simp only [List.set_cons_zero])
  refine wpAnyH_take (i := 13) (v := ?_) rfl (by kernel_rfl) (by kernel_rfl) (by kernel_rfl) (fun _ _ _ h => h) (Or.inl ⟨by rfl, ?_⟩) (by assumption) ?_
  rotate_left
  · intro wx hSw; have p0 := hSw.cell c0 (fun e => e); have p1 := hSw.cell c1 (fun e => e); have p10 := hSw.cell c10 (fun e => e); have p11 := hSw.cell c11 (fun e => e); clear hSw; go_simp <;> with_reducible rfl
  (try simp only [List.getElem_toArray]); (try simp only [List.getElem_cons_succ]); (try simp only [List.getElem_cons_zero]); (try simp only [Act.put]); (try simp only [List.setIfInBounds_toArray]); (repeat first | simp only [List.set_cons_succ] | simp only [List.set_cons_zero])
  refine wpAnyH_done (by kernel_rfl) ?_ _
  refine hKI.out _ _ ?_
  clear hKI
  go_wp2_with fail
  go_ret
  exact ⟨rfl, k2a⟩
set_option maxHeartbeats 1500000 in
set_option maxRecDepth 100000 in
theorem sx_if {a : Tr} {th el : List St} (ha : WfE a) (hza : bgE a ≤ 1048576) (hN : TN th) (hL : LnL th) (hM : TN el) (hE : LnL el) (hS : ∀ s, el = [s] → TS s) (hS2 : ∀ s, el = [s] → LnS s) : TS (.mk 4 [] a tr0 th el) := by
  intro W B b0 o T hG h hn hd
  obtain ⟨pt, ct, pe, ce, hc⟩ := h.cells
  have c0 := hc.c0
  have c1 := hc.c1
  have c10 := hc.c10
  have c11 := hc.c11
  have hTA := fun W1 (k : Keeps (fun _ => False) W W1) => text_all ha hza W1 B b0 (o + 2) (hG.keep k) (hc.xa.keep k (fun _ _ e => e))
  have hLA := pE_len ha
  obtain ⟨A, hA⟩ : ∃ A, A = bs (pE a) := ⟨_, rfl⟩
  have hzA : A.size ≤ 100000000 := by rw [hA, bs_size]; omega
  simp only [← hA] at hTA
  have e : szS (.mk 4 [] a tr0 th el) = (max (max (szE a).1 (szSL th).1) (szSL el).1 + 1, min ((szE a).2 + (szSL th).2 + (szSL el).2 + 1) 513) := by
    rw [szS, if_pos (by unfold okS; simp [usW, usA, usB, usT, usE, isZr, tr0]), if_pos (by decide), if_neg (by decide), wth_zero', und]; rfl
  rw [e] at hn hd
  simp only at hn hd
  have hlB := hL (T ++ [9]) (by omega) (by rw [List.length_append]; show T.length + 1 + _ ≤ 24; omega)
  have hlE := hE (T ++ [9]) (by omega) (by rw [List.length_append]; show T.length + 1 + _ ≤ 24; omega)
  have hB := fun W1 (k : Keeps (fun _ => False) W W1) => block_any hN hL (W := W1) (T := T) (hG.keep k) (hc.t.keep k) (by omega) (by omega)
  have hO := fun W1 (k : Keeps (fun _ => False) W W1) => other_any hM hE hS hS2 (W := W1) (T := T) (hG.keep k) (hc.e.keep k) (by omega) (by omega)
  have hlO : (pO T el).length ≤ 100000 := by
    cases el with
    | nil => rw [pO]; simp
    | cons s r =>
      rw [pO]
      by_cases hcc : (r.isEmpty && decide (kdS s = 4)) = true
      · rw [if_pos hcc]
        have hr : r = [] := by
          simp only [Bool.and_eq_true, List.isEmpty_iff] at hcc
          exact hcc.1
        subst hr
        have ez : szSL [s] = szS s := by rw [szSL, szSL, wth_zero']
        rw [ez] at hn hd
        have := (hS2 s rfl).2.2 T (by omega) (by omega)
        simp [kElse]
        omega
      · rw [if_neg hcc]
        rw [pL] at hlE
        simp [kElse] at hlE ⊢
        omega
  obtain ⟨C, hC⟩ : ∃ C, C = bs (pB T th) := ⟨_, rfl⟩
  have hzC : C.size ≤ 100000000 := by rw [hC, bs_size]; unfold pB; simp at hlB ⊢; omega
  simp only [← hC] at hB
  obtain ⟨D, hD⟩ : ∃ D, D = bs (pO T el) := ⟨_, rfl⟩
  have hzD : D.size ≤ 100000000 := by rw [hD, bs_size]; omega
  simp only [← hD] at hO
  have fin : (⟨#[105, 102, 32]⟩ ++ A ++ ⟨#[32]⟩ ++ C ++ D : ByteArray) = bs (pS T (.mk 4 [] a tr0 th el)) := bs_ext (by rw [app_bl, app_bl, app_bl, app_bl, hA, hC, hD, pS, if_neg (by decide), if_neg (by decide), if_neg (by decide), if_pos rfl, bs_list, bs_list, bs_list]; unfold pB; simp [kIf])
  rw [← fin]
  obtain ⟨n, hn2⟩ : ∃ n, n = th.length := ⟨_, rfl⟩
  obtain ⟨m, hm2⟩ : ∃ m, m = el.length := ⟨_, rfl⟩
  rw [← hn2] at c10 hB
  rw [← hm2] at c11 hO
  generalize bs T = t at *
  clear fin hA hC hD hLA hlB hlE hlO hc h hG hn hd e hn2 hm2 hN hL hM hE hS hS2
  have nn0 : ¬ (9223372036854775807 < 3 + A.size) := by omega
  have m0 : ¬ (3 + A.size > 9223372036854775807) := by omega
  have nn1 : ¬ (9223372036854775807 < 3 + A.size + 1) := by omega
  have m1 : ¬ (3 + A.size + 1 > 9223372036854775807) := by omega
  have nn2 : ¬ (9223372036854775807 < 3 + A.size + 1 + C.size) := by omega
  have m2 : ¬ (3 + A.size + 1 + C.size > 9223372036854775807) := by omega
  have nn3 : ¬ (9223372036854775807 < 3 + A.size + 1 + C.size + D.size) := by omega
  have m3 : ¬ (3 + A.size + 1 + C.size + D.size > 9223372036854775807) := by omega
  go_enter Tryd.func18, Tryd.ntmps18
  go_wp2_with fail
  rename_i K hK
  have hKI : Hid _ := hK
  clear hK
  refine wp_region_held_drew (S := fun w' => Keeps (fun _ => False) W w') (by kernel_rfl) (Keeps.refl _ W).drew (fun hHeld => ?_)
  refine wpAnyH_take (i := 0) (v := ?_) rfl (by kernel_rfl) (by kernel_rfl) (by kernel_rfl) (fun _ _ _ h => h) (Or.inl ⟨by rfl, ?_⟩) (by assumption) ?_
  rotate_left
  · intro wx hSw; have p0 := hSw.cell c0 (fun e => e); have p1 := hSw.cell c1 (fun e => e); have p10 := hSw.cell c10 (fun e => e); have p11 := hSw.cell c11 (fun e => e); clear hSw; go_simp <;> with_reducible rfl
  (try simp only [List.getElem_toArray]); (try simp only [List.getElem_cons_succ]); (try simp only [List.getElem_cons_zero]); (try simp only [Act.put]); (try simp only [List.setIfInBounds_toArray]); (repeat first | simp only [List.set_cons_succ] | simp only [List.set_cons_zero])
  refine wpAnyH_take (i := 1) (v := ?_) rfl (by kernel_rfl) (by kernel_rfl) (by kernel_rfl) (fun _ _ _ h => h) (Or.inl ⟨by rfl, ?_⟩) (by assumption) ?_
  rotate_left
  · intro wx hSw; have p0 := hSw.cell c0 (fun e => e); have p1 := hSw.cell c1 (fun e => e); have p10 := hSw.cell c10 (fun e => e); have p11 := hSw.cell c11 (fun e => e); clear hSw; go_simp <;> with_reducible rfl
  (try simp only [List.getElem_toArray]); (try simp only [List.getElem_cons_succ]); (try simp only [List.getElem_cons_zero]); (try simp only [Act.put]); (try simp only [List.setIfInBounds_toArray]); (repeat first | simp only [List.set_cons_succ] | simp only [List.set_cons_zero])
  refine wpAnyH_take (i := 2) (v := ?_) rfl (by kernel_rfl) (by kernel_rfl) (by kernel_rfl) (fun _ _ _ h => h) (Or.inl ⟨by rfl, ?_⟩) (by assumption) ?_
  rotate_left
  · intro wx hSw; have p0 := hSw.cell c0 (fun e => e); have p1 := hSw.cell c1 (fun e => e); have p10 := hSw.cell c10 (fun e => e); have p11 := hSw.cell c11 (fun e => e); clear hSw; go_simp <;> with_reducible rfl
  (try simp only [List.getElem_toArray]); (try simp only [List.getElem_cons_succ]); (try simp only [List.getElem_cons_zero]); (try simp only [Act.put]); (try simp only [List.setIfInBounds_toArray]); (repeat first | simp only [List.set_cons_succ] | simp only [List.set_cons_zero])
  refine wpAnyH_take (i := 6) (v := ?_) rfl (by kernel_rfl) (by kernel_rfl) (by kernel_rfl) (fun _ _ _ h => h) (Or.inl ⟨by rfl, ?_⟩) (by assumption) ?_
  rotate_left
  · intro wx hSw; have p0 := hSw.cell c0 (fun e => e); have p1 := hSw.cell c1 (fun e => e); have p10 := hSw.cell c10 (fun e => e); have p11 := hSw.cell c11 (fun e => e); clear hSw; go_simp <;> with_reducible rfl
  (try simp only [List.getElem_toArray]); (try simp only [List.getElem_cons_succ]); (try simp only [List.getElem_cons_zero]); (try simp only [Act.put]); (try simp only [List.setIfInBounds_toArray]); (repeat first | simp only [List.set_cons_succ] | simp only [List.set_cons_zero])
  refine wpAnyH_take (i := 7) (v := ?_) rfl (by kernel_rfl) (by kernel_rfl) (by kernel_rfl) (fun _ _ _ h => h) (Or.inl ⟨by rfl, ?_⟩) (by assumption) ?_
  rotate_left
  · intro wx hSw; have p0 := hSw.cell c0 (fun e => e); have p1 := hSw.cell c1 (fun e => e); have p10 := hSw.cell c10 (fun e => e); have p11 := hSw.cell c11 (fun e => e); clear hSw; go_simp <;> with_reducible rfl
  (try simp only [List.getElem_toArray]); (try simp only [List.getElem_cons_succ]); (try simp only [List.getElem_cons_zero]); (try simp only [Act.put]); (try simp only [List.setIfInBounds_toArray]); (repeat first | simp only [List.set_cons_succ] | simp only [List.set_cons_zero])
  refine wpAnyH_take (i := 8) (v := ?_) rfl (by kernel_rfl) (by kernel_rfl) (by kernel_rfl) (fun _ _ _ h => h) (Or.inl ⟨by rfl, ?_⟩) (by assumption) ?_
  rotate_left
  · intro wx hSw; have p0 := hSw.cell c0 (fun e => e); have p1 := hSw.cell c1 (fun e => e); have p10 := hSw.cell c10 (fun e => e); have p11 := hSw.cell c11 (fun e => e); clear hSw; go_simp <;> with_reducible rfl
  (try simp only [List.getElem_toArray]); (try simp only [List.getElem_cons_succ]); (try simp only [List.getElem_cons_zero]); (try simp only [Act.put]); (try simp only [List.setIfInBounds_toArray]); (repeat first | simp only [List.set_cons_succ] | simp only [List.set_cons_zero])
  refine wpAnyH_take (i := 9) (v := ?_) rfl (by kernel_rfl) (by kernel_rfl) (by kernel_rfl) (fun _ _ _ h => h) (Or.inl ⟨by rfl, ?_⟩) (by assumption) ?_
  rotate_left
  · intro wx hSw; have p0 := hSw.cell c0 (fun e => e); have p1 := hSw.cell c1 (fun e => e); have p10 := hSw.cell c10 (fun e => e); have p11 := hSw.cell c11 (fun e => e); clear hSw; go_simp <;> with_reducible rfl
  (try simp only [List.getElem_toArray]); (try simp only [List.getElem_cons_succ]); (try simp only [List.getElem_cons_zero]); (try simp only [Act.put]); (try simp only [List.setIfInBounds_toArray]); (repeat first | simp only [List.set_cons_succ] | simp only [List.set_cons_zero])
  refine wpAnyH_take (i := 10) (v := ?_) rfl (by kernel_rfl) (by kernel_rfl) (by kernel_rfl) (fun _ _ _ h => h) (Or.inl ⟨by rfl, ?_⟩) (by assumption) ?_
  rotate_left
  · intro wx hSw; have p0 := hSw.cell c0 (fun e => e); have p1 := hSw.cell c1 (fun e => e); have p10 := hSw.cell c10 (fun e => e); have p11 := hSw.cell c11 (fun e => e); clear hSw; go_simp <;> with_reducible rfl
  (try simp only [List.getElem_toArray]); (try simp only [List.getElem_cons_succ]); (try simp only [List.getElem_cons_zero]); (try simp only [Act.put]); (try simp only [List.setIfInBounds_toArray]); (repeat first | simp only [List.set_cons_succ] | simp only [List.set_cons_zero])
  refine wpAnyH_take (i := 13) (v := ?_) rfl (by kernel_rfl) (by kernel_rfl) (by kernel_rfl) (fun _ _ _ h => h) (Or.inl ⟨by rfl, ?_⟩) (by assumption) ?_
  rotate_left
  · intro wx hSw; have p0 := hSw.cell c0 (fun e => e); have p1 := hSw.cell c1 (fun e => e); have p10 := hSw.cell c10 (fun e => e); have p11 := hSw.cell c11 (fun e => e); clear hSw; go_simp <;> with_reducible rfl
  (try simp only [List.getElem_toArray]); (try simp only [List.getElem_cons_succ]); (try simp only [List.getElem_cons_zero]); (try simp only [Act.put]); (try simp only [List.setIfInBounds_toArray]); (repeat first | simp only [List.set_cons_succ] | simp only [List.set_cons_zero])
  refine wpAnyH_take (i := 14) (v := ?_) rfl (by kernel_rfl) (by kernel_rfl) (by kernel_rfl) (fun _ _ _ h => h) (Or.inl ⟨by rfl, ?_⟩) (by assumption) ?_
  rotate_left
  · intro wx hSw; have p0 := hSw.cell c0 (fun e => e); have p1 := hSw.cell c1 (fun e => e); have p10 := hSw.cell c10 (fun e => e); have p11 := hSw.cell c11 (fun e => e); clear hSw; go_simp <;> with_reducible rfl
  (try simp only [List.getElem_toArray]); (try simp only [List.getElem_cons_succ]); (try simp only [List.getElem_cons_zero]); (try simp only [Act.put]); (try simp only [List.setIfInBounds_toArray]); (repeat first | simp only [List.set_cons_succ] | simp only [List.set_cons_zero])
  refine wpAnyH_take (i := 15) (v := ?_) rfl (by kernel_rfl) (by kernel_rfl) (by kernel_rfl) (fun _ _ _ h => h) (Or.inl ⟨by rfl, ?_⟩) (by assumption) ?_
  rotate_left
  · intro wx hSw; have p0 := hSw.cell c0 (fun e => e); have p1 := hSw.cell c1 (fun e => e); have p10 := hSw.cell c10 (fun e => e); have p11 := hSw.cell c11 (fun e => e); clear hSw; go_simp <;> with_reducible rfl
  (try simp only [List.getElem_toArray]); (try simp only [List.getElem_cons_succ]); (try simp only [List.getElem_cons_zero]); (try simp only [Act.put]); (try simp only [List.setIfInBounds_toArray]); (repeat first | simp only [List.set_cons_succ] | simp only [List.set_cons_zero])
  refine wpAnyH_take (i := 16) (v := ?_) rfl (by kernel_rfl) (by kernel_rfl) (by kernel_rfl) (fun _ _ _ h => h) (Or.inl ⟨by rfl, ?_⟩) (by assumption) ?_
  rotate_left
  · intro wx hSw; have p0 := hSw.cell c0 (fun e => e); have p1 := hSw.cell c1 (fun e => e); have p10 := hSw.cell c10 (fun e => e); have p11 := hSw.cell c11 (fun e => e); clear hSw; go_simp <;> with_reducible rfl
  (try simp only [List.getElem_toArray]); (try simp only [List.getElem_cons_succ]); (try simp only [List.getElem_cons_zero]); (try simp only [Act.put]); (try simp only [List.setIfInBounds_toArray]); (repeat first | simp only [List.set_cons_succ] | simp only [List.set_cons_zero])
  refine wpAnyH_take (i := 17) (v := ?_) rfl (by kernel_rfl) (by kernel_rfl) (by kernel_rfl) (fun _ _ _ h => h) (Or.inl ⟨by rfl, ?_⟩) (by assumption) ?_
  rotate_left
  · intro wx hSw; have p0 := hSw.cell c0 (fun e => e); have p1 := hSw.cell c1 (fun e => e); have p10 := hSw.cell c10 (fun e => e); have p11 := hSw.cell c11 (fun e => e); clear hSw; go_simp <;> with_reducible rfl
  (try simp only [List.getElem_toArray]); (try simp only [List.getElem_cons_succ]); (try simp only [List.getElem_cons_zero]); (try simp only [Act.put]); (try simp only [List.setIfInBounds_toArray]); (repeat first | simp only [List.set_cons_succ] | simp only [List.set_cons_zero])
  refine wpAnyH_one 3 (by kernel_rfl) rfl rfl ?_
  refine wp_call1 26 _  rfl _  rfl  (fun _ _ => rfl) ((hTA W.drew (Keeps.refl (fun _ => False) W).drew).mono ?_)
  rintro e v1 ⟨rfl, kv1⟩
  have k1a : Keeps (fun _ => False) W v1 := (Keeps.refl (fun _ => False) W).drew.trans kv1
  refine ⟨_, rfl, k1a, fun hS1 => ?_⟩
  (try simp only [List.getElem_toArray]); (try simp only [List.getElem_cons_succ]); (try simp only [List.getElem_cons_zero]); (try simp only [Act.put]); (try simp only [List.setIfInBounds_toArray]); (repeat first | simp only [List.set_cons_succ] | simp only [List.set_cons_zero])
  refine wpAnyH_take (i := 4) (v := ?_) rfl (by kernel_rfl) (by kernel_rfl) (by kernel_rfl) (fun _ _ _ h => h) (Or.inl ⟨by rfl, ?_⟩) (by assumption) ?_
  rotate_left
  · intro wx hSw; have p0 := hSw.cell c0 (fun e => e); have p1 := hSw.cell c1 (fun e => e); have p10 := hSw.cell c10 (fun e => e); have p11 := hSw.cell c11 (fun e => e); clear hSw; go_simp <;> with_reducible rfl
  (try simp only [List.getElem_toArray]); (try simp only [List.getElem_cons_succ]); (try simp only [List.getElem_cons_zero]); (try simp only [Act.put]); (try simp only [List.setIfInBounds_toArray]); (repeat first | simp only [List.set_cons_succ] | simp only [List.set_cons_zero])
  refine wpAnyH_take (i := 5) (v := ?_) rfl (by kernel_rfl) (by kernel_rfl) (by kernel_rfl) (fun _ _ _ h => h) (Or.inl ⟨by rfl, ?_⟩) (by assumption) ?_
  rotate_left
  · intro wx hSw; have p0 := hSw.cell c0 (fun e => e); have p1 := hSw.cell c1 (fun e => e); have p10 := hSw.cell c10 (fun e => e); have p11 := hSw.cell c11 (fun e => e); clear hSw; go_simp <;> with_reducible rfl
  (try simp only [List.getElem_toArray]); (try simp only [List.getElem_cons_succ]); (try simp only [List.getElem_cons_zero]); (try simp only [Act.put]); (try simp only [List.setIfInBounds_toArray]); (repeat first | simp only [List.set_cons_succ] | simp only [List.set_cons_zero])
  refine wpAnyH_one 11 (by kernel_rfl) rfl rfl ?_
  refine wp_call2 27 _ _  rfl _ _  rfl rfl  (fun _ _ => rfl) ((hB v1 k1a).mono ?_)
  rintro e v2 ⟨rfl, kv2⟩
  have k2a : Keeps (fun _ => False) W v2 := k1a.trans kv2
  refine ⟨_, rfl, k2a, fun hS2 => ?_⟩
  (try simp only [List.getElem_toArray]); (try simp only [List.getElem_cons_succ]); (try simp only [List.getElem_cons_zero]); (try simp only [Act.put]); (try simp only [List.setIfInBounds_toArray]); (repeat first | simp only [List.set_cons_succ] | simp only [List.set_cons_zero])
  refine wpAnyH_take (i := 12) (v := ?_) rfl (by kernel_rfl) (by kernel_rfl) (by kernel_rfl) (fun _ _ _ h => h) (Or.inl ⟨by rfl, ?_⟩) (by assumption) ?_
  rotate_left
  · intro wx hSw; have p0 := hSw.cell c0 (fun e => e); have p1 := hSw.cell c1 (fun e => e); have p10 := hSw.cell c10 (fun e => e); have p11 := hSw.cell c11 (fun e => e); clear hSw; go_simp <;> with_reducible rfl
  (try simp only [List.getElem_toArray]); (try simp only [List.getElem_cons_succ]); (try simp only [List.getElem_cons_zero]); (try simp only [Act.put]); (try simp only [List.setIfInBounds_toArray]); (repeat first | simp only [List.set_cons_succ] | simp only [List.set_cons_zero])
  refine wpAnyH_one 18 (by kernel_rfl) rfl rfl ?_
  refine wp_call2 28 _ _  rfl _ _  rfl rfl  (fun _ _ => rfl) ((hO v2 k2a).mono ?_)
  rintro e v3 ⟨rfl, kv3⟩
  have k3a : Keeps (fun _ => False) W v3 := k2a.trans kv3
  refine ⟨_, rfl, k3a, fun hS3 => ?_⟩
  (try simp only [List.getElem_toArray]); (try simp only [List.getElem_cons_succ]); (try simp only [List.getElem_cons_zero]); (try simp only [Act.put]); (try simp only [List.setIfInBounds_toArray]); (repeat first | simp only [List.set_cons_succ] | simp only [List.set_cons_zero])
  refine wpAnyH_take (i := 19) (v := ?_) rfl (by kernel_rfl) (by kernel_rfl) (by kernel_rfl) (fun _ _ _ h => h) (Or.inl ⟨by rfl, ?_⟩) (by assumption) ?_
  rotate_left
  · intro wx hSw; have p0 := hSw.cell c0 (fun e => e); have p1 := hSw.cell c1 (fun e => e); have p10 := hSw.cell c10 (fun e => e); have p11 := hSw.cell c11 (fun e => e); clear hSw; go_simp <;> with_reducible rfl
  (try simp only [List.getElem_toArray]); (try simp only [List.getElem_cons_succ]); (try simp only [List.getElem_cons_zero]); (try simp only [Act.put]); (try simp only [List.setIfInBounds_toArray]); (repeat first | simp only [List.set_cons_succ] | simp only [List.set_cons_zero])
  refine wpAnyH_take (i := 20) (v := ?_) rfl (by kernel_rfl) (by kernel_rfl) (by kernel_rfl) (fun _ _ _ h => h) (Or.inl ⟨by rfl, ?_⟩) (by assumption) ?_
  rotate_left
  · intro wx hSw; have p0 := hSw.cell c0 (fun e => e); have p1 := hSw.cell c1 (fun e => e); have p10 := hSw.cell c10 (fun e => e); have p11 := hSw.cell c11 (fun e => e); clear hSw; go_simp <;> with_reducible rfl
  (try simp only [List.getElem_toArray]); (try simp only [List.getElem_cons_succ]); (try simp only [List.getElem_cons_zero]); (try simp only [Act.put]); (try simp only [List.setIfInBounds_toArray]); (repeat first | simp only [List.set_cons_succ] | simp only [List.set_cons_zero])
  refine wpAnyH_done (by kernel_rfl) ?_ _
  refine hKI.out _ _ ?_
  clear hKI
  go_wp2_with fail
  go_ret
  exact ⟨rfl, k3a⟩
def bldR : Go.Shelf.Ren := ⟨fun | 166 => 17 | 240 => 25 | 276 => 41 | n => n, fun | 0 => 0 | 3 => 3 | 4 => 4 | 5 => 5 | 9 => 9 | 20 => 20 | 37 => 54 | 70 => 53 | 72 => 56 | 75 => 58 | 80 => 62 | 164 => 91 | n => n, fun | n => n⟩
theorem bldL : Lays.n166 Tryd.prog bldR := {
  mixed := by kernel_rfl
  f166 := Tryd.func17.trans (congrArg some (by kernel_rfl))
  f240 := Tryd.func25.trans (congrArg some (by kernel_rfl))
  f276 := Tryd.func41.trans (congrArg some (by kernel_rfl))
  t0 := Tryd.underlying0
  a0 := Tryd.isAgg0
  z0 := Tryd.sizeOf0
  v0 := Tryd.zeroValue0
  t3 := Tryd.underlying3
  a3 := Tryd.isAgg3
  z3 := Tryd.sizeOf3
  v3 := Tryd.zeroValue3
  t4 := Tryd.underlying4
  a4 := Tryd.isAgg4
  z4 := Tryd.sizeOf4
  v4 := Tryd.zeroValue4
  t9 := Tryd.underlying9
  a9 := Tryd.isAgg9
  z9 := Tryd.sizeOf9
  v9 := Tryd.zeroValue9
  t20 := Tryd.underlying20
  a20 := Tryd.isAgg20
  z20 := Tryd.sizeOf20
  v20 := Tryd.zeroValue20
  t37 := Tryd.underlying54
  a37 := Tryd.isAgg54
  z37 := Tryd.sizeOf54
  v37 := Tryd.zeroValue54
  t70 := Tryd.underlying53
  a70 := Tryd.isAgg53
  z70 := Tryd.sizeOf53
  v70 := Tryd.zeroValue53
  t72 := Tryd.underlying56
  a72 := Tryd.isAgg56
  z72 := Tryd.sizeOf56
  v72 := Tryd.zeroValue56
  t75 := Tryd.underlying58
  a75 := Tryd.isAgg58
  z75 := Tryd.sizeOf58
  v75 := Tryd.zeroValue58
  t164 := Tryd.underlying91
  a164 := Tryd.isAgg91
  z164 := Tryd.sizeOf91
  v164 := Tryd.zeroValue91 }
theorem bldX : Builder.Extra Tryd.prog bldR := {
  sizeBuilder := by kernel_rfl
  liesBuilder := by kernel_rfl
  t5 := Tryd.underlying5
  a5 := Tryd.isAgg5
  z5 := Tryd.sizeOf5
  v5 := Tryd.zeroValue5
  infoByte := by kernel_rfl
  cellsByte := by kernel_rfl
  sizeByte := by kernel_rfl
  neB5 := by decide }
theorem write_k (B b : Nat) (bs : List Value) (s : ByteArray) (w : World) (h : Lib.IsBuilderF 56 5 B b bs w) (hlen : bs.length + s.size ≤ 140737488355328) (hBw : B ≤ w.heap.size) :
    Calls Tryd.prog 17 #[.pointer (some ⟨b, 0, none⟩), .string s] w fun e w' => e = .returned (.tuple #[.int .i64 s.size, .nilIface]) ∧ (Lib.BuilderAtF 56 5 B b (.pointer (some ⟨b, 0, none⟩)) (bs ++ Lib.strCells s) w' ∧ Below B w w' ∧ Lib.OthersKept 5 (some b) w w') :=
  Any.Builder_WriteString_k bldL bldX B b bs s w h hlen hBw
/-- A builder, in whatever world keeps its blocks. -/
theorem IsB.keep {T e : TypeId} {B b : Nat} {bs : List Value} {w w' : World} (h : Lib.IsBuilderF T e B b bs w) (k : Keeps (fun _ => False) w w') : Lib.IsBuilderF T e B b bs w' := by
  have key : ∀ p, Lib.BuilderAtF T e B b p bs w → Lib.BuilderAtF T e B b p bs w' := fun p ⟨hB, v, hb, hown, hne⟩ => by
    have hlt := (Array.getElem?_eq_some_iff.1 hb).1
    refine ⟨hB, v, by rw [k.block b hlt (fun e => e)]; exact hb, ?_, hne⟩
    refine ⟨hown.1, ?_⟩
    rcases hown.2 with hn | ⟨g, cap, cur, fz, rfl, hb2, hgg, rest⟩
    · exact .inl hn
    · refine .inr ⟨g, cap, cur, fz, rfl, hb2, ?_, rest⟩
      rw [k.block g (Array.getElem?_eq_some_iff.1 hgg).1 (fun e => e)]
      exact hgg
  exact h.elim (fun x => .inl (key _ x)) (fun x => .inr (key _ x))
/-- A new builder. -/
theorem IsB.made (w : World) (T e : TypeId) : Lib.IsBuilderF T e w.heap.size w.heap.size [] (w.alloc (.cells #[.pointer none, .slice none 0 0] T)) :=
  .inl ⟨Nat.le_refl _, .slice none 0 0, Array.getElem?_push_size, World.ownsRowF_nil _ _ _ _, by simp [Value.ownBlock]⟩
theorem keepsB {B : Nat} {w w' : World} (hb : Below B w w') : Keeps (fun k => B ≤ k) w w' :=
  ⟨hb.os, hb.tape, hb.output, hb.size, fun k _ hS => hb.block k (Nat.lt_of_not_le hS)⟩
theorem strCells_bs (l : Bs) : Lib.strCells (bs l) = Lib.byteCells l := by unfold Lib.strCells; rfl
theorem byteCells_app (a b : Bs) : Lib.byteCells (a ++ b) = Lib.byteCells a ++ Lib.byteCells b := by unfold Lib.byteCells; simp
theorem byteCells_len (a : Bs) : (Lib.byteCells a).length = a.length := by unfold Lib.byteCells; simp
theorem pL_snoc (T : Bs) (s : St) : ∀ l : List St, pL T (l ++ [s]) = pL T l ++ (T ++ (pS T s ++ [10]))
  | [] => by rw [List.nil_append, pL, pL, pL]; rfl
  | a :: r => by rw [List.cons_append, pL, pL, pL_snoc T s r]; simp
theorem szSL_at : ∀ (l : List St) (i : Nat) (s : St), l[i]? = some s → (szS s).1 ≤ (szSL l).1 ∧ (szS s).2 ≤ (szSL l).2
  | [], i, s, h => by cases h
  | a :: r, 0, s, h => by
    injection h with h; subst h
    rw [szSL]; unfold wth; simp only; omega
  | a :: r, i + 1, s, h => by
    have := szSL_at r i s h
    rw [szSL]; unfold wth; simp only; omega
theorem pL_take (T : Bs) : ∀ (l : List St) (i : Nat), (pL T (l.take i)).length ≤ (pL T l).length
  | [], i => by simp
  | a :: r, 0 => by rw [List.take_zero, pL]; simp
  | a :: r, i + 1 => by
    have := pL_take T r i
    rw [List.take_succ_cons, pL, pL]
    simp; omega
set_option maxHeartbeats 1500000 in
set_option maxRecDepth 100000 in
theorem lines_any {l : List St} (hS : ∀ s ∈ l, TS s) (hS2 : ∀ s ∈ l, LnS s) (hL : LnL l) : TN l := by
  intro W B p c T hG h hn hd
  obtain ⟨N, hN⟩ : ∃ N, N = l.length := ⟨_, rfl⟩
  have HN : Hid (N = l.length) := hN
  rw [← hN]
  have hNb : N ≤ 512 := by
    rw [hN]
    have : ∀ l : List St, (∀ s ∈ l, LnS s) → l.length ≤ (szSL l).2 := by
      intro l
      induction l with
      | nil => intro _; simp
      | cons a r ih =>
        intro h
        have h1 := (h a List.mem_cons_self).2.1
        have h2 := ih (fun s hs => h s (List.mem_cons_of_mem _ hs))
        rw [szSL]; unfold wth; simp only [List.length_cons]; omega
    exact Nat.le_trans (this l hS2) hn
  clear hN
  have hall := hL T hn hd
  obtain ⟨t, ht⟩ : ∃ t, t = bs T := ⟨_, rfl⟩
  have htz : t.size ≤ 24 := by rw [ht, bs_size]; omega
  have HT : Hid (t = bs T) := ht
  have HW : Hid (∀ (W1 : World) (X Y : Bs), Lib.IsBuilderF 56 5 W.heap.size W.heap.size (Lib.byteCells X) W1 → X.length ≤ 100000 → Y.length ≤ 100000 → W.heap.size ≤ W1.heap.size → Calls Tryd.prog 17 #[.pointer (some ⟨W.heap.size, 0, none⟩), .string (bs Y)] W1 fun e w' => e = .returned (.tuple #[.int .i64 (bs Y).size, .nilIface]) ∧ Lib.IsBuilderF 56 5 W.heap.size W.heap.size (Lib.byteCells (X ++ Y)) w' ∧ Below W.heap.size W1 w') := fun W1 X Y h1 h2 h3 h4 =>
    (write_k _ _ _ (bs Y) W1 h1 (by rw [byteCells_len, bs_size]; omega) h4).mono fun e w' q => ⟨q.1, .inr (by rw [byteCells_app, ← strCells_bs Y]; exact q.2.1), q.2.2.1⟩
  have HR : Hid (∀ (W1 : World) (X : Bs), Lib.IsBuilderF 56 5 W.heap.size W.heap.size (Lib.byteCells X) W1 → W.heap.size ≤ W1.heap.size → Calls Tryd.prog 19 #[.pointer (some ⟨W.heap.size, 0, none⟩)] W1 fun e w' => e = .returned (.string (bs X)) ∧ Below W.heap.size W1 w') := fun W1 X h1 h2 =>
    (Tryd.Builder_String_any_k _ _ X W1 h1 h2).mono fun e w' q => ⟨q.1, q.2.2.1⟩
  have hK0 : Keeps (fun _ => False) W (W.alloc (.cells #[.pointer none, .slice none 0 0] 56)) := (Keeps.refl _ W).alloc _
  have hB0 : Lib.IsBuilderF 56 5 W.heap.size W.heap.size (Lib.byteCells (pL T (l.take 0))) (W.alloc (.cells #[.pointer none, .slice none 0 0] 56)) := by
    rw [List.take_zero, pL]; exact IsB.made _ _ _
  rw [← ht]
  clear ht
  go_enter Tryd.func11, Tryd.ntmps11
  go_wp2_with fail
  obtain ⟨W0, hW0⟩ : ∃ W0, W0 = W.alloc (.cells #[.pointer none, .slice none 0 0] 56) := ⟨_, rfl⟩
  rw [← hW0] at hK0 hB0
  rw [show W.alloc (.cells #[.pointer none, .slice none 0 0] 56) = W0 from hW0.symm]
  clear hW0
  go_loopw [9] (fun iv Wr => ∃ i : Nat, iv = .int .i64 (i : Int) ∧ i ≤ N ∧ Lib.IsBuilderF 56 5 W.heap.size W.heap.size (Lib.byteCells (pL T (l.take i))) Wr ∧ Keeps (fun _ => False) W Wr) (fun iv _ => N - (intOf iv).toNat)
  case atStart => exact ⟨0, rfl, Nat.zero_le _, hB0, hK0⟩
  case round =>
    clear hB0 hK0
    obtain ⟨i, rfl, hi, hB, hK⟩ := hrel
    by_cases hlt : i < N
    · have d1 : decide ((i : Int) < (N : Int)) = true := decide_eq_true (by omega)
      have d2 : decide (i < N) = true := decide_eq_true hlt
      have i0 : (0 : Int) ≤ (i : Int) := by omega
      have i1 : (i : Int) < (N : Int) := by omega
      have i2 : (i : Int) + 1 ≤ 9223372036854775807 := by omega
      have hip : i < l.length := by rw [← HN.out]; exact hlt
      obtain ⟨s, hss⟩ : ∃ s, s = l[i] := ⟨_, rfl⟩
      have hgt : l[i]? = some s := by rw [hss]; exact List.getElem?_eq_getElem hip
      have hmem : s ∈ l := List.mem_of_getElem? hgt
      have hsz := szSL_at l i s hgt
      obtain ⟨g, rfl, hp⟩ := h.at hgt
      have hX := hS s hmem wr B g (i * 12) T (hG.keep hK) (hp.keep hK) (by omega) (by omega)
      have hXl := (hS2 s hmem).2.2 T (by omega) (by omega)
      have htk : l.take (i + 1) = l.take i ++ [s] := take_snoc hgt
      have hpt := pL_take T l i
      obtain ⟨X, hXX⟩ : ∃ X, X = bs (pS T s) := ⟨_, rfl⟩
      have hXz : X.size ≤ 100000 := by rw [hXX, bs_size]; omega
      rw [← hXX, ← HT.out] at hX
      have fin : (t ++ X ++ ⟨#[10]⟩ : ByteArray) = bs (T ++ (pS T s ++ [10])) := bs_ext (by rw [app_bl, app_bl, hXX, HT.out, bs_list, bs_list]; simp)
      have HFN : Hid (_ = _) := fin
      have HTK : Hid (pL T (l.take (i + 1)) = pL T (l.take i) ++ (T ++ (pS T s ++ [10]))) := by show _ = _; rw [htk, pL_snoc]
      have hY : (T ++ (pS T s ++ [10])).length ≤ 100000 := by
        have h9 := congrArg ByteArray.size hXX
        rw [bs_size] at h9
        have h10 := congrArg ByteArray.size HT.out
        rw [bs_size] at h10
        simp; omega
      have hWR := fun W1 (k : Keeps (fun _ => False) wr W1) => HW.out W1 (pL T (l.take i)) (T ++ (pS T s ++ [10])) (IsB.keep hB k) (by omega) hY (Nat.le_trans hK.size k.size)
      simp only [← HFN.out] at hWR
      clear fin hXX hXl hpt htk hgt hss hip hmem hsz hp hY
      have n0 : ¬ (9223372036854775807 < t.size + X.size) := by omega
      have m0 : ¬ (t.size + X.size > 9223372036854775807) := by omega
      have n1 : ¬ (9223372036854775807 < t.size + X.size + 1) := by omega
      have m1 : ¬ (t.size + X.size + 1 > 9223372036854775807) := by omega
      go_wp2_with (first | (go_at_call 18; refine hX.mono ?_; clear hX; rintro e w1 ⟨rfl, k1⟩; have hW1 := hWR w1 k1; clear hWR) | (go_at_call 17; refine hW1.mono ?_; clear hW1; rintro e w2 ⟨rfl, hB2, k2⟩))
      have kk : Keeps (fun _ => False) W w2 := (hK.trans k1).trans' (keepsB k2) (fun _ _ e => e) (fun j hj e => by omega)
      go_roundw
      case rel => exact ⟨i + 1, by go_num, by omega, by rw [HTK.out]; exact hB2, kk⟩
      case measure => simp [intOf]; omega
    · obtain rfl : i = N := by omega
      have d1 : decide ((i : Int) < (i : Int)) = false := decide_eq_false (by omega)
      have d2 : decide (i < i) = false := decide_eq_false (by omega)
      have hR := HR.out wr _ hB hK.size
      have ep : l.take i = l := by rw [HN.out]; exact List.take_length
      rw [ep] at hR
      go_wp2_with (go_at_call 19; refine hR.mono ?_; clear hR; rintro e w2 ⟨rfl, k2⟩)
      go_ret
      exact ⟨rfl, hK.trans' (keepsB k2) (fun _ _ e => e) (fun j hj e => by omega)⟩
theorem bgE_sz {e : Tr} (h : WfE e) : (szE e).2 ≤ 512 → bgE e ≤ (szE e).2 := by
  induction h with
  | @num n h0 h =>
    have e : szE (.mk 1 n [] []) = (1, 1) := by
      rw [szE, if_pos (by unfold okE; simp [h0]), szL]; rfl
    intro _
    rw [e, bgE, bgL]
    exact Nat.le_refl _
  | @name w h =>
    have e : szE (.mk 2 0 w []) = (1, 1) := by
      rw [szE, if_pos (by unfold okE; simp [h]), szL]; rfl
    intro _
    rw [e, bgE, bgL]
    exact Nat.le_refl _
  | @obj a _ ih =>
    rw [szE_one (.inl rfl), bg_one]
    simp only
    intro h
    have := ih (by omega)
    omega
  | @tak a _ ih =>
    rw [szE_one (.inr (.inl rfl)), bg_one]
    simp only
    intro h
    have := ih (by omega)
    omega
  | @neg a _ ih =>
    rw [szE_one (.inr (.inr (.inl rfl))), bg_one]
    simp only
    intro h
    have := ih (by omega)
    omega
  | @not a _ ih =>
    rw [szE_one (.inr (.inr (.inr rfl))), bg_one]
    simp only
    intro h
    have := ih (by omega)
    omega
  | @bin w a b hb _ _ iha ihb =>
    rw [szE_two hb, bg_two]
    simp only
    intro h
    have := iha (by omega)
    have := ihb (by omega)
    omega
theorem bg_tr0 : bgE tr0 = 1 := rfl
def BgS (s : St) : Prop := 1 ≤ (szS s).2 ∧ ((szS s).2 ≤ 512 → bgS s ≤ 3 * (szS s).2)
def BgL (l : List St) : Prop := (szSL l).2 ≤ 512 → bgSL l ≤ 3 * (szSL l).2
theorem bgl_nil : BgL [] := by
  intro _
  rw [bgSL]; omega
theorem bgl_cons {s : St} {r : List St} (h1 : BgS s) (h2 : BgL r) : BgL (s :: r) := by
  unfold BgL
  rw [szSL, bgSL]
  unfold wth
  simp only
  intro h
  have := h1.2 (by omega)
  have := h2 (by omega)
  omega
theorem bgS_of {k : Int} {w : Bs} {a b : Tr} {th el : List St} (hw : WfS (.mk k w a b th el)) (ht : BgL th) (he : BgL el) : BgS (.mk k w a b th el) := by
  unfold BgS
  rw [bgS_eq]
  unfold WfS at hw
  rcases hw with ⟨rfl, h1, h2, rfl, rfl, rfl⟩ | ⟨rfl, rfl, h1, h2, rfl, rfl⟩ | ⟨rfl, rfl, h1, rfl, rfl, rfl⟩ | ⟨rfl, rfl, h1, rfl, h2, h3⟩ | ⟨rfl, rfl, h1, rfl, h2, rfl⟩ | ⟨rfl, rfl, rfl, rfl, rfl, rfl⟩ | ⟨rfl, rfl, h1, rfl, rfl, rfl⟩
  · have e : szS (.mk 1 w a tr0 [] []) = ((szE a).1 + 1, min ((szE a).2 + 1) 513) := by
      rw [szS, if_pos (by unfold okS; simp [usW, usA, usB, usT, usE, h1, isZr, tr0]), szSL, if_pos (by decide), if_neg (by decide), wth_zero', wth_zero', wth_zero', und]
    rw [e, bg_tr0, bgSL]
    simp only
    have := (pE_sz h2).2.1
    refine ⟨by omega, fun h => ?_⟩
    have := bgE_sz h2 (by omega)
    omega
  · have e : szS (.mk 2 [] a b [] []) = (max (szE a).1 (szE b).1 + 1, min ((szE a).2 + (szE b).2 + 1) 513) := by
      rw [szS, if_pos (by unfold okS; simp [usW, usA, usB, usT, usE]), szSL, if_pos (by decide), if_pos (by decide), wth_zero', wth_zero', und]; rfl
    rw [e, bgSL]
    simp only
    have := (pE_sz h1).2.1
    refine ⟨by omega, fun h => ?_⟩
    have := bgE_sz h1 (by omega)
    have := bgE_sz h2 (by omega)
    omega
  · have e : szS (.mk 3 [] a tr0 [] []) = ((szE a).1 + 1, min ((szE a).2 + 1) 513) := by
      rw [szS, if_pos (by unfold okS; simp [usW, usA, usB, usT, usE, isZr, tr0]), szSL, if_pos (by decide), if_neg (by decide), wth_zero', wth_zero', wth_zero', und]
    rw [e, bg_tr0, bgSL]
    simp only
    have := (pE_sz h1).2.1
    refine ⟨by omega, fun h => ?_⟩
    have := bgE_sz h1 (by omega)
    omega
  · have e : szS (.mk 4 [] a tr0 th el) = (max (max (szE a).1 (szSL th).1) (szSL el).1 + 1, min ((szE a).2 + (szSL th).2 + (szSL el).2 + 1) 513) := by
      rw [szS, if_pos (by unfold okS; simp [usW, usA, usB, usT, usE, isZr, tr0]), if_pos (by decide), if_neg (by decide), wth_zero', und]; rfl
    rw [e, bg_tr0]
    simp only
    have := (pE_sz h1).2.1
    refine ⟨by omega, fun h => ?_⟩
    have := bgE_sz h1 (by omega)
    have := ht (by omega)
    have := he (by omega)
    omega
  · have e : szS (.mk 5 [] a tr0 th []) = (max (szE a).1 (szSL th).1 + 1, min ((szE a).2 + (szSL th).2 + 1) 513) := by
      rw [szS, if_pos (by unfold okS; simp [usW, usA, usB, usT, usE, isZr, tr0]), szSL, if_pos (by decide), if_neg (by decide), wth_zero', wth_zero', und]; rfl
    rw [e, bg_tr0]
    simp only
    have := (pE_sz h1).2.1
    refine ⟨by omega, fun h => ?_⟩
    have := bgE_sz h1 (by omega)
    have := ht (by omega)
    have : bgSL [] = 0 := by rw [bgSL]
    omega
  · have e : szS (.mk 6 [] tr0 tr0 [] []) = (1, 1) := by
      rw [szS, if_pos (by unfold okS; simp [usW, usA, usB, usT, usE, isZr, tr0]), szSL, if_neg (by decide), if_neg (by decide), wth_zero', wth_zero', und]; rfl
    rw [e, bg_tr0, bgSL]
    simp only
    exact ⟨by omega, fun _ => by omega⟩
  · have e : szS (.mk 7 [] a tr0 [] []) = ((szE a).1 + 1, min ((szE a).2 + 1) 513) := by
      rw [szS, if_pos (by unfold okS; simp [usW, usA, usB, usT, usE, isZr, tr0]), szSL, if_pos (by decide), if_neg (by decide), wth_zero', wth_zero', wth_zero', und]
    rw [e, bg_tr0, bgSL]
    simp only
    have := (pE_sz h1).2.1
    refine ⟨by omega, fun h => ?_⟩
    have := bgE_sz h1 (by omega)
    omega
theorem bg_all : ∀ n : Nat, (∀ s, bgS s ≤ n → WfS s → BgS s) ∧ (∀ l, bgSL l ≤ n → WfL l → BgL l)
  | 0 => by
    refine ⟨fun s h => absurd h (by have := bgS_pos s; omega), fun l h _ => ?_⟩
    cases l with
    | nil => exact bgl_nil
    | cons s r => exact absurd h (by have := bgS_pos s; rw [bgSL]; omega)
  | n + 1 => by
    obtain ⟨i1, i2⟩ := bg_all n
    have j1 : ∀ s, bgS s ≤ n + 1 → WfS s → BgS s := by
      intro s hb hw
      obtain ⟨k, w, a, b, th, el⟩ := s
      rw [bgS_eq] at hb
      have hwt : WfL th ∧ WfL el := by
        unfold WfS at hw
        rcases hw with ⟨-, -, -, -, rfl, rfl⟩ | ⟨-, -, -, -, rfl, rfl⟩ | ⟨-, -, -, -, rfl, rfl⟩ | ⟨-, -, -, -, h2, h3⟩ | ⟨-, -, -, -, h2, rfl⟩ | ⟨-, -, -, -, rfl, rfl⟩ | ⟨-, -, -, -, rfl, rfl⟩
        · exact ⟨by unfold WfL; trivial, by unfold WfL; trivial⟩
        · exact ⟨by unfold WfL; trivial, by unfold WfL; trivial⟩
        · exact ⟨by unfold WfL; trivial, by unfold WfL; trivial⟩
        · exact ⟨h2, h3⟩
        · exact ⟨h2, by unfold WfL; trivial⟩
        · exact ⟨by unfold WfL; trivial, by unfold WfL; trivial⟩
        · exact ⟨by unfold WfL; trivial, by unfold WfL; trivial⟩
      exact bgS_of hw (i2 th (by omega) hwt.1) (i2 el (by omega) hwt.2)
    refine ⟨j1, fun l h hw => ?_⟩
    cases l with
    | nil => exact bgl_nil
    | cons s r =>
      unfold WfL at hw
      have e : bgSL (s :: r) = bgS s + bgSL r := by rw [bgSL]
      rw [e] at h
      have := bgS_pos s
      exact bgl_cons (j1 s (by omega) hw.1) (i2 r (by omega) hw.2)
theorem chk_bg {l : List St} (hw : WfL l) (h : chk l = 0) : bgSL l ≤ 1536 := by
  obtain ⟨-, -, h2⟩ := chk_zero h
  have := (bg_all (bgSL l)).2 l (Nat.le_refl _) hw h2
  omega
theorem wfL_mem : ∀ {l : List St}, WfL l → ∀ s ∈ l, WfS s ∧ bgS s ≤ bgSL l
  | [], _, s, h => by cases h
  | a :: r, hw, s, h => by
    unfold WfL at hw
    rw [bgSL]
    rcases List.mem_cons.1 h with h | h
    · rw [h]; exact ⟨hw.1, by omega⟩
    · have := wfL_mem hw.2 s h
      exact ⟨this.1, by omega⟩
theorem st_all : ∀ n : Nat, n ≤ 1048576 → (∀ s, bgS s ≤ n → WfS s → TS s) ∧ (∀ l, bgSL l ≤ n → WfL l → TN l)
  | 0, _ => by
    refine ⟨fun s h => absurd h (by have := bgS_pos s; omega), fun l h hw => ?_⟩
    cases l with
    | nil => exact lines_any (fun s h => by cases h) (fun s h => by cases h) ((lnS 0).2 [] h hw)
    | cons s r => exact absurd h (by have := bgS_pos s; rw [bgSL]; omega)
  | n + 1, hn => by
    obtain ⟨i1, i2⟩ := st_all n (by omega)
    have L2 := fun l (hw : WfL l) => (lnS (bgSL l)).2 l (Nat.le_refl _) hw
    have L1 := fun s (hw : WfS s) => (lnS (bgS s)).1 s (Nat.le_refl _) hw
    have j1 : ∀ s, bgS s ≤ n + 1 → WfS s → TS s := by
      intro s hb hw
      obtain ⟨k, w, a, b, th, el⟩ := s
      rw [bgS_eq] at hb
      have ha := bgE_pos a
      have hb0 := bgE_pos b
      unfold WfS at hw
      rcases hw with ⟨rfl, h1, h2, rfl, rfl, rfl⟩ | ⟨rfl, rfl, h1, h2, rfl, rfl⟩ | ⟨rfl, rfl, h1, rfl, rfl, rfl⟩ | ⟨rfl, rfl, h1, rfl, h2, h3⟩ | ⟨rfl, rfl, h1, rfl, h2, rfl⟩ | ⟨rfl, rfl, rfl, rfl, rfl, rfl⟩ | ⟨rfl, rfl, h1, rfl, rfl, rfl⟩
      · exact sx_asg h1 h2 (by omega)
      · exact sx_sto h1 (by omega) h2 (by omega)
      · exact sx_rel h1 (by omega)
      · refine sx_if h1 (by omega) (i2 th (by omega) h2) (L2 th h2) (i2 el (by omega) h3) (L2 el h3) (fun s hs => ?_) (fun s hs => ?_)
        · subst hs
          have e : bgSL [s] = bgS s := by rw [bgSL, bgSL]; rfl
          rw [e] at hb
          unfold WfL at h3
          exact i1 s (by omega) h3.1
        · subst hs
          unfold WfL at h3
          exact L1 s h3.1
      · exact sx_whl h1 (by omega) (i2 th (by omega) h2) (L2 th h2)
      · exact sx_abo
      · exact sx_ret h1 (by omega)
    refine ⟨j1, fun l h hw => ?_⟩
    have hm := wfL_mem hw
    exact lines_any (fun s hs => j1 s (Nat.le_trans (hm s hs).2 h) (hm s hs).1) (fun s hs => L1 s (hm s hs).1) (L2 l hw)
theorem sl_lt {w w' : World} {l : List St} {p : Option Addr} {c : Nat} {xs : List Value} (ho : OwnP w' (fun g => w.heap.size ≤ g) 34 12 (.slice p l.length c) l.length xs) (hx : SL w' (fun g => w.heap.size ≤ g) 32 34 l xs) : PtL w' w'.heap.size p c l :=
  ⟨xs, ho.lt.mono (fun _ hg => hg.2), hx.lt.mono (fun _ hg => hg.2)⟩
set_option maxHeartbeats 1000000 in
set_option maxRecDepth 100000 in
theorem print_any {w : World} {l : List St} {p : Option Addr} {c : Nat} (hG : PG w) (h : PtL w w.heap.size p c l) (hc : chk l = 0) (hw : WfL l) : Calls Tryd.prog 5 #[.slice p l.length c] w fun e w' => e = .returned (.tuple #[.string (bs (pL [] l)), .int .i64 0]) ∧ Keeps (fun _ => False) w w' := by
  have hbg := chk_bg hw hc
  obtain ⟨-, hz1, hz2⟩ := chk_zero hc
  obtain ⟨xs, h1, h2⟩ := h
  have hC := check_any hG.g hG.h h1 h2 (by omega)
  rw [hc] at hC
  have hN := fun W (k : Keeps (fun _ => False) w W) => (st_all 1048576 (Nat.le_refl _)).2 l (by omega) hw W w.heap.size p c [] (hG.keep k) (PtL.keep ⟨xs, h1, h2⟩ k) hz2 (by simpa using hz1)
  obtain ⟨n, hn⟩ : ∃ n, n = l.length := ⟨_, rfl⟩
  rw [← hn] at hC ⊢
  simp only [← hn] at hN
  obtain ⟨S, hS⟩ : ∃ S, S = bs (pL [] l) := ⟨_, rfl⟩
  rw [← hS]
  simp only [← hS] at hN
  clear hS hn h1 h2 hz1 hz2 hG hc hw hbg
  go_enter Tryd.func5, Tryd.ntmps5
  go_wp2_with (first | (go_at_call 10; refine hC.mono ?_; clear hC; rintro e w1 ⟨rfl, k1⟩; have hN1 := hN w1 k1; clear hN) | (go_at_call 11; refine hN1.mono ?_; clear hN1; rintro e w2 ⟨rfl, k2⟩))
  go_ret2
  exact ⟨rfl, k1.trans k2⟩
/-- A reading's program and its fault. -/
def lsX' (x : Except (Int × Int × Int) (List St)) : List St := match x with
  | .ok l => l
  | .error _ => []
def ftX' (x : Except (Int × Int × Int) (List St)) : Int × Int × Int := match x with
  | .ok _ => (0, 0, 0)
  | .error f => f
def PrsV (f : Int × Int × Int) (l : List St) (w : World) (e : Ending) (w' : World) : Prop := ∃ (p : Option Addr) (c : Nat) (xs : List Value), e = .returned (.tuple #[.slice p l.length c, .agg #[.int .i64 f.1, .int .i64 f.2.1, .int .i64 f.2.2]]) ∧ OwnP w' (fun g => w.heap.size ≤ g) 34 12 (.slice p l.length c) l.length xs ∧ SL w' (fun g => w.heap.size ≤ g) 32 34 l xs ∧ Keeps (fun _ => False) w w'
end Go.Proofs.YtehblpbefkopbaaDoor
