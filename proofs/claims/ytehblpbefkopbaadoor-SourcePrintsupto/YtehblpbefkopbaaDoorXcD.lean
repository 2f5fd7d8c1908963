import Derived.WalkSpells
import Derived.WalkLawsBesides
import Derived.OpenShut
import Derived.Deep.Fields
import Derived.Lib.AtoiErrMem
import Derived.Test.YtehblpbefkopbaaDoorXaC
import Derived.Test.YtehblpbefkopbaaDoorXaS
import Derived.Test.YtehblpbefkopbaaDoorXaM
import Derived.Test.YtehblpbefkopbaaDoorXgA
namespace Go.Proofs.YtehblpbefkopbaaDoor
open Go.RowKit Go.ChangeShapes Go.WideShapes Go.ChangeAt Go.Deep
attribute [local go_sem] Oper.semAt_some run_store_nf run_store_f
theorem results_cell1' {fn : Func} {p : Tmp} {ty : TypeId} (h : fn.results = #[.cell p ty]) (tmps : Array Value) (P : Program) (w : World) :
    (results fn tmps).run P w = ((asAddr (tmps.getD p undef)).run P w).andThen fun a w₁ => (loadVar ty a).run P w₁ := by
  simp only [results, h]
  simp [Sem.run_bind, Result.andThen]
def zER : List Value := [.int .i64 0, .int .i64 0, .string { data := #[] }, .slice none 0 0]
theorem iES : (Tryd.prog.info? 32).map (·.size) = some 4 := by kernel_rfl
theorem iER : (Tryd.prog.info? 40).map (·.size) = some 4 := by kernel_rfl
theorem inER : (Tryd.prog.info? 40).map (fun i => (i.zero, i.size, i.bytes)) = some (some (.agg zER.toArray), 4, 56) := by kernel_rfl
theorem uER : Tryd.prog.underlying 38 = some (.slice 40) := by kernel_rfl
theorem run_es {W : World} {b o : Nat} {x y z v : Value} (h : ∀ (j : Nat) (u : Value), [x, y, z, v][j]? = some u → W.cell? ⟨b, o + j, none⟩ = some u) : (loadVar 32 ⟨b, o, none⟩).run Tryd.prog W = .ok (.agg #[x, y, z, v]) W :=
  run_loadVar_mid W b o 32 [x, y, z, v] _ h Tryd.underlying32 rfl (by rw [iES]; rfl)
theorem run_er {W : World} {b o : Nat} {x y z v : Value} (h : ∀ (j : Nat) (u : Value), [x, y, z, v][j]? = some u → W.cell? ⟨b, o + j, none⟩ = some u) : (loadVar 40 ⟨b, o, none⟩).run Tryd.prog W = .ok (.agg #[x, y, z, v]) W :=
  run_loadVar_mid W b o 40 [x, y, z, v] _ h Tryd.underlying40 rfl (by rw [iER]; rfl)
theorem cl_at0 {W : World} {b : Nat} {l : List Value} (h : CL W b l) : ∀ (j : Nat) (u : Value), l[j]? = some u → W.cell? ⟨b, 0 + j, none⟩ = some u := fun j u e => by rw [Nat.zero_add]; exact h.c j u e
theorem oneR {k n : Int} {s : ByteArray} {p : Option Addr} {m c : Nat} : ([.int .i64 k, .int .i64 n, .string s, .slice p m c] : List Value).toArray.all (·.oneCell') = true := all_oneCell_toArray (by simp [Value.oneCell'])
theorem oneR' {k n : Int} {s : ByteArray} {p : Option Addr} {m c : Nat} : ∀ u ∈ ([.int .i64 k, .int .i64 n, .string s, .slice p m c] : List Value), u.oneCell' = true := by simp [Value.oneCell']
theorem TC.shapeR {w : World} {P : Nat → Prop} {e : TypeId} {t : Tr} {l : List Value} (h : TC w P e t l) : ∃ k n s p m c, l = [.int .i64 k, .int .i64 n, .string s, .slice p m c] := by
  cases t
  unfold TC at h
  obtain ⟨_, _, _, a, xs, h4, h5, _⟩ := h
  obtain ⟨p, c, rfl, -⟩ := own_slice h5.1
  exact ⟨_, _, _, _, _, _, h4⟩
theorem run_store_sleR {w : World} {b o : Nat} (hc : (w.cell? ⟨b, o, none⟩).isSome = true) (hz : w.frozen? ⟨b, o, none⟩ = false) (p : Option Addr) (m c : Nat) : (storeVar 38 ⟨b, o, none⟩ (.slice p m c)).run Tryd.prog w = .ok () (w.setCell ⟨b, o, none⟩ (.slice p m c)) := by
  obtain ⟨u, hu⟩ := Option.isSome_iff_exists.1 hc
  go_simp
theorem wpList_store_sleR {w : World} {ops : Array Oper} {rest : List Oper} {o : Oper} {a : Act} {Q : Exit → Act → World → Prop} (hgd : o.guard = none) (hd : o.dst = none) (x y : Operand) (ho : o.op = .store 38 x y) (b off : Nat) (hx : a.eval x = .pointer (some ⟨b, off, none⟩)) (p : Option Addr) (m c : Nat) (hy : a.eval y = .slice p m c)
    {l : List Value} (hB : CL w b l) (hl : off < l.length) (h : ∀ w1, CL w1 b (l.set off (.slice p m c)) → Keeps (fun k => k = b) w w1 → w1.heap.size = w.heap.size → wpList Tryd.prog ops Q rest a w1) : wpList Tryd.prog ops Q (o :: rest) a w :=
  wpList_plain hgd fun _ hK => by
    unfold Oper.wp execOp
    simp only [ho, hx, hy, Instr.storeAt, Instr.sureAddr, Sem.run_bind, Sem.run_pure, Result.andThen_ok, run_store_sleR (by rw [hB.c off _ (List.getElem?_eq_getElem hl)]; rfl) (hB.z off hl) p m c]
    refine hK _ _ ?_
    have e : a.put o.dst undef = a := by rw [hd]; rfl
    rw [e]
    exact h _ (hB.set hl _) ((Keeps.refl (fun k => k = b) w).setCell (p := ⟨b, off, none⟩) (fun _ => rfl) _) (by simp)
/-- Expressions on their way, all of them from a block on. -/
structure AcE (B : Nat) (W : World) (acc : List Tr) (i : Nat) (p : Option Addr) (c : Nat) (xs : List Value) : Prop where
  o : OwnP W (fun g => B ≤ g) 40 4 (.slice p i c) i xs
  x : TL W (fun g => B ≤ g ∧ ∀ b, (Value.slice p i c).ownBlock = some b → g ≠ b) 40 acc xs
theorem AcE.keep {B : Nat} {W W1 : World} {acc : List Tr} {i : Nat} {p : Option Addr} {c : Nat} {xs : List Value} {S : Nat → Prop} (e : AcE B W acc i p c xs) (k : Keeps S W W1) (h : ∀ i, B ≤ i → i < W.heap.size → ¬ S i) : AcE B W1 acc i p c xs :=
  ⟨e.o.stay (k.stay (fun i h1 h2 => h i h1 h2)), e.x.stay (k.stay (fun i h1 h2 => h i h1.1 h2))⟩
theorem AcE.nil (B : Nat) (W : World) : AcE B W [] 0 none 0 [] := ⟨⟨⟨by simp, .inl ⟨rfl, rfl⟩⟩, fun g hg => by cases hg⟩, by unfold TL; rfl⟩
theorem AcE.add {B : Nat} {W : World} {acc : List Tr} {i : Nat} {p : Option Addr} {c : Nat} {xs : List Value} (e : AcE B W acc i p c xs) (hB : B ≤ W.heap.size) (hi : i ≤ 1048576) {t : Tr} {L : List Value} (V : TC W (fun g => B ≤ g ∧ ∀ b, (Value.slice p i c).ownBlock = some b → g ≠ b) 40 t L) (hL : L.length = 4) (h1 : ∀ u ∈ L, u.oneCell' = true) :
    ∃ p' c' w', (Builtin.append_ #[38, 38] 38 #[.slice p i c, .slice (some ⟨W.heap.size, 0, none⟩) 1 1]).run Tryd.prog (W.alloc (.cells L.toArray 40)) = .ok (.slice p' (i + 1) c') w' ∧ AcE B w' (acc ++ [t]) (i + 1) p' c' (xs ++ L) ∧ Keeps (fun g => (Value.slice p i c).ownBlock = some g) W w' := by
  obtain ⟨v', w', hr, ho, kk, hb⟩ := append_sz uER inER rfl (by decide) e.o.1 (Nat.zero_le _) (by decide) (by omega) L hL h1
  obtain ⟨p', c', rfl, -⟩ := own_slice ho
  have hlo : ∀ b, (Value.slice p i c).ownBlock = some b → b < W.heap.size := fun b hb => owns_lt' e.o.1 b hb
  have hge : ∀ b, (Value.slice p i c).ownBlock = some b → B ≤ b := fun b hb => e.o.2 b hb
  refine ⟨p', c', w', hr, ⟨⟨ho, fun g hg => ?_⟩, TL.snoc ((V.lt.stay (kk.stay (fun g hg _ q => hg.1.2 g q rfl))).mono fun g hg => ⟨hg.1.1, fun b hb' => ?_⟩) ((e.x.lt.stay (kk.stay (fun g hg _ q => hg.1.2 g q rfl))).mono fun g hg => ⟨hg.1.1, fun b hb' => ?_⟩)⟩, kk⟩
  · rcases hb with hb | hb
    · rw [hb] at hg; exact hge g hg
    · rw [hb] at hg; cases hg; show B ≤ W.heap.size + 1; omega
  · rcases hb with hb | hb
    · rw [hb] at hb'; exact hg.1.2 b hb'
    · rw [hb] at hb'; cases hb'; have := hg.2; omega
  · rcases hb with hb | hb
    · rw [hb] at hb'; exact hg.1.2 b hb'
    · rw [hb] at hb'; cases hb'; have := hg.2; omega
theorem take_snoc {α : Type} {l : List α} {i : Nat} {a : α} (h : l[i]? = some a) : l.take (i + 1) = l.take i ++ [a] := by
  rw [List.take_add_one, h]; rfl
theorem bgA : ∀ (l : List Tr) (i : Nat) (t : Tr), l[i]? = some t → bgE t ≤ bgL l
  | [], i, t, h => by cases h
  | a :: r, 0, t, h => by
    injection h with h; subst h
    unfold bgL; omega
  | a :: r, i + 1, t, h => by
    have := bgA r i t h
    unfold bgL; omega
/-- What stands in a round. -/
structure BxI (w : World) (l : List Value) (k n : Int) (s : ByteArray) (ps : List Tr) (W : World) (i : Nat) (p : Option Addr) (c : Nat) (ys : List Value) : Prop where
  kp : Keeps (fun _ => False) w W
  b1 : CL W w.heap.size l
  b2 : CL W (w.heap.size + 1) zER
  b3 : CL W (w.heap.size + 1 + 1) [.int .i64 k, .int .i64 n, .string s, .slice p i c]
  z : w.heap.size + 3 ≤ W.heap.size
  ac : AcE (w.heap.size + 3) W (ps.take i) i p c ys
def BxE (t : Tr) : Prop := ∀ (w : World) (P : Nat → Prop) (l : List Value), TC w P 32 t l → Calls Tryd.prog 15 #[.agg l.toArray] w fun e w' => ∃ l', e = .returned (.agg l'.toArray) ∧ TC w' (fun g => w.heap.size ≤ g) 40 t l' ∧ Keeps (fun _ => False) w w'
set_option maxHeartbeats 1000000 in
set_option maxRecDepth 100000 in
theorem bx_all : ∀ (n : Nat) (t : Tr), bgE t ≤ n → n ≤ 1048576 → BxE t
  | 0, t, h, _ => absurd h (by have := bgE_pos t; omega)
  | n + 1, .mk k m wd ps, h, hn => by
    have IH := fun t (ht : bgE t ≤ n) => bx_all n t ht (by omega)
    intro w P l ht
    unfold TC at ht
    obtain ⟨hk, hm, hw, a, xs, rfl, ho, hx⟩ := ht
    obtain ⟨p, c, rfl, hget, -, -⟩ := own_slice ho.1
    obtain ⟨N, hN⟩ : ∃ N, N = ps.length := ⟨_, rfl⟩
    have hbg : bgL ps ≤ n := by unfold bgE at h; omega
    have hNn : N ≤ n := by have := bgL_len ps; omega
    clear h
    have HN : Hid (N = ps.length) := hN
    rw [← hN]
    clear hN
    obtain ⟨s, hs⟩ : ∃ s, s = bs wd := ⟨_, rfl⟩
    have HS : Hid (s = bs wd) := hs
    rw [← hs]
    clear hs
    have hxl := hx.len
    go_enter Tryd.func15, Tryd.ntmps15
    have q1 : CL ((w.alloc (.cells #[.int .i64 k, .int .i64 m, .string s, .slice p N c] 32)).alloc (.cells zER.toArray 40)) w.heap.size [.int .i64 k, .int .i64 m, .string s, .slice p N c] := (CL.made w [.int .i64 k, .int .i64 m, .string s, .slice p N c] 32).alloc (by show 0 < 4; decide) _
    have q2 : CL ((w.alloc (.cells #[.int .i64 k, .int .i64 m, .string s, .slice p N c] 32)).alloc (.cells zER.toArray 40)) (w.heap.size + 1) zER := by
      have := CL.made (w.alloc (.cells #[.int .i64 k, .int .i64 m, .string s, .slice p N c] 32)) zER 40
      simpa using this
    have kA : Keeps (fun _ => False) w ((w.alloc (.cells #[.int .i64 k, .int .i64 m, .string s, .slice p N c] 32)).alloc (.cells zER.toArray 40)) := ((Keeps.refl _ w).alloc _).alloc _
    obtain ⟨W1, hW1⟩ : ∃ W1, W1 = (w.alloc (.cells #[.int .i64 k, .int .i64 m, .string s, .slice p N c] 32)).alloc (.cells zER.toArray 40) := ⟨_, rfl⟩
    have z1 : W1.heap.size = w.heap.size + 1 + 1 := by rw [hW1]; simp
    rw [← hW1] at q1 q2 kA
    have HW : Hid (_ = _) := hW1
    clear hW1
    have y0 := q1.c 0 _ rfl
    have y1 := q1.c 1 _ rfl
    have y2 := q1.c 2 _ rfl
    refine wp_seq_k (fun KK hKK => ?_)
    have hKH : Hid _ := hKK
    clear hKK
    go_wp2_with fail
    rw [← show W1 = (w.alloc (.cells #[.int .i64 k, .int .i64 m, .string s, .slice p N c] 32)).alloc (.cells #[.int .i64 0, .int .i64 0, .string { data := #[] }, .slice none 0 0] 40) from HW.out]
    refine hKH.out _ _ ?_
    clear hKH KK HW
    go_wp2_with fail
    obtain ⟨w3, hw3⟩ : ∃ w3, w3 = W1.alloc (.cells #[.int .i64 k, .int .i64 m, .string s, .slice none 0 0] 40) := ⟨_, rfl⟩
    have Z3 : w3.heap.size = w.heap.size + 3 := by rw [hw3, World.size_alloc, z1]
    have hb3' : CL w3 (w.heap.size + 1 + 1) [.int .i64 k, .int .i64 m, .string s, .slice none 0 0] := by rw [← z1, hw3]; exact CL.made W1 _ _
    have k13 : Keeps (fun _ => False) W1 w3 := by rw [hw3]; exact (Keeps.refl _ W1).alloc _
    rw [← hw3]
    clear hw3
    have B0 : BxI w [.int .i64 k, .int .i64 m, .string s, .slice p N c] k m s ps w3 0 none 0 [] := ⟨kA.trans k13, q1.keep (by show 0 < 4; decide) k13 (fun e => e), q2.keep (by show 0 < 4; decide) k13 (fun e => e), hb3', by omega, by rw [List.take_zero]; exact AcE.nil _ _⟩
    clear hb3' k13 q1 q2 kA y0 y1 y2 Z3 z1
    go_loopw [4] (fun iv Wr => ∃ (i : Nat) (p' : Option Addr) (c' : Nat) (ys : List Value), iv = .int .i64 (i : Int) ∧ i ≤ N ∧ BxI w [.int .i64 k, .int .i64 m, .string s, .slice p N c] k m s ps Wr i p' c' ys) (fun iv _ => N - (intOf iv).toNat)
    case atStart => exact ⟨0, none, 0, [], rfl, Nat.zero_le _, B0⟩
    case round =>
      clear B0
      obtain ⟨i, p', c', ys, rfl, hi, hB⟩ := hrel
      have y3 := hB.b1.c 3 _ rfl
      have x3 := hB.b3.c 3 _ rfl
      by_cases hlt : i < N
      · have d1 : decide ((i : Int) < (N : Int)) = true := decide_eq_true (by omega)
        have d2 : decide (i < N) = true := decide_eq_true hlt
        have i0 : (0 : Int) ≤ (i : Int) := by omega
        have i1 : (i : Int) < (N : Int) := by omega
        have i2 : (i : Int) + 1 ≤ 9223372036854775807 := by omega
        have hip : i < ps.length := by rw [← HN.out]; exact hlt
        obtain ⟨t, htt⟩ : ∃ t, t = ps[i] := ⟨_, rfl⟩
        have hgt : ps[i]? = some t := by rw [htt]; exact List.getElem?_eq_getElem hip
        have htk : Hid (ps.take (i + 1) = ps.take i ++ [t]) := take_snoc hgt
        have hbt : bgE t ≤ n := Nat.le_trans (bgA ps i t hgt) hbg
        obtain ⟨us, hty, hyc⟩ := hx.at i t hgt
        obtain ⟨k2, n2, s2, p2, m2, c2, rfl⟩ := hty.shapeR
        obtain ⟨g, rfl, -⟩ := hget (i * 4) _ (hyc 0 _ rfl)
        have hq : ∀ (j : Nat) (u : Value), [Value.int .i64 k2, .int .i64 n2, .string s2, .slice p2 m2 c2][j]? = some u → wr.cell? ⟨g, i * 4 + j, none⟩ = some u := fun j u e => by
          obtain ⟨g', eg, h6⟩ := hget _ _ (hyc j u e)
          injection eg with eg; injection eg with eg _ _; subst eg
          exact hB.kp.cell h6 (fun e => e)
        have hR1 := run_es hq
        have hP := IH t hbt wr _ _ (hty.lt.stay (hB.kp.stay (fun _ _ _ e => e)))
        clear hq hyc hgt htt hip
        refine wp_seq_k (fun KK hKK => ?_)
        have hKH : Hid _ := hKK
        clear hKK
        go_wp2_with fail
        refine hKH.out _ _ ?_
        clear hKH KK
        refine wp_seq_k (fun KK hKK => ?_)
        have hKH : Hid _ := hKK
        clear hKK
        refine wp_block ?_
        refine wp_seq_k (fun K2 hK2 => ?_)
        have hKI : Hid _ := hK2
        clear hK2
        go_wp2_with (first | (refine wpList_load_runL rfl 32 _ rfl ⟨g, i * 4, none⟩ rfl _ hR1 ?_; clear hR1) | (go_at_call 15; refine hP.mono ?_; clear hP; rintro e w1 ⟨l', rfl, V1, k1⟩; obtain ⟨k4, n4, s4, p4, m4, c4, rfl⟩ := V1.shapeR; have z4 := k1.size))
        refine hKI.out _ _ ?_
        clear hKI K2
        obtain ⟨w5, hw5⟩ : ∃ w5, w5 = w1.alloc (.cells #[.int .i64 k4, .int .i64 n4, .string s4, .slice p4 m4 c4] 40) := ⟨_, rfl⟩
        have hb5' : CL w5 w1.heap.size [.int .i64 k4, .int .i64 n4, .string s4, .slice p4 m4 c4] := by rw [hw5]; exact CL.made w1 _ _
        have k15 : Keeps (fun _ => False) w1 w5 := by rw [hw5]; exact (Keeps.refl _ w1).alloc _
        rw [← hw5]
        clear hw5
        have kr5 := k1.trans k15
        have z5 := hB.z
        have C3 := hB.b3.keep (by show 0 < 4; decide) kr5 (fun e => e)
        have A5 := hB.ac.keep kr5 (fun _ _ _ e => e)
        have zz6 := kr5.size
        obtain ⟨p6, c6, w6, hr6, A6, k6⟩ := A5.add (by omega) (by omega) ((V1.stay (k15.stay (fun _ _ _ e => e))).mono (fun g hg => ⟨by omega, fun b hb => by have := owns_lt' hB.ac.o.1 b hb; omega⟩)) rfl oneR'
        have C36 : CL w6 (w.heap.size + 1 + 1) [.int .i64 k, .int .i64 m, .string s, .slice p' i c'] := C3.keep (by show 0 < 4; decide) k6 (fun e => by have := hB.ac.o.2 _ e; omega)
        have kw6 : Keeps (fun _ => False) w w6 := (hB.kp.trans kr5).trans' k6 (fun _ _ e => e) (fun j hj e => by have := hB.ac.o.2 _ e; omega)
        have hlo : ∀ b, (Value.slice p' i c').ownBlock = some b → w.heap.size + 3 ≤ b := fun b hb => hB.ac.o.2 _ hb
        have HX : Hid (CL w6 w.heap.size [.int .i64 k, .int .i64 m, .string s, .slice (some ⟨g, 0, none⟩) N c] ∧ CL w6 (w.heap.size + 1) zER ∧ w.heap.size + 3 ≤ w6.heap.size) := ⟨(hB.b1.keep (by show 0 < 4; decide) kr5 (fun e => e)).keep (by show 0 < 4; decide) k6 (fun e => by have := hlo _ e; omega), (hB.b2.keep (by show 0 < 4; decide) kr5 (fun e => e)).keep (by show 0 < 4; decide) k6 (fun e => by have := hlo _ e; omega), by have := k6.size; omega⟩
        have x3' := C3.c 3 _ rfl
        clear x3 y3 V1 A5 C3 z4 z5 zz6 hlo
        go_wp2_with (first | (refine wpList_load_runL rfl 40 _ rfl ⟨w1.heap.size, 0, none⟩ rfl _ (run_er (cl_at0 hb5')) ?_) | (refine wpList_build1L uER inER (by decide) (by decide) rfl _ rfl [_, _, _, _] rfl rfl ?_; (try simp only [Act.put, List.setIfInBounds_toArray, List.set_cons_zero, List.set_cons_succ])) | (refine wpList_append_tL rfl _ _ 38 rfl _ _ _ w6 rfl rfl hr6 ?_; clear hr6) | (refine wpList_store_sleR rfl rfl _ _ rfl (w.heap.size + 1 + 1) 3 rfl p6 (i + 1) c6 rfl C36 (by show 3 < 4; decide) ?_; intro w7 hb7 k7 zz7))
        refine hKH.out _ _ ?_
        clear hKH KK
        have hb7' : CL w7 (w.heap.size + 1 + 1) [.int .i64 k, .int .i64 m, .string s, .slice p6 (i + 1) c6] := hb7
        have B7 : BxI w [.int .i64 k, .int .i64 m, .string s, .slice (some ⟨g, 0, none⟩) N c] k m s ps w7 (i + 1) p6 c6 (ys ++ [.int .i64 k4, .int .i64 n4, .string s4, .slice p4 m4 c4]) := ⟨kw6.trans' k7 (fun _ _ e => e) (fun j hj e => by omega), HX.out.1.keep (by show 0 < 4; decide) k7 (fun e => by omega), HX.out.2.1.keep (by show 0 < 4; decide) k7 (fun e => by omega), hb7', by have := HX.out.2.2; omega, by rw [htk.out]; exact A6.keep k7 (fun j h1 _ e => by omega)⟩
        go_wp2_with fail
        go_roundw
        case rel => exact ⟨i + 1, p6, c6, _, by go_num, by omega, B7⟩
        case measure => simp [intOf]; omega
      · obtain rfl : i = N := by omega
        have d1 : decide ((i : Int) < (i : Int)) = false := decide_eq_false (by omega)
        have d2 : decide (i < i) = false := decide_eq_false (by omega)
        have hb3 := hB.b3
        have hb2 := hB.b2
        go_wp2_with (first | (refine wpList_load_runL rfl 40 _ rfl ⟨w.heap.size + 1 + 1, 0, none⟩ rfl _ (run_er (cl_at0 hb3)) ?_) | (refine wpList_store_cl rfl 40 _ _ rfl (w.heap.size + 1) 0 4 _ rfl rfl rfl hb2 (by show 4 ≤ 4; decide) iER oneR ?_; intro w9 hc9 k9 zz9; clear zz9))
        have hc9' : CL w9 (w.heap.size + 1) [.int .i64 k, .int .i64 m, .string s, .slice p' i c'] := hc9
        have hrn := run_er (cl_at0 hc9')
        have hrel9 := hB.ac.keep k9 (fun j h1 _ e => by omega)
        refine bodyPost_ret (v := .agg #[.int .i64 k, .int .i64 m, .string s, .slice p' i c']) (by rw [results_cell1' rfl]; simp [asAddr, hrn]) rfl ?_
        have ep : ps.take i = ps := by rw [HN.out]; exact List.take_length
        refine ⟨[.int .i64 k, .int .i64 m, .string s, .slice p' i c'], rfl, ?_, hB.kp.trans' k9 (fun _ _ e => e) (fun j hj e => by omega)⟩
        unfold TC
        rw [HS.out]
        have x9 := hrel9.x
        rw [ep] at x9
        refine ⟨hk, hm, hw, .slice p' i c', ys, rfl, ?_, x9.mono (fun g hg => by have := hg.1; omega)⟩
        have o9 := hrel9.o.mono (P' := fun g => w.heap.size ≤ g) (fun g hg => by omega)
        rw [← HN.out]
        exact o9
theorem takes_loadR {P : Program} {w : World} {o : Oper} {a : Act} (ty : TypeId) (x : Operand) (ho : o.op = .load ty x) (ad : Addr) (hx : a.eval x = .pointer (some ad)) {v : Value} (hr : (loadVar ty ad).run P w = .ok v w) : (execOp a.eval o).run P w = .ok (.value v) w := by
  unfold execOp
  simp only [ho, hx, Instr.loadAt, Instr.sureAddr, Sem.run_bind, Sem.run_pure, Result.andThen_ok, hr]
def SxE (t : Tr) : Prop := ∀ (w : World) (l l' : List Value), IE w t l → IE w t l' → Calls Tryd.prog 14 #[.agg l.toArray, .agg l'.toArray] w fun e w' => e = .returned (.bool true) ∧ Keeps (fun _ => False) w w'
/-- What stands in a round. -/
structure SxI (w : World) (l l' : List Value) (W : World) : Prop where
  kp : Keeps (fun _ => False) w W
  b1 : CL W w.heap.size l
  b2 : CL W (w.heap.size + 1) l'
set_option maxHeartbeats 1000000 in
set_option maxRecDepth 100000 in
theorem sx_all : ∀ (n : Nat) (t : Tr), bgE t ≤ n → n ≤ 1048576 → SxE t
  | 0, t, h, _ => absurd h (by have := bgE_pos t; omega)
  | n + 1, .mk k m wd ps, h, hn => by
    have IH := fun t (ht : bgE t ≤ n) => sx_all n t ht (by omega)
    intro w l l' ht ht'
    unfold IE at ht ht'
    obtain ⟨-, -, -, p, c, xs, rfl, hget, hx⟩ := ht
    obtain ⟨-, -, -, p', c', xs', rfl, hget', hx'⟩ := ht'
    obtain ⟨N, hN⟩ : ∃ N, N = ps.length := ⟨_, rfl⟩
    have hbg : bgL ps ≤ n := by unfold bgE at h; omega
    have hNn : N ≤ n := by have := bgL_len ps; omega
    clear h
    have HN : Hid (N = ps.length) := hN
    rw [← hN]
    clear hN
    obtain ⟨s, hs⟩ : ∃ s, s = bs wd := ⟨_, rfl⟩
    rw [← hs]
    clear hs
    have e1 : (s.toList != s.toList) = false := by simp
    have e2 : (k != k) = false := by simp
    have e3 : (m != m) = false := by simp
    have e4 : ((N : Int) != (N : Int)) = false := by simp
    go_enter Tryd.func14, Tryd.ntmps14
    obtain ⟨W1, hW1⟩ : ∃ W1, W1 = (w.alloc (.cells #[.int .i64 k, .int .i64 m, .string s, .slice p N c] 40)).alloc (.cells #[.int .i64 k, .int .i64 m, .string s, .slice p' N c'] 40) := ⟨_, rfl⟩
    have q1 : CL W1 w.heap.size [.int .i64 k, .int .i64 m, .string s, .slice p N c] := by rw [hW1]; exact (CL.made w [.int .i64 k, .int .i64 m, .string s, .slice p N c] 40).alloc (by show 0 < 4; decide) _
    have q2 : CL W1 (w.heap.size + 1) [.int .i64 k, .int .i64 m, .string s, .slice p' N c'] := by
      have := CL.made (w.alloc (.cells #[.int .i64 k, .int .i64 m, .string s, .slice p N c] 40)) [.int .i64 k, .int .i64 m, .string s, .slice p' N c'] 40
      rw [hW1]
      simpa using this
    have kA : Keeps (fun _ => False) w W1 := by rw [hW1]; exact ((Keeps.refl _ w).alloc _).alloc _
    have HW : Hid (_ = _) := hW1
    clear hW1
    refine wp_seq_k (fun KK hKK => ?_)
    have hKH : Hid _ := hKK
    clear hKK
    go_wp2_with fail
    rw [← HW.out]
    refine hKH.out _ _ ?_
    clear hKH KK HW
    have S0 : SxI w [.int .i64 k, .int .i64 m, .string s, .slice p N c] [.int .i64 k, .int .i64 m, .string s, .slice p' N c'] W1 := ⟨kA, q1, q2⟩
    have y0 := q1.c 0 _ rfl
    have y1 := q1.c 1 _ rfl
    have y2 := q1.c 2 _ rfl
    have y3 := q1.c 3 _ rfl
    have x0 := q2.c 0 _ rfl
    have x1 := q2.c 1 _ rfl
    have x2 := q2.c 2 _ rfl
    have x3 := q2.c 3 _ rfl
    clear q1 q2 kA
    go_wp2_with fail
    clear y0 y1 y2 y3 x0 x1 x2 x3 e1 e2 e3 e4
    go_loopw [5] (fun iv Wr => ∃ (i : Nat), iv = .int .i64 (i : Int) ∧ i ≤ N ∧ SxI w [.int .i64 k, .int .i64 m, .string s, .slice p N c] [.int .i64 k, .int .i64 m, .string s, .slice p' N c'] Wr) (fun iv _ => N - (intOf iv).toNat)
    case atStart => exact ⟨0, rfl, Nat.zero_le _, S0⟩
    case round =>
      clear S0
      obtain ⟨i, rfl, hi, hB⟩ := hrel
      have y3 := hB.b1.c 3 _ rfl
      have x3 := hB.b2.c 3 _ rfl
      by_cases hlt : i < N
      · have d1 : decide ((i : Int) < (N : Int)) = true := decide_eq_true (by omega)
        have d2 : decide (i < N) = true := decide_eq_true hlt
        have i0 : (0 : Int) ≤ (i : Int) := by omega
        have i1 : (i : Int) < (N : Int) := by omega
        have i2 : (i : Int) + 1 ≤ 9223372036854775807 := by omega
        have hip : i < ps.length := by rw [← HN.out]; exact hlt
        obtain ⟨t, htt⟩ : ∃ t, t = ps[i] := ⟨_, rfl⟩
        have hgt : ps[i]? = some t := by rw [htt]; exact List.getElem?_eq_getElem hip
        have hbt : bgE t ≤ n := Nat.le_trans (bgA ps i t hgt) hbg
        obtain ⟨us, hty, hyc⟩ := hx.at i t hgt
        obtain ⟨vs, hty', hyc'⟩ := hx'.at i t hgt
        obtain ⟨k2, n2, s2, p2, m2, c2, rfl⟩ := hty.shapeR
        obtain ⟨k3, n3, s3, p3, m3, c3, rfl⟩ := hty'.shapeR
        obtain ⟨g, og, rfl, -⟩ := hget (i * 4) _ (hyc 0 _ rfl)
        obtain ⟨g', og', rfl, -⟩ := hget' (i * 4) _ (hyc' 0 _ rfl)
        have hq1 : ∀ (j : Nat) (u : Value), [Value.int .i64 k2, .int .i64 n2, .string s2, .slice p2 m2 c2][j]? = some u → wr.cell? ⟨g, og + i * 4 + j, none⟩ = some u := fun j u e => by
          obtain ⟨g1, o1, eg, h6⟩ := hget _ _ (hyc j u e)
          injection eg with eg; injection eg with eg eo _; subst eg eo
          rw [Nat.add_assoc]
          exact hB.kp.cell h6 (fun e => e)
        have hq2 : ∀ (j : Nat) (u : Value), [Value.int .i64 k3, .int .i64 n3, .string s3, .slice p3 m3 c3][j]? = some u → wr.cell? ⟨g', og' + i * 4 + j, none⟩ = some u := fun j u e => by
          obtain ⟨g1, o1, eg, h6⟩ := hget' _ _ (hyc' j u e)
          injection eg with eg; injection eg with eg eo _; subst eg eo
          rw [Nat.add_assoc]
          exact hB.kp.cell h6 (fun e => e)
        have kd : Keeps (fun _ => False) w wr.drew := hB.kp.trans (Keeps.refl _ wr).drew
        have hP := IH t hbt wr.drew _ _ (hty.keep kd) (hty'.keep kd)
        clear hyc hyc' hgt htt hip kd
        refine wp_seq_k (fun KK hKK => ?_)
        have hKH : Hid _ := hKK
        clear hKK
        go_wp2_with fail
        refine hKH.out _ _ ?_
        clear hKH KK
        refine wp_seq_k (fun KK hKK => ?_)
        have hKH : Hid _ := hKK
        clear hKK
        refine wp_block ?_
        go_wp2_with fail
        refine wp_region_held_drew (S := fun w' => Keeps (fun _ => False) wr w') (by kernel_rfl) (Keeps.refl _ wr).drew (fun hHeld => ?_)
        refine wpAnyH_take (i := 0) (v := ?_) rfl (by kernel_rfl) (by kernel_rfl) (by kernel_rfl) (fun _ _ _ h => h) (Or.inl ⟨by rfl, ?_⟩) (by assumption) ?_
        rotate_left
        · intro wx hSw; have p3 := hSw.cell y3 (fun e => e); have q3 := hSw.cell x3 (fun e => e); clear hSw; go_simp <;> with_reducible rfl
        (try simp only [List.getElem_toArray]); (try simp only [List.getElem_cons_succ]); (try simp only [List.getElem_cons_zero]); (try simp only [Act.put]); (try simp only [List.setIfInBounds_toArray]); (repeat first | simp only [List.set_cons_succ] | simp only [List.set_cons_zero])
        refine wpAnyH_take (i := 1) (v := ?_) rfl (by kernel_rfl) (by kernel_rfl) (by kernel_rfl) (fun _ _ _ h => h) (Or.inl ⟨by rfl, ?_⟩) (by assumption) ?_
        rotate_left
        · intro wx hSw; have p3 := hSw.cell y3 (fun e => e); have q3 := hSw.cell x3 (fun e => e); clear hSw; go_simp <;> with_reducible rfl
        (try simp only [List.getElem_toArray]); (try simp only [List.getElem_cons_succ]); (try simp only [List.getElem_cons_zero]); (try simp only [Act.put]); (try simp only [List.setIfInBounds_toArray]); (repeat first | simp only [List.set_cons_succ] | simp only [List.set_cons_zero])
        refine wpAnyH_take (i := 2) (v := ?_) rfl (by kernel_rfl) (by kernel_rfl) (by kernel_rfl) (fun _ _ _ h => h) (Or.inl ⟨by rfl, ?_⟩) (by assumption) ?_
        rotate_left
        · intro wx hSw; have p3 := hSw.cell y3 (fun e => e); have q3 := hSw.cell x3 (fun e => e); clear hSw; go_simp <;> with_reducible rfl
        (try simp only [List.getElem_toArray]); (try simp only [List.getElem_cons_succ]); (try simp only [List.getElem_cons_zero]); (try simp only [Act.put]); (try simp only [List.setIfInBounds_toArray]); (repeat first | simp only [List.set_cons_succ] | simp only [List.set_cons_zero])
        refine wpAnyH_take (i := 3) (v := ?_) rfl (by kernel_rfl) (by kernel_rfl) (by kernel_rfl) (fun _ _ _ h => h) (Or.inl ⟨by rfl, ?_⟩) (by assumption) ?_
        rotate_left
        · intro wx hSw; have p3 := hSw.cell y3 (fun e => e); have q3 := hSw.cell x3 (fun e => e); clear hSw; go_simp <;> with_reducible rfl
        (try simp only [List.getElem_toArray]); (try simp only [List.getElem_cons_succ]); (try simp only [List.getElem_cons_zero]); (try simp only [Act.put]); (try simp only [List.setIfInBounds_toArray]); (repeat first | simp only [List.set_cons_succ] | simp only [List.set_cons_zero])
        refine wpAnyH_take (i := 4) (v := .agg #[.int .i64 k2, .int .i64 n2, .string s2, .slice p2 m2 c2]) rfl (by kernel_rfl) (by kernel_rfl) (by kernel_rfl) (fun _ _ _ h => h) (Or.inl ⟨by rfl, ?_⟩) (by assumption) ?_
        · intro wx hSw; exact takes_loadR 40 _ rfl ⟨g, og + i * 4, none⟩ rfl (run_er (fun j v e => Keeps.cell (S := fun _ => False) hSw (hq1 j v e) (fun e => e)))
        (try simp only [List.getElem_toArray]); (try simp only [List.getElem_cons_succ]); (try simp only [List.getElem_cons_zero]); (try simp only [Act.put]); (try simp only [List.setIfInBounds_toArray]); (repeat first | simp only [List.set_cons_succ] | simp only [List.set_cons_zero])
        refine wpAnyH_take (i := 5) (v := ?_) rfl (by kernel_rfl) (by kernel_rfl) (by kernel_rfl) (fun _ _ _ h => h) (Or.inl ⟨by rfl, ?_⟩) (by assumption) ?_
        rotate_left
        · intro wx hSw; have p3 := hSw.cell y3 (fun e => e); have q3 := hSw.cell x3 (fun e => e); clear hSw; go_simp <;> with_reducible rfl
        (try simp only [List.getElem_toArray]); (try simp only [List.getElem_cons_succ]); (try simp only [List.getElem_cons_zero]); (try simp only [Act.put]); (try simp only [List.setIfInBounds_toArray]); (repeat first | simp only [List.set_cons_succ] | simp only [List.set_cons_zero])
        refine wpAnyH_take (i := 6) (v := ?_) rfl (by kernel_rfl) (by kernel_rfl) (by kernel_rfl) (fun _ _ _ h => h) (Or.inl ⟨by rfl, ?_⟩) (by assumption) ?_
        rotate_left
        · intro wx hSw; have p3 := hSw.cell y3 (fun e => e); have q3 := hSw.cell x3 (fun e => e); clear hSw; go_simp <;> with_reducible rfl
        (try simp only [List.getElem_toArray]); (try simp only [List.getElem_cons_succ]); (try simp only [List.getElem_cons_zero]); (try simp only [Act.put]); (try simp only [List.setIfInBounds_toArray]); (repeat first | simp only [List.set_cons_succ] | simp only [List.set_cons_zero])
        refine wpAnyH_take (i := 7) (v := ?_) rfl (by kernel_rfl) (by kernel_rfl) (by kernel_rfl) (fun _ _ _ h => h) (Or.inl ⟨by rfl, ?_⟩) (by assumption) ?_
        rotate_left
        · intro wx hSw; have p3 := hSw.cell y3 (fun e => e); have q3 := hSw.cell x3 (fun e => e); clear hSw; go_simp <;> with_reducible rfl
        (try simp only [List.getElem_toArray]); (try simp only [List.getElem_cons_succ]); (try simp only [List.getElem_cons_zero]); (try simp only [Act.put]); (try simp only [List.setIfInBounds_toArray]); (repeat first | simp only [List.set_cons_succ] | simp only [List.set_cons_zero])
        refine wpAnyH_take (i := 8) (v := ?_) rfl (by kernel_rfl) (by kernel_rfl) (by kernel_rfl) (fun _ _ _ h => h) (Or.inl ⟨by rfl, ?_⟩) (by assumption) ?_
        rotate_left
        · intro wx hSw; have p3 := hSw.cell y3 (fun e => e); have q3 := hSw.cell x3 (fun e => e); clear hSw; go_simp <;> with_reducible rfl
        (try simp only [List.getElem_toArray]); (try simp only [List.getElem_cons_succ]); (try simp only [List.getElem_cons_zero]); (try simp only [Act.put]); (try simp only [List.setIfInBounds_toArray]); (repeat first | simp only [List.set_cons_succ] | simp only [List.set_cons_zero])
        refine wpAnyH_take (i := 9) (v := .agg #[.int .i64 k3, .int .i64 n3, .string s3, .slice p3 m3 c3]) rfl (by kernel_rfl) (by kernel_rfl) (by kernel_rfl) (fun _ _ _ h => h) (Or.inl ⟨by rfl, ?_⟩) (by assumption) ?_
        · intro wx hSw; exact takes_loadR 40 _ rfl ⟨g', og' + i * 4, none⟩ rfl (run_er (fun j v e => Keeps.cell (S := fun _ => False) hSw (hq2 j v e) (fun e => e)))
        (try simp only [List.getElem_toArray]); (try simp only [List.getElem_cons_succ]); (try simp only [List.getElem_cons_zero]); (try simp only [Act.put]); (try simp only [List.setIfInBounds_toArray]); (repeat first | simp only [List.set_cons_succ] | simp only [List.set_cons_zero])
        refine wpAnyH_one 10 (by kernel_rfl) rfl rfl ?_
        refine wp_call2 14 _ _ rfl _ _ rfl rfl (fun _ _ => rfl) (hP.mono ?_)
        rintro e w1 ⟨rfl, k1⟩
        have k01 : Keeps (fun _ => False) wr w1 := (Keeps.refl _ wr).drew.trans k1
        refine ⟨_, rfl, k01, fun hS1 => ?_⟩
        (try simp only [List.getElem_toArray]); (try simp only [List.getElem_cons_succ]); (try simp only [List.getElem_cons_zero]); (try simp only [Act.put]); (try simp only [List.setIfInBounds_toArray]); (repeat first | simp only [List.set_cons_succ] | simp only [List.set_cons_zero])
        refine wpAnyH_take (i := 11) (v := ?_) rfl (by kernel_rfl) (by kernel_rfl) (by kernel_rfl) (fun _ _ _ h => h) (Or.inl ⟨by rfl, ?_⟩) (by assumption) ?_
        rotate_left
        · intro wx hSw; clear hSw; go_simp <;> with_reducible rfl
        (try simp only [List.getElem_toArray]); (try simp only [List.getElem_cons_succ]); (try simp only [List.getElem_cons_zero]); (try simp only [Act.put]); (try simp only [List.setIfInBounds_toArray]); (repeat first | simp only [List.set_cons_succ] | simp only [List.set_cons_zero])
        refine wpAnyH_done (by kernel_rfl) ?_ _
        have B7 : SxI w [.int .i64 k, .int .i64 m, .string s, .slice (some ⟨g, og, none⟩) N c] [.int .i64 k, .int .i64 m, .string s, .slice (some ⟨g', og', none⟩) N c'] w1 := ⟨hB.kp.trans hS1, hB.b1.keep (by show 0 < 4; decide) hS1 (fun e => e), hB.b2.keep (by show 0 < 4; decide) hS1 (fun e => e)⟩
        clear hq1 hq2
        go_wp2_with fail
        refine hKH.out _ _ ?_
        clear hKH KK
        go_wp2_with fail
        go_roundw
        case rel => exact ⟨i + 1, by go_num, by omega, B7⟩
        case measure => simp [intOf]; omega
      · obtain rfl : i = N := by omega
        have d1 : decide ((i : Int) < (i : Int)) = false := decide_eq_false (by omega)
        have d2 : decide (i < i) = false := decide_eq_false (by omega)
        go_wp2_with fail
        go_ret
        exact ⟨rfl, hB.kp⟩
def zSR : List Value := [.int .i64 0, .string { data := #[] }, .int .i64 0, .int .i64 0, .string { data := #[] }, .slice none 0 0, .int .i64 0, .int .i64 0, .string { data := #[] }, .slice none 0 0, .slice none 0 0, .slice none 0 0]
theorem iSS : (Tryd.prog.info? 34).map (·.size) = some 12 := by kernel_rfl
theorem iRS : (Tryd.prog.info? 42).map (·.size) = some 12 := by kernel_rfl
theorem inRS : (Tryd.prog.info? 42).map (fun i => (i.zero, i.size, i.bytes)) = some (some (.agg zSR.toArray), 12, 184) := by kernel_rfl
theorem uRS : Tryd.prog.underlying 22 = some (.slice 42) := by kernel_rfl
theorem run_ss {W : World} {b o : Nat} {L : List Value} (hl : L.length = 12) (h : ∀ (j : Nat) (u : Value), L[j]? = some u → W.cell? ⟨b, o + j, none⟩ = some u) : (loadVar 34 ⟨b, o, none⟩).run Tryd.prog W = .ok (.agg L.toArray) W :=
  run_loadVar_mid W b o 34 L _ h Tryd.underlying34 rfl (by rw [iSS, hl])
theorem run_rs {W : World} {b o : Nat} {L : List Value} (hl : L.length = 12) (h : ∀ (j : Nat) (u : Value), L[j]? = some u → W.cell? ⟨b, o + j, none⟩ = some u) : (loadVar 42 ⟨b, o, none⟩).run Tryd.prog W = .ok (.agg L.toArray) W :=
  run_loadVar_mid W b o 42 L _ h Tryd.underlying42 rfl (by rw [iRS, hl])
theorem one12N {a k1 n1 k2 n2 : Int} {s s1 s2 : ByteArray} {p1 p2 p3 p4 : Option Addr} {m1 c1 m2 c2 m3 c3 m4 c4 : Nat} : ([.int .i64 a, .string s, .int .i64 k1, .int .i64 n1, .string s1, .slice p1 m1 c1, .int .i64 k2, .int .i64 n2, .string s2, .slice p2 m2 c2, .slice p3 m3 c3, .slice p4 m4 c4] : List Value).toArray.all (·.oneCell') = true := all_oneCell_toArray (by simp [Value.oneCell'])
theorem one12N' {a k1 n1 k2 n2 : Int} {s s1 s2 : ByteArray} {p1 p2 p3 p4 : Option Addr} {m1 c1 m2 c2 m3 c3 m4 c4 : Nat} : ∀ u ∈ ([.int .i64 a, .string s, .int .i64 k1, .int .i64 n1, .string s1, .slice p1 m1 c1, .int .i64 k2, .int .i64 n2, .string s2, .slice p2 m2 c2, .slice p3 m3 c3, .slice p4 m4 c4] : List Value), u.oneCell' = true := by simp [Value.oneCell']
/-- A store of many cells in a drawn region; the world behind it is a letter. -/
theorem wpAnyH_storeR {P : Program} {ops : Array Oper} {Q : Exit → Act → World → Prop} {md : Region.Mode} {S : World → Prop} {fuel : Nat} {listed : Array Bool} {a : Act} {w : World} {o : Oper} (i : Nat) (hr : Region.ready md ops listed = [i]) (hoi : ops[i]? = some o) (hgd : o.guard = none)
    (ty : TypeId) (x y : Operand) (ho : o.op = .store ty x y) (b n : Nat) (cells : Array Value) (hx : a.eval x = .pointer (some ⟨b, 0, none⟩)) (hy : a.eval y = .agg cells) (hn : cells.size = n) {l : List Value} (hC : CL w b l) (hl : l.length = n) (hi : (P.info? ty).map (·.size) = some n) (h1 : cells.all (·.oneCell') = true)
    (hS : ∀ w1, Keeps (fun k => k = b) w w1 → S w1) (h : ∀ w1, CL w1 b cells.toList → Keeps (fun k => k = b) w w1 → S w1 → wpAnyH P md ops Q S fuel (listed.setIfInBounds i true) (a.put o.dst undef) w1) : wpAnyH P md ops Q S (fuel + 1) listed a w := by
  have kk : Keeps (fun k => k = b) w (w.setCells b 0 cells.toList) := (Keeps.refl _ w).setsA _ _
  have cc : CL (w.setCells b 0 cells.toList) b cells.toList := by
    have h2 := hC.sets (o := 0) (vs := cells.toList) (by simp; omega)
    have e : sets l 0 cells.toList = cells.toList := by
      unfold sets
      rw [List.take_zero, List.nil_append, List.drop_eq_nil_of_le (by simp; omega), List.append_nil]
    rw [e] at h2
    exact h2
  exact wpAnyH_store i hr hoi hgd ty x y ho b 0 n cells hx hy hn (hC.there (by omega)) hi h1 (hS _ kk) (fun hs => h _ cc kk hs)
theorem run_store_slR {w : World} {b o : Nat} (hc : (w.cell? ⟨b, o, none⟩).isSome = true) (hz : w.frozen? ⟨b, o, none⟩ = false) (p : Option Addr) (m c : Nat) : (storeVar 22 ⟨b, o, none⟩ (.slice p m c)).run Tryd.prog w = .ok () (w.setCell ⟨b, o, none⟩ (.slice p m c)) := by
  obtain ⟨u, hu⟩ := Option.isSome_iff_exists.1 hc
  go_simp
theorem wpList_store_slR {w : World} {ops : Array Oper} {rest : List Oper} {o : Oper} {a : Act} {Q : Exit → Act → World → Prop} (hgd : o.guard = none) (hd : o.dst = none) (x y : Operand) (ho : o.op = .store 22 x y) (b off : Nat) (hx : a.eval x = .pointer (some ⟨b, off, none⟩)) (p : Option Addr) (m c : Nat) (hy : a.eval y = .slice p m c)
    {l : List Value} (hB : CL w b l) (hl : off < l.length) (h : ∀ w1, CL w1 b (l.set off (.slice p m c)) → Keeps (fun k => k = b) w w1 → w1.heap.size = w.heap.size → wpList Tryd.prog ops Q rest a w1) : wpList Tryd.prog ops Q (o :: rest) a w :=
  wpList_plain hgd fun _ hK => by
    unfold Oper.wp execOp
    simp only [ho, hx, hy, Instr.storeAt, Instr.sureAddr, Sem.run_bind, Sem.run_pure, Result.andThen_ok, run_store_slR (by rw [hB.c off _ (List.getElem?_eq_getElem hl)]; rfl) (hB.z off hl) p m c]
    refine hK _ _ ?_
    have e : a.put o.dst undef = a := by rw [hd]; rfl
    rw [e]
    exact h _ (hB.set hl _) ((Keeps.refl (fun k => k = b) w).setCell (p := ⟨b, off, none⟩) (fun _ => rfl) _) (by simp)
/-- Statements on their way, all of them from a block on. -/
structure AcS (B : Nat) (W : World) (acc : List St) (i : Nat) (p : Option Addr) (c : Nat) (xs : List Value) : Prop where
  o : OwnP W (fun g => B ≤ g) 42 12 (.slice p i c) i xs
  x : SL W (fun g => B ≤ g ∧ ∀ b, (Value.slice p i c).ownBlock = some b → g ≠ b) 40 42 acc xs
theorem AcS.keep {B : Nat} {W W1 : World} {acc : List St} {i : Nat} {p : Option Addr} {c : Nat} {xs : List Value} {S : Nat → Prop} (e : AcS B W acc i p c xs) (k : Keeps S W W1) (h : ∀ i, B ≤ i → i < W.heap.size → ¬ S i) : AcS B W1 acc i p c xs :=
  ⟨e.o.stay (k.stay (fun i h1 h2 => h i h1 h2)), e.x.stay (k.stay (fun i h1 h2 => h i h1.1 h2))⟩
theorem AcS.nil (B : Nat) (W : World) : AcS B W [] 0 none 0 [] := ⟨⟨⟨by simp, .inl ⟨rfl, rfl⟩⟩, fun g hg => by cases hg⟩, by unfold SL; rfl⟩
theorem AcS.add {B : Nat} {W : World} {acc : List St} {i : Nat} {p : Option Addr} {c : Nat} {xs : List Value} (e : AcS B W acc i p c xs) (hB : B ≤ W.heap.size) (hi : i ≤ 1048576) {t : St} {L : List Value} (V : SC W (fun g => B ≤ g ∧ ∀ b, (Value.slice p i c).ownBlock = some b → g ≠ b) 40 42 t L) (hL : L.length = 12) (h1 : ∀ u ∈ L, u.oneCell' = true) :
    ∃ p' c' w', (Builtin.append_ #[22, 22] 22 #[.slice p i c, .slice (some ⟨W.heap.size, 0, none⟩) 1 1]).run Tryd.prog (W.alloc (.cells L.toArray 42)) = .ok (.slice p' (i + 1) c') w' ∧ AcS B w' (acc ++ [t]) (i + 1) p' c' (xs ++ L) ∧ Keeps (fun g => (Value.slice p i c).ownBlock = some g) W w' := by
  obtain ⟨v', w', hr, ho, kk, hb⟩ := append_sz uRS inRS rfl (by decide) e.o.1 (Nat.zero_le _) (by decide) (by omega) L hL h1
  obtain ⟨p', c', rfl, -⟩ := own_slice ho
  have hlo : ∀ b, (Value.slice p i c).ownBlock = some b → b < W.heap.size := fun b hb => owns_lt' e.o.1 b hb
  have hge : ∀ b, (Value.slice p i c).ownBlock = some b → B ≤ b := fun b hb => e.o.2 b hb
  refine ⟨p', c', w', hr, ⟨⟨ho, fun g hg => ?_⟩, SL.snoc ((V.lt.stay (kk.stay (fun g hg _ q => hg.1.2 g q rfl))).mono fun g hg => ⟨hg.1.1, fun b hb' => ?_⟩) ((e.x.lt.stay (kk.stay (fun g hg _ q => hg.1.2 g q rfl))).mono fun g hg => ⟨hg.1.1, fun b hb' => ?_⟩)⟩, kk⟩
  · rcases hb with hb | hb
    · rw [hb] at hg; exact hge g hg
    · rw [hb] at hg; cases hg; show B ≤ W.heap.size + 1; omega
  · rcases hb with hb | hb
    · rw [hb] at hb'; exact hg.1.2 b hb'
    · rw [hb] at hb'; cases hb'; have := hg.2; omega
  · rcases hb with hb | hb
    · rw [hb] at hb'; exact hg.1.2 b hb'
    · rw [hb] at hb'; cases hb'; have := hg.2; omega
theorem bgSA : ∀ (l : List St) (i : Nat) (t : St), l[i]? = some t → bgS t ≤ bgSL l
  | [], i, t, h => by cases h
  | a :: r, 0, t, h => by
    injection h with h; subst h
    unfold bgSL; omega
  | a :: r, i + 1, t, h => by
    have := bgSA r i t h
    unfold bgSL; omega
/-- A statement in memory, part by part. -/
theorem SC.parts {w : World} {P : Nat → Prop} {e s' : TypeId} {k : Int} {wd : Bs} {a b : Tr} {th el : List St} {L : List Value} (h : SC w P e s' (.mk k wd a b th el) L) : I64 k ∧ wd.length ≤ 140737488355328 ∧ ∃ (ka na : Int) (sa : ByteArray) (pa : Option Addr) (ma ca : Nat) (kb nb : Int) (sb : ByteArray) (pb : Option Addr) (mb cb : Nat) (pt : Option Addr) (ct : Nat) (pe : Option Addr) (ce : Nat) (xt xe : List Value),
    L = [.int .i64 k, .string (bs wd), .int .i64 ka, .int .i64 na, .string sa, .slice pa ma ca, .int .i64 kb, .int .i64 nb, .string sb, .slice pb mb cb, .slice pt th.length ct, .slice pe el.length ce] ∧ TC w P e a [.int .i64 ka, .int .i64 na, .string sa, .slice pa ma ca] ∧ TC w P e b [.int .i64 kb, .int .i64 nb, .string sb, .slice pb mb cb] ∧ OwnP w P s' 12 (.slice pt th.length ct) th.length xt ∧ SL w P e s' th xt ∧ OwnP w P s' 12 (.slice pe el.length ce) el.length xe ∧ SL w P e s' el xe := by
  unfold SC at h
  obtain ⟨h1, h2, la, lb, tv, ev, xs, ys, h3, h4, h5, h6, h7, h8, h9⟩ := h
  obtain ⟨ka, na, sa, pa, ma, ca, rfl⟩ := h4.shapeR
  obtain ⟨kb, nb, sb, pb, mb, cb, rfl⟩ := h5.shapeR
  obtain ⟨pt, ct, rfl, -⟩ := own_slice h6.1
  obtain ⟨pe, ce, rfl, -⟩ := own_slice h8.1
  exact ⟨h1, h2, ka, na, sa, pa, ma, ca, kb, nb, sb, pb, mb, cb, pt, ct, pe, ce, xs, ys, h3, h4, h5, h6, h7, h8, h9⟩
theorem SC.join {w : World} {P : Nat → Prop} {e s' : TypeId} {k : Int} {wd : Bs} {a b : Tr} {th el : List St} {ka na : Int} {sa : ByteArray} {pa : Option Addr} {ma ca : Nat} {kb nb : Int} {sb : ByteArray} {pb : Option Addr} {mb cb : Nat} {pt : Option Addr} {ct : Nat} {pe : Option Addr} {ce : Nat} {xt xe : List Value}
    (h1 : I64 k) (h2 : wd.length ≤ 140737488355328) (h3 : TC w P e a [.int .i64 ka, .int .i64 na, .string sa, .slice pa ma ca]) (h4 : TC w P e b [.int .i64 kb, .int .i64 nb, .string sb, .slice pb mb cb]) (h5 : OwnP w P s' 12 (.slice pt th.length ct) th.length xt) (h6 : SL w P e s' th xt) (h7 : OwnP w P s' 12 (.slice pe el.length ce) el.length xe) (h8 : SL w P e s' el xe) :
    SC w P e s' (.mk k wd a b th el) [.int .i64 k, .string (bs wd), .int .i64 ka, .int .i64 na, .string sa, .slice pa ma ca, .int .i64 kb, .int .i64 nb, .string sb, .slice pb mb cb, .slice pt th.length ct, .slice pe el.length ce] := by
  unfold SC
  exact ⟨h1, h2, _, _, _, _, xt, xe, rfl, h3, h4, h5, h6, h7, h8⟩
/-- What stands in a round. -/
structure BkI (w : World) (l : List St) (W : World) (i : Nat) (p : Option Addr) (c : Nat) (ys : List Value) : Prop where
  kp : Keeps (fun _ => False) w W
  ac : AcS w.heap.size W (l.take i) i p c ys
def BkL (l : List St) : Prop := ∀ (w : World) (P : Nat → Prop) (p : Option Addr) (c : Nat) (xs : List Value), OwnP w P 34 12 (.slice p l.length c) l.length xs → SL w P 32 34 l xs → Calls Tryd.prog 8 #[.slice p l.length c] w fun e w' => ∃ (p' : Option Addr) (c' : Nat) (xs' : List Value), e = .returned (.slice p' l.length c') ∧ OwnP w' (fun g => w.heap.size ≤ g) 42 12 (.slice p' l.length c') l.length xs' ∧ SL w' (fun g => w.heap.size ≤ g) 40 42 l xs' ∧ Keeps (fun _ => False) w w'
set_option maxHeartbeats 1500000 in
set_option maxRecDepth 100000 in
theorem bk_all : ∀ (n : Nat) (l : List St), bgSL l < n → n ≤ 1048576 → BkL l
  | 0, l, h, _ => absurd h (by omega)
  | n + 1, l, h, hn => by
    have IH := fun l (ht : bgSL l < n) => bk_all n l ht (by omega)
    intro w P p c xs ho hx
    obtain ⟨p0, c0, e0, hget, -, -⟩ := own_slice ho.1
    injection e0 with e1 _ e3
    subst e1 e3
    obtain ⟨N, hN⟩ : ∃ N, N = l.length := ⟨_, rfl⟩
    have hNn : N ≤ n := by have := bgSL_len l; omega
    clear ho
    have HN : Hid (N = l.length) := hN
    rw [← hN]
    clear hN
    have B0 : BkI w l w 0 none 0 [] := ⟨Keeps.refl _ w, by rw [List.take_zero]; exact AcS.nil _ _⟩
    go_enter Tryd.func8, Tryd.ntmps8
    go_wp2_with fail
    go_loopw [3, 4] (fun v iv Wr => ∃ (i : Nat) (p' : Option Addr) (c' : Nat) (ys : List Value), v = .slice p' i c' ∧ iv = .int .i64 (i : Int) ∧ i ≤ N ∧ BkI w l Wr i p' c' ys) (fun _ iv _ => N - (intOf iv).toNat)
    case atStart => exact ⟨0, none, 0, [], rfl, rfl, Nat.zero_le _, B0⟩
    case round =>
      clear B0
      obtain ⟨i, p', c', ys, rfl, rfl, hi, hB⟩ := hrel
      by_cases hlt : i < N
      · have d1 : decide ((i : Int) < (N : Int)) = true := decide_eq_true (by omega)
        have d2 : decide (i < N) = true := decide_eq_true hlt
        have i0 : (0 : Int) ≤ (i : Int) := by omega
        have i1 : (i : Int) < (N : Int) := by omega
        have i2 : (i : Int) + 1 ≤ 9223372036854775807 := by omega
        have hip : i < l.length := by rw [← HN.out]; exact hlt
        obtain ⟨t, htt⟩ : ∃ t, t = l[i] := ⟨_, rfl⟩
        have hgt : l[i]? = some t := by rw [htt]; exact List.getElem?_eq_getElem hip
        have htk : Hid (l.take (i + 1) = l.take i ++ [t]) := take_snoc hgt
        have hbt : bgS t ≤ bgSL l := bgSA l i t hgt
        obtain ⟨us, hty, hyc⟩ := hx.at i t hgt
        clear hgt htt hip
        obtain ⟨k, wd, a, b, th, el⟩ := t
        unfold bgS at hbt
        obtain ⟨hk, hw, ka, na, sa, pa, ma, ca, kb, nb, sb, pb, mb, cb, pt, ct, pe, ce, xt, xe, rfl, Ta, Tb, ot, xt1, oe, xe1⟩ := hty.parts
        clear hty
        obtain ⟨s, hs⟩ : ∃ s, s = bs wd := ⟨_, rfl⟩
        rw [← hs] at hyc
        have HS : Hid (s = bs wd) := hs
        clear hs
        obtain ⟨g, rfl, -⟩ := hget (i * 12) _ (hyc 0 _ rfl)
        have hq : ∀ (j : Nat) (u : Value), ([.int .i64 k, .string s, .int .i64 ka, .int .i64 na, .string sa, .slice pa ma ca, .int .i64 kb, .int .i64 nb, .string sb, .slice pb mb cb, .slice pt th.length ct, .slice pe el.length ce] : List Value)[j]? = some u → wr.cell? ⟨g, i * 12 + j, none⟩ = some u := fun j u e => by
          obtain ⟨g', eg, h6⟩ := hget _ _ (hyc j u e)
          injection eg with eg; injection eg with eg _ _; subst eg
          exact hB.kp.cell h6 (fun e => e)
        have hR1 := run_ss rfl hq
        clear hq hyc
        refine wp_seq_k (fun KK hKK => ?_)
        have hKH : Hid _ := hKK
        clear hKK
        go_wp2_with fail
        refine hKH.out _ _ ?_
        clear hKH KK
        refine wp_seq_k (fun KK hKK => ?_)
        have hKH : Hid _ := hKK
        clear hKK
        refine wp_block ?_
        refine wp_seq_k (fun K2 hK2 => ?_)
        have hKI : Hid _ := hK2
        clear hK2
        go_wp2_with (refine wpList_load_runL rfl 34 _ rfl ⟨g, i * 12, none⟩ rfl _ hR1 ?_; clear hR1)
        refine hKI.out _ _ ?_
        clear hKI K2
        obtain ⟨w5, hw5⟩ : ∃ w5, w5 = wr.alloc (.cells #[.int .i64 k, .string s, .int .i64 ka, .int .i64 na, .string sa, .slice pa ma ca, .int .i64 kb, .int .i64 nb, .string sb, .slice pb mb cb, .slice pt th.length ct, .slice pe el.length ce] 34) := ⟨_, rfl⟩
        have hb5 : CL w5 wr.heap.size [.int .i64 k, .string s, .int .i64 ka, .int .i64 na, .string sa, .slice pa ma ca, .int .i64 kb, .int .i64 nb, .string sb, .slice pb mb cb, .slice pt th.length ct, .slice pe el.length ce] := by rw [hw5]; exact CL.made wr _ _
        have k5 : Keeps (fun _ => False) wr w5 := by rw [hw5]; exact (Keeps.refl _ wr).alloc _
        have z5 : w5.heap.size = wr.heap.size + 1 := by rw [hw5, World.size_alloc]
        rw [← hw5]
        clear hw5
        have kw5 := hB.kp.trans k5
        have y0 := hb5.c 0 _ rfl
        have y1 := hb5.c 1 _ rfl
        have qa : ∀ (j : Nat) (u : Value), [Value.int .i64 ka, .int .i64 na, .string sa, .slice pa ma ca][j]? = some u → w5.cell? ⟨wr.heap.size, 2 + j, none⟩ = some u := fun j u e => by
          refine hb5.c (2 + j) u ?_
          rw [← List.getElem?_drop]
          have hj := (List.getElem?_eq_some_iff.1 e).1
          rw [← e]
          exact List.getElem?_append_left (l₂ := [.int .i64 kb, .int .i64 nb, .string sb, .slice pb mb cb, .slice pt th.length ct, .slice pe el.length ce]) hj
        have qb : ∀ (j : Nat) (u : Value), [Value.int .i64 kb, .int .i64 nb, .string sb, .slice pb mb cb][j]? = some u → w5.cell? ⟨wr.heap.size, 6 + j, none⟩ = some u := fun j u e => by
          refine hb5.c (6 + j) u ?_
          rw [← List.getElem?_drop]
          have hj := (List.getElem?_eq_some_iff.1 e).1
          rw [← e]
          exact List.getElem?_append_left (l₂ := [.slice pt th.length ct, .slice pe el.length ce]) hj
        have hPa : ∀ W, Keeps (fun _ => False) w5 W → _ := fun W kW => bx_all n a (by omega) (by omega) W _ _ (Ta.lt.stay ((kw5.trans kW).stay (fun _ _ _ e => e)))
        have hPb : ∀ W, Keeps (fun _ => False) w5 W → _ := fun W kW => bx_all n b (by omega) (by omega) W _ _ (Tb.lt.stay ((kw5.trans kW).stay (fun _ _ _ e => e)))
        refine wp_seq_k (fun K2 hK2 => ?_)
        have rest : ∀ (b6 : Nat) (w6 : World) (ka2 na2 : Int) (sa2 : ByteArray) (pa2 : Option Addr) (ma2 ca2 : Nat) (kb2 nb2 : Int) (sb2 : ByteArray) (pb2 : Option Addr) (mb2 cb2 : Nat), CL w6 b6 [.int .i64 k, .string s, .int .i64 ka2, .int .i64 na2, .string sa2, .slice pa2 ma2 ca2, .int .i64 kb2, .int .i64 nb2, .string sb2, .slice pb2 mb2 cb2, .slice none 0 0, .slice none 0 0] → wr.heap.size < b6 → b6 < w6.heap.size → Keeps (fun _ => False) w5 w6 → TC w6 (fun g => wr.heap.size < g ∧ g ≠ b6) 40 a [.int .i64 ka2, .int .i64 na2, .string sa2, .slice pa2 ma2 ca2] → TC w6 (fun g => wr.heap.size < g ∧ g ≠ b6) 40 b [.int .i64 kb2, .int .i64 nb2, .string sb2, .slice pb2 mb2 cb2] → K2 { tmps := #[.slice (some ⟨g, 0, none⟩) N c, undef, .slice none 0 0, .slice p' i c', .int .i64 (i : Int), .pointer (some ⟨wr.heap.size, 0, none⟩), .pointer (some ⟨b6, 0, none⟩), .int .i64 (i : Int), .slice (some ⟨g, 0, none⟩) N c, .int .i64 (N : Int), .bool true, u11, u12, .slice (some ⟨g, 0, none⟩) N c, .int .i64 (i : Int), .pointer (some ⟨g, i * 12, none⟩), .agg #[.int .i64 k, .string s, .int .i64 ka, .int .i64 na, .string sa, .slice pa ma ca, .int .i64 kb, .int .i64 nb, .string sb, .slice pb mb cb, .slice pt th.length ct, .slice pe el.length ce], .pointer (some ⟨wr.heap.size, 0, none⟩), .int .i64 k, .pointer (some ⟨wr.heap.size, 1, none⟩), .string s, .pointer (some ⟨wr.heap.size, 2, none⟩), .agg #[.int .i64 ka, .int .i64 na, .string sa, .slice pa ma ca], .agg #[.int .i64 ka2, .int .i64 na2, .string sa2, .slice pa2 ma2 ca2], .pointer (some ⟨wr.heap.size, 6, none⟩), .agg #[.int .i64 kb, .int .i64 nb, .string sb, .slice pb mb cb], .agg #[.int .i64 kb2, .int .i64 nb2, .string sb2, .slice pb2 mb2 cb2], .agg #[.int .i64 k, .string s, .int .i64 ka2, .int .i64 na2, .string sa2, .slice pa2 ma2 ca2, .int .i64 kb2, .int .i64 nb2, .string sb2, .slice pb2 mb2 cb2, .slice none 0 0, .slice none 0 0], u28, u29, u30, u31, u32, u33, u34, u35, u36, u37, u38, u39, undef], defers := [] } w6 := by
          intro b6 w6 ka2 na2 sa2 pa2 ma2 ca2 kb2 nb2 sb2 pb2 mb2 cb2 hb6' zv z6 k56 Va6 Vb6
          have hKI : Hid _ := hK2
          clear hK2
          refine hKI.out _ _ ?_
          clear hKI hPa hPb qa qb y0 y1
          have kw6 := kw5.trans k56
          have hb56 := hb5.keep (by show 0 < 12; decide) k56 (fun e => e)
          have y10 := hb56.c 10 _ rfl
          clear hb5
          have hP7 := IH th (by omega) w6 _ pt ct _ (ot.lt.stay (kw6.stay (fun _ _ _ e => e))) (xt1.lt.stay (kw6.stay (fun _ _ _ e => e)))
          refine wp_seq_k (fun K3 hK3 => ?_)
          have hKI : Hid _ := hK3
          clear hK3
          go_wp2_with (first | (go_at_call 8; refine hP7.mono ?_; clear hP7; rintro e w7 ⟨p7, c7, x7, rfl, O7, X7, k7⟩; have hb7 := hb6'.keep (by show 0 < 12; decide) k7 (fun e => e)) | (refine wpList_store_slR rfl rfl _ _ rfl b6 10 rfl p7 th.length c7 rfl hb7 (by show 10 < 12; decide) ?_; intro w8 hb8 k8 zz8))
          refine hKI.out _ _ ?_
          clear hKI
          have hb8' : CL w8 b6 [.int .i64 k, .string s, .int .i64 ka2, .int .i64 na2, .string sa2, .slice pa2 ma2 ca2, .int .i64 kb2, .int .i64 nb2, .string sb2, .slice pb2 mb2 cb2, .slice p7 th.length c7, .slice none 0 0] := hb8
          have z7 := k7.size
          have z8 := k8.size
          have O8 := O7.stay (k8.stay (fun g hg _ e => by have : w6.heap.size ≤ g := hg; omega))
          have X8 := X7.stay (k8.stay (fun g hg _ e => by have : w6.heap.size ≤ g := hg; omega))
          have K8 : Keeps (fun g => g = b6) w6 w8 := (k7.mono (fun _ _ e => e.elim)).trans k8
          have kw8 : Keeps (fun _ => False) w w8 := kw6.trans' K8 (fun _ _ e => e) (fun g hg e => by have := hB.kp.size; omega)
          have y11 := (hb56.keep (by show 0 < 12; decide) K8 (fun e => by omega)).c 11 _ rfl
          clear hb8 hb7 hb6' hb56 O7 X7 k7 k8 zz8 y10
          have hP9 := IH el (by omega) w8 _ pe ce _ (oe.lt.stay (kw8.stay (fun _ _ _ e => e))) (xe1.lt.stay (kw8.stay (fun _ _ _ e => e)))
          refine wp_seq_k (fun K4 hK4 => ?_)
          have hKI : Hid _ := hK4
          clear hK4
          go_wp2_with (first | (go_at_call 8; refine hP9.mono ?_; clear hP9; rintro e w9 ⟨p9, c9, x9, rfl, O9, X9, k9⟩; have hb9 := hb8'.keep (by show 0 < 12; decide) k9 (fun e => e)) | (refine wpList_store_slR rfl rfl _ _ rfl b6 11 rfl p9 el.length c9 rfl hb9 (by show 11 < 12; decide) ?_; intro w10 hb10 k10 zz10))
          refine hKI.out _ _ ?_
          clear hKI
          have hb10' : CL w10 b6 [.int .i64 k, .string s, .int .i64 ka2, .int .i64 na2, .string sa2, .slice pa2 ma2 ca2, .int .i64 kb2, .int .i64 nb2, .string sb2, .slice pb2 mb2 cb2, .slice p7 th.length c7, .slice p9 el.length c9] := hb10
          have z9 := k9.size
          have z10 := k10.size
          have O10 := O9.stay (k10.stay (fun g hg _ e => by have : w8.heap.size ≤ g := hg; omega))
          have X10 := X9.stay (k10.stay (fun g hg _ e => by have : w8.heap.size ≤ g := hg; omega))
          have K810 : Keeps (fun g => g = b6) w8 w10 := (k9.mono (fun _ _ e => e.elim)).trans k10
          have K610 := K8.trans K810
          have Kr10 : Keeps (fun g => g = b6) wr w10 := ((k5.trans k56).mono (fun _ _ e => e.elim)).trans K610
          have kw10 : Keeps (fun _ => False) w w10 := kw8.trans' K810 (fun _ _ e => e) (fun g hg e => by have := hB.kp.size; omega)
          have A10 := hB.ac.keep Kr10 (fun g _ hg e => by omega)
          have hown : ∀ b, (Value.slice p' i c').ownBlock = some b → b < wr.heap.size := fun b hb => owns_lt' hB.ac.o.1 b hb
          have zw := hB.kp.size
          have V10 : SC w10 (fun g => w.heap.size ≤ g ∧ ∀ b, (Value.slice p' i c').ownBlock = some b → g ≠ b) 40 42 (.mk k wd a b th el) [.int .i64 k, .string (bs wd), .int .i64 ka2, .int .i64 na2, .string sa2, .slice pa2 ma2 ca2, .int .i64 kb2, .int .i64 nb2, .string sb2, .slice pb2 mb2 cb2, .slice p7 th.length c7, .slice p9 el.length c9] :=
            SC.join hk hw ((Va6.stay (K610.stay (fun g hg _ e => by have := hg.2; omega))).mono (fun g hg => ⟨by have := hg.1; omega, fun b hb => by have := hown b hb; have := hg.1; omega⟩)) ((Vb6.stay (K610.stay (fun g hg _ e => by have := hg.2; omega))).mono (fun g hg => ⟨by have := hg.1; omega, fun b hb => by have := hown b hb; have := hg.1; omega⟩))
              ((O8.stay (K810.stay (fun g hg _ e => by have : w6.heap.size ≤ g := hg; omega))).mono (fun g hg => ⟨by omega, fun b hb => by have := hown b hb; omega⟩)) ((X8.stay (K810.stay (fun g hg _ e => by have : w6.heap.size ≤ g := hg; omega))).mono (fun g hg => ⟨by omega, fun b hb => by have := hown b hb; omega⟩))
              (O10.mono (fun g hg => ⟨by omega, fun b hb => by have := hown b hb; omega⟩)) (X10.mono (fun g hg => ⟨by omega, fun b hb => by have := hown b hb; omega⟩))
          rw [← HS.out] at V10
          obtain ⟨p11, c11, w11, hr11, A11, k11⟩ := A10.add (by omega) (by omega) V10 rfl one12N'
          have kw11 : Keeps (fun _ => False) w w11 := kw10.trans' k11 (fun _ _ e => e) (fun j hj e => by have := hB.ac.o.2 _ e; omega)
          have B11 : BkI w l w11 (i + 1) p11 c11 (ys ++ [.int .i64 k, .string s, .int .i64 ka2, .int .i64 na2, .string sa2, .slice pa2 ma2 ca2, .int .i64 kb2, .int .i64 nb2, .string sb2, .slice pb2 mb2 cb2, .slice p7 th.length c7, .slice p9 el.length c9]) := ⟨kw11, by rw [htk.out]; exact A11⟩
          clear V10 A11 A10 O10 X10 O8 X8 Va6 Vb6 K610 K810 K8 Kr10 hb10 hb9 hb8' k9 k10 zz10 y11 hown kw11 kw10 kw8 kw6
          go_wp2_with (first | (refine wpList_load_runL rfl 42 _ rfl ⟨b6, 0, none⟩ rfl _ (run_rs rfl (cl_at0 hb10')) ?_) | (refine wpList_build1L uRS inRS (by decide) (by decide) rfl _ rfl [.int .i64 k, .string s, .int .i64 ka2, .int .i64 na2, .string sa2, .slice pa2 ma2 ca2, .int .i64 kb2, .int .i64 nb2, .string sb2, .slice pb2 mb2 cb2, .slice p7 th.length c7, .slice p9 el.length c9] rfl rfl ?_; (try simp only [Act.put, List.setIfInBounds_toArray, List.set_cons_zero, List.set_cons_succ])) | (refine wpList_append_tL rfl _ _ 22 rfl _ _ _ w11 rfl rfl hr11 ?_; clear hr11))
          refine hKH.out _ _ ?_
          clear hKH
          go_wp2_with fail
          go_roundw
          case rel => exact ⟨i + 1, p11, c11, _, rfl, by go_num, by omega, B11⟩
          case measure => simp [intOf]; omega
        have restH : Hid _ := rest
        clear rest hK2
        go_wp2_with fail
        refine wp_region_held_drew (S := fun w' => Keeps (fun _ => False) w5 w') (by kernel_rfl) (Keeps.refl _ w5).drew (fun hHeld => ?_)
        refine wpAnyH_take (i := 0) (v := ?_) rfl (by kernel_rfl) (by kernel_rfl) (by kernel_rfl) (fun _ _ _ h => h) (Or.inl ⟨by rfl, ?_⟩) (by assumption) ?_
        rotate_left
        · intro wx hSw; have p0 := hSw.cell y0 (fun e => e); have p1 := hSw.cell y1 (fun e => e); clear hSw; go_simp <;> with_reducible rfl
        (try simp only [List.getElem_toArray]); (try simp only [List.getElem_cons_succ]); (try simp only [List.getElem_cons_zero]); (try simp only [Act.put]); (try simp only [List.setIfInBounds_toArray]); (repeat first | simp only [List.set_cons_succ] | simp only [List.set_cons_zero])
        refine wpAnyH_take (i := 1) (v := ?_) rfl (by kernel_rfl) (by kernel_rfl) (by kernel_rfl) (fun _ _ _ h => h) (Or.inl ⟨by rfl, ?_⟩) (by assumption) ?_
        rotate_left
        · intro wx hSw; have p0 := hSw.cell y0 (fun e => e); have p1 := hSw.cell y1 (fun e => e); clear hSw; go_simp <;> with_reducible rfl
        (try simp only [List.getElem_toArray]); (try simp only [List.getElem_cons_succ]); (try simp only [List.getElem_cons_zero]); (try simp only [Act.put]); (try simp only [List.setIfInBounds_toArray]); (repeat first | simp only [List.set_cons_succ] | simp only [List.set_cons_zero])
        refine wpAnyH_take (i := 2) (v := ?_) rfl (by kernel_rfl) (by kernel_rfl) (by kernel_rfl) (fun _ _ _ h => h) (Or.inl ⟨by rfl, ?_⟩) (by assumption) ?_
        rotate_left
        · intro wx hSw; have p0 := hSw.cell y0 (fun e => e); have p1 := hSw.cell y1 (fun e => e); clear hSw; go_simp <;> with_reducible rfl
        (try simp only [List.getElem_toArray]); (try simp only [List.getElem_cons_succ]); (try simp only [List.getElem_cons_zero]); (try simp only [Act.put]); (try simp only [List.setIfInBounds_toArray]); (repeat first | simp only [List.set_cons_succ] | simp only [List.set_cons_zero])
        refine wpAnyH_take (i := 3) (v := ?_) rfl (by kernel_rfl) (by kernel_rfl) (by kernel_rfl) (fun _ _ _ h => h) (Or.inl ⟨by rfl, ?_⟩) (by assumption) ?_
        rotate_left
        · intro wx hSw; have p0 := hSw.cell y0 (fun e => e); have p1 := hSw.cell y1 (fun e => e); clear hSw; go_simp <;> with_reducible rfl
        (try simp only [List.getElem_toArray]); (try simp only [List.getElem_cons_succ]); (try simp only [List.getElem_cons_zero]); (try simp only [Act.put]); (try simp only [List.setIfInBounds_toArray]); (repeat first | simp only [List.set_cons_succ] | simp only [List.set_cons_zero])
        refine wpAnyH_take (i := 4) (v := ?_) rfl (by kernel_rfl) (by kernel_rfl) (by kernel_rfl) (fun _ _ _ h => h) (Or.inl ⟨by rfl, ?_⟩) (by assumption) ?_
        rotate_left
        · intro wx hSw; have p0 := hSw.cell y0 (fun e => e); have p1 := hSw.cell y1 (fun e => e); clear hSw; go_simp <;> with_reducible rfl
        (try simp only [List.getElem_toArray]); (try simp only [List.getElem_cons_succ]); (try simp only [List.getElem_cons_zero]); (try simp only [Act.put]); (try simp only [List.setIfInBounds_toArray]); (repeat first | simp only [List.set_cons_succ] | simp only [List.set_cons_zero])
        refine wpAnyH_take (i := 5) (v := .agg #[.int .i64 ka, .int .i64 na, .string sa, .slice pa ma ca]) rfl (by kernel_rfl) (by kernel_rfl) (by kernel_rfl) (fun _ _ _ h => h) (Or.inl ⟨by rfl, ?_⟩) (by assumption) ?_
        · intro wx hSw; exact takes_loadR 32 _ rfl ⟨wr.heap.size, 2, none⟩ rfl (run_es (fun j v e => Keeps.cell (S := fun _ => False) hSw (qa j v e) (fun e => e)))
        (try simp only [List.getElem_toArray]); (try simp only [List.getElem_cons_succ]); (try simp only [List.getElem_cons_zero]); (try simp only [Act.put]); (try simp only [List.setIfInBounds_toArray]); (repeat first | simp only [List.set_cons_succ] | simp only [List.set_cons_zero])
        refine wpAnyH_take (i := 7) (v := ?_) rfl (by kernel_rfl) (by kernel_rfl) (by kernel_rfl) (fun _ _ _ h => h) (Or.inl ⟨by rfl, ?_⟩) (by assumption) ?_
        rotate_left
        · intro wx hSw; have p0 := hSw.cell y0 (fun e => e); have p1 := hSw.cell y1 (fun e => e); clear hSw; go_simp <;> with_reducible rfl
        (try simp only [List.getElem_toArray]); (try simp only [List.getElem_cons_succ]); (try simp only [List.getElem_cons_zero]); (try simp only [Act.put]); (try simp only [List.setIfInBounds_toArray]); (repeat first | simp only [List.set_cons_succ] | simp only [List.set_cons_zero])
        refine wpAnyH_take (i := 8) (v := .agg #[.int .i64 kb, .int .i64 nb, .string sb, .slice pb mb cb]) rfl (by kernel_rfl) (by kernel_rfl) (by kernel_rfl) (fun _ _ _ h => h) (Or.inl ⟨by rfl, ?_⟩) (by assumption) ?_
        · intro wx hSw; exact takes_loadR 32 _ rfl ⟨wr.heap.size, 6, none⟩ rfl (run_es (fun j v e => Keeps.cell (S := fun _ => False) hSw (qb j v e) (fun e => e)))
        (try simp only [List.getElem_toArray]); (try simp only [List.getElem_cons_succ]); (try simp only [List.getElem_cons_zero]); (try simp only [Act.put]); (try simp only [List.setIfInBounds_toArray]); (repeat first | simp only [List.set_cons_succ] | simp only [List.set_cons_zero])
        have z0 : w5.drew.heap.size = wr.heap.size + 1 := z5
        refine wpAnyH_two' 6 11 (by kernel_rfl) rfl rfl (by kernel_rfl) (by kernel_rfl) ?_ ?_
        · refine wp_call1 15 _ rfl _ rfl (fun _ _ => rfl) ((hPa w5.drew (Keeps.refl _ w5).drew).mono ?_)
          rintro e v1 ⟨la2, rfl, Va, k1⟩
          obtain ⟨ka2, na2, sa2, pa2, ma2, ca2, rfl⟩ := Va.shapeR
          have k51 : Keeps (fun _ => False) w5 v1 := (Keeps.refl (fun _ => False) w5).drew.trans k1
          refine ⟨_, rfl, k51, fun hS1 => ?_⟩
          (try simp only [List.getElem_toArray]); (try simp only [List.getElem_cons_succ]); (try simp only [List.getElem_cons_zero]); (try simp only [Act.put]); (try simp only [List.setIfInBounds_toArray]); (repeat first | simp only [List.set_cons_succ] | simp only [List.set_cons_zero])
          have zv1 := k1.size
          have hPb2 := hPb v1 k51
          refine wpAnyH_two' 9 11 (by kernel_rfl) rfl rfl (by kernel_rfl) (by kernel_rfl) ?_ ?_
          · refine wp_call1 15 _ rfl _ rfl (fun _ _ => rfl) (hPb2.mono ?_)
            rintro e v2 ⟨lb2, rfl, Vb, k2⟩
            obtain ⟨kb2, nb2, sb2, pb2, mb2, cb2, rfl⟩ := Vb.shapeR
            have k52 : Keeps (fun _ => False) w5 v2 := k51.trans k2
            refine ⟨_, rfl, k52, fun hS2 => ?_⟩
            (try simp only [List.getElem_toArray]); (try simp only [List.getElem_cons_succ]); (try simp only [List.getElem_cons_zero]); (try simp only [Act.put]); (try simp only [List.setIfInBounds_toArray]); (repeat first | simp only [List.set_cons_succ] | simp only [List.set_cons_zero])
            have zv2 := k2.size
            refine wpAnyH_take (i := 10) (v := ?_) rfl (by kernel_rfl) (by kernel_rfl) (by kernel_rfl) (fun _ _ _ h => h) (Or.inl ⟨by rfl, ?_⟩) (by assumption) ?_
            rotate_left
            · intro wx hSw; clear hSw; go_simp <;> with_reducible rfl
            (try simp only [List.getElem_toArray]); (try simp only [List.getElem_cons_succ]); (try simp only [List.getElem_cons_zero]); (try simp only [Act.put]); (try simp only [List.setIfInBounds_toArray]); (repeat first | simp only [List.set_cons_succ] | simp only [List.set_cons_zero])
            have m6 := CL.made v2 zSR 42
            refine wpAnyH_one 11 (by kernel_rfl) rfl rfl ?_
            go_simp
            refine ⟨hS2.alloc _, fun hS3 => ?_⟩
            (try simp only [List.getElem_toArray]); (try simp only [List.getElem_cons_succ]); (try simp only [List.getElem_cons_zero]); (try simp only [Act.put]); (try simp only [List.setIfInBounds_toArray]); (repeat first | simp only [List.set_cons_succ] | simp only [List.set_cons_zero])
            refine wpAnyH_storeR 12 (by kernel_rfl) rfl rfl 42 _ _ rfl (v2.heap.size) 12 _ rfl rfl rfl m6 rfl iRS one12N (fun w1 k => Keeps.trans' (S := fun _ => False) (by assumption) k (fun _ _ e => e) (fun i hi e => by have e : i = v2.heap.size := e; omega)) (fun w6 hb6 k6 hS4 => ?_)
            (try simp only [List.getElem_toArray]); (try simp only [List.getElem_cons_succ]); (try simp only [List.getElem_cons_zero]); (try simp only [Act.put]); (try simp only [List.setIfInBounds_toArray]); (repeat first | simp only [List.set_cons_succ] | simp only [List.set_cons_zero])
            refine wpAnyH_done (by kernel_rfl) ?_ _
            have z6 := k6.size
            (try simp only [World.size_alloc] at z6)
            refine restH.out (v2.heap.size) w6 _ _ _ _ _ _ _ _ _ _ _ _ hb6 (by omega) (by omega) hS4 ?_ ?_
            · exact ((((Va.stay (k2.stay (fun _ _ _ e => e))).lt.stay (((Keeps.refl (fun _ => False) v2).alloc _).stay (fun _ _ _ e => e))).stay (k6.stay (fun g hg _ e => by have := hg.2; omega))).mono (fun g hg => ⟨by have := hg.1; omega, by have := hg.2; omega⟩))
            · exact (((Vb.lt.stay (((Keeps.refl (fun _ => False) v2).alloc _).stay (fun _ _ _ e => e))).stay (k6.stay (fun g hg _ e => by have := hg.2; omega))).mono (fun g hg => ⟨by have := hg.1; omega, by have := hg.2; omega⟩))
          · go_simp
            refine ⟨hS1.alloc _, fun hS2 => ?_⟩
            (try simp only [List.getElem_toArray]); (try simp only [List.getElem_cons_succ]); (try simp only [List.getElem_cons_zero]); (try simp only [Act.put]); (try simp only [List.setIfInBounds_toArray]); (repeat first | simp only [List.set_cons_succ] | simp only [List.set_cons_zero])
            have hPb3 := hPb _ (k51.alloc (.cells #[.int .i64 0, .string { data := #[] }, .int .i64 0, .int .i64 0, .string { data := #[] }, .slice none 0 0, .int .i64 0, .int .i64 0, .string { data := #[] }, .slice none 0 0, .slice none 0 0, .slice none 0 0] 42))
            have m0 : CL (v1.alloc (.cells #[.int .i64 0, .string { data := #[] }, .int .i64 0, .int .i64 0, .string { data := #[] }, .slice none 0 0, .int .i64 0, .int .i64 0, .string { data := #[] }, .slice none 0 0, .slice none 0 0, .slice none 0 0] 42)) v1.heap.size zSR := CL.made v1 zSR 42
            have y1 : Keeps (fun _ => False) v1 (v1.alloc (.cells #[.int .i64 0, .string { data := #[] }, .int .i64 0, .int .i64 0, .string { data := #[] }, .slice none 0 0, .int .i64 0, .int .i64 0, .string { data := #[] }, .slice none 0 0, .slice none 0 0, .slice none 0 0] 42)) := (Keeps.refl _ v1).alloc _
            have y3 : (v1.alloc (.cells #[.int .i64 0, .string { data := #[] }, .int .i64 0, .int .i64 0, .string { data := #[] }, .slice none 0 0, .int .i64 0, .int .i64 0, .string { data := #[] }, .slice none 0 0, .slice none 0 0, .slice none 0 0] 42)).heap.size = v1.heap.size + 1 := World.size_alloc _ _
            have y2 := k51.trans y1
            generalize v1.alloc (.cells #[.int .i64 0, .string { data := #[] }, .int .i64 0, .int .i64 0, .string { data := #[] }, .slice none 0 0, .int .i64 0, .int .i64 0, .string { data := #[] }, .slice none 0 0, .slice none 0 0, .slice none 0 0] 42) = va at *
            refine wpAnyH_one 9 (by kernel_rfl) rfl rfl ?_
            refine wp_call1 15 _ rfl _ rfl (fun _ _ => rfl) (hPb3.mono ?_)
            rintro e v2 ⟨lb2, rfl, Vb, k2⟩
            obtain ⟨kb2, nb2, sb2, pb2, mb2, cb2, rfl⟩ := Vb.shapeR
            have k52 : Keeps (fun _ => False) w5 v2 := y2.trans k2
            refine ⟨_, rfl, k52, fun hS3 => ?_⟩
            (try simp only [List.getElem_toArray]); (try simp only [List.getElem_cons_succ]); (try simp only [List.getElem_cons_zero]); (try simp only [Act.put]); (try simp only [List.setIfInBounds_toArray]); (repeat first | simp only [List.set_cons_succ] | simp only [List.set_cons_zero])
            have zv2 := k2.size
            refine wpAnyH_take (i := 10) (v := ?_) rfl (by kernel_rfl) (by kernel_rfl) (by kernel_rfl) (fun _ _ _ h => h) (Or.inl ⟨by rfl, ?_⟩) (by assumption) ?_
            rotate_left
            · intro wx hSw; clear hSw; go_simp <;> with_reducible rfl
            (try simp only [List.getElem_toArray]); (try simp only [List.getElem_cons_succ]); (try simp only [List.getElem_cons_zero]); (try simp only [Act.put]); (try simp only [List.setIfInBounds_toArray]); (repeat first | simp only [List.set_cons_succ] | simp only [List.set_cons_zero])
            have m6 := m0.keep (by show 0 < 12; decide) k2 (fun e => e)
            refine wpAnyH_storeR 12 (by kernel_rfl) rfl rfl 42 _ _ rfl (v1.heap.size) 12 _ rfl rfl rfl m6 rfl iRS one12N (fun w1 k => Keeps.trans' (S := fun _ => False) (by assumption) k (fun _ _ e => e) (fun i hi e => by have e : i = v1.heap.size := e; omega)) (fun w6 hb6 k6 hS4 => ?_)
            (try simp only [List.getElem_toArray]); (try simp only [List.getElem_cons_succ]); (try simp only [List.getElem_cons_zero]); (try simp only [Act.put]); (try simp only [List.setIfInBounds_toArray]); (repeat first | simp only [List.set_cons_succ] | simp only [List.set_cons_zero])
            refine wpAnyH_done (by kernel_rfl) ?_ _
            have z6 := k6.size
            (try simp only [World.size_alloc] at z6)
            refine restH.out (v1.heap.size) w6 _ _ _ _ _ _ _ _ _ _ _ _ hb6 (by omega) (by omega) hS4 ?_ ?_
            · exact ((((Va.lt.stay (y1.stay (fun _ _ _ e => e))).stay (k2.stay (fun _ _ _ e => e))).stay (k6.stay (fun g hg _ e => by have := hg.2; omega))).mono (fun g hg => ⟨by have := hg.1; omega, by have := hg.2; omega⟩))
            · exact ((Vb.stay (k6.stay (fun g hg _ e => by omega))).mono (fun g hg => ⟨by omega, by omega⟩))
        · go_simp
          refine ⟨hHeld.alloc _, fun hS1 => ?_⟩
          (try simp only [List.getElem_toArray]); (try simp only [List.getElem_cons_succ]); (try simp only [List.getElem_cons_zero]); (try simp only [Act.put]); (try simp only [List.setIfInBounds_toArray]); (repeat first | simp only [List.set_cons_succ] | simp only [List.set_cons_zero])
          have m0 : CL ((w5.alloc (.cells #[.int .i64 0, .string { data := #[] }, .int .i64 0, .int .i64 0, .string { data := #[] }, .slice none 0 0, .int .i64 0, .int .i64 0, .string { data := #[] }, .slice none 0 0, .slice none 0 0, .slice none 0 0] 42)).drew) (wr.heap.size + 1) zSR := by rw [← z5]; exact (CL.made w5 zSR 42).drew
          have y1 : Keeps (fun _ => False) w5 ((w5.alloc (.cells #[.int .i64 0, .string { data := #[] }, .int .i64 0, .int .i64 0, .string { data := #[] }, .slice none 0 0, .int .i64 0, .int .i64 0, .string { data := #[] }, .slice none 0 0, .slice none 0 0, .slice none 0 0] 42)).drew) := ((Keeps.refl _ w5).alloc _).drew
          have y3 : ((w5.alloc (.cells #[.int .i64 0, .string { data := #[] }, .int .i64 0, .int .i64 0, .string { data := #[] }, .slice none 0 0, .int .i64 0, .int .i64 0, .string { data := #[] }, .slice none 0 0, .slice none 0 0, .slice none 0 0] 42)).drew).heap.size = w5.heap.size + 1 := World.size_alloc _ _
          generalize (w5.alloc (.cells #[.int .i64 0, .string { data := #[] }, .int .i64 0, .int .i64 0, .string { data := #[] }, .slice none 0 0, .int .i64 0, .int .i64 0, .string { data := #[] }, .slice none 0 0, .slice none 0 0, .slice none 0 0] 42)).drew = va at *
          refine wpAnyH_one 6 (by kernel_rfl) rfl rfl ?_
          refine wp_call1 15 _ rfl _ rfl (fun _ _ => rfl) ((hPa va y1).mono ?_)
          rintro e v1 ⟨la2, rfl, Va, k1⟩
          obtain ⟨ka2, na2, sa2, pa2, ma2, ca2, rfl⟩ := Va.shapeR
          have k51 : Keeps (fun _ => False) w5 v1 := y1.trans k1
          refine ⟨_, rfl, k51, fun hS2 => ?_⟩
          (try simp only [List.getElem_toArray]); (try simp only [List.getElem_cons_succ]); (try simp only [List.getElem_cons_zero]); (try simp only [Act.put]); (try simp only [List.setIfInBounds_toArray]); (repeat first | simp only [List.set_cons_succ] | simp only [List.set_cons_zero])
          have zv1 := k1.size
          have hPb2 := hPb v1 k51
          refine wpAnyH_one 9 (by kernel_rfl) rfl rfl ?_
          refine wp_call1 15 _ rfl _ rfl (fun _ _ => rfl) (hPb2.mono ?_)
          rintro e v2 ⟨lb2, rfl, Vb, k2⟩
          obtain ⟨kb2, nb2, sb2, pb2, mb2, cb2, rfl⟩ := Vb.shapeR
          have k52 : Keeps (fun _ => False) w5 v2 := k51.trans k2
          refine ⟨_, rfl, k52, fun hS3 => ?_⟩
          (try simp only [List.getElem_toArray]); (try simp only [List.getElem_cons_succ]); (try simp only [List.getElem_cons_zero]); (try simp only [Act.put]); (try simp only [List.setIfInBounds_toArray]); (repeat first | simp only [List.set_cons_succ] | simp only [List.set_cons_zero])
          have zv2 := k2.size
          refine wpAnyH_take (i := 10) (v := ?_) rfl (by kernel_rfl) (by kernel_rfl) (by kernel_rfl) (fun _ _ _ h => h) (Or.inl ⟨by rfl, ?_⟩) (by assumption) ?_
          rotate_left
          · intro wx hSw; clear hSw; go_simp <;> with_reducible rfl
          (try simp only [List.getElem_toArray]); (try simp only [List.getElem_cons_succ]); (try simp only [List.getElem_cons_zero]); (try simp only [Act.put]); (try simp only [List.setIfInBounds_toArray]); (repeat first | simp only [List.set_cons_succ] | simp only [List.set_cons_zero])
          have m6 := (m0.keep (by show 0 < 12; decide) k1 (fun e => e)).keep (by show 0 < 12; decide) k2 (fun e => e)
          refine wpAnyH_storeR 12 (by kernel_rfl) rfl rfl 42 _ _ rfl (wr.heap.size + 1) 12 _ rfl rfl rfl m6 rfl iRS one12N (fun w1 k => Keeps.trans' (S := fun _ => False) (by assumption) k (fun _ _ e => e) (fun i hi e => by have e : i = wr.heap.size + 1 := e; omega)) (fun w6 hb6 k6 hS4 => ?_)
          (try simp only [List.getElem_toArray]); (try simp only [List.getElem_cons_succ]); (try simp only [List.getElem_cons_zero]); (try simp only [Act.put]); (try simp only [List.setIfInBounds_toArray]); (repeat first | simp only [List.set_cons_succ] | simp only [List.set_cons_zero])
          refine wpAnyH_done (by kernel_rfl) ?_ _
          have z6 := k6.size
          (try simp only [World.size_alloc] at z6)
          refine restH.out (wr.heap.size + 1) w6 _ _ _ _ _ _ _ _ _ _ _ _ hb6 (by omega) (by omega) hS4 ?_ ?_
          · exact (((Va.stay (k2.stay (fun _ _ _ e => e))).stay (k6.stay (fun g hg _ e => by omega))).mono (fun g hg => ⟨by omega, by omega⟩))
          · exact ((Vb.stay (k6.stay (fun g hg _ e => by omega))).mono (fun g hg => ⟨by omega, by omega⟩))
      · obtain rfl : i = N := by omega
        have d1 : decide ((i : Int) < (i : Int)) = false := decide_eq_false (by omega)
        have d2 : decide (i < i) = false := decide_eq_false (by omega)
        go_wp2_with fail
        go_ret
        have ep : l.take i = l := by rw [HN.out]; exact List.take_length
        have x9 := hB.ac.x
        rw [ep] at x9
        exact ⟨p', c', ys, rfl, hB.ac.o, x9.mono (fun g hg => hg.1), hB.kp⟩
end Go.Proofs.YtehblpbefkopbaaDoor
