import Derived.WalkSpells
import Derived.WalkLawsBesides
import Derived.OpenShut
import Derived.Deep.Fields
import Derived.Lib.AtoiErrMem
import Derived.Test.YtdpnknleobobkaaGreatDoorXaC
import Derived.Test.YtdpnknleobobkaaGreatDoorXaS
import Derived.Test.YtdpnknleobobkaaGreatDoorXaM
namespace Go.Proofs.YtdpnknleobobkaaGreatDoor
open Go.RowKit Go.ChangeShapes Go.WideShapes Go.ChangeAt Go.Deep
attribute [local go_sem] Oper.semAt_some run_store_nf run_store_f
theorem results_cell1' {fn : Func} {p : Tmp} {ty : TypeId} (h : fn.results = #[.cell p ty]) (tmps : Array Value) (P : Program) (w : World) :
    (results fn tmps).run P w = ((asAddr (tmps.getD p undef)).run P w).andThen fun a w₁ => (loadVar ty a).run P w₁ := by
  simp only [results, h]
  simp [Sem.run_bind, Result.andThen]
def zER : List Value := [.int .i64 0, .int .i64 0, .string { data := #[] }, .slice none 0 0]
theorem iES : (Tryz.prog.info? 54).map (·.size) = some 4 := by kernel_rfl
theorem iER : (Tryz.prog.info? 40).map (·.size) = some 4 := by kernel_rfl
theorem inER : (Tryz.prog.info? 40).map (fun i => (i.zero, i.size, i.bytes)) = some (some (.agg zER.toArray), 4, 56) := by kernel_rfl
theorem uER : Tryz.prog.underlying 38 = some (.slice 40) := by kernel_rfl
theorem run_es {W : World} {b o : Nat} {x y z v : Value} (h : ∀ (j : Nat) (u : Value), [x, y, z, v][j]? = some u → W.cell? ⟨b, o + j, none⟩ = some u) : (loadVar 54 ⟨b, o, none⟩).run Tryz.prog W = .ok (.agg #[x, y, z, v]) W :=
  run_loadVar_mid W b o 54 [x, y, z, v] _ h Tryz.underlying54 rfl (by rw [iES]; rfl)
theorem run_er {W : World} {b o : Nat} {x y z v : Value} (h : ∀ (j : Nat) (u : Value), [x, y, z, v][j]? = some u → W.cell? ⟨b, o + j, none⟩ = some u) : (loadVar 40 ⟨b, o, none⟩).run Tryz.prog W = .ok (.agg #[x, y, z, v]) W :=
  run_loadVar_mid W b o 40 [x, y, z, v] _ h Tryz.underlying40 rfl (by rw [iER]; rfl)
theorem cl_at0 {W : World} {b : Nat} {l : List Value} (h : CL W b l) : ∀ (j : Nat) (u : Value), l[j]? = some u → W.cell? ⟨b, 0 + j, none⟩ = some u := fun j u e => by rw [Nat.zero_add]; exact h.c j u e
theorem oneR {k n : Int} {s : ByteArray} {p : Option Addr} {m c : Nat} : ([.int .i64 k, .int .i64 n, .string s, .slice p m c] : List Value).toArray.all (·.oneCell') = true := all_oneCell_toArray (by simp [Value.oneCell'])
theorem oneR' {k n : Int} {s : ByteArray} {p : Option Addr} {m c : Nat} : ∀ u ∈ ([.int .i64 k, .int .i64 n, .string s, .slice p m c] : List Value), u.oneCell' = true := by simp [Value.oneCell']
theorem TC.shapeR {w : World} {P : Nat → Prop} {e : TypeId} {t : Tr} {l : List Value} (h : TC w P e t l) : ∃ k n s p m c, l = [.int .i64 k, .int .i64 n, .string s, .slice p m c] := by
  cases t
  unfold TC at h
  obtain ⟨_, _, _, a, xs, h4, h5, _⟩ := h
  obtain ⟨p, c, rfl, -⟩ := own_slice h5.1
  exact ⟨_, _, _, _, _, _, h4⟩
theorem run_store_sleR {w : World} {b o : Nat} (hc : (w.cell? ⟨b, o, none⟩).isSome = true) (hz : w.frozen? ⟨b, o, none⟩ = false) (p : Option Addr) (m c : Nat) : (storeVar 38 ⟨b, o, none⟩ (.slice p m c)).run Tryz.prog w = .ok () (w.setCell ⟨b, o, none⟩ (.slice p m c)) := by
  obtain ⟨u, hu⟩ := Option.isSome_iff_exists.1 hc
  go_simp
theorem wpList_store_sleR {w : World} {ops : Array Oper} {rest : List Oper} {o : Oper} {a : Act} {Q : Exit → Act → World → Prop} (hgd : o.guard = none) (hd : o.dst = none) (x y : Operand) (ho : o.op = .store 38 x y) (b off : Nat) (hx : a.eval x = .pointer (some ⟨b, off, none⟩)) (p : Option Addr) (m c : Nat) (hy : a.eval y = .slice p m c)
    {l : List Value} (hB : CL w b l) (hl : off < l.length) (h : ∀ w1, CL w1 b (l.set off (.slice p m c)) → Keeps (fun k => k = b) w w1 → w1.heap.size = w.heap.size → wpList Tryz.prog ops Q rest a w1) : wpList Tryz.prog ops Q (o :: rest) a w :=
  wpList_plain hgd fun _ hK => by
    unfold Oper.wp execOp
    simp only [ho, hx, hy, Instr.storeAt, Instr.sureAddr, Sem.run_bind, Sem.run_pure, Result.andThen_ok, run_store_sleR (by rw [hB.c off _ (List.getElem?_eq_getElem hl)]; rfl) (hB.z off hl) p m c]
    refine hK _ _ ?_
    have e : a.put o.dst undef = a := by rw [hd]; rfl
    rw [e]
    exact h _ (hB.set hl _) ((Keeps.refl (fun k => k = b) w).setCell (p := ⟨b, off, none⟩) (fun _ => rfl) _) (by simp)
/-- Expressions on their way, all of them from a block on. -/
structure AcE (B : Nat) (W : World) (acc : List Tr) (i : Nat) (p : Option Addr) (c : Nat) (xs : List Value) : Prop where
  o : OwnP W (fun g => B ≤ g) 40 4 (.slice p i c) i xs
  x : TL W (fun g => B ≤ g ∧ ∀ b, (Value.slice p i c).ownBlock = some b → g ≠ b) 40 acc xs
theorem AcE.keep {B : Nat} {W W1 : World} {acc : List Tr} {i : Nat} {p : Option Addr} {c : Nat} {xs : List Value} {S : Nat → Prop} (e : AcE B W acc i p c xs) (k : Keeps S W W1) (h : ∀ i, B ≤ i → i < W.heap.size → ¬ S i) : AcE B W1 acc i p c xs :=
  ⟨e.o.stay (k.stay (fun i h1 h2 => h i h1 h2)), e.x.stay (k.stay (fun i h1 h2 => h i h1.1 h2))⟩
theorem AcE.nil (B : Nat) (W : World) : AcE B W [] 0 none 0 [] := ⟨⟨⟨by simp, .inl ⟨rfl, rfl⟩⟩, fun g hg => by cases hg⟩, by unfold TL; rfl⟩
theorem AcE.add {B : Nat} {W : World} {acc : List Tr} {i : Nat} {p : Option Addr} {c : Nat} {xs : List Value} (e : AcE B W acc i p c xs) (hB : B ≤ W.heap.size) (hi : i ≤ 1048576) {t : Tr} {L : List Value} (V : TC W (fun g => B ≤ g ∧ ∀ b, (Value.slice p i c).ownBlock = some b → g ≠ b) 40 t L) (hL : L.length = 4) (h1 : ∀ u ∈ L, u.oneCell' = true) :
    ∃ p' c' w', (Builtin.append_ #[38, 38] 38 #[.slice p i c, .slice (some ⟨W.heap.size, 0, none⟩) 1 1]).run Tryz.prog (W.alloc (.cells L.toArray 40)) = .ok (.slice p' (i + 1) c') w' ∧ AcE B w' (acc ++ [t]) (i + 1) p' c' (xs ++ L) ∧ Keeps (fun g => (Value.slice p i c).ownBlock = some g) W w' := by
  obtain ⟨v', w', hr, ho, kk, hb⟩ := append_sz uER inER rfl (by decide) e.o.1 (Nat.zero_le _) (by decide) (by omega) L hL h1
  obtain ⟨p', c', rfl, -⟩ := own_slice ho
  have hlo : ∀ b, (Value.slice p i c).ownBlock = some b → b < W.heap.size := fun b hb => owns_lt' e.o.1 b hb
  have hge : ∀ b, (Value.slice p i c).ownBlock = some b → B ≤ b := fun b hb => e.o.2 b hb
  refine ⟨p', c', w', hr, ⟨⟨ho, fun g hg => ?_⟩, TL.snoc ((V.lt.stay (kk.stay (fun g hg _ q => hg.1.2 g q rfl))).mono fun g hg => ⟨hg.1.1, fun b hb' => ?_⟩) ((e.x.lt.stay (kk.stay (fun g hg _ q => hg.1.2 g q rfl))).mono fun g hg => ⟨hg.1.1, fun b hb' => ?_⟩)⟩, kk⟩
  · rcases hb with hb | hb
    · rw [hb] at hg; exact hge g hg
    · rw [hb] at hg; cases hg; show B ≤ W.heap.size + 1; omega
  · rcases hb with hb | hb
    · rw [hb] at hb'; exact hg.1.2 b hb'
    · rw [hb] at hb'; cases hb'; have := hg.2; omega
  · rcases hb with hb | hb
    · rw [hb] at hb'; exact hg.1.2 b hb'
    · rw [hb] at hb'; cases hb'; have := hg.2; omega
theorem take_snoc {α : Type} {l : List α} {i : Nat} {a : α} (h : l[i]? = some a) : l.take (i + 1) = l.take i ++ [a] := by
  rw [List.take_add_one, h]; rfl
theorem bgA : ∀ (l : List Tr) (i : Nat) (t : Tr), l[i]? = some t → bgE t ≤ bgL l
  | [], i, t, h => by cases h
  | a :: r, 0, t, h => by
    injection h with h; subst h
    unfold bgL; omega
  | a :: r, i + 1, t, h => by
    have := bgA r i t h
    unfold bgL; omega
/-- What stands in a round. -/
structure BxI (w : World) (l : List Value) (k n : Int) (s : ByteArray) (ps : List Tr) (W : World) (i : Nat) (p : Option Addr) (c : Nat) (ys : List Value) : Prop where
  kp : Keeps (fun _ => False) w W
  b1 : CL W w.heap.size l
  b2 : CL W (w.heap.size + 1) zER
  b3 : CL W (w.heap.size + 1 + 1) [.int .i64 k, .int .i64 n, .string s, .slice p i c]
  z : w.heap.size + 3 ≤ W.heap.size
  ac : AcE (w.heap.size + 3) W (ps.take i) i p c ys
def BxE (t : Tr) : Prop := ∀ (w : World) (P : Nat → Prop) (l : List Value), TC w P 54 t l → Calls Tryz.prog 19 #[.agg l.toArray] w fun e w' => ∃ l', e = .returned (.agg l'.toArray) ∧ TC w' (fun g => w.heap.size ≤ g) 40 t l' ∧ Keeps (fun _ => False) w w'
set_option maxHeartbeats 1000000 in
set_option maxRecDepth 100000 in
theorem bx_all : ∀ (n : Nat) (t : Tr), bgE t ≤ n → n ≤ 1048576 → BxE t
  | 0, t, h, _ => absurd h (by have := bgE_pos t; omega)
  | n + 1, .mk k m wd ps, h, hn => by
    have IH := fun t (ht : bgE t ≤ n) => bx_all n t ht (by omega)
    intro w P l ht
    unfold TC at ht
    obtain ⟨hk, hm, hw, a, xs, rfl, ho, hx⟩ := ht
    obtain ⟨p, c, rfl, hget, -, -⟩ := own_slice ho.1
    obtain ⟨N, hN⟩ : ∃ N, N = ps.length := ⟨_, rfl⟩
    have hbg : bgL ps ≤ n := by unfold bgE at h; omega
    have hNn : N ≤ n := by have := bgL_len ps; omega
    clear h
    have HN : Hid (N = ps.length) := hN
    rw [← hN]
    clear hN
    obtain ⟨s, hs⟩ : ∃ s, s = bs wd := ⟨_, rfl⟩
    have HS : Hid (s = bs wd) := hs
    rw [← hs]
    clear hs
    have hxl := hx.len
    go_enter Tryz.func19, Tryz.ntmps19
    have q1 : CL ((w.alloc (.cells #[.int .i64 k, .int .i64 m, .string s, .slice p N c] 54)).alloc (.cells zER.toArray 40)) w.heap.size [.int .i64 k, .int .i64 m, .string s, .slice p N c] := (CL.made w [.int .i64 k, .int .i64 m, .string s, .slice p N c] 54).alloc (by show 0 < 4; decide) _
    have q2 : CL ((w.alloc (.cells #[.int .i64 k, .int .i64 m, .string s, .slice p N c] 54)).alloc (.cells zER.toArray 40)) (w.heap.size + 1) zER := by
      have := CL.made (w.alloc (.cells #[.int .i64 k, .int .i64 m, .string s, .slice p N c] 54)) zER 40
      simpa using this
    have kA : Keeps (fun _ => False) w ((w.alloc (.cells #[.int .i64 k, .int .i64 m, .string s, .slice p N c] 54)).alloc (.cells zER.toArray 40)) := ((Keeps.refl _ w).alloc _).alloc _
    obtain ⟨W1, hW1⟩ : ∃ W1, W1 = (w.alloc (.cells #[.int .i64 k, .int .i64 m, .string s, .slice p N c] 54)).alloc (.cells zER.toArray 40) := ⟨_, rfl⟩
    have z1 : W1.heap.size = w.heap.size + 1 + 1 := by rw [hW1]; simp
    rw [← hW1] at q1 q2 kA
    have HW : Hid (_ = _) := hW1
    clear hW1
    have y0 := q1.c 0 _ rfl
    have y1 := q1.c 1 _ rfl
    have y2 := q1.c 2 _ rfl
    refine wp_seq_k (fun KK hKK => ?_)
    have hKH : Hid _ := hKK
    clear hKK
    go_wp2_with fail
    rw [← show W1 = (w.alloc (.cells #[.int .i64 k, .int .i64 m, .string s, .slice p N c] 54)).alloc (.cells #[.int .i64 0, .int .i64 0, .string { data := #[] }, .slice none 0 0] 40) from HW.out]
    refine hKH.out _ _ ?_
    clear hKH KK HW
    go_wp2_with fail
    obtain ⟨w3, hw3⟩ : ∃ w3, w3 = W1.alloc (.cells #[.int .i64 k, .int .i64 m, .string s, .slice none 0 0] 40) := ⟨_, rfl⟩
    have Z3 : w3.heap.size = w.heap.size + 3 := by rw [hw3, World.size_alloc, z1]
    have hb3' : CL w3 (w.heap.size + 1 + 1) [.int .i64 k, .int .i64 m, .string s, .slice none 0 0] := by rw [← z1, hw3]; exact CL.made W1 _ _
    have k13 : Keeps (fun _ => False) W1 w3 := by rw [hw3]; exact (Keeps.refl _ W1).alloc _
    rw [← hw3]
    clear hw3
    have B0 : BxI w [.int .i64 k, .int .i64 m, .string s, .slice p N c] k m s ps w3 0 none 0 [] := ⟨kA.trans k13, q1.keep (by show 0 < 4; decide) k13 (fun e => e), q2.keep (by show 0 < 4; decide) k13 (fun e => e), hb3', by omega, by rw [List.take_zero]; exact AcE.nil _ _⟩
    clear hb3' k13 q1 q2 kA y0 y1 y2 Z3 z1
    go_loopw [4] (fun iv Wr => ∃ (i : Nat) (p' : Option Addr) (c' : Nat) (ys : List Value), iv = .int .i64 (i : Int) ∧ i ≤ N ∧ BxI w [.int .i64 k, .int .i64 m, .string s, .slice p N c] k m s ps Wr i p' c' ys) (fun iv _ => N - (intOf iv).toNat)
    case atStart => exact ⟨0, none, 0, [], rfl, Nat.zero_le _, B0⟩
    case round =>
      clear B0
      obtain ⟨i, p', c', ys, rfl, hi, hB⟩ := hrel
      have y3 := hB.b1.c 3 _ rfl
      have x3 := hB.b3.c 3 _ rfl
      by_cases hlt : i < N
      · have d1 : decide ((i : Int) < (N : Int)) = true := decide_eq_true (by omega)
        have d2 : decide (i < N) = true := decide_eq_true hlt
        have i0 : (0 : Int) ≤ (i : Int) := by omega
        have i1 : (i : Int) < (N : Int) := by omega
        have i2 : (i : Int) + 1 ≤ 9223372036854775807 := by omega
        have hip : i < ps.length := by rw [← HN.out]; exact hlt
        obtain ⟨t, htt⟩ : ∃ t, t = ps[i] := ⟨_, rfl⟩
        have hgt : ps[i]? = some t := by rw [htt]; exact List.getElem?_eq_getElem hip
        have htk : Hid (ps.take (i + 1) = ps.take i ++ [t]) := take_snoc hgt
        have hbt : bgE t ≤ n := Nat.le_trans (bgA ps i t hgt) hbg
        obtain ⟨us, hty, hyc⟩ := hx.at i t hgt
        obtain ⟨k2, n2, s2, p2, m2, c2, rfl⟩ := hty.shapeR
        obtain ⟨g, rfl, -⟩ := hget (i * 4) _ (hyc 0 _ rfl)
        have hq : ∀ (j : Nat) (u : Value), [Value.int .i64 k2, .int .i64 n2, .string s2, .slice p2 m2 c2][j]? = some u → wr.cell? ⟨g, i * 4 + j, none⟩ = some u := fun j u e => by
          obtain ⟨g', eg, h6⟩ := hget _ _ (hyc j u e)
          injection eg with eg; injection eg with eg _ _; subst eg
          exact hB.kp.cell h6 (fun e => e)
        have hR1 := run_es hq
        have hP := IH t hbt wr _ _ (hty.lt.stay (hB.kp.stay (fun _ _ _ e => e)))
        clear hq hyc hgt htt hip
        refine wp_seq_k (fun KK hKK => ?_)
        have hKH : Hid _ := hKK
        clear hKK
        go_wp2_with fail
        refine hKH.out _ _ ?_
        clear hKH KK
        refine wp_seq_k (fun KK hKK => ?_)
        have hKH : Hid _ := hKK
        clear hKK
        refine wp_block ?_
        refine wp_seq_k (fun K2 hK2 => ?_)
        have hKI : Hid _ := hK2
        clear hK2
        go_wp2_with (first | (refine wpList_load_runL rfl 54 _ rfl ⟨g, i * 4, none⟩ rfl _ hR1 ?_; clear hR1) | (go_at_call 19; refine hP.mono ?_; clear hP; rintro e w1 ⟨l', rfl, V1, k1⟩; obtain ⟨k4, n4, s4, p4, m4, c4, rfl⟩ := V1.shapeR; have z4 := k1.size))
        refine hKI.out _ _ ?_
        clear hKI K2
        obtain ⟨w5, hw5⟩ : ∃ w5, w5 = w1.alloc (.cells #[.int .i64 k4, .int .i64 n4, .string s4, .slice p4 m4 c4] 40) := ⟨_, rfl⟩
        have hb5' : CL w5 w1.heap.size [.int .i64 k4, .int .i64 n4, .string s4, .slice p4 m4 c4] := by rw [hw5]; exact CL.made w1 _ _
        have k15 : Keeps (fun _ => False) w1 w5 := by rw [hw5]; exact (Keeps.refl _ w1).alloc _
        rw [← hw5]
        clear hw5
        have kr5 := k1.trans k15
        have z5 := hB.z
        have C3 := hB.b3.keep (by show 0 < 4; decide) kr5 (fun e => e)
        have A5 := hB.ac.keep kr5 (fun _ _ _ e => e)
        have zz6 := kr5.size
        obtain ⟨p6, c6, w6, hr6, A6, k6⟩ := A5.add (by omega) (by omega) ((V1.stay (k15.stay (fun _ _ _ e => e))).mono (fun g hg => ⟨by omega, fun b hb => by have := owns_lt' hB.ac.o.1 b hb; omega⟩)) rfl oneR'
        have C36 : CL w6 (w.heap.size + 1 + 1) [.int .i64 k, .int .i64 m, .string s, .slice p' i c'] := C3.keep (by show 0 < 4; decide) k6 (fun e => by have := hB.ac.o.2 _ e; omega)
        have kw6 : Keeps (fun _ => False) w w6 := (hB.kp.trans kr5).trans' k6 (fun _ _ e => e) (fun j hj e => by have := hB.ac.o.2 _ e; omega)
        have hlo : ∀ b, (Value.slice p' i c').ownBlock = some b → w.heap.size + 3 ≤ b := fun b hb => hB.ac.o.2 _ hb
        have HX : Hid (CL w6 w.heap.size [.int .i64 k, .int .i64 m, .string s, .slice (some ⟨g, 0, none⟩) N c] ∧ CL w6 (w.heap.size + 1) zER ∧ w.heap.size + 3 ≤ w6.heap.size) := ⟨(hB.b1.keep (by show 0 < 4; decide) kr5 (fun e => e)).keep (by show 0 < 4; decide) k6 (fun e => by have := hlo _ e; omega), (hB.b2.keep (by show 0 < 4; decide) kr5 (fun e => e)).keep (by show 0 < 4; decide) k6 (fun e => by have := hlo _ e; omega), by have := k6.size; omega⟩
        have x3' := C3.c 3 _ rfl
        clear x3 y3 V1 A5 C3 z4 z5 zz6 hlo
        go_wp2_with (first | (refine wpList_load_runL rfl 40 _ rfl ⟨w1.heap.size, 0, none⟩ rfl _ (run_er (cl_at0 hb5')) ?_) | (refine wpList_build1L uER inER (by decide) (by decide) rfl _ rfl [_, _, _, _] rfl rfl ?_; (try simp only [Act.put, List.setIfInBounds_toArray, List.set_cons_zero, List.set_cons_succ])) | (refine wpList_append_tL rfl _ _ 38 rfl _ _ _ w6 rfl rfl hr6 ?_; clear hr6) | (refine wpList_store_sleR rfl rfl _ _ rfl (w.heap.size + 1 + 1) 3 rfl p6 (i + 1) c6 rfl C36 (by show 3 < 4; decide) ?_; intro w7 hb7 k7 zz7))
        refine hKH.out _ _ ?_
        clear hKH KK
        have hb7' : CL w7 (w.heap.size + 1 + 1) [.int .i64 k, .int .i64 m, .string s, .slice p6 (i + 1) c6] := hb7
        have B7 : BxI w [.int .i64 k, .int .i64 m, .string s, .slice (some ⟨g, 0, none⟩) N c] k m s ps w7 (i + 1) p6 c6 (ys ++ [.int .i64 k4, .int .i64 n4, .string s4, .slice p4 m4 c4]) := ⟨kw6.trans' k7 (fun _ _ e => e) (fun j hj e => by omega), HX.out.1.keep (by show 0 < 4; decide) k7 (fun e => by omega), HX.out.2.1.keep (by show 0 < 4; decide) k7 (fun e => by omega), hb7', by have := HX.out.2.2; omega, by rw [htk.out]; exact A6.keep k7 (fun j h1 _ e => by omega)⟩
        go_wp2_with fail
        go_roundw
        case rel => exact ⟨i + 1, p6, c6, _, by go_num, by omega, B7⟩
        case measure => simp [intOf]; omega
      · obtain rfl : i = N := by omega
        have d1 : decide ((i : Int) < (i : Int)) = false := decide_eq_false (by omega)
        have d2 : decide (i < i) = false := decide_eq_false (by omega)
        have hb3 := hB.b3
        have hb2 := hB.b2
        go_wp2_with (first | (refine wpList_load_runL rfl 40 _ rfl ⟨w.heap.size + 1 + 1, 0, none⟩ rfl _ (run_er (cl_at0 hb3)) ?_) | (refine wpList_store_cl rfl 40 _ _ rfl (w.heap.size + 1) 0 4 _ rfl rfl rfl hb2 (by show 4 ≤ 4; decide) iER oneR ?_; intro w9 hc9 k9 zz9; clear zz9))
        have hc9' : CL w9 (w.heap.size + 1) [.int .i64 k, .int .i64 m, .string s, .slice p' i c'] := hc9
        have hrn := run_er (cl_at0 hc9')
        have hrel9 := hB.ac.keep k9 (fun j h1 _ e => by omega)
        refine bodyPost_ret (v := .agg #[.int .i64 k, .int .i64 m, .string s, .slice p' i c']) (by rw [results_cell1' rfl]; simp [asAddr, hrn]) rfl ?_
        have ep : ps.take i = ps := by rw [HN.out]; exact List.take_length
        refine ⟨[.int .i64 k, .int .i64 m, .string s, .slice p' i c'], rfl, ?_, hB.kp.trans' k9 (fun _ _ e => e) (fun j hj e => by omega)⟩
        unfold TC
        rw [HS.out]
        have x9 := hrel9.x
        rw [ep] at x9
        refine ⟨hk, hm, hw, .slice p' i c', ys, rfl, ?_, x9.mono (fun g hg => by have := hg.1; omega)⟩
        have o9 := hrel9.o.mono (P' := fun g => w.heap.size ≤ g) (fun g hg => by omega)
        rw [← HN.out]
        exact o9
theorem takes_loadR {P : Program} {w : World} {o : Oper} {a : Act} (ty : TypeId) (x : Operand) (ho : o.op = .load ty x) (ad : Addr) (hx : a.eval x = .pointer (some ad)) {v : Value} (hr : (loadVar ty ad).run P w = .ok v w) : (execOp a.eval o).run P w = .ok (.value v) w := by
  unfold execOp
  simp only [ho, hx, Instr.loadAt, Instr.sureAddr, Sem.run_bind, Sem.run_pure, Result.andThen_ok, hr]
def SxE (t : Tr) : Prop := ∀ (w : World) (P Q : Nat → Prop) (l l' : List Value), TC w P 40 t l → TC w Q 40 t l' → Calls Tryz.prog 18 #[.agg l.toArray, .agg l'.toArray] w fun e w' => e = .returned (.bool true) ∧ Keeps (fun _ => False) w w'
/-- What stands in a round. -/
structure SxI (w : World) (l l' : List Value) (W : World) : Prop where
  kp : Keeps (fun _ => False) w W
  b1 : CL W w.heap.size l
  b2 : CL W (w.heap.size + 1) l'
set_option maxHeartbeats 1000000 in
set_option maxRecDepth 100000 in
theorem sx_all : ∀ (n : Nat) (t : Tr), bgE t ≤ n → n ≤ 1048576 → SxE t
  | 0, t, h, _ => absurd h (by have := bgE_pos t; omega)
  | n + 1, .mk k m wd ps, h, hn => by
    have IH := fun t (ht : bgE t ≤ n) => sx_all n t ht (by omega)
    intro w P Q l l' ht ht'
    unfold TC at ht ht'
    obtain ⟨-, -, -, a, xs, rfl, ho, hx⟩ := ht
    obtain ⟨-, -, -, a', xs', rfl, ho', hx'⟩ := ht'
    obtain ⟨p, c, rfl, hget, -, -⟩ := own_slice ho.1
    obtain ⟨p', c', rfl, hget', -, -⟩ := own_slice ho'.1
    obtain ⟨N, hN⟩ : ∃ N, N = ps.length := ⟨_, rfl⟩
    have hbg : bgL ps ≤ n := by unfold bgE at h; omega
    have hNn : N ≤ n := by have := bgL_len ps; omega
    clear h ho ho'
    have HN : Hid (N = ps.length) := hN
    rw [← hN]
    clear hN
    obtain ⟨s, hs⟩ : ∃ s, s = bs wd := ⟨_, rfl⟩
    rw [← hs]
    clear hs
    have e1 : (s.toList != s.toList) = false := by simp
    have e2 : (k != k) = false := by simp
    have e3 : (m != m) = false := by simp
    have e4 : ((N : Int) != (N : Int)) = false := by simp
    go_enter Tryz.func18, Tryz.ntmps18
    obtain ⟨W1, hW1⟩ : ∃ W1, W1 = (w.alloc (.cells #[.int .i64 k, .int .i64 m, .string s, .slice p N c] 40)).alloc (.cells #[.int .i64 k, .int .i64 m, .string s, .slice p' N c'] 40) := ⟨_, rfl⟩
    have q1 : CL W1 w.heap.size [.int .i64 k, .int .i64 m, .string s, .slice p N c] := by rw [hW1]; exact (CL.made w [.int .i64 k, .int .i64 m, .string s, .slice p N c] 40).alloc (by show 0 < 4; decide) _
    have q2 : CL W1 (w.heap.size + 1) [.int .i64 k, .int .i64 m, .string s, .slice p' N c'] := by
      have := CL.made (w.alloc (.cells #[.int .i64 k, .int .i64 m, .string s, .slice p N c] 40)) [.int .i64 k, .int .i64 m, .string s, .slice p' N c'] 40
      rw [hW1]
      simpa using this
    have kA : Keeps (fun _ => False) w W1 := by rw [hW1]; exact ((Keeps.refl _ w).alloc _).alloc _
    have HW : Hid (_ = _) := hW1
    clear hW1
    refine wp_seq_k (fun KK hKK => ?_)
    have hKH : Hid _ := hKK
    clear hKK
    go_wp2_with fail
    rw [← HW.out]
    refine hKH.out _ _ ?_
    clear hKH KK HW
    have S0 : SxI w [.int .i64 k, .int .i64 m, .string s, .slice p N c] [.int .i64 k, .int .i64 m, .string s, .slice p' N c'] W1 := ⟨kA, q1, q2⟩
    have y0 := q1.c 0 _ rfl
    have y1 := q1.c 1 _ rfl
    have y2 := q1.c 2 _ rfl
    have y3 := q1.c 3 _ rfl
    have x0 := q2.c 0 _ rfl
    have x1 := q2.c 1 _ rfl
    have x2 := q2.c 2 _ rfl
    have x3 := q2.c 3 _ rfl
    clear q1 q2 kA
    go_wp2_with fail
    clear y0 y1 y2 y3 x0 x1 x2 x3 e1 e2 e3 e4
    go_loopw [5] (fun iv Wr => ∃ (i : Nat), iv = .int .i64 (i : Int) ∧ i ≤ N ∧ SxI w [.int .i64 k, .int .i64 m, .string s, .slice p N c] [.int .i64 k, .int .i64 m, .string s, .slice p' N c'] Wr) (fun iv _ => N - (intOf iv).toNat)
    case atStart => exact ⟨0, rfl, Nat.zero_le _, S0⟩
    case round =>
      clear S0
      obtain ⟨i, rfl, hi, hB⟩ := hrel
      have y3 := hB.b1.c 3 _ rfl
      have x3 := hB.b2.c 3 _ rfl
      by_cases hlt : i < N
      · have d1 : decide ((i : Int) < (N : Int)) = true := decide_eq_true (by omega)
        have d2 : decide (i < N) = true := decide_eq_true hlt
        have i0 : (0 : Int) ≤ (i : Int) := by omega
        have i1 : (i : Int) < (N : Int) := by omega
        have i2 : (i : Int) + 1 ≤ 9223372036854775807 := by omega
        have hip : i < ps.length := by rw [← HN.out]; exact hlt
        obtain ⟨t, htt⟩ : ∃ t, t = ps[i] := ⟨_, rfl⟩
        have hgt : ps[i]? = some t := by rw [htt]; exact List.getElem?_eq_getElem hip
        have hbt : bgE t ≤ n := Nat.le_trans (bgA ps i t hgt) hbg
        obtain ⟨us, hty, hyc⟩ := hx.at i t hgt
        obtain ⟨vs, hty', hyc'⟩ := hx'.at i t hgt
        obtain ⟨k2, n2, s2, p2, m2, c2, rfl⟩ := hty.shapeR
        obtain ⟨k3, n3, s3, p3, m3, c3, rfl⟩ := hty'.shapeR
        obtain ⟨g, rfl, -⟩ := hget (i * 4) _ (hyc 0 _ rfl)
        obtain ⟨g', rfl, -⟩ := hget' (i * 4) _ (hyc' 0 _ rfl)
        have hq1 : ∀ (j : Nat) (u : Value), [Value.int .i64 k2, .int .i64 n2, .string s2, .slice p2 m2 c2][j]? = some u → wr.cell? ⟨g, i * 4 + j, none⟩ = some u := fun j u e => by
          obtain ⟨g1, eg, h6⟩ := hget _ _ (hyc j u e)
          injection eg with eg; injection eg with eg _ _; subst eg
          exact hB.kp.cell h6 (fun e => e)
        have hq2 : ∀ (j : Nat) (u : Value), [Value.int .i64 k3, .int .i64 n3, .string s3, .slice p3 m3 c3][j]? = some u → wr.cell? ⟨g', i * 4 + j, none⟩ = some u := fun j u e => by
          obtain ⟨g1, eg, h6⟩ := hget' _ _ (hyc' j u e)
          injection eg with eg; injection eg with eg _ _; subst eg
          exact hB.kp.cell h6 (fun e => e)
        have kd : Keeps (fun _ => False) w wr.drew := hB.kp.trans (Keeps.refl _ wr).drew
        have hP := IH t hbt wr.drew _ _ _ _ (hty.lt.stay (kd.stay (fun _ _ _ e => e))) (hty'.lt.stay (kd.stay (fun _ _ _ e => e)))
        clear hyc hyc' hgt htt hip kd
        refine wp_seq_k (fun KK hKK => ?_)
        have hKH : Hid _ := hKK
        clear hKK
        go_wp2_with fail
        refine hKH.out _ _ ?_
        clear hKH KK
        refine wp_seq_k (fun KK hKK => ?_)
        have hKH : Hid _ := hKK
        clear hKK
        refine wp_block ?_
        go_wp2_with fail
        refine wp_region_held_drew (S := fun w' => Keeps (fun _ => False) wr w') (by kernel_rfl) (Keeps.refl _ wr).drew (fun hHeld => ?_)
        refine wpAnyH_take (i := 0) (v := ?_) rfl (by kernel_rfl) (by kernel_rfl) (by kernel_rfl) (fun _ _ _ h => h) (Or.inl ⟨by rfl, ?_⟩) (by assumption) ?_
        rotate_left
        · intro wx hSw; have p3 := hSw.cell y3 (fun e => e); have q3 := hSw.cell x3 (fun e => e); clear hSw; go_simp <;> with_reducible rfl
        (try simp only [List.getElem_toArray]); (try simp only [List.getElem_cons_succ]); (try simp only [List.getElem_cons_zero]); (try simp only [Act.put]); (try simp only [List.setIfInBounds_toArray]); (repeat first | simp only [List.set_cons_succ] | simp only [List.set_cons_zero])
        refine wpAnyH_take (i := 1) (v := ?_) rfl (by kernel_rfl) (by kernel_rfl) (by kernel_rfl) (fun _ _ _ h => h) (Or.inl ⟨by rfl, ?_⟩) (by assumption) ?_
        rotate_left
        · intro wx hSw; have p3 := hSw.cell y3 (fun e => e); have q3 := hSw.cell x3 (fun e => e); clear hSw; go_simp <;> with_reducible rfl
        (try simp only [List.getElem_toArray]); (try simp only [List.getElem_cons_succ]); (try simp only [List.getElem_cons_zero]); (try simp only [Act.put]); (try simp only [List.setIfInBounds_toArray]); (repeat first | simp only [List.set_cons_succ] | simp only [List.set_cons_zero])
        refine wpAnyH_take (i := 2) (v := ?_) rfl (by kernel_rfl) (by kernel_rfl) (by kernel_rfl) (fun _ _ _ h => h) (Or.inl ⟨by rfl, ?_⟩) (by assumption) ?_
        rotate_left
        · intro wx hSw; have p3 := hSw.cell y3 (fun e => e); have q3 := hSw.cell x3 (fun e => e); clear hSw; go_simp <;> with_reducible rfl
        (try simp only [List.getElem_toArray]); (try simp only [List.getElem_cons_succ]); (try simp only [List.getElem_cons_zero]); (try simp only [Act.put]); (try simp only [List.setIfInBounds_toArray]); (repeat first | simp only [List.set_cons_succ] | simp only [List.set_cons_zero])
        refine wpAnyH_take (i := 3) (v := ?_) rfl (by kernel_rfl) (by kernel_rfl) (by kernel_rfl) (fun _ _ _ h => h) (Or.inl ⟨by rfl, ?_⟩) (by assumption) ?_
        rotate_left
        · intro wx hSw; have p3 := hSw.cell y3 (fun e => e); have q3 := hSw.cell x3 (fun e => e); clear hSw; go_simp <;> with_reducible rfl
        (try simp only [List.getElem_toArray]); (try simp only [List.getElem_cons_succ]); (try simp only [List.getElem_cons_zero]); (try simp only [Act.put]); (try simp only [List.setIfInBounds_toArray]); (repeat first | simp only [List.set_cons_succ] | simp only [List.set_cons_zero])
        refine wpAnyH_take (i := 4) (v := .agg #[.int .i64 k2, .int .i64 n2, .string s2, .slice p2 m2 c2]) rfl (by kernel_rfl) (by kernel_rfl) (by kernel_rfl) (fun _ _ _ h => h) (Or.inl ⟨by rfl, ?_⟩) (by assumption) ?_
        · intro wx hSw; exact takes_loadR 40 _ rfl ⟨g, i * 4, none⟩ rfl (run_er (fun j v e => Keeps.cell (S := fun _ => False) hSw (hq1 j v e) (fun e => e)))
        (try simp only [List.getElem_toArray]); (try simp only [List.getElem_cons_succ]); (try simp only [List.getElem_cons_zero]); (try simp only [Act.put]); (try simp only [List.setIfInBounds_toArray]); (repeat first | simp only [List.set_cons_succ] | simp only [List.set_cons_zero])
        refine wpAnyH_take (i := 5) (v := ?_) rfl (by kernel_rfl) (by kernel_rfl) (by kernel_rfl) (fun _ _ _ h => h) (Or.inl ⟨by rfl, ?_⟩) (by assumption) ?_
        rotate_left
        · intro wx hSw; have p3 := hSw.cell y3 (fun e => e); have q3 := hSw.cell x3 (fun e => e); clear hSw; go_simp <;> with_reducible rfl
        (try simp only [List.getElem_toArray]); (try simp only [List.getElem_cons_succ]); (try simp only [List.getElem_cons_zero]); (try simp only [Act.put]); (try simp only [List.setIfInBounds_toArray]); (repeat first | simp only [List.set_cons_succ] | simp only [List.set_cons_zero])
        refine wpAnyH_take (i := 6) (v := ?_) rfl (by kernel_rfl) (by kernel_rfl) (by kernel_rfl) (fun _ _ _ h => h) (Or.inl ⟨by rfl, ?_⟩) (by assumption) ?_
        rotate_left
        · intro wx hSw; have p3 := hSw.cell y3 (fun e => e); have q3 := hSw.cell x3 (fun e => e); clear hSw; go_simp <;> with_reducible rfl
        (try simp only [List.getElem_toArray]); (try simp only [List.getElem_cons_succ]); (try simp only [List.getElem_cons_zero]); (try simp only [Act.put]); (try simp only [List.setIfInBounds_toArray]); (repeat first | simp only [List.set_cons_succ] | simp only [List.set_cons_zero])
        refine wpAnyH_take (i := 7) (v := ?_) rfl (by kernel_rfl) (by kernel_rfl) (by kernel_rfl) (fun _ _ _ h => h) (Or.inl ⟨by rfl, ?_⟩) (by assumption) ?_
        rotate_left
        · intro wx hSw; have p3 := hSw.cell y3 (fun e => e); have q3 := hSw.cell x3 (fun e => e); clear hSw; go_simp <;> with_reducible rfl
        (try simp only [List.getElem_toArray]); (try simp only [List.getElem_cons_succ]); (try simp only [List.getElem_cons_zero]); (try simp only [Act.put]); (try simp only [List.setIfInBounds_toArray]); (repeat first | simp only [List.set_cons_succ] | simp only [List.set_cons_zero])
        refine wpAnyH_take (i := 8) (v := ?_) rfl (by kernel_rfl) (by kernel_rfl) (by kernel_rfl) (fun _ _ _ h => h) (Or.inl ⟨by rfl, ?_⟩) (by assumption) ?_
        rotate_left
        · intro wx hSw; have p3 := hSw.cell y3 (fun e => e); have q3 := hSw.cell x3 (fun e => e); clear hSw; go_simp <;> with_reducible rfl
        (try simp only [List.getElem_toArray]); (try simp only [List.getElem_cons_succ]); (try simp only [List.getElem_cons_zero]); (try simp only [Act.put]); (try simp only [List.setIfInBounds_toArray]); (repeat first | simp only [List.set_cons_succ] | simp only [List.set_cons_zero])
        refine wpAnyH_take (i := 9) (v := .agg #[.int .i64 k3, .int .i64 n3, .string s3, .slice p3 m3 c3]) rfl (by kernel_rfl) (by kernel_rfl) (by kernel_rfl) (fun _ _ _ h => h) (Or.inl ⟨by rfl, ?_⟩) (by assumption) ?_
        · intro wx hSw; exact takes_loadR 40 _ rfl ⟨g', i * 4, none⟩ rfl (run_er (fun j v e => Keeps.cell (S := fun _ => False) hSw (hq2 j v e) (fun e => e)))
        (try simp only [List.getElem_toArray]); (try simp only [List.getElem_cons_succ]); (try simp only [List.getElem_cons_zero]); (try simp only [Act.put]); (try simp only [List.setIfInBounds_toArray]); (repeat first | simp only [List.set_cons_succ] | simp only [List.set_cons_zero])
        refine wpAnyH_one 10 (by kernel_rfl) rfl rfl ?_
        refine wp_call2 18 _ _ rfl _ _ rfl rfl (fun _ _ => rfl) (hP.mono ?_)
        rintro e w1 ⟨rfl, k1⟩
        have k01 : Keeps (fun _ => False) wr w1 := (Keeps.refl _ wr).drew.trans k1
        refine ⟨_, rfl, k01, fun hS1 => ?_⟩
        (try simp only [List.getElem_toArray]); (try simp only [List.getElem_cons_succ]); (try simp only [List.getElem_cons_zero]); (try simp only [Act.put]); (try simp only [List.setIfInBounds_toArray]); (repeat first | simp only [List.set_cons_succ] | simp only [List.set_cons_zero])
        refine wpAnyH_take (i := 11) (v := ?_) rfl (by kernel_rfl) (by kernel_rfl) (by kernel_rfl) (fun _ _ _ h => h) (Or.inl ⟨by rfl, ?_⟩) (by assumption) ?_
        rotate_left
        · intro wx hSw; clear hSw; go_simp <;> with_reducible rfl
        (try simp only [List.getElem_toArray]); (try simp only [List.getElem_cons_succ]); (try simp only [List.getElem_cons_zero]); (try simp only [Act.put]); (try simp only [List.setIfInBounds_toArray]); (repeat first | simp only [List.set_cons_succ] | simp only [List.set_cons_zero])
        refine wpAnyH_done (by kernel_rfl) ?_ _
        have B7 : SxI w [.int .i64 k, .int .i64 m, .string s, .slice (some ⟨g, 0, none⟩) N c] [.int .i64 k, .int .i64 m, .string s, .slice (some ⟨g', 0, none⟩) N c'] w1 := ⟨hB.kp.trans hS1, hB.b1.keep (by show 0 < 4; decide) hS1 (fun e => e), hB.b2.keep (by show 0 < 4; decide) hS1 (fun e => e)⟩
        clear hq1 hq2
        go_wp2_with fail
        refine hKH.out _ _ ?_
        clear hKH KK
        go_wp2_with fail
        go_roundw
        case rel => exact ⟨i + 1, by go_num, by omega, B7⟩
        case measure => simp [intOf]; omega
      · obtain rfl : i = N := by omega
        have d1 : decide ((i : Int) < (i : Int)) = false := decide_eq_false (by omega)
        have d2 : decide (i < i) = false := decide_eq_false (by omega)
        go_wp2_with fail
        go_ret
        exact ⟨rfl, hB.kp⟩
end Go.Proofs.YtdpnknleobobkaaGreatDoor
