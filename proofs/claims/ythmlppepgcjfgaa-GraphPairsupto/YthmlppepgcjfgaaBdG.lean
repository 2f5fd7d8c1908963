import Derived.Test.YthmlppepgcjfgaaBdF
import Derived.Maps.OwnSet
namespace Go.Proofs.Ythmlppepgcjfgaa
open Go.RowKit Go.Deep Go.Maps Go.ChangeMaps Go.MapKept Go.WideShapes
attribute [local go_sem] Oper.semAt_some run_store_nf run_store_f
set_option maxHeartbeats 1000000 in
set_option maxRecDepth 100000 in
theorem rBuild_no {w : World} {a : Option Addr} {cap : Nat} {ts : List Tv} {p : Nat → Lp} (hT : TXM w a ts p) (hn : ts.length ≤ 4398046511104) (hMay : ¬ MayT ts) : Calls Try.prog 8 #[.slice a ts.length cap] w (BuP ts w) := by
  have hmy : Calls Try.prog 13 #[.slice a ts.length cap] w fun e w' => e = .returned (.int .i64 160) ∧ Keeps (fun _ => False) w w' := by
    refine (may_any hT hn).mono ?_
    rintro e w' ⟨ec, rfl, h, k⟩
    rcases h with ⟨h, -⟩ | ⟨-, rfl⟩
    · exact absurd h hMay
    · exact ⟨rfl, k⟩
  have HEND : Hid (∀ W, Keeps (fun _ => False) w W → BuP ts w (.returned (.tuple #[.slice none 0 0, .int .i64 160])) W) := fun W k => ⟨none, 0, [], 160, rfl, World.ownsRow_nil _ _ _ _, .inl ⟨hMay, rfl, rfl⟩, k⟩
  clear hT hMay
  generalize ts.length = N at *
  go_enter Try.func8, Try.ntmps8
  go_wp2_with (go_at_call 13; refine hmy.mono ?_; clear hmy; rintro e w1 ⟨rfl, k1⟩)
  go_ret2
  exact HEND.out _ k1
theorem rBuild_any {w : World} {a : Option Addr} {cap : Nat} {ts : List Tv} {p : Nat → Lp} (hT : TXM w a ts p) (hn : ts.length ≤ 1048576) (hS : wsum ts ts.length ≤ 1048576) (hls : ∀ i, i < ts.length → (ts.getD i tv0).saws.length ≤ 1048576) : Calls Try.prog 8 #[.slice a ts.length cap] w (BuP ts w) := by
  by_cases h : MayT ts
  · exact rBuild_ok hT h.1 hS hls h
  · exact rBuild_no hT (by omega) h
theorem underU : Try.prog.underlying 52 = some (.map 3 53) := by kernel_rfl
theorem zeroU (w : World) : (zeroValue 53).run Try.prog w = .ok (.agg #[]) w := by kernel_rfl
/-- A set of numbers in memory. -/
def SV (w : World) (mb n : Nat) (f : Int → Bool) : Prop :=
  ∃ D : DataW Unit, w.ownsMap Try.prog 3 unitElem mb n D ∧ Maps.size D = n ∧ ∀ k, I64 k → Maps.has D (.int .i64 k) = f k
theorem SV.lt {w : World} {mb n : Nat} {f : Int → Bool} (h : SV w mb n f) : mb < w.heap.size := by
  obtain ⟨D, h, _⟩ := h
  exact h.lt
theorem SV.same {w w' : World} {mb n : Nat} {f : Int → Bool} (h : SV w mb n f) (hb : w'.heap[mb]? = w.heap[mb]?) : SV w' mb n f := by
  obtain ⟨D, ⟨es, c, hb', r⟩, r'⟩ := h
  exact ⟨D, ⟨es, c, hb.trans hb', r⟩, r'⟩
theorem SV.keep {w w' : World} {mb n : Nat} {f : Int → Bool} {S : Nat → Prop} (h : SV w mb n f) (k : Keeps S w w') (hS : ¬ S mb) : SV w' mb n f := h.same (k.block mb h.lt hS)
theorem SV.made (w : World) : SV (w.alloc (.map #[] 0)) w.heap.size 0 (fun _ => false) := ⟨.map [], World.ownsMap_made w _ _ _, rfl, fun _ _ => rfl⟩
def upN (b : Bool) (n : Nat) : Nat := if b then n else n + 1
def putF (f : Int → Bool) (k : Int) : Int → Bool := fun x => if x = k then true else f x
theorem sv_put {w' : World} {mb n : Nat} {f : Int → Bool} {D : DataW Unit} {m : Nat} {k : Int} (hk : I64 k) (h1 : ∃ w : World, w.ownsMap Try.prog 3 unitElem mb n D) (h2 : Maps.size D = n) (h3 : ∀ k, I64 k → Maps.has D (.int .i64 k) = f k) (h : w'.ownsMap Try.prog 3 unitElem mb m (D.put (.int .i64 k) (.agg []))) : SV w' mb (upN (f k) n) (putF f k) := by
  obtain ⟨w, h1⟩ := h1
  have hT := h1.tidy keyedG
  have e := size_put (k := .int .i64 k) hT (.agg [])
  rw [h3 k hk, h2] at e
  have e3 : Maps.size (D.put (.int .i64 k) (.agg [])) = upN (f k) n := e
  refine ⟨_, ?_, e3, fun x hx => ?_⟩
  · rw [← e3]
    exact tight h
  · unfold putF
    by_cases c : x = k
    · subst c
      rw [if_pos rfl, has_put_same h1.isMap (show WideAt.IsKeyLit (.int .i64 x) from trivial)]
    · rw [if_neg c, has_put_other (ne_key c)]
      exact h3 x hx
/-- The ends of those that committed, so far. -/
def EndF (ts : List Tv) (i : Nat) (f : Int → Bool) : Prop := ∀ k, I64 k → (f k = true ↔ ∃ j, j < i ∧ (ts.getD j tv0).out = 1 ∧ (ts.getD j tv0).end_ = k)
theorem EndF.no {ts : List Tv} {i : Nat} {f : Int → Bool} (h : EndF ts i f) (ho : (ts.getD i tv0).out ≠ 1) : EndF ts (i + 1) f := fun k hk => by
  rw [h k hk]
  constructor
  · rintro ⟨j, q1, q2⟩
    exact ⟨j, by omega, q2⟩
  · rintro ⟨j, q1, q2⟩
    by_cases e : j = i
    · subst e; exact absurd q2.1 ho
    · exact ⟨j, by omega, q2⟩
theorem EndF.yes {ts : List Tv} {i : Nat} {f : Int → Bool} (h : EndF ts i f) (ho : (ts.getD i tv0).out = 1) : EndF ts (i + 1) (putF f (ts.getD i tv0).end_) := fun k hk => by
  unfold putF
  by_cases c : k = (ts.getD i tv0).end_
  · rw [if_pos c]
    exact ⟨fun _ => ⟨i, by omega, ho, c.symm⟩, fun _ => rfl⟩
  · rw [if_neg c, h k hk]
    constructor
    · rintro ⟨j, q1, q2⟩
      exact ⟨j, by omega, q2⟩
    · rintro ⟨j, q1, q2⟩
      by_cases e : j = i
      · subst e; exact absurd q2.2.symm c
      · exact ⟨j, by omega, q2⟩
def MsP (ts : List Tv) (w : World) (e : Ending) (w' : World) : Prop := ∃ r : Bool, e = .returned (.bool r) ∧ (r = true ↔ ∀ i, i < ts.length → okT ts i) ∧ Keeps (fun _ => False) w w'
set_option maxHeartbeats 2000000 in
set_option maxRecDepth 100000 in
theorem mayStand_any {w : World} {a : Option Addr} {cap : Nat} {ts : List Tv} {p : Nat → Lp} (hT : TXM w a ts p) (hn : ts.length ≤ 1048576) (hI : ∀ i, i < ts.length → I64 (ts.getD i tv0).end_) : Calls Try.prog 10 #[.slice a ts.length cap] w (MsP ts w) := by
  have HNO : Hid (∀ i W, i < ts.length → ¬ okT ts i → Keeps (fun _ => False) w W → MsP ts w (.returned (.bool false)) W) := fun i W hi h k => ⟨false, rfl, ⟨(fun q => by cases q), fun q => absurd (q i hi) h⟩, k⟩
  have HOK : Hid (∀ W, (∀ i, i < ts.length → okT ts i) → Keeps (fun _ => False) w W → MsP ts w (.returned (.bool true)) W) := fun W h k => ⟨true, rfl, ⟨fun _ => h, fun _ => rfl⟩, k⟩
  have HT : Hid (TXM w a ts p) := hT
  have HI : Hid (∀ i, i < ts.length → I64 (ts.getD i tv0).end_) := hI
  obtain ⟨W1, hW1⟩ : ∃ W1, W1 = w.alloc (.map #[] 0) := ⟨_, rfl⟩
  have HS1 : Hid (SV W1 w.heap.size 0 (fun _ => false)) := by rw [hW1]; exact SV.made w
  have HK1 : Hid (Keeps (fun _ => False) w W1) := by rw [hW1]; exact (Keeps.refl _ w).alloc _
  have hmm : (Instr.makeMap 52 none).run Try.prog w = .ok (.map (some w.heap.size)) W1 := by rw [hW1]; exact run_makeMap _ _
  clear hT hI hW1
  generalize hN : ts.length = N at *
  have HN : Hid (ts.length = N) := hN
  clear hN
  go_enter Try.func10, Try.ntmps10
  go_wp2_with fail
  clear hmm
  generalize hmb : w.heap.size = mb at *
  have HMB : Hid (w.heap.size = mb) := hmb
  clear hmb
  go_loopg [11] N (fun gh iv Wr => ∃ (i n : Nat) (f : Int → Bool), gh + i = N ∧ iv = .int .i64 (i : Int) ∧ i ≤ N ∧ n ≤ i ∧ SV Wr mb n f ∧ EndF ts i f ∧ (∀ j, j < i → okT ts j) ∧ Keeps (fun _ => False) w Wr)
  case atStart => exact ⟨0, 0, _, rfl, rfl, Nat.zero_le _, Nat.le_refl _, HS1.out, (fun k _ => ⟨(fun h => by cases h), fun ⟨j, hj, _⟩ => absurd hj (Nat.not_lt_zero j)⟩), (fun j hj => absurd hj (Nat.not_lt_zero j)), HK1.out⟩
  case round =>
    obtain ⟨i, n, f, hgh, rfl, hiN, hni, hsv, hef, hok, kr⟩ := hrel
    clear HS1 HK1
    have HKR : Hid (Keeps (fun _ => False) w wr) := kr
    have HSV : Hid (SV wr mb n f) := hsv
    have HEF : Hid (EndF ts i f) := hef
    have HK : Hid (∀ j, j < i → okT ts j) := hok
    clear hsv hef hok
    by_cases hlt : i < N
    · have j1 : decide ((i : Int) < (N : Int)) = true := decide_eq_true (by omega)
      have j2 : decide (i < N) = true := decide_eq_true hlt
      have j3 : (i : Int) < (N : Int) := by omega
      have j4 : (0 : Int) ≤ (i : Int) := by omega
      have hwi : IntKind.i64.wrap ((i : Int) + 1) = (i : Int) + 1 := by rw [IntKind.wrap_i64]; omega
      obtain ⟨⟨b, off, rfl, hct⟩, -, -⟩ := HT.out i (by rw [HN.out]; exact hlt)
      have hR1 := run_txAt (W := wr) (o := off + i * 11) (fun j v e => kr.cell (hct j v e) (fun e => e))
      have hi64 := HI.out i hlt
      have HB1 : Hid (∀ W, ¬ okT ts i → Keeps (fun _ => False) w W → MsP ts w (.returned (.bool false)) W) := fun W h k => HNO.out i W hlt h k
      have HNX : Hid (okT ts i → ∀ j, j < i + 1 → okT ts j) := fun h j hj => by
        by_cases e : j = i
        · rw [e]; exact h
        · exact HK.out j (by omega)
      have HOI : Hid (okT ts i ↔ ((ts.getD i tv0).out = 1 → (0 ≤ (ts.getD i tv0).fnl ∧ (ts.getD i tv0).bgn < (ts.getD i tv0).end_) ∧ f (ts.getD i tv0).end_ = false)) := by
        unfold okT
        constructor
        · intro h ho
          refine ⟨(h ho).1, ?_⟩
          cases hc : f (ts.getD i tv0).end_
          · rfl
          · obtain ⟨j, q1, q2, q3⟩ := (HEF.out _ hi64).1 hc
            exact absurd q3 ((h ho).2 j q1 q2)
        · intro h ho
          refine ⟨(h ho).1, fun j q1 q2 q3 => ?_⟩
          have := (HEF.out _ hi64).2 ⟨j, q1, q2, q3⟩
          rw [(h ho).2] at this
          cases this
      have HEN : Hid ((ts.getD i tv0).out ≠ 1 → EndF ts (i + 1) f) := fun h => HEF.out.no h
      have HEY : Hid ((ts.getD i tv0).out = 1 → EndF ts (i + 1) (putF f (ts.getD i tv0).end_)) := fun h => HEF.out.yes h
      obtain ⟨W4, hW4⟩ : ∃ W4, W4 = wr.alloc (.cells #[.int .i64 0, .int .i64 0, .int .i64 0, .int .i64 0, .int .i64 0, .int .i64 0, .int .i64 0, .int .i64 0, .int .i64 0, .slice none 0 0, .slice none 0 0] 32) := ⟨_, rfl⟩
      have k4 : Keeps (fun _ => False) wr W4 := by rw [hW4]; exact (Keeps.refl _ wr).alloc _
      have hU4 : CL W4 wr.heap.size (tv0.clp ⟨none, 0, none, 0⟩) := by rw [hW4]; exact CL.made wr (tv0.clp ⟨none, 0, none, 0⟩) 32
      have HW4 : Hid (W4 = wr.alloc (.cells #[.int .i64 0, .int .i64 0, .int .i64 0, .int .i64 0, .int .i64 0, .int .i64 0, .int .i64 0, .int .i64 0, .int .i64 0, .slice none 0 0, .slice none 0 0] 32)) := hW4
      have HSZ : Hid (mb < wr.heap.size) := HSV.out.lt
      clear hW4 hct HEF HK
      generalize ts.getD i tv0 = T at *
      have hOC : (T.clp (p i)).toArray.all (·.oneCell') = true := all_oneCell_toArray (by simp [Tv.clp, Tv.cells, Value.oneCell'])
      obtain ⟨oi, hoi⟩ : ∃ oi, oi = T.out := ⟨_, rfl⟩
      obtain ⟨bi, hbi⟩ : ∃ bi, bi = T.bgn := ⟨_, rfl⟩
      obtain ⟨fi, hfi⟩ : ∃ fi, fi = T.fnl := ⟨_, rfl⟩
      obtain ⟨ei, hei⟩ : ∃ ei, ei = T.end_ := ⟨_, rfl⟩
      rw [← hoi, ← hbi, ← hfi, ← hei] at HOI
      rw [← hoi] at HEN HEY
      rw [← hei] at hi64 HEY
      have HQ : Hid (oi = T.out ∧ bi = T.bgn ∧ fi = T.fnl ∧ ei = T.end_) := ⟨hoi, hbi, hfi, hei⟩
      have hkey := key_int hi64
      have HI6 : Hid (I64 ei) := hi64
      clear hoi hbi hfi hei hi64
      by_cases h1 : oi = 1
      · have s1 : (oi != 1) = false := by simp [h1]
        have HEY2 : Hid (EndF ts (i + 1) (putF f ei)) := HEY.out h1
        have HOI2 : Hid (okT ts i ↔ ((0 ≤ fi ∧ bi < ei) ∧ f ei = false)) := ⟨fun h => HOI.out.1 h h1, fun h => HOI.out.2 (fun _ => h)⟩
        clear h1 HEN HEY HOI
        obtain ⟨fb, hfb⟩ : ∃ fb, fb = f ei := ⟨_, rfl⟩
        have HFB : Hid (fb = f ei) := hfb
        rw [← hfb] at HOI2
        clear hfb
        cases fb
        · by_cases h2 : fi < 0
          · have s2 : decide (fi < 0) = true := decide_eq_true h2
            have HE2 : Hid (∀ W, Keeps (fun _ => False) w W → MsP ts w (.returned (.bool false)) W) := fun W k => HB1.out W (fun q => by have := (HOI2.out.1 q).1.1; omega) k
            clear h2
            go_wp2_with (first | (refine wpList_load_runL rfl 32 _ rfl ⟨b, off + i * 11, none⟩ rfl _ hR1 ?_; clear hR1) | (rw [← HW4.out]; clear HW4; refine wpList_store_cl rfl 32 _ _ rfl wr.heap.size 0 11 (T.clp (p i)).toArray rfl rfl rfl hU4 (by show 11 ≤ 11; decide) iTx hOC ?_; intro w5 hc5 k5 hsz5; clear hsz5; have hI5 : CL w5 wr.heap.size (T.clp (p i)) := hc5; clear hc5; have K5 : Keeps (fun _ => False) w w5 := (kr.trans k4).trans' k5 (fun _ _ e => e) (fun i2 hi2 e => (by have e : i2 = wr.heap.size := e; have := kr.size; omega)); have z8 := hI5.c 8 _ rfl; rw [← HQ.out.1] at z8; have ka5 := (Keeps.refl (fun _ => False) w5).alloc (.cells #[] 53); have z7 := hI5.c 7 _ rfl; rw [← HQ.out.2.2.2] at z7; have y7 := ka5.cell z7 (fun e => e); have y6 := ka5.cell (hI5.c 6 _ rfl) (fun e => e); rw [← HQ.out.2.2.1] at y6; have y5 := ka5.cell (hI5.c 5 _ rfl) (fun e => e); rw [← HQ.out.2.1] at y5; obtain ⟨D, h1, h2, h3⟩ := (HSV.out.keep k4 (fun e => e)).keep k5 (fun e => (by have e : mb = wr.heap.size := e; have := HSZ.out; omega)); have hfk := h3 ei HI6.out; rw [← HFB.out] at hfk; have HH : Hid (Maps.size D = n ∧ ∀ k, I64 k → Maps.has D (.int .i64 k) = f k) := ⟨h2, h3⟩; clear h2 h3) | (at_lookup; refine wpList_lookup_own_unit _ rfl _ _ 52 rfl 3 53 keyedG underU (zeroU _) mb n D rfl h1 _ _ rfl hkey ?_; (try simp only [Act.put, List.setIfInBounds_toArray, List.set_cons_zero, List.set_cons_succ]); rw [hfk]))
            go_ret
            exact HE2.out _ (K5.trans ((Keeps.refl _ w5).alloc _))
          · have s2 : decide (fi < 0) = false := decide_eq_false h2
            by_cases h3 : ei ≤ bi
            · have s3 : decide (ei ≤ bi) = true := decide_eq_true h3
              have HE2 : Hid (∀ W, Keeps (fun _ => False) w W → MsP ts w (.returned (.bool false)) W) := fun W k => HB1.out W (fun q => by have := (HOI2.out.1 q).1.2; omega) k
              clear h2 h3
              go_wp2_with (first | (refine wpList_load_runL rfl 32 _ rfl ⟨b, off + i * 11, none⟩ rfl _ hR1 ?_; clear hR1) | (rw [← HW4.out]; clear HW4; refine wpList_store_cl rfl 32 _ _ rfl wr.heap.size 0 11 (T.clp (p i)).toArray rfl rfl rfl hU4 (by show 11 ≤ 11; decide) iTx hOC ?_; intro w5 hc5 k5 hsz5; clear hsz5; have hI5 : CL w5 wr.heap.size (T.clp (p i)) := hc5; clear hc5; have K5 : Keeps (fun _ => False) w w5 := (kr.trans k4).trans' k5 (fun _ _ e => e) (fun i2 hi2 e => (by have e : i2 = wr.heap.size := e; have := kr.size; omega)); have z8 := hI5.c 8 _ rfl; rw [← HQ.out.1] at z8; have ka5 := (Keeps.refl (fun _ => False) w5).alloc (.cells #[] 53); have z7 := hI5.c 7 _ rfl; rw [← HQ.out.2.2.2] at z7; have y7 := ka5.cell z7 (fun e => e); have y6 := ka5.cell (hI5.c 6 _ rfl) (fun e => e); rw [← HQ.out.2.2.1] at y6; have y5 := ka5.cell (hI5.c 5 _ rfl) (fun e => e); rw [← HQ.out.2.1] at y5; obtain ⟨D, h1, h2, h3⟩ := (HSV.out.keep k4 (fun e => e)).keep k5 (fun e => (by have e : mb = wr.heap.size := e; have := HSZ.out; omega)); have hfk := h3 ei HI6.out; rw [← HFB.out] at hfk; have HH : Hid (Maps.size D = n ∧ ∀ k, I64 k → Maps.has D (.int .i64 k) = f k) := ⟨h2, h3⟩; clear h2 h3) | (at_lookup; refine wpList_lookup_own_unit _ rfl _ _ 52 rfl 3 53 keyedG underU (zeroU _) mb n D rfl h1 _ _ rfl hkey ?_; (try simp only [Act.put, List.setIfInBounds_toArray, List.set_cons_zero, List.set_cons_succ]); rw [hfk]))
              go_ret
              exact HE2.out _ (K5.trans ((Keeps.refl _ w5).alloc _))
            · have s3 : decide (ei ≤ bi) = false := decide_eq_false h3
              have HN1 : Hid (∀ j, j < i + 1 → okT ts j) := HNX.out (HOI2.out.2 ⟨⟨by omega, by omega⟩, rfl⟩)
              clear h2 h3
              go_wp2_with (first | (refine wpList_load_runL rfl 32 _ rfl ⟨b, off + i * 11, none⟩ rfl _ hR1 ?_; clear hR1) | (rw [← HW4.out]; clear HW4; refine wpList_store_cl rfl 32 _ _ rfl wr.heap.size 0 11 (T.clp (p i)).toArray rfl rfl rfl hU4 (by show 11 ≤ 11; decide) iTx hOC ?_; intro w5 hc5 k5 hsz5; clear hsz5; have hI5 : CL w5 wr.heap.size (T.clp (p i)) := hc5; clear hc5; have K5 : Keeps (fun _ => False) w w5 := (kr.trans k4).trans' k5 (fun _ _ e => e) (fun i2 hi2 e => (by have e : i2 = wr.heap.size := e; have := kr.size; omega)); have z8 := hI5.c 8 _ rfl; rw [← HQ.out.1] at z8; have ka5 := (Keeps.refl (fun _ => False) w5).alloc (.cells #[] 53); have z7 := hI5.c 7 _ rfl; rw [← HQ.out.2.2.2] at z7; have y7 := ka5.cell z7 (fun e => e); have y6 := ka5.cell (hI5.c 6 _ rfl) (fun e => e); rw [← HQ.out.2.2.1] at y6; have y5 := ka5.cell (hI5.c 5 _ rfl) (fun e => e); rw [← HQ.out.2.1] at y5; obtain ⟨D, h1, h2, h3⟩ := (HSV.out.keep k4 (fun e => e)).keep k5 (fun e => (by have e : mb = wr.heap.size := e; have := HSZ.out; omega)); have hfk := h3 ei HI6.out; rw [← HFB.out] at hfk; have HH : Hid (Maps.size D = n ∧ ∀ k, I64 k → Maps.has D (.int .i64 k) = f k) := ⟨h2, h3⟩; clear h2 h3) | (at_lookup; refine wpList_lookup_own_unit _ rfl _ _ 52 rfl 3 53 keyedG underU (zeroU _) mb n D rfl h1 _ _ rfl hkey ?_; (try simp only [Act.put, List.setIfInBounds_toArray, List.set_cons_zero, List.set_cons_succ]); rw [hfk]; have hS6 : SV w5 mb n f := ⟨D, h1, HH.out.1, HH.out.2⟩; obtain ⟨D2, h1b, h2b, h3b⟩ := hS6.keep ka5 (fun e => e); have HH2 : Hid (Maps.size D2 = n ∧ ∀ k, I64 k → Maps.has D2 (.int .i64 k) = f k) := ⟨h2b, h3b⟩; clear h2b h3b hS6) | (refine wpList_mapUpdate_in _ rfl _ _ _ 52 rfl 3 53 keyedG underU unitElem mb n D2 rfl h1b (by unfold maxLen; omega) _ _ _ rfl rfl hkey (.agg []) [] unitElem_mk ?_; intro w7 hown7 hturn7))
              have HSX : Hid (SV w7 mb (n + 1) (putF f ei)) := by
                have h := sv_put HI6.out ⟨_, h1b⟩ HH2.out.1 HH2.out.2 hown7
                rw [← HFB.out] at h
                exact h
              have HK7 : Hid (Keeps (fun _ => False) w w7) := (K5.trans ka5).trans' (keeps_turned hturn7) (fun _ _ e => e) (fun i2 hi2 e => by have e : i2 = mb := e; have := HMB.out; omega)
              clear hown7 hturn7
              go_roundg (gk - 1)
              case measure => omega
              case rel => exact ⟨i + 1, n + 1, putF f ei, by omega, by go_num, by omega, by omega, HSX.out, HEY2.out, HN1.out, HK7.out⟩
        · have HE2 : Hid (∀ W, Keeps (fun _ => False) w W → MsP ts w (.returned (.bool false)) W) := fun W k => HB1.out W (fun q => by have := (HOI2.out.1 q).2; cases this) k
          go_wp2_with (first | (refine wpList_load_runL rfl 32 _ rfl ⟨b, off + i * 11, none⟩ rfl _ hR1 ?_; clear hR1) | (rw [← HW4.out]; clear HW4; refine wpList_store_cl rfl 32 _ _ rfl wr.heap.size 0 11 (T.clp (p i)).toArray rfl rfl rfl hU4 (by show 11 ≤ 11; decide) iTx hOC ?_; intro w5 hc5 k5 hsz5; clear hsz5; have hI5 : CL w5 wr.heap.size (T.clp (p i)) := hc5; clear hc5; have K5 : Keeps (fun _ => False) w w5 := (kr.trans k4).trans' k5 (fun _ _ e => e) (fun i2 hi2 e => (by have e : i2 = wr.heap.size := e; have := kr.size; omega)); have z8 := hI5.c 8 _ rfl; rw [← HQ.out.1] at z8; have ka5 := (Keeps.refl (fun _ => False) w5).alloc (.cells #[] 53); have z7 := hI5.c 7 _ rfl; rw [← HQ.out.2.2.2] at z7; have y7 := ka5.cell z7 (fun e => e); have y6 := ka5.cell (hI5.c 6 _ rfl) (fun e => e); rw [← HQ.out.2.2.1] at y6; have y5 := ka5.cell (hI5.c 5 _ rfl) (fun e => e); rw [← HQ.out.2.1] at y5; obtain ⟨D, h1, h2, h3⟩ := (HSV.out.keep k4 (fun e => e)).keep k5 (fun e => (by have e : mb = wr.heap.size := e; have := HSZ.out; omega)); have hfk := h3 ei HI6.out; rw [← HFB.out] at hfk; have HH : Hid (Maps.size D = n ∧ ∀ k, I64 k → Maps.has D (.int .i64 k) = f k) := ⟨h2, h3⟩; clear h2 h3) | (at_lookup; refine wpList_lookup_own_unit _ rfl _ _ 52 rfl 3 53 keyedG underU (zeroU _) mb n D rfl h1 _ _ rfl hkey ?_; (try simp only [Act.put, List.setIfInBounds_toArray, List.set_cons_zero, List.set_cons_succ]); rw [hfk]))
          go_ret
          exact HE2.out _ (K5.trans ((Keeps.refl _ w5).alloc _))
      · have s1 : (oi != 1) = true := bne_iff_ne.2 h1
        have HN1 : Hid (∀ j, j < i + 1 → okT ts j) := HNX.out (HOI.out.2 (fun q => absurd q h1))
        have HEN2 : Hid (EndF ts (i + 1) f) := HEN.out h1
        clear h1 HNX HOI HB1 HEN HEY
        go_wp2_with (first | (refine wpList_load_runL rfl 32 _ rfl ⟨b, off + i * 11, none⟩ rfl _ hR1 ?_; clear hR1) | (rw [← HW4.out]; clear HW4; refine wpList_store_cl rfl 32 _ _ rfl wr.heap.size 0 11 (T.clp (p i)).toArray rfl rfl rfl hU4 (by show 11 ≤ 11; decide) iTx hOC ?_; intro w5 hc5 k5 hsz5; clear hsz5; have hI5 : CL w5 wr.heap.size (T.clp (p i)) := hc5; clear hc5; have K5 : Keeps (fun _ => False) w w5 := (kr.trans k4).trans' k5 (fun _ _ e => e) (fun i2 hi2 e => (by have e : i2 = wr.heap.size := e; have := kr.size; omega)); have z8 := hI5.c 8 _ rfl; rw [← HQ.out.1] at z8; clear hI5))
        have HSX : Hid (SV w5 mb n f) := (HSV.out.keep k4 (fun e => e)).keep k5 (fun e => by have e : mb = wr.heap.size := e; have := HSZ.out; omega)
        clear k5
        go_roundg (gk - 1)
        case measure => omega
        case rel => exact ⟨i + 1, n, f, by omega, by go_num, by omega, by omega, HSX.out, HEN2.out, HN1.out, K5⟩
    · have j1 : decide ((i : Int) < (N : Int)) = false := decide_eq_false (by omega)
      have j2 : decide (i < N) = false := decide_eq_false hlt
      have HX : Hid (MsP ts w (.returned (.bool true)) wr) := HOK.out wr (fun j hj => HK.out j (by omega)) kr
      clear kr
      go_wp2_with fail
      go_ret
      exact HX.out
end Go.Proofs.Ythmlppepgcjfgaa
