import Derived.Test.YtmnmphkkcabkiaaG10
import Derived.Great.BuildSlice
namespace Go.Proofs.Ytmnmphkkcabkiaa
open Go.RowKit
attribute [local go_sem] Oper.semAt_some run_store_nf run_store_f
theorem own_cl {W : World} {base n size g cap : Nat} {e : TypeId} {l : List Value} (h : W.ownsRow base e size (.slice (some ⟨g, 0, none⟩) n cap) n l) : CL W g l := by
  have hc := h.cells (g := g) rfl
  rcases h.2 with ⟨e, _⟩ | ⟨g', cap', cur, e, hbg, hg, _⟩
  · cases e
  · injection e with e1 _ e2
    injection e1 with e1
    injection e1 with e1 _ _
    subst e1
    refine ⟨fun o v e => ?_, fun o _ => by simp [World.frozen?, hg]⟩
    have := hc o v e
    rw [add_at, Nat.zero_add] at this
    exact this
theorem TL.keepB {base m : Nat} {W W' : World} {v : Value} {ts : List Tv} {sv wv : Nat → Value} {ρ : Nat → Nat} (h : TL base W v ts sv wv ρ m) {S : Nat → Prop} (k : Keeps S W W') (hS : ∀ i, base ≤ i → ¬ S i) : TL base W' v ts sv wv ρ m :=
  ⟨k.owns h.o (fun b e e' => hS b (owns_baseT h.o b e) e'), fun i hi => k.owns (h.s i hi) (fun b e e' => hS b (owns_baseT (h.s i hi) b e) e'), fun i hi => k.owns (h.w i hi) (fun b e e' => hS b (owns_baseT (h.w i hi) b e) e'), h.r0, h.rs, h.rw, h.ls, Nat.le_trans h.bb k.size⟩
theorem run_store_i64 {w : World} {b o : Nat} (hc : (w.cell? ⟨b, o, none⟩).isSome = true) (hz : w.frozen? ⟨b, o, none⟩ = false) (v : Int) : (storeVar 2 ⟨b, o, none⟩ (.int .i64 v)).run Try.prog w = .ok () (w.setCell ⟨b, o, none⟩ (.int .i64 v)) := by
  obtain ⟨u, hu⟩ := Option.isSome_iff_exists.1 hc
  go_simp
theorem wpList_store_ibq {w : World} {ops : Array Oper} {rest : List Oper} {o : Oper} {a : Act} {Q : Exit → Act → World → Prop} (hgd : o.guard = none) (hd : o.dst = none) (x y : Operand) (ho : o.op = .store 2 x y) (b off : Nat) (hx : a.eval x = .pointer (some ⟨b, off, none⟩)) (v : Int) (hy : a.eval y = .int .i64 v)
    {n : Nat} {f : Nat → Int} (hB : IB w b n f) (hl : off < n) (h : ∀ w1, IB w1 b n (up f off v) → Keeps (fun k => k = b) w w1 → w1.heap.size = w.heap.size → wpList Try.prog ops Q rest a w1) : wpList Try.prog ops Q (o :: rest) a w :=
  wpList_plain hgd fun _ hK => by
    unfold Oper.wp execOp
    simp only [ho, hx, hy, Instr.storeAt, Instr.sureAddr, Sem.run_bind, Sem.run_pure, Result.andThen_ok, run_store_i64 (by rw [hB.c off hl]; rfl) (hB.z off hl) v]
    refine hK _ _ ?_
    rw [hd]
    exact (h _ (hB.set hl v) ((Keeps.refl (fun k => k = b) w).setCell (p := ⟨b, off, none⟩) (fun _ => rfl) _) (by simp))
theorem wpAnyH_loadL {P : Program} {ops : Array Oper} {Q : Exit → Act → World → Prop} {md : Region.Mode} {S : World → Prop} {fuel : Nat} {listed : Array Bool} {a : Act} {w : World} {o : Oper} (i : Nat) (hr : Region.ready md ops listed = [i]) (hoi : ops[i]? = some o) (hgd : o.guard = none)
    (ty : TypeId) (x : Operand) (ho : o.op = .load ty x) (ad : Addr) (hx : a.eval x = .pointer (some ad)) (v : Value) (hrun : (loadVar ty ad).run P w = .ok v w) (hS : S w) (h : wpAnyH P md ops Q S fuel (listed.setIfInBounds i true) (a.put o.dst v) w) : wpAnyH P md ops Q S (fuel + 1) listed a w := by
  refine wpAnyH_one i hr hoi hgd ?_
  unfold Oper.wp execOp
  simp only [ho, hx, Instr.loadAt, Instr.sureAddr, Sem.run_bind, Sem.run_pure, Result.andThen_ok, hrun]
  exact ⟨hS, fun _ => h⟩
theorem wp_append_t {P : Program} {w : World} {o : Oper} {a : Act} {Kk : Act → World → Prop} {Q : Exit → Act → World → Prop} (s x : Operand) (t : TypeId)
    (ho : o.op = .call { callee := .builtin .append, args := #[s, x], argTypes := #[t, t] }) (v src v' : Value) (w' : World) (hs : a.eval s = v) (hx : a.eval x = src)
    (hr : (Builtin.append_ #[t, t] o.type #[v, src]).run P w = .ok v' w') (h : Kk (a.put o.dst v') w') : Oper.wp P o a w Kk Q := by
  unfold Oper.wp execOp
  simp only [ho, resolve, invoke, builtin, Sem.run_bind, Sem.run_pure, Result.andThen_ok, List.map_toArray, List.map_cons, List.map_nil, hs, hx, hr]
  exact h
theorem wp_buildTx {o : Oper} {a : Act} {w : World} {K : Act → World → Prop} {Q : Exit → Act → World → Prop} (x : Operand) (ho : o.op = .buildSlice 35 1 #[(0, x)]) (cs : Array Value) (hc : cs.size = 11) (hx : a.eval x = .agg cs)
    (h : K (a.put o.dst (.slice (some ⟨w.heap.size, 0, none⟩) 1 1)) (w.alloc (.cells cs 42))) : o.wp Try.prog a w K Q := by
  obtain ⟨i0, hi0, hzz⟩ := Option.map_eq_some_iff.1 iTxs
  simp only [Prod.mk.injEq] at hzz
  obtain ⟨hz0, hz1, -⟩ := hzz
  refine wp_buildSlice 35 42 1 _ ho cs i0 _ uTx hi0 hz0 (by rw [hz1]; decide) (by rw [hz1]; decide) ?_ h
  rw [hz1]
  have e : (#[(0, x)].map fun (i, x) => (i, a.eval x)).toList = ([Value.agg cs].zipIdx 0).map fun x => (x.2, x.1) := by simp [hx]
  have e2 : ([Value.agg cs].flatMap fun v => v.cells.toList).toArray = cs := by simp; rfl
  rw [e, Great.fill_whole (s := 11) (by decide) [Value.agg cs] _ (fun v hv => by simp at hv; subst hv; exact hc) (by simp), e2]
structure SBd (rb sb : Nat) (r : Rw) (g : Nat → Int) (W : World) : Prop where
  c : CL W rb r.cells
  i : IB W sb 6 g
def txT5 (f : Func) : Code := match f.body with | some (.seq _ (.seq _ (.seq _ (.seq _ (.seq _ t))))) => t | _ => .skip
def txT6 (f : Func) : Code := match f.body with | some (.seq _ (.seq _ (.seq _ (.seq _ (.seq _ (.seq _ t)))))) => t | _ => .skip
set_option maxHeartbeats 1000000 in
set_option maxRecDepth 100000 in
theorem txs_1 {base N cap sb : Nat} {w X : World} {l : List Rw} {a : Option Addr} {R : Ending → World → Prop} {x1 x2 x3 x4 x5 x8 x9 x10 x11 x12 x13 x14 x15 x16 x17 x18 x19 x20 x21 x22 x23 x24 x25 x26 x27 x28 x29 x30 x31 x32 x33 x34 x35 x36 x37 x38 x39 x40 x41 x42 x43 x44 x45 x46 x47 x48 x49 x50 x51 x52 x53 x54 x55 x56 x57 x58 x59 x60 x61 x62 x63 x64 x65 x66 x67 x68 x69 x70 x71 x72 x73 x74 x75 x76 x77 x78 x79 x80 x81 x82 x83 x84 x85 x86 x87 x88 x89 x90 x91 x92 x93 x94 x95 x96 x97 x98 x99 x100 x101 x102 x103 x104 x105 x106 x107 x108 x109 x110 x111 x112 x113 x114 x115 x116 x117 x118 x119 x120 x121 x122 x123 x124 x125 x126 x127 x128 : Value} (hl : RSL w a l) (hN : l.length = N) (hN2 : N ≤ 980000000000) (hf : fstP l 0 (f0 6) = none) (kX : Keeps (fun _ => False) w X) (hS0 : IB X sb 6 (fun _ => 0)) (hsb : w.heap.size ≤ sb) (hbase : X.heap.size = base)
    (hP : ∀ W lv sv wv ρ y1 y2 y3 y4 y5 y8 y9 y10 y11 y12 y13 y14 y15 y16 y17 y18 y19 y20 y21 y22 y23 y24 y25 y26 y27 y28 y29 y30 y31 y32 y33 y34 y35 y36 y37 y38 y39 y40 y41 y42 y43 y44 y45 y46 y47 y48 y49 y50 y51 y52 y53 y54 y55 y56 y57 y58 y59 y60 y61 y62 y63 y64 y65 y66 y67 y68 y69 y70 y71 y72 y73 y74 y75 y76 y77 y78 y79 y80 y81 y82 y83 y84 y85 y86 y87 y88 y89 y90 y91 y92 y93 y94 y95 y96 y97 y98 y99 y100 y101 y102 y103 y104 y105 y106 y107 y108 y109 y110 y111 y112 y113 y114 y115 y116 y117 y118 y119 y120 y121 y122 y123 y124 y125 y126 y127 y128, TL base W lv (txK l N).1 sv wv ρ N → Keeps (fun _ => False) w W → (txT6 Try.f19).wp Try.prog (bodyPost Try.prog Try.f19 R) { tmps := #[.slice a N cap, y1, y2, y3, y4, y5, lv, .pointer (some ⟨sb, 0, none⟩), y8, y9, y10, y11, y12, y13, y14, y15, y16, y17, y18, y19, y20, y21, y22, y23, y24, y25, y26, y27, y28, y29, y30, y31, y32, y33, y34, y35, y36, y37, y38, y39, y40, y41, y42, y43, y44, y45, y46, y47, y48, y49, y50, y51, y52, y53, y54, y55, y56, y57, y58, y59, y60, y61, y62, y63, y64, y65, y66, y67, y68, y69, y70, y71, y72, y73, y74, y75, y76, y77, y78, y79, y80, y81, y82, y83, y84, y85, y86, y87, y88, y89, y90, y91, y92, y93, y94, y95, y96, y97, y98, y99, y100, y101, y102, y103, y104, y105, y106, y107, y108, y109, y110, y111, y112, y113, y114, y115, y116, y117, y118, y119, y120, y121, y122, y123, y124, y125, y126, y127, y128], defers := [] } W) : (txT5 Try.f19).wp Try.prog (bodyPost Try.prog Try.f19 R) { tmps := #[.slice a N cap, x1, x2, x3, x4, x5, .slice none 0 0, .pointer (some ⟨sb, 0, none⟩), x8, x9, x10, x11, x12, x13, x14, x15, x16, x17, x18, x19, x20, x21, x22, x23, x24, x25, x26, x27, x28, x29, x30, x31, x32, x33, x34, x35, x36, x37, x38, x39, x40, x41, x42, x43, x44, x45, x46, x47, x48, x49, x50, x51, x52, x53, x54, x55, x56, x57, x58, x59, x60, x61, x62, x63, x64, x65, x66, x67, x68, x69, x70, x71, x72, x73, x74, x75, x76, x77, x78, x79, x80, x81, x82, x83, x84, x85, x86, x87, x88, x89, x90, x91, x92, x93, x94, x95, x96, x97, x98, x99, x100, x101, x102, x103, x104, x105, x106, x107, x108, x109, x110, x111, x112, x113, x114, x115, x116, x117, x118, x119, x120, x121, x122, x123, x124, x125, x126, x127, x128], defers := [] } X := by
  have HP : Hid (∀ W lv sv wv ρ y1 y2 y3 y4 y5 y8 y9 y10 y11 y12 y13 y14 y15 y16 y17 y18 y19 y20 y21 y22 y23 y24 y25 y26 y27 y28 y29 y30 y31 y32 y33 y34 y35 y36 y37 y38 y39 y40 y41 y42 y43 y44 y45 y46 y47 y48 y49 y50 y51 y52 y53 y54 y55 y56 y57 y58 y59 y60 y61 y62 y63 y64 y65 y66 y67 y68 y69 y70 y71 y72 y73 y74 y75 y76 y77 y78 y79 y80 y81 y82 y83 y84 y85 y86 y87 y88 y89 y90 y91 y92 y93 y94 y95 y96 y97 y98 y99 y100 y101 y102 y103 y104 y105 y106 y107 y108 y109 y110 y111 y112 y113 y114 y115 y116 y117 y118 y119 y120 y121 y122 y123 y124 y125 y126 y127 y128, TL base W lv (txK l N).1 sv wv ρ N → Keeps (fun _ => False) w W → (txT6 Try.f19).wp Try.prog (bodyPost Try.prog Try.f19 R) { tmps := #[.slice a N cap, y1, y2, y3, y4, y5, lv, .pointer (some ⟨sb, 0, none⟩), y8, y9, y10, y11, y12, y13, y14, y15, y16, y17, y18, y19, y20, y21, y22, y23, y24, y25, y26, y27, y28, y29, y30, y31, y32, y33, y34, y35, y36, y37, y38, y39, y40, y41, y42, y43, y44, y45, y46, y47, y48, y49, y50, y51, y52, y53, y54, y55, y56, y57, y58, y59, y60, y61, y62, y63, y64, y65, y66, y67, y68, y69, y70, y71, y72, y73, y74, y75, y76, y77, y78, y79, y80, y81, y82, y83, y84, y85, y86, y87, y88, y89, y90, y91, y92, y93, y94, y95, y96, y97, y98, y99, y100, y101, y102, y103, y104, y105, y106, y107, y108, y109, y110, y111, y112, y113, y114, y115, y116, y117, y118, y119, y120, y121, y122, y123, y124, y125, y126, y127, y128], defers := [] } W) := hP
  clear hP
  have hsx : sb < base := by have := hS0.lt (by decide); omega
  have hwb : w.heap.size ≤ base := by have := kX.size; omega
  have hT0 : TL base X (.slice none 0 0) (txK l 0).1 (fun _ => nilv) (fun _ => nilv) (fun _ => 0) 0 := hbase ▸ TL.first X _ _ _ _
  dsimp only [txT5, Try.f19]
  refine wp_seq_k (fun KK hKK => ?_)
  have hKH : Hid _ := hKK
  clear hKK
  go_wp2_with fail
  go_loopw [6, 8] (fun lv iv Wr => ∃ (k : Nat) (sv wv : Nat → Value) (ρ : Nat → Nat), iv = .int .i64 (k : Int) ∧ k ≤ N ∧ TL base Wr lv (txK l k).1 sv wv ρ k ∧ IB Wr sb 6 (txK l k).2 ∧ Keeps (fun _ => False) w Wr) (fun _ iv _ => N - (intOf iv).toNat)
  case atStart => exact ⟨0, _, _, _, rfl, Nat.zero_le _, hT0, hS0, kX⟩
  case round =>
    obtain ⟨k, sv, wv, ρ, rfl, hk, hT, hI, kr⟩ := hrel
    clear hT0 hS0 kX hbase
    by_cases hlt : k < N
    · have l1 : decide ((k : Int) < (N : Int)) = true := decide_eq_true (by omega)
      have l2 : (k : Int) < (N : Int) := by omega
      have l4 : decide (k < N) = true := decide_eq_true hlt
      obtain ⟨b, off, rfl, hc⟩ := hl k (by omega)
      have hR := run_rwAt (W := wr) (fun j v e => kr.cell (hc j v e) (fun e => e))
      have hro := txK_ro hf (by omega : k < l.length)
      have hle := txK_le l k
      have HNX : Hid (txK l (k + 1) = stT (txK l k) (l.getD k rw0)) := rfl
      clear hc
      generalize l.getD k rw0 = r at *
      generalize txK l k = s at *
      generalize fAt l k = fk at *
      obtain ⟨ts, g⟩ := s
      dsimp only at hT hI hro hle
      obtain ⟨a6, c6, rfl, -, -, ha6⟩ := own_slice hT.o
      have hgb := hT.bb
      have hMT := hT
      have HOB : Hid (∀ i, (Value.slice a6 ts.length c6).ownBlock = some i → base ≤ i ∧ i < wr.heap.size) := fun i e => ⟨owns_baseT hT.o i e, owns_lt' hT.o i e⟩
      generalize hM : ts.length = M at *
      obtain ⟨W4, hW4⟩ : ∃ W4, W4 = wr.alloc (.cells #[.int .i64 0, .int .i64 0, .int .i64 0, .int .i64 0, .int .i64 0, .int .i64 0, .int .i64 0, .int .i64 0, .int .i64 0, .int .i64 0, .int .i64 0, .int .i64 0, .int .i64 0, .bool false, .bool false, .bool false, .int .i64 0, .bool false, .int .i64 0, .int .i64 0, .bool false, .bool false, .int .i64 0, .int .i64 0, .bool false, .int .i64 0] 50) := ⟨_, rfl⟩
      have k4 : Keeps (fun _ => False) wr W4 := by rw [hW4]; exact (Keeps.refl _ wr).alloc _
      have hU4 : CL W4 wr.heap.size rw0.cells := by rw [hW4]; exact CL.made wr rw0.cells _
      have hOC := all_oneCell_rw r
      have hne : ¬ sb = wr.heap.size := fun e => by have := hI.lt (by decide); omega
      have HW4 : Hid (W4 = wr.alloc (.cells #[.int .i64 0, .int .i64 0, .int .i64 0, .int .i64 0, .int .i64 0, .int .i64 0, .int .i64 0, .int .i64 0, .int .i64 0, .int .i64 0, .int .i64 0, .int .i64 0, .int .i64 0, .bool false, .bool false, .bool false, .int .i64 0, .bool false, .int .i64 0, .int .i64 0, .bool false, .bool false, .int .i64 0, .int .i64 0, .bool false, .int .i64 0] 50)) := hW4
      clear hW4
      by_cases hk1 : r.kind = 1
      · have s1 : (r.kind == 1) = true := by simp [hk1]
        have hth := hro.th (by omega)
        obtain ⟨th, et⟩ : ∃ th : Nat, r.thread = (th : Int) := ⟨r.thread.toNat, by omega⟩
        have i1 : (0 : Int) ≤ (th : Int) := by omega
        have i2 : (th : Int) < 6 := by omega
        have i3 : th < 6 := by omega
        have HET : Hid (r.thread = (th : Int)) := et
        have HN2 : Hid (txK l (k + 1) = (ts ++ [begD r r.seen], up g th r.seen)) := by
          show _ = _
          rw [HNX.out]
          unfold stT
          rw [if_pos hk1, et]
          rfl
        have hbg : ∀ W, Calls Try.prog 34 #[.agg r.cells.toArray, .int .i64 r.seen] W fun e w' => e = .returned (.agg #[.int .i64 r.thread, .int .i64 r.job, .int .i64 r.try_, .int .i64 r.no, .int .i64 r.seen, .int .i64 r.step, .int .i64 (-1), .int .i64 (-1), .int .i64 0, .slice none 0 0, .slice none 0 0]) ∧ Keeps (fun _ => False) W w' := fun W => begun_any W r _
        have HAp : Hid (∀ W, TL base W (.slice a6 M c6) ts sv wv ρ k → ∃ a' c' W', (Builtin.append_ #[35, 35] 35 #[.slice a6 M c6, .slice (some ⟨W.heap.size, 0, none⟩) 1 1]).run Try.prog (W.alloc (.cells #[.int .i64 r.thread, .int .i64 r.job, .int .i64 r.try_, .int .i64 r.no, .int .i64 r.seen, .int .i64 r.step, .int .i64 (-1), .int .i64 (-1), .int .i64 0, .slice none 0 0, .slice none 0 0] 42)) = .ok (.slice a' (M + 1) c') W' ∧ TL base W' (.slice a' (M + 1) c') (ts ++ [begD r r.seen]) (fun i => if i = ts.length then nilv else sv i) (fun i => if i = ts.length then nilv else wv i) (fun b => if b < W.heap.size then ρ b else 1) k ∧ Keeps (fun i => (Value.slice a6 M c6).ownBlock = some i) W W') := fun W h => by
          obtain ⟨v', w', h1, h2, h3⟩ := h.add (begD r r.seen) rfl rfl (by omega)
          obtain ⟨a', c', e, -⟩ := own_slice h2.o
          rw [List.length_append, hM] at e
          have e : v' = .slice a' (M + 1) c' := e
          subst e
          exact ⟨a', c', w', h1, h2, h3⟩
        clear HNX hro hk1 et hth
        go_wp2_with (first | (refine wpList_load_run rfl 50 _ rfl ⟨b, off + k * 26, none⟩ rfl _ hR ?_; clear hR) | (rw [← HW4.out]; clear HW4; refine wpList_store_cl rfl 50 _ _ rfl wr.heap.size 0 26 _ rfl rfl rfl hU4 (by show 26 ≤ 26; decide) iRw hOC ?_; intro w5 hc5 k5 hsz5; clear hsz5; have hI5 : CL w5 wr.heap.size r.cells := hc5; clear hc5; have K45 : Keeps (fun _ => False) wr w5 := k4.trans' k5 (fun _ _ e => e) (fun i hi e => (by have e : i = wr.heap.size := e; omega)); have hs5 := hI.keep (by decide) K45 (fun e => e); have c5 := hI5.c 5 _ rfl; have c1 := hI5.c 1 _ rfl; rw [HET.out] at c1; have c11 := hI5.c 11 _ rfl) | (refine wpList_store_ibq rfl rfl _ _ rfl sb th rfl _ rfl hs5 (by omega) ?_; intro w6 hI6 k6 z6; clear z6; have HR6 := run_rw (hI5.keep (by show 0 < 26; decide) k6 (fun e => hne e.symm)); have p11 := (hI5.keep (by show 0 < 26; decide) k6 (fun e => hne e.symm)).c 11 _ rfl) | (refine wpList_load_run rfl 50 _ rfl ⟨wr.heap.size, 0, none⟩ rfl _ HR6 ?_; clear HR6) | (go_at_call 34; refine (hbg w6).mono ?_; clear hbg; rintro e w7 ⟨rfl, k7⟩; obtain ⟨a', c', W', hr', hT', kq⟩ := HAp.out w7 (((hMT.keep K45).keepB k6 (fun i hi e => by have e : i = sb := e; omega)).keep k7); clear HAp) | (at_builtin; refine wpList_append_t rfl _ _ _ rfl _ _ _ W' rfl rfl hr' ?_; clear hr'))
        have K9 : Keeps (fun _ => False) w W' := ((kr.trans K45).trans' k6 (fun _ _ e => e) (fun i hi e => by have e : i = sb := e; omega)).trans k7 |>.trans' kq (fun _ _ e => e) (fun i hi e => by have := (HOB.out i e).1; omega)
        have hI9 : IB W' sb 6 (up g th r.seen) := (hI6.keep (by decide) k7 (fun e => e)).keep (by decide) kq (fun e => by have := (HOB.out _ e).1; omega)
        go_roundw
        case rel => exact ⟨k + 1, _, _, _, by go_num, by omega, by rw [HN2.out]; exact hT'.more (by omega), by rw [HN2.out]; exact hI9, K9⟩
        case measure => simp [intOf]; omega
      by_cases hk2 : r.kind = 2
      · have s1 : (r.kind == 1) = false := by simp [hk1]
        have s2 : (r.kind == 2) = true := by simp [hk2]
        have hth := hro.th (by omega)
        obtain ⟨th, et⟩ : ∃ th : Nat, r.thread = (th : Int) := ⟨r.thread.toNat, by omega⟩
        have i1 : (0 : Int) ≤ (th : Int) := by omega
        have i2 : (th : Int) < 6 := by omega
        have i3 : th < 6 := by omega
        have HET : Hid (r.thread = (th : Int)) := et
        have HN2 : Hid (txK l (k + 1) = (ts ++ [begD r (g th)], g)) := by
          show _ = _
          rw [HNX.out]
          unfold stT
          rw [if_neg hk1, if_pos hk2, et]
          rfl
        have hbg : ∀ W, Calls Try.prog 34 #[.agg r.cells.toArray, .int .i64 (g th)] W fun e w' => e = .returned (.agg #[.int .i64 r.thread, .int .i64 r.job, .int .i64 r.try_, .int .i64 r.no, .int .i64 (g th), .int .i64 r.step, .int .i64 (-1), .int .i64 (-1), .int .i64 0, .slice none 0 0, .slice none 0 0]) ∧ Keeps (fun _ => False) W w' := fun W => begun_any W r _
        have HAp : Hid (∀ W, TL base W (.slice a6 M c6) ts sv wv ρ k → ∃ a' c' W', (Builtin.append_ #[35, 35] 35 #[.slice a6 M c6, .slice (some ⟨W.heap.size, 0, none⟩) 1 1]).run Try.prog (W.alloc (.cells #[.int .i64 r.thread, .int .i64 r.job, .int .i64 r.try_, .int .i64 r.no, .int .i64 (g th), .int .i64 r.step, .int .i64 (-1), .int .i64 (-1), .int .i64 0, .slice none 0 0, .slice none 0 0] 42)) = .ok (.slice a' (M + 1) c') W' ∧ TL base W' (.slice a' (M + 1) c') (ts ++ [begD r (g th)]) (fun i => if i = ts.length then nilv else sv i) (fun i => if i = ts.length then nilv else wv i) (fun b => if b < W.heap.size then ρ b else 1) k ∧ Keeps (fun i => (Value.slice a6 M c6).ownBlock = some i) W W') := fun W h => by
          obtain ⟨v', w', h1, h2, h3⟩ := h.add (begD r (g th)) rfl rfl (by omega)
          obtain ⟨a', c', e, -⟩ := own_slice h2.o
          rw [List.length_append, hM] at e
          have e : v' = .slice a' (M + 1) c' := e
          subst e
          exact ⟨a', c', w', h1, h2, h3⟩
        clear HNX hro hk1 hk2 et hth
        go_wp2_with (first | (refine wpList_load_run rfl 50 _ rfl ⟨b, off + k * 26, none⟩ rfl _ hR ?_; clear hR) | (rw [← HW4.out]; clear HW4; refine wpList_store_cl rfl 50 _ _ rfl wr.heap.size 0 26 _ rfl rfl rfl hU4 (by show 26 ≤ 26; decide) iRw hOC ?_; intro w5 hc5 k5 hsz5; clear hsz5; have hI5 : CL w5 wr.heap.size r.cells := hc5; clear hc5; have K45 : Keeps (fun _ => False) wr w5 := k4.trans' k5 (fun _ _ e => e) (fun i hi e => (by have e : i = wr.heap.size := e; omega)); have hs5 := hI.keep (by decide) K45 (fun e => e); have c5 := hI5.c 5 _ rfl; skip))
        refine wp_region_held_drew (S := SBd wr.heap.size sb r g) (by kernel_rfl) ⟨hI5.drew, hs5.drew⟩ (fun hHeld => ?_)
        refine wpAnyH_take (i := 0) (v := ?_) rfl (by kernel_rfl) (by kernel_rfl) (by kernel_rfl) (fun _ _ _ h => h) (Or.inl ⟨by rfl, ?_⟩) (by assumption) ?_
        rotate_left
        · intro wx hSw; clear hSw; go_simp <;> with_reducible rfl
        (try simp only [List.getElem_toArray]); (try simp only [List.getElem_cons_succ]); (try simp only [List.getElem_cons_zero]); (try simp only [Act.put]); (try simp only [List.setIfInBounds_toArray]); (repeat first | simp only [List.set_cons_succ] | simp only [List.set_cons_zero])
        refine wpAnyH_take (i := 1) (v := (.agg r.cells.toArray)) rfl (by kernel_rfl) (by kernel_rfl) (by kernel_rfl) (fun _ _ _ h => h) (Or.inl ⟨by rfl, ?_⟩) (by assumption) ?_
        · intro wx hSw; exact takes_load 50 _ rfl ⟨wr.heap.size, 0, none⟩ rfl (run_rw hSw.c)
        (try simp only [List.getElem_toArray]); (try simp only [List.getElem_cons_succ]); (try simp only [List.getElem_cons_zero]); (try simp only [Act.put]); (try simp only [List.setIfInBounds_toArray]); (repeat first | simp only [List.set_cons_succ] | simp only [List.set_cons_zero])
        refine wpAnyH_take (i := 2) (v := ?_) rfl (by kernel_rfl) (by kernel_rfl) (by kernel_rfl) (fun _ _ _ h => h) (Or.inl ⟨by rfl, ?_⟩) (by assumption) ?_
        rotate_left
        · intro wx hSw; clear hSw; go_simp <;> with_reducible rfl
        (try simp only [List.getElem_toArray]); (try simp only [List.getElem_cons_succ]); (try simp only [List.getElem_cons_zero]); (try simp only [Act.put]); (try simp only [List.setIfInBounds_toArray]); (repeat first | simp only [List.set_cons_succ] | simp only [List.set_cons_zero])
        refine wpAnyH_take (i := 3) (v := ?_) rfl (by kernel_rfl) (by kernel_rfl) (by kernel_rfl) (fun _ _ _ h => h) (Or.inl ⟨by rfl, ?_⟩) (by assumption) ?_
        rotate_left
        · intro wx hSw; have p1 := hSw.c.c 1 _ rfl; rw [HET.out] at p1; clear hSw; go_simp <;> with_reducible rfl
        (try simp only [List.getElem_toArray]); (try simp only [List.getElem_cons_succ]); (try simp only [List.getElem_cons_zero]); (try simp only [Act.put]); (try simp only [List.setIfInBounds_toArray]); (repeat first | simp only [List.set_cons_succ] | simp only [List.set_cons_zero])
        refine wpAnyH_take (i := 4) (v := ?_) rfl (by kernel_rfl) (by kernel_rfl) (by kernel_rfl) (fun _ _ _ h => h) (Or.inl ⟨by rfl, ?_⟩) (by assumption) ?_
        rotate_left
        · intro wx hSw; clear hSw; go_simp <;> with_reducible rfl
        (try simp only [List.getElem_toArray]); (try simp only [List.getElem_cons_succ]); (try simp only [List.getElem_cons_zero]); (try simp only [Act.put]); (try simp only [List.setIfInBounds_toArray]); (repeat first | simp only [List.set_cons_succ] | simp only [List.set_cons_zero])
        refine wpAnyH_take (i := 5) (v := ?_) rfl (by kernel_rfl) (by kernel_rfl) (by kernel_rfl) (fun _ _ _ h => h) (Or.inl ⟨by rfl, ?_⟩) (by assumption) ?_
        rotate_left
        · intro wx hSw; have p0 := hSw.i.c th i3; clear hSw; go_simp <;> with_reducible rfl
        (try simp only [List.getElem_toArray]); (try simp only [List.getElem_cons_succ]); (try simp only [List.getElem_cons_zero]); (try simp only [Act.put]); (try simp only [List.setIfInBounds_toArray]); (repeat first | simp only [List.set_cons_succ] | simp only [List.set_cons_zero])
        refine wpAnyH_one 6 (by kernel_rfl) rfl rfl ?_
        go_simp
        refine (hbg _).mono ?_
        clear hbg
        rintro e w7 ⟨rfl, k7⟩
        refine ⟨⟨hHeld.c.keep (by show 0 < 26; decide) k7 (fun e => e), hHeld.i.keep (by decide) k7 (fun e => e)⟩, fun hS7 => ?_⟩
        (try simp only [List.getElem_toArray]); (try simp only [List.getElem_cons_succ]); (try simp only [List.getElem_cons_zero]); (try simp only [Act.put]); (try simp only [List.setIfInBounds_toArray]); (repeat first | simp only [List.set_cons_succ] | simp only [List.set_cons_zero])
        have HMT : Hid _ := hMT
        have HK7 : Hid _ := k7
        clear hMT hT k7
        refine wpAnyH_one 7 (by kernel_rfl) rfl rfl ?_
        refine wp_buildTx _ rfl _ rfl rfl ?_
        refine ⟨⟨hS7.c.alloc (by show 0 < 26; decide) _, hS7.i.keep (by decide) ((Keeps.refl (fun _ => False) w7).alloc _) (fun e => e)⟩, fun hS8 => ?_⟩
        (try simp only [List.getElem_toArray]); (try simp only [List.getElem_cons_succ]); (try simp only [List.getElem_cons_zero]); (try simp only [Act.put]); (try simp only [List.setIfInBounds_toArray]); (repeat first | simp only [List.set_cons_succ] | simp only [List.set_cons_zero])
        obtain ⟨a', c', W', hr', hT', kq⟩ := HAp.out w7 (((HMT.out.keep K45).keep (Keeps.refl _ w5).drew).keep HK7.out)
        clear HAp
        refine wpAnyH_one 8 (by kernel_rfl) rfl rfl ?_
        have hI9 : IB W' sb 6 g := hS7.i.keep (by decide) kq (fun e => by have := (HOB.out _ e).1; omega)
        refine wp_append_t _ _ 35 rfl _ _ _ W' rfl rfl hr' ?_
        refine ⟨⟨?_, hI9⟩, fun hS9 => ?_⟩
        · exact hS7.c.keep (by show 0 < 26; decide) kq (fun e => by have := (HOB.out _ e).2; omega)
        (try simp only [List.getElem_toArray]); (try simp only [List.getElem_cons_succ]); (try simp only [List.getElem_cons_zero]); (try simp only [Act.put]); (try simp only [List.setIfInBounds_toArray]); (repeat first | simp only [List.set_cons_succ] | simp only [List.set_cons_zero])
        refine wpAnyH_take (i := 9) (v := ?_) rfl (by kernel_rfl) (by kernel_rfl) (by kernel_rfl) (fun _ _ _ h => h) (Or.inl ⟨by rfl, ?_⟩) (by assumption) ?_
        rotate_left
        · intro wx hSw; clear hSw; go_simp <;> with_reducible rfl
        (try simp only [List.getElem_toArray]); (try simp only [List.getElem_cons_succ]); (try simp only [List.getElem_cons_zero]); (try simp only [Act.put]); (try simp only [List.setIfInBounds_toArray]); (repeat first | simp only [List.set_cons_succ] | simp only [List.set_cons_zero])
        refine wpAnyH_done (by kernel_rfl) ?_ _
        have K9 : Keeps (fun _ => False) w W' := ((kr.trans K45).trans (Keeps.refl _ w5).drew).trans HK7.out |>.trans' kq (fun _ _ e => e) (fun i hi e => by have := (HOB.out i e).1; omega)
        go_wp2_with fail
        go_roundw
        case rel => exact ⟨k + 1, _, _, _, by go_num, by omega, by rw [HN2.out]; exact hT'.more (by omega), by rw [HN2.out]; exact hI9, K9⟩
        case measure => simp [intOf]; omega
      by_cases hof : ofD r.kind = true
      · have s1 : (r.kind == 1) = false := by simp [hk1]
        have s2 : (r.kind == 2) = false := by simp [hk2]
        have hno := hro.o hof
        obtain ⟨i, en⟩ : ∃ i : Nat, r.no = (i : Int) + 1 := ⟨(r.no - 1).toNat, by omega⟩
        have i1 : (0 : Int) ≤ (i : Int) := by omega
        have i2 : (i : Int) < (M : Int) := by omega
        have i3 : i < ts.length := by omega
        have i4 : decide (i < M) = true := decide_eq_true (by omega)
        have hw : IntKind.i64.wrap ((i : Int) + 1 - 1) = (i : Int) := by rw [IntKind.wrap_i64]; omega
        have hw2 : IntKind.i64.wrap (i : Int) = (i : Int) := by rw [IntKind.wrap_i64]; omega
        have HEN : Hid (r.no = (i : Int) + 1) := en
        have hofd := fun W => of_any (w := W) r.kind
        rw [hof] at hofd
        have HN2 : Hid (txK l (k + 1) = (ts.set i (addD (ts.getD i tv0) r), g)) := by
          show _ = _
          rw [HNX.out]
          unfold stT
          rw [if_neg hk1, if_neg hk2, if_pos hof, en, show ((i : Int) + 1 - 1).toNat = i by omega]
        obtain ⟨g6, rfl⟩ : ∃ g6, a6 = some ⟨g6, 0, none⟩ := by
          rcases hMT.o.2 with ⟨_, h0⟩ | ⟨g', _, _, e, _⟩
          · omega
          · injection e with e _ _
            exact ⟨g', e⟩
        have hgo := HOB.out g6 rfl
        clear HNX hro hk1 hk2 hof ha6 en hno
        go_wp2_with (first | (refine wpList_load_run rfl 50 _ rfl ⟨b, off + k * 26, none⟩ rfl _ hR ?_; clear hR) | (rw [← HW4.out]; clear HW4; refine wpList_store_cl rfl 50 _ _ rfl wr.heap.size 0 26 _ rfl rfl rfl hU4 (by show 26 ≤ 26; decide) iRw hOC ?_; intro w5 hc5 k5 hsz5; clear hsz5; have hI5 : CL w5 wr.heap.size r.cells := hc5; clear hc5; have K45 : Keeps (fun _ => False) wr w5 := k4.trans' k5 (fun _ _ e => e) (fun i hi e => (by have e : i = wr.heap.size := e; omega)); have hs5 := hI.keep (by decide) K45 (fun e => e); have c5 := hI5.c 5 _ rfl; skip) | (go_at_call 35; refine (hofd _).mono ?_; clear hofd; rintro e w9 ⟨rfl, ew⟩; subst w9))
        refine wp_region_held_drew (S := fun w' => CL w' wr.heap.size r.cells) (by kernel_rfl) hI5.drew (fun hHeld => ?_)
        refine wpAnyH_take (i := 0) (v := ?_) rfl (by kernel_rfl) (by kernel_rfl) (by kernel_rfl) (fun _ _ _ h => h) (Or.inl ⟨by rfl, ?_⟩) (by assumption) ?_
        rotate_left
        · intro wx hSw; clear hSw; go_simp <;> with_reducible rfl
        (try simp only [List.getElem_toArray]); (try simp only [List.getElem_cons_succ]); (try simp only [List.getElem_cons_zero]); (try simp only [Act.put]); (try simp only [List.setIfInBounds_toArray]); (repeat first | simp only [List.set_cons_succ] | simp only [List.set_cons_zero])
        refine wpAnyH_take (i := 1) (v := ?_) rfl (by kernel_rfl) (by kernel_rfl) (by kernel_rfl) (fun _ _ _ h => h) (Or.inl ⟨by rfl, ?_⟩) (by assumption) ?_
        rotate_left
        · intro wx hSw; clear hSw; go_simp <;> with_reducible rfl
        (try simp only [List.getElem_toArray]); (try simp only [List.getElem_cons_succ]); (try simp only [List.getElem_cons_zero]); (try simp only [Act.put]); (try simp only [List.setIfInBounds_toArray]); (repeat first | simp only [List.set_cons_succ] | simp only [List.set_cons_zero])
        refine wpAnyH_take (i := 2) (v := ?_) rfl (by kernel_rfl) (by kernel_rfl) (by kernel_rfl) (fun _ _ _ h => h) (Or.inl ⟨by rfl, ?_⟩) (by assumption) ?_
        rotate_left
        · intro wx hSw; have p4 := hSw.c 4 _ rfl; rw [HEN.out] at p4; clear hSw; go_simp <;> with_reducible rfl
        (try simp only [List.getElem_toArray]); (try simp only [List.getElem_cons_succ]); (try simp only [List.getElem_cons_zero]); (try simp only [Act.put]); (try simp only [List.setIfInBounds_toArray]); (repeat first | simp only [List.set_cons_succ] | simp only [List.set_cons_zero])
        refine wpAnyH_take (i := 3) (v := ?_) rfl (by kernel_rfl) (by kernel_rfl) (by kernel_rfl) (fun _ _ _ h => h) (Or.inl ⟨by rfl, ?_⟩) (by assumption) ?_
        rotate_left
        · intro wx hSw; clear hSw; go_simp <;> with_reducible rfl
        (try simp only [List.getElem_toArray]); (try simp only [List.getElem_cons_succ]); (try simp only [List.getElem_cons_zero]); (try simp only [Act.put]); (try simp only [List.setIfInBounds_toArray]); (repeat first | simp only [List.set_cons_succ] | simp only [List.set_cons_zero])
        refine wpAnyH_take (i := 4) (v := ?_) rfl (by kernel_rfl) (by kernel_rfl) (by kernel_rfl) (fun _ _ _ h => h) (Or.inl ⟨by rfl, ?_⟩) (by assumption) ?_
        rotate_left
        · intro wx hSw; clear hSw; go_simp <;> with_reducible rfl
        (try simp only [List.getElem_toArray]); (try simp only [List.getElem_cons_succ]); (try simp only [List.getElem_cons_zero]); (try simp only [Act.put]); (try simp only [List.setIfInBounds_toArray]); (repeat first | simp only [List.set_cons_succ] | simp only [List.set_cons_zero])
        refine wpAnyH_take (i := 5) (v := ?_) rfl (by kernel_rfl) (by kernel_rfl) (by kernel_rfl) (fun _ _ _ h => h) (Or.inl ⟨by rfl, ?_⟩) (by assumption) ?_
        rotate_left
        · intro wx hSw; clear hSw; go_simp <;> with_reducible rfl
        (try simp only [List.getElem_toArray]); (try simp only [List.getElem_cons_succ]); (try simp only [List.getElem_cons_zero]); (try simp only [Act.put]); (try simp only [List.setIfInBounds_toArray]); (repeat first | simp only [List.set_cons_succ] | simp only [List.set_cons_zero])
        refine wpAnyH_take (i := 6) (v := ?_) rfl (by kernel_rfl) (by kernel_rfl) (by kernel_rfl) (fun _ _ _ h => h) (Or.inl ⟨by rfl, ?_⟩) (by assumption) ?_
        rotate_left
        · intro wx hSw; have p4 := hSw.c 4 _ rfl; rw [HEN.out] at p4; clear hSw; go_simp <;> with_reducible rfl
        (try simp only [List.getElem_toArray]); (try simp only [List.getElem_cons_succ]); (try simp only [List.getElem_cons_zero]); (try simp only [Act.put]); (try simp only [List.setIfInBounds_toArray]); (repeat first | simp only [List.set_cons_succ] | simp only [List.set_cons_zero])
        refine wpAnyH_take (i := 7) (v := ?_) rfl (by kernel_rfl) (by kernel_rfl) (by kernel_rfl) (fun _ _ _ h => h) (Or.inl ⟨by rfl, ?_⟩) (by assumption) ?_
        rotate_left
        · intro wx hSw; clear hSw; go_simp <;> with_reducible rfl
        (try simp only [List.getElem_toArray]); (try simp only [List.getElem_cons_succ]); (try simp only [List.getElem_cons_zero]); (try simp only [Act.put]); (try simp only [List.setIfInBounds_toArray]); (repeat first | simp only [List.set_cons_succ] | simp only [List.set_cons_zero])
        refine wpAnyH_take (i := 8) (v := ?_) rfl (by kernel_rfl) (by kernel_rfl) (by kernel_rfl) (fun _ _ _ h => h) (Or.inl ⟨by rfl, ?_⟩) (by assumption) ?_
        rotate_left
        · intro wx hSw; clear hSw; go_simp <;> with_reducible rfl
        (try simp only [List.getElem_toArray]); (try simp only [List.getElem_cons_succ]); (try simp only [List.getElem_cons_zero]); (try simp only [Act.put]); (try simp only [List.setIfInBounds_toArray]); (repeat first | simp only [List.set_cons_succ] | simp only [List.set_cons_zero])
        refine wpAnyH_take (i := 10) (v := (.agg r.cells.toArray)) rfl (by kernel_rfl) (by kernel_rfl) (by kernel_rfl) (fun _ _ _ h => h) (Or.inl ⟨by rfl, ?_⟩) (by assumption) ?_
        · intro wx hSw; exact takes_load 50 _ rfl ⟨wr.heap.size, 0, none⟩ rfl (run_rw hSw)
        (try simp only [List.getElem_toArray]); (try simp only [List.getElem_cons_succ]); (try simp only [List.getElem_cons_zero]); (try simp only [Act.put]); (try simp only [List.setIfInBounds_toArray]); (repeat first | simp only [List.set_cons_succ] | simp only [List.set_cons_zero])
        have hT6 := (hMT.keep K45).keep (Keeps.refl _ w5).drew
        have hcl := own_cl (hM ▸ hT6.o)
        refine wpAnyH_loadL 9 (by kernel_rfl) rfl rfl 42 _ rfl ⟨g6, i * 11, none⟩ rfl _ (run_tx (t := ts.getD i tv0) (sv := sv i) (wv := wv i) (fun j v e => hcl.c _ _ (gcl_get (fun _ _ => rfl) i3 j v e))) hHeld ?_
        (try simp only [List.getElem_toArray]); (try simp only [List.getElem_cons_succ]); (try simp only [List.getElem_cons_zero]); (try simp only [Act.put]); (try simp only [List.setIfInBounds_toArray]); (repeat first | simp only [List.set_cons_succ] | simp only [List.set_cons_zero])
        have hAd := add_any (m := k) r (hT6.s i i3) (hT6.w i i3) (fun b e1 e2 => by have := hT6.rs i i3 b e1; have := hT6.rw i i3 b e2; omega) hT6.bb (hT6.ls i i3).1 (hT6.ls i i3).2 (by omega)
        refine wpAnyH_one 11 (by kernel_rfl) rfl rfl ?_
        go_simp
        refine hAd.mono ?_
        clear hAd
        rintro e w9 ⟨sv', wv', rfl, hAF⟩
        have hS9 : CL w9 wr.heap.size r.cells := hHeld.keep (by show 0 < 26; decide) hAF.k (fun e => by have := owns_lt' (hMT.s i i3) _ e; omega)
        refine ⟨hS9, fun _ => ?_⟩
        (try simp only [List.getElem_toArray]); (try simp only [List.getElem_cons_succ]); (try simp only [List.getElem_cons_zero]); (try simp only [Act.put]); (try simp only [List.setIfInBounds_toArray]); (repeat first | simp only [List.set_cons_succ] | simp only [List.set_cons_zero])
        refine wpAnyH_take (i := 12) (v := ?_) rfl (by kernel_rfl) (by kernel_rfl) (by kernel_rfl) (fun _ _ _ h => h) (Or.inl ⟨by rfl, ?_⟩) (by assumption) ?_
        rotate_left
        · intro wx hSw; clear hSw; go_simp <;> with_reducible rfl
        (try simp only [List.getElem_toArray]); (try simp only [List.getElem_cons_succ]); (try simp only [List.getElem_cons_zero]); (try simp only [Act.put]); (try simp only [List.setIfInBounds_toArray]); (repeat first | simp only [List.set_cons_succ] | simp only [List.set_cons_zero])
        have hsl := sv_len (ts.getD i tv0) r
        have hls := hT6.ls i i3
        obtain ⟨hT9, k9⟩ := hT6.set hM i3 hAF ⟨by omega, by omega⟩
        obtain ⟨asl, csl, es, -⟩ := own_slice hAF.os
        obtain ⟨awl, cwl, ew, -⟩ := own_slice hAF.ow
        have hcl9 : CL w9 g6 (tcl ts sv wv) := hcl.keep (by unfold tcl; rw [gcl_len (fun _ _ => rfl)]; omega) hAF.k (fun e => by have := hT6.rs i i3 _ e; have := hT6.r0 g6 rfl; omega)
        have hth9 := hcl9.there (o := i * 11) (n := 11) (by unfold tcl; rw [gcl_len (fun _ _ => rfl)]; omega)
        have hr9 : CL (w9.setCells g6 (i * 11) ((addD (ts.getD i tv0) r).cells sv' wv')) wr.heap.size r.cells := hS9.keep (by show 0 < 26; decide) ((Keeps.refl (fun b => b = g6) w9).setsA _ _) (fun e => by have e : wr.heap.size = g6 := e; omega)
        obtain ⟨W10, eW⟩ : ∃ W10, W10 = w9.setCells g6 (i * 11) ((addD (ts.getD i tv0) r).cells sv' wv') := ⟨_, rfl⟩
        have eW2 : w9.setCells g6 (i * 11) ((addD (ts.getD i tv0) r).cells sv' wv').toArray.toList = W10 := eW.symm
        rw [← eW] at hT9 k9 hr9
        clear eW
        refine wpAnyH_store 13 (by kernel_rfl) rfl rfl 42 _ _ rfl g6 (i * 11) 11 _ rfl rfl rfl hth9 iTx (one_tx _ (by rw [es]; rfl) (by rw [ew]; rfl)) (by rw [eW2]; exact hr9) (fun _ => ?_)
        rw [eW2]
        (try simp only [List.getElem_toArray]); (try simp only [List.getElem_cons_succ]); (try simp only [List.getElem_cons_zero]); (try simp only [Act.put]); (try simp only [List.setIfInBounds_toArray]); (repeat first | simp only [List.set_cons_succ] | simp only [List.set_cons_zero])
        refine wpAnyH_done (by kernel_rfl) ?_ _
        have K9 := (kr.trans K45).trans (Keeps.refl _ w5).drew |>.trans' k9 (fun _ _ e => e) (fun i hi e => by have e : base ≤ i := e; omega)
        have hI9 := (hs5.drew).keep (by decide) k9 (fun e => by have e : base ≤ sb := e; omega)
        go_wp2_with fail
        go_roundw
        case rel => exact ⟨k + 1, _, _, _, by go_num, by omega, by rw [HN2.out]; exact hT9, by rw [HN2.out]; exact hI9, K9⟩
        case measure => simp [intOf]; omega
      have s1 : (r.kind == 1) = false := by simp [hk1]
      have s2 : (r.kind == 2) = false := by simp [hk2]
      have hof : ofD r.kind = false := by simpa using hof
      have hofd := fun W => of_any (w := W) r.kind
      rw [hof] at hofd
      have HN2 : Hid (txK l (k + 1) = (ts, g)) := by
        show _ = _
        rw [HNX.out]
        unfold stT
        rw [if_neg hk1, if_neg hk2, hof]
        rfl
      clear HNX hro hk1 hk2 hof
      go_wp2_with (first | (refine wpList_load_run rfl 50 _ rfl ⟨b, off + k * 26, none⟩ rfl _ hR ?_; clear hR) | (rw [← HW4.out]; clear HW4; refine wpList_store_cl rfl 50 _ _ rfl wr.heap.size 0 26 _ rfl rfl rfl hU4 (by show 26 ≤ 26; decide) iRw hOC ?_; intro w5 hc5 k5 hsz5; clear hsz5; have hI5 : CL w5 wr.heap.size r.cells := hc5; clear hc5; have K45 : Keeps (fun _ => False) wr w5 := k4.trans' k5 (fun _ _ e => e) (fun i hi e => (by have e : i = wr.heap.size := e; omega)); have hs5 := hI.keep (by decide) K45 (fun e => e); have c5 := hI5.c 5 _ rfl; skip) | (go_at_call 35; refine (hofd _).mono ?_; clear hofd; rintro e w9 ⟨rfl, ew⟩; subst w9))
      go_roundw
      case rel => exact ⟨k + 1, _, _, _, by go_num, by omega, by rw [HN2.out]; exact (hMT.keep K45).more (by omega), by rw [HN2.out]; exact hs5, kr.trans K45⟩
      case measure => simp [intOf]; omega
    · have e : k = N := by omega
      subst e
      have l1 : decide ((k : Int) < (k : Int)) = false := decide_eq_false (by omega)
      have l4 : decide (k < k) = false := decide_eq_false (by omega)
      go_wp2_with fail
      refine hKH.out _ _ ?_
      exact HP.out _ _ _ _ _ _ _ _ _ _ _ _ _ _ _ _ _ _ _ _ _ _ _ _ _ _ _ _ _ _ _ _ _ _ _ _ _ _ _ _ _ _ _ _ _ _ _ _ _ _ _ _ _ _ _ _ _ _ _ _ _ _ _ _ _ _ _ _ _ _ _ _ _ _ _ _ _ _ _ _ _ _ _ _ _ _ _ _ _ _ _ _ _ _ _ _ _ _ _ _ _ _ _ _ _ _ _ _ _ _ _ _ _ _ _ _ _ _ _ _ _ _ _ _ _ _ _ _ _ _ _ hT kr
end Go.Proofs.Ytmnmphkkcabkiaa

