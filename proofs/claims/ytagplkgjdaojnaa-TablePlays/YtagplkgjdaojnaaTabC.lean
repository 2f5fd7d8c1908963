import Derived.Test.YtagplkgjdaojnaaTabB
import Derived.Shelf.SlMaps.Clone
namespace Go.Proofs.Ytagplkgjdaojnaa
open Go.RowKit
attribute [local go_sem] Oper.semAt_some

/-- What a call leaves of a table. -/
structure Lf (w w' : World) (T T' : Tk) : Prop where
  kp : Keeps T.Blk w w'
  bk : ∀ k, T'.Blk k → T.Blk k ∨ w.heap.size ≤ k
  tb : T'.tb = T.tb
theorem Lf.refl (w : World) (T : Tk) : Lf w w T T := ⟨Keeps.refl _ w, fun _ h => .inl h, rfl⟩
theorem Lf.trans {a b c : World} {T T' T'' : Tk} (h : Lf a b T T') (k : Lf b c T' T'') : Lf a c T T'' :=
  ⟨h.kp.trans' k.kp (fun _ _ e => e) (fun i hi e => (h.bk i e).elim id (fun e' => by omega)), fun i hi => (k.bk i hi).elim (h.bk i) (fun e => .inr (by have := h.kp.size; omega)), k.tb.trans h.tb⟩
theorem Lf.new {a b : World} {T : Tk} (h : Keeps (fun _ => False) a b) : Lf a b T T := ⟨h.mono (fun _ _ e => e.elim), fun _ h => .inl h, rfl⟩

theorem keeps_set (w : World) (b o : Nat) (v : Value) : Keeps (fun i => i = b) w (w.setCell ⟨b, o, none⟩ v) := (Keeps.refl (fun i => i = b) w).setCell (p := ⟨b, o, none⟩) (fun _ => rfl) v

/-- The zero table has got its map. -/
theorem TV.mkmap {w : World} {T : Tk} {rs : List Rd} (h : TV w T rs) (hr : rs = []) : TV ((w.alloc (.map #[] 0)).setCell ⟨T.tb, 1, none⟩ (.map (some w.heap.size))) ⟨T.tb, T.ve, some w.heap.size, T.vf⟩ rs ∧ Lf w ((w.alloc (.map #[] 0)).setCell ⟨T.tb, 1, none⟩ (.map (some w.heap.size))) T ⟨T.tb, T.ve, some w.heap.size, T.vf⟩ := by
  subst hr
  have lt := h.tlt
  have le := owns_lt' h.re
  have lf := owns_lt' h.rf
  have k1 : Keeps (fun _ => False) w (w.alloc (.map #[] 0)) := (Keeps.refl _ w).alloc _
  have k2 := keeps_set (w.alloc (.map #[] 0)) T.tb 1 (.map (some w.heap.size))
  have k3 : Keeps (fun i => i = T.tb) w ((w.alloc (.map #[] 0)).setCell ⟨T.tb, 1, none⟩ (.map (some w.heap.size))) := k1.trans' k2 (fun _ _ e => e.elim) (fun _ _ e => e)
  have c0 := k1.cell h.f0 (fun e => e)
  have c1 := k1.cell h.f1 (fun e => e)
  have c2 := k1.cell h.f2 (fun e => e)
  refine ⟨⟨?_, ?_, ?_, fun o ho => ?_, k3.owns h.re (fun g e e' => h.n1 (e' ▸ e)), k3.owns h.rf (fun g e e' => h.n2 (e' ▸ e)), .inr ⟨_, rfl, ((MI.made w).keep k2 (fun e => by omega))⟩, h.gd, h.n1, h.n2, h.n3, fun e => (by have := Option.some.inj e; simp only at this; omega), fun g e => ?_⟩, k3.mono (fun _ _ e => .inl e), fun k hk => ?_, rfl⟩
  · exact (World.cell?_setCell_other (h := by simp) ..).trans c0
  · exact World.cell?_setCell_same (h := c1) ..
  · exact (World.cell?_setCell_other (h := by simp) ..).trans c2
  · rw [World.frozen?_setCell]
    exact (k1.frozen (p := ⟨T.tb, o, none⟩) lt (fun e => e)).trans (h.z o ho)
  · cases e
    exact ⟨fun e => by have := le _ e; omega, fun e => by have := lf _ e; omega⟩
  · rcases hk with e | e | e | e
    · exact .inl (.inl e)
    · exact .inl (.inr (.inl e))
    · cases e; exact .inr (Nat.le_refl _)
    · exact .inl (.inr (.inr (.inr e)))

theorem cellone (W : World) : (W.alloc (.cells #[.int .i64 1] 27)).cell? ⟨W.heap.size, 0, none⟩ = some (.int .i64 1) := by simp
/-- The end of Add. -/
theorem TV.add_end {W W2 W3 W5 : World} {T : Tk} {rs : List Rd} {mb : Nat} {ob ver : Int} {v' v2 : Value} {o1 o2 : Obj} (h : TV W T rs) (hv : T.vm = some mb) (h1 : I64 ob) (h2 : I64 ver) (hn : ¬ hld rs ob)
    (m2 : MI W2 mb ((es rs).length + 1) (upd (pl (es rs)) ob (some (es rs).length))) (K2 : Keeps (fun i => i = mb) W W2)
    (g3 : (W2.alloc o1).grownBy W3 T.ve.ownBlock) (o3 : W3.ownsRow 0 36 3 v' ((es rs).length + 1) (fl ecells (es rs) ++ ecells ⟨ob, ver, rs.length⟩)) (l3 : v'.ownBlock = T.ve.ownBlock ∨ v'.ownBlock = some (W2.alloc o1).heap.size)
    (g5 : ((W3.setCell ⟨T.tb, 0, none⟩ v').alloc o2).grownBy W5 T.vf.ownBlock) (o5 : W5.ownsRow 0 27 1 v2 (rs.length + 1) (fcells rs ++ [.int .i64 1])) (l5 : v2.ownBlock = T.vf.ownBlock ∨ v2.ownBlock = some ((W3.setCell ⟨T.tb, 0, none⟩ v').alloc o2).heap.size) :
    TV (W5.setCell ⟨T.tb, 2, none⟩ v2) ⟨T.tb, v', some mb, v2⟩ (add rs ob ver) ∧ Lf W (W5.setCell ⟨T.tb, 2, none⟩ v2) T ⟨T.tb, v', some mb, v2⟩ := by
  have lt := h.tlt
  have le := owns_lt' h.re
  have lf := owns_lt' h.rf
  have lm := h.lt (.inr (.inr (.inl hv)))
  have ntm : T.tb ≠ mb := fun e => h.n4 (by rw [hv, e])
  have sz2 := K2.size
  have sA : (W2.alloc o1).heap.size = W2.heap.size + 1 := by simp
  have s3 := g3.size
  have kA : Keeps (fun i => i = mb ∨ T.ve.ownBlock = some i) W W3 := ((K2.mono (fun _ _ e => .inl e)).alloc o1).grown g3 (fun _ _ e => .inr e)
  have kB : Keeps (fun i => T.vf.ownBlock = some i) (W3.setCell ⟨T.tb, 0, none⟩ v') W5 := ((Keeps.refl (fun i => T.vf.ownBlock = some i) (W3.setCell ⟨T.tb, 0, none⟩ v')).alloc o2).grown g5 (fun _ _ e => e)
  have kS := keeps_set W3 T.tb 0 v'
  have kE := keeps_set W5 T.tb 2 v2
  have sB : ((W3.setCell ⟨T.tb, 0, none⟩ v').alloc o2).heap.size = W3.heap.size + 1 := by simp
  have lv' : ∀ g, v'.ownBlock = some g → T.ve.ownBlock = some g ∨ (g = W2.heap.size + 1) := fun g e => by
    rcases l3 with e' | e'
    · exact .inl (e' ▸ e)
    · rw [e', sA] at e; cases e; exact .inr rfl
  have lv2 : ∀ g, v2.ownBlock = some g → T.vf.ownBlock = some g ∨ (g = W3.heap.size + 1) := fun g e => by
    rcases l5 with e' | e'
    · exact .inl (e' ▸ e)
    · rw [e', sB] at e; cases e; exact .inr rfl
  have l3' := owns_lt' o3
  have nT : ¬ (T.tb = mb ∨ T.ve.ownBlock = some T.tb) := fun e => e.elim ntm h.n1
  have a0 := kA.cell h.f0 nT
  have a1 := kA.cell h.f1 nT
  have a2 := kA.cell h.f2 nT
  have b0 := kB.cell (World.cell?_setCell_same (v := v') (h := a0) ..) h.n2
  have b1 := kB.cell ((World.cell?_setCell_other (v := v') (a := ⟨T.tb, 0, none⟩) (h := by simp) ..).trans a1) h.n2
  have b2 := kB.cell ((World.cell?_setCell_other (v := v') (a := ⟨T.tb, 0, none⟩) (h := by simp) ..).trans a2) h.n2
  have hG := h.gd.add h1 h2 hn
  have ee : es (add rs ob ver) = es rs ++ [⟨ob, ver, rs.length⟩] := es_add rs ob ver
  have hd : Dis (es rs ++ [(⟨ob, ver, rs.length⟩ : En)]) := ee ▸ hG.dis
  have hp : upd (pl (es rs)) ob (some (es rs).length) = pl (es rs ++ [(⟨ob, ver, rs.length⟩ : En)]) := pl_snoc (e := ⟨ob, ver, rs.length⟩) hd
  have n5 := h.n5 mb hv
  have kk : Keeps T.Blk W (W5.setCell ⟨T.tb, 2, none⟩ v2) := by
    have x1 : Keeps T.Blk W W3 := kA.mono (fun i _ e => by rcases e with rfl | e; exact .inr (.inr (.inl hv)); exact .inr (.inl e))
    have x2 : Keeps T.Blk W (W3.setCell ⟨T.tb, 0, none⟩ v') := x1.trans' kS (fun _ _ e => e) (fun _ _ e => .inl e)
    have x3 : Keeps T.Blk W W5 := x2.trans' kB (fun _ _ e => e) (fun _ _ e => .inr (.inr (.inr e)))
    exact x3.trans' kE (fun _ _ e => e) (fun _ _ e => .inl e)
  have s5 := kB.size
  have sS : (W3.setCell ⟨T.tb, 0, none⟩ v').heap.size = W3.heap.size := by simp
  have kw3 := kA.size
  refine ⟨⟨?_, ?_, ?_, fun o ho => ?_, ?_, ?_, .inr ⟨mb, rfl, ?_⟩, hG, ?_, ?_, ?_, fun e => ntm (Option.some.inj e).symm, ?_⟩, kk, fun k hk => ?_, rfl⟩
  · exact (World.cell?_setCell_other (h := by simp) ..).trans b0
  · exact (World.cell?_setCell_other (h := by simp) ..).trans (by rw [b1, hv])
  · exact World.cell?_setCell_same (h := b2) ..
  · rw [World.frozen?_setCell]
    have lt3 : T.tb < (W3.setCell ⟨T.tb, 0, none⟩ v').heap.size := by omega
    refine (kB.frozen (p := ⟨T.tb, o, none⟩) lt3 h.n2).trans ?_
    rw [World.frozen?_setCell]
    exact (kA.frozen (p := ⟨T.tb, o, none⟩) lt nT).trans (h.z o ho)
  · rw [ee, List.length_append]
    have er : fl ecells (es rs ++ [(⟨ob, ver, rs.length⟩ : En)]) = fl ecells (es rs) ++ ecells ⟨ob, ver, rs.length⟩ := by rw [fl_append]; simp [fl]
    rw [er]
    refine kE.owns (kB.owns (kS.owns o3 (fun g e e' => ?_)) (fun g e e' => ?_)) (fun g e e' => ?_)
    · rcases lv' g e with x | x
      · exact h.n1 (e' ▸ x)
      · omega
    · rcases lv' g e with x | x
      · exact h.n3 g x e'
      · have := lf g e'; omega
    · rcases lv' g e with x | x
      · exact h.n1 (e' ▸ x)
      · omega
  · rw [add_len]
    have er : fcells (add rs ob ver) = fcells rs ++ [.int .i64 1] := by simp [fcells, add]
    rw [er]
    refine kE.owns o5 (fun g e e' => ?_)
    rcases lv2 g e with x | x
    · exact h.n2 (e' ▸ x)
    · omega
  · rw [ee, List.length_append, ← hp]
    have := ((Keeps.refl (fun i => T.ve.ownBlock = some i) W2).alloc o1).grown g3 (fun _ _ e => e)
    exact (((m2.keep this n5.1).keep kS (fun e => ntm e.symm)).keep kB n5.2).keep kE (fun e => ntm e.symm)
  · intro e
    rcases lv' _ e with x | x
    · exact h.n1 x
    · simp at x; omega
  · intro e
    rcases lv2 _ e with x | x
    · exact h.n2 x
    · simp at x; omega
  · intro g e e'
    have l1 := l3' g e
    rcases lv2 g e' with y | y
    · rcases lv' g e with x | x
      · exact h.n3 g x y
      · have := lf g y; omega
    · omega
  · intro g e
    cases e
    refine ⟨fun e => ?_, fun e => ?_⟩
    · rcases lv' _ e with x | x
      · exact n5.1 x
      · omega
    · rcases lv2 _ e with x | x
      · exact n5.2 x
      · omega
  · rcases hk with e | e | e | e
    · exact .inl (.inl e)
    · rcases lv' _ e with x | x
      · exact .inl (.inr (.inl x))
      · exact .inr (by omega)
    · exact .inl (.inr (.inr (.inl (hv.trans e))))
    · rcases lv2 _ e with x | x
      · exact .inl (.inr (.inr (.inr x)))
      · exact .inr (by omega)

set_option maxHeartbeats 1600000 in
set_option maxRecDepth 1000000 in
theorem add_no {w : World} {T : Tk} {rs : List Rd} (h : TV w T rs) {ob : Int} (ver : Int) (h1 : I64 ob) (hh : hld rs ob) : Calls Try.prog 9 #[.pointer (some ⟨T.tb, 0, none⟩), .int .i64 ob, .int .i64 ver] w fun e w' => e = .returned (.tuple #[.int .i64 0, .int .i64 70]) ∧ w' = w := by
  have hs := (hld_pl h.gd ob).1 hh
  have hl := h.look h1 (Keeps.refl _ w)
  rw [hs] at hl
  have f1 := h.f1
  clear h hs hh
  go_enter Try.func9, Try.ntmps9
  go_wp2
  refine bodyPost_ret (v := .tuple #[.int .i64 0, .int .i64 70]) (by simp [results, Try.f9, go_sem]) rfl ⟨rfl, rfl⟩

set_option maxHeartbeats 3200000 in
set_option maxRecDepth 1000000 in
theorem add_ok {w : World} {T : Tk} {rs : List Rd} (h : TV w T rs) {ob ver : Int} (h1 : I64 ob) (h2 : I64 ver) (hh : ¬ hld rs ob) (hn : rs.length ≤ 4398046511200) : Calls Try.prog 9 #[.pointer (some ⟨T.tb, 0, none⟩), .int .i64 ob, .int .i64 ver] w fun e w' => e = .returned (.tuple #[.int .i64 (rs.length : Int), .int .i64 0]) ∧ ∃ T', TV w' T' (add rs ob ver) ∧ Lf w w' T T' := by
  have hs : (pl (es rs) ob).isSome = false := by
    cases e : (pl (es rs) ob).isSome with
    | false => rfl
    | true => exact absurd ((hld_pl h.gd ob).2 e) hh
  have hl := h.look h1 (Keeps.refl _ w)
  rw [hs] at hl
  have f0 := h.f0
  have f1 := h.f1
  have f2 := h.f2
  have z1 := h.z 1 (by omega)
  obtain ⟨ae, ce, hve, -⟩ := h.eform
  obtain ⟨af, cf, hvf, -⟩ := h.fform
  have hmm := @run_makeMap Try.prog
  have hq := fun w p => run_eql_map_nil_sl (P := Try.prog) w 47 _ _ p underM
  have HT : Hid (TV w T rs) := h
  have hmp := h.mp
  have lt := h.tlt
  have f0a := fun ob => ((Keeps.refl (fun _ => False) w).alloc ob).cell f0 (fun e => e)
  have f1a := fun ob => ((Keeps.refl (fun _ => False) w).alloc ob).cell f1 (fun e => e)
  have f2a := fun ob => ((Keeps.refl (fun _ => False) w).alloc ob).cell f2 (fun e => e)
  have z1a : ∀ ob, (w.alloc ob).frozen? ⟨T.tb, 1, none⟩ = false := fun ob => (((Keeps.refl (fun _ => False) w).alloc ob).frozen (p := ⟨T.tb, 1, none⟩) lt (fun e => e)).trans z1
  obtain ⟨L, hL⟩ : ∃ L, Hid (L = (es rs).length) := ⟨_, rfl⟩
  obtain ⟨N, hN⟩ : ∃ N, Hid (N = rs.length) := ⟨_, rfl⟩
  rw [← hL.out] at hve
  rw [← hN.out] at hvf ⊢
  have HVE : Hid (T.ve = .slice ae L ce) := hve
  have HVF : Hid (T.vf = .slice af N cf) := hvf
  rw [hve] at f0 f0a
  rw [hvf] at f2 f2a
  have key : ∀ (W : World) (T' : Tk) (mb : Nat), TV W T' rs → Lf w W T T' → T'.vm = some mb → T'.tb = T.tb → T'.ve = T.ve → T'.vf = T.vf → ∃ W2 a3 c3 W3 a5 c5 W5, (Instr.mapUpdate 47 (.map (some mb)) (.int .i64 ob) (.int .i64 (L : Int))).run Try.prog W.drew = .ok () W2 ∧ W2.cell? ⟨T.tb, 0, none⟩ = some (.slice ae L ce) ∧ W2.cell? ⟨T.tb, 1, none⟩ = some (.map (some mb)) ∧
      (Builtin.append_ #[42, 42] 42 #[.slice ae L ce, .slice (some ⟨W2.heap.size, 0, none⟩) 1 1]).run Try.prog (W2.alloc (.cells #[.int .i64 ob, .int .i64 ver, .int .i64 (N : Int)] 36)) = .ok (.slice a3 (L + 1) c3) W3 ∧ W3.cell? ⟨T.tb, 0, none⟩ = some (.slice ae L ce) ∧ W3.frozen? ⟨T.tb, 0, none⟩ = false ∧ W3.cell? ⟨T.tb, 2, none⟩ = some (.slice af N cf) ∧
      (Builtin.append_ #[48, 48] 48 #[.slice af N cf, .slice (some ⟨W3.heap.size, 0, none⟩) 1 1]).run Try.prog ((W3.setCell ⟨T.tb, 0, none⟩ (.slice a3 (L + 1) c3)).alloc (.cells #[.int .i64 1] 27)) = .ok (.slice a5 (N + 1) c5) W5 ∧ W5.cell? ⟨T.tb, 2, none⟩ = some (.slice af N cf) ∧ W5.frozen? ⟨T.tb, 2, none⟩ = false ∧ ∃ T'', TV (W5.setCell ⟨T.tb, 2, none⟩ (.slice a5 (N + 1) c5)) T'' (add rs ob ver) ∧ Lf w (W5.setCell ⟨T.tb, 2, none⟩ (.slice a5 (N + 1) c5)) T T'' := fun W T' mb hV hLf hvm e1 e2 e3 => by
    obtain ⟨tb', ve', vm', vf'⟩ := T'
    simp only at hvm e1 e2 e3
    subst e1 e2 e3 hvm
    have hvm : (⟨T.tb, T.ve, some mb, T.vf⟩ : Tk).vm = some mb := rfl
    obtain ⟨iE, hE0, hE1, hE2, hE3⟩ := info_parts infoE
    obtain ⟨iF, hF0, hF1, hF2, hF3⟩ := info_parts infoF
    have hLn : L ≤ N := by rw [hL.out, hN.out]; exact es_len rs
    have hN' : N ≤ 4398046511200 := by rw [hN.out]; exact hn
    have kd : Keeps (fun _ => False) W W.drew := (Keeps.refl _ W).drew
    obtain ⟨mb', x1, hm⟩ : ∃ mb', some mb = some mb' ∧ MI W mb' (es rs).length (pl (es rs)) := by
      rcases hV.mp with ⟨e, _⟩ | e
      · cases e
      · exact e
    obtain rfl : mb = mb' := Option.some.inj x1
    obtain ⟨W2, hr2, hm2, K2⟩ := (hm.keep kd (fun e => e)).put h1 (v := L) (by omega) (by rw [← hL.out]; omega)
    rw [hs] at hm2
    simp only [Bool.false_eq_true, if_false] at hm2
    have K2' : Keeps (fun i => i = mb) W W2 := kd.trans' K2 (fun _ _ e => e.elim) (fun _ _ e => e)
    have ntm : T.tb ≠ mb := fun e => hV.n4 (by rw [hvm]; exact congrArg some e.symm)
    have nm5 := hV.n5 mb hvm
    have c0 := K2'.cell hV.f0 ntm
    have c2 := K2'.cell hV.f2 ntm
    have g1 := heap_alloc_new W2 (.cells #[.int .i64 ob, .int .i64 ver, .int .i64 (N : Int)] 36)
    obtain ⟨v', W3, hr3, ho3, hg3, _, hl3⟩ := run_append_own_at (P := Try.prog) (w := W2.alloc (.cells #[.int .i64 ob, .int .i64 ver, .int .i64 (N : Int)] 36)) 0 42 42 36 iE _ 3 24 underE hE0 hE1 hE2 hE3 rfl (by decide) T.ve L _ ((((K2'.owns hV.re (fun g e e' => nm5.1 (e' ▸ e))).alloc _)) |> (hL.out ▸ ·)) ⟨W2.heap.size, 0, none⟩ 1 1 (ecells ⟨ob, ver, N⟩) rfl (fun j u hu => by
      have hj : j < 3 := (List.getElem?_eq_some_iff.1 hu).1
      rw [show ((⟨W2.heap.size, 0, none⟩ : Addr).add j) = ⟨W2.heap.size, j, none⟩ by unfold Addr.add; split <;> simp_all]
      rcases (by omega : j = 0 ∨ j = 1 ∨ j = 2) with rfl | rfl | rfl <;> (simp [ecells] at hu; subst hu; simp)) (fun u hu => by simp [ecells] at hu; rcases hu with rfl | rfl | rfl <;> rfl) (by unfold maxLen; omega) (by omega) (Nat.zero_le _)
    obtain ⟨a3, c3, rfl, -⟩ := owns_form ho3
    have kA : Keeps (fun i => i = mb ∨ T.ve.ownBlock = some i) W W3 := ((K2'.mono (fun _ _ e => .inl e)).alloc _).grown hg3 (fun _ _ e => .inr e)
    have nT : ¬ (T.tb = mb ∨ T.ve.ownBlock = some T.tb) := fun e => e.elim ntm hV.n1
    have a0 := kA.cell hV.f0 nT
    have a2 := kA.cell hV.f2 nT
    have az0 := (kA.frozen (p := ⟨T.tb, 0, none⟩) hV.tlt nT).trans (hV.z 0 (by omega))
    have az2 := (kA.frozen (p := ⟨T.tb, 2, none⟩) hV.tlt nT).trans (hV.z 2 (by omega))
    have kS := keeps_set W3 T.tb 0 (.slice a3 (L + 1) c3)
    have b2 : (W3.setCell ⟨T.tb, 0, none⟩ (.slice a3 (L + 1) c3)).cell? ⟨T.tb, 2, none⟩ = some T.vf := (World.cell?_setCell_other (v := .slice a3 (L + 1) c3) (a := ⟨T.tb, 0, none⟩) (h := by simp) ..).trans a2
    have own5 := (kS.owns (kA.owns hV.rf (fun g e e' => by rcases e' with rfl | e'; exact nm5.2 e; exact hV.n3 g e' e)) (fun g e e' => hV.n2 (e' ▸ e))).alloc (.cells #[.int .i64 1] 27)
    have sS : (W3.setCell ⟨T.tb, 0, none⟩ (.slice a3 (L + 1) c3)).heap.size = W3.heap.size := by simp
    obtain ⟨v2, W5, hr5, ho5, hg5, _, hl5⟩ := run_append_own_at (P := Try.prog) (w := (W3.setCell ⟨T.tb, 0, none⟩ (.slice a3 (L + 1) c3)).alloc (.cells #[.int .i64 1] 27)) 0 48 48 27 iF _ 1 8 underF hF0 hF1 hF2 hF3 rfl (by decide) T.vf N _ (hN.out ▸ own5) ⟨W3.heap.size, 0, none⟩ 1 1 [.int .i64 1] rfl (fun j u hu => by
      have hj : j < 1 := (List.getElem?_eq_some_iff.1 hu).1
      obtain rfl : j = 0 := by omega
      simp at hu
      subst hu
      have := cellone (W3.setCell ⟨T.tb, 0, none⟩ (.slice a3 (L + 1) c3))
      rw [sS] at this
      exact this) (fun u hu => by simp at hu; subst hu; rfl) (by unfold maxLen; omega) (by omega) (Nat.zero_le _)
    obtain ⟨a5, c5, rfl, -⟩ := owns_form ho5
    have kB : Keeps (fun i => T.vf.ownBlock = some i) (W3.setCell ⟨T.tb, 0, none⟩ (.slice a3 (L + 1) c3)) W5 := ((Keeps.refl (fun i => T.vf.ownBlock = some i) (W3.setCell ⟨T.tb, 0, none⟩ (.slice a3 (L + 1) c3))).alloc _).grown hg5 (fun _ _ e => e)
    have d2 := kB.cell b2 hV.n2
    have dz : W5.frozen? ⟨T.tb, 2, none⟩ = false := (kB.frozen (p := ⟨T.tb, 2, none⟩) (World.block_lt_of_cell? _ _ b2) hV.n2).trans (by rw [World.frozen?_setCell]; exact az2)
    rw [hL.out] at hm2
    obtain ⟨hT6, hL6⟩ := hV.add_end hvm h1 h2 hh hm2 K2' hg3 (by rw [← hL.out, ← hN.out]; exact ho3) hl3 hg5 (by rw [← hN.out]; exact ho5) hl5
    rw [HVE.out] at a0 hr3
    rw [HVF.out] at a2 hr5 d2
    exact ⟨W2, a3, c3, W3, a5, c5, W5, hr2, (by rw [← HVE.out]; exact c0), K2'.cell hV.f1 ntm, hr3, a0, az0, a2, hr5, d2, dz, _, hT6, hLf.trans hL6⟩
  have hmr := hmp
  have HR : Hid (T.vm = none ∧ rs = [] ∨ ∃ mb, T.vm = some mb ∧ MI w mb (es rs).length (pl (es rs))) := hmp
  have KEY1 : Hid (T.vm = none → ∃ W2 a3 c3 W3 a5 c5 W5, (Instr.mapUpdate 47 (.map (some w.heap.size)) (.int .i64 ob) (.int .i64 (L : Int))).run Try.prog ((w.alloc (.map #[] 0)).setCell ⟨T.tb, 1, none⟩ (.map (some w.heap.size))).drew = .ok () W2 ∧ W2.cell? ⟨T.tb, 0, none⟩ = some (.slice ae L ce) ∧ W2.cell? ⟨T.tb, 1, none⟩ = some (.map (some w.heap.size)) ∧
      (Builtin.append_ #[42, 42] 42 #[.slice ae L ce, .slice (some ⟨W2.heap.size, 0, none⟩) 1 1]).run Try.prog (W2.alloc (.cells #[.int .i64 ob, .int .i64 ver, .int .i64 (N : Int)] 36)) = .ok (.slice a3 (L + 1) c3) W3 ∧ W3.cell? ⟨T.tb, 0, none⟩ = some (.slice ae L ce) ∧ W3.frozen? ⟨T.tb, 0, none⟩ = false ∧ W3.cell? ⟨T.tb, 2, none⟩ = some (.slice af N cf) ∧
      (Builtin.append_ #[48, 48] 48 #[.slice af N cf, .slice (some ⟨W3.heap.size, 0, none⟩) 1 1]).run Try.prog ((W3.setCell ⟨T.tb, 0, none⟩ (.slice a3 (L + 1) c3)).alloc (.cells #[.int .i64 1] 27)) = .ok (.slice a5 (N + 1) c5) W5 ∧ W5.cell? ⟨T.tb, 2, none⟩ = some (.slice af N cf) ∧ W5.frozen? ⟨T.tb, 2, none⟩ = false ∧ ∃ T'', TV (W5.setCell ⟨T.tb, 2, none⟩ (.slice a5 (N + 1) c5)) T'' (add rs ob ver) ∧ Lf w (W5.setCell ⟨T.tb, 2, none⟩ (.slice a5 (N + 1) c5)) T T'') := fun e => by
    rcases hmp with ⟨_, hr⟩ | ⟨mb, e', _⟩
    · obtain ⟨x1, x2⟩ := h.mkmap hr
      exact key _ _ _ x1 x2 rfl rfl rfl rfl
    · rw [e] at e'; cases e'
  have KEY2 : Hid (∀ mb, T.vm = some mb → ∃ W2 a3 c3 W3 a5 c5 W5, (Instr.mapUpdate 47 (.map (some mb)) (.int .i64 ob) (.int .i64 (L : Int))).run Try.prog w.drew = .ok () W2 ∧ W2.cell? ⟨T.tb, 0, none⟩ = some (.slice ae L ce) ∧ W2.cell? ⟨T.tb, 1, none⟩ = some (.map (some mb)) ∧
      (Builtin.append_ #[42, 42] 42 #[.slice ae L ce, .slice (some ⟨W2.heap.size, 0, none⟩) 1 1]).run Try.prog (W2.alloc (.cells #[.int .i64 ob, .int .i64 ver, .int .i64 (N : Int)] 36)) = .ok (.slice a3 (L + 1) c3) W3 ∧ W3.cell? ⟨T.tb, 0, none⟩ = some (.slice ae L ce) ∧ W3.frozen? ⟨T.tb, 0, none⟩ = false ∧ W3.cell? ⟨T.tb, 2, none⟩ = some (.slice af N cf) ∧
      (Builtin.append_ #[48, 48] 48 #[.slice af N cf, .slice (some ⟨W3.heap.size, 0, none⟩) 1 1]).run Try.prog ((W3.setCell ⟨T.tb, 0, none⟩ (.slice a3 (L + 1) c3)).alloc (.cells #[.int .i64 1] 27)) = .ok (.slice a5 (N + 1) c5) W5 ∧ W5.cell? ⟨T.tb, 2, none⟩ = some (.slice af N cf) ∧ W5.frozen? ⟨T.tb, 2, none⟩ = false ∧ ∃ T'', TV (W5.setCell ⟨T.tb, 2, none⟩ (.slice a5 (N + 1) c5)) T'' (add rs ob ver) ∧ Lf w (W5.setCell ⟨T.tb, 2, none⟩ (.slice a5 (N + 1) c5)) T T'') := fun mb e => key w T mb h (Lf.refl _ _) e rfl rfl rfl
  clear key h hve hvf hmp hmr hs hh hn
  go_enter Try.func9, Try.ntmps9
  cases hv : T.vm with
  | none =>
    obtain ⟨W2, a3, c3, W3, a5, c5, W5, r2, a0, a1, r3, b0, bz, b2, r5, d2, dz, T6, hT6, hL6⟩ := KEY1.out hv
    rw [hv] at f1 hl f1a
    have eW : (w.alloc (.map #[] 0)).setCell ⟨T.tb, 1, none⟩ (.map (some w.heap.size)) = (w.setCell ⟨T.tb, 1, none⟩ (.map (some w.heap.size))).alloc (.map #[] 0) := by go_simp
    rw [eW] at r2
    have k8 : ∀ ob, Keeps (fun _ => False) (w.setCell ⟨T.tb, 1, none⟩ (.map (some w.heap.size))) ((w.setCell ⟨T.tb, 1, none⟩ (.map (some w.heap.size))).alloc ob).drew := fun ob => ((Keeps.refl _ _).alloc ob).drew
    have e0 := fun ob => (k8 ob).cell ((World.cell?_setCell_other (v := .map (some w.heap.size)) (a := ⟨T.tb, 1, none⟩) (h := by simp) ..).trans f0) (fun e => e)
    have e1 := fun ob => (k8 ob).cell (World.cell?_setCell_same (v := .map (some w.heap.size)) (a := ⟨T.tb, 1, none⟩) (h := f1) ..) (fun e => e)
    clear k8
    clear KEY1 KEY2 HR HVE HVF hv hL hN
    have HT6 : Hid (TV (W5.setCell ⟨T.tb, 2, none⟩ (.slice a5 (N + 1) c5)) T6 (add rs ob ver)) := hT6
    have HL6 : Hid (Lf w (W5.setCell ⟨T.tb, 2, none⟩ (.slice a5 (N + 1) c5)) T T6) := hL6
    clear hT6 hL6
    go_wp2
    go_region_held3 (fun w' => w'.cell? ⟨T.tb, 0, none⟩ = some (.slice ae L ce) ∧ w'.cell? ⟨T.tb, 1, none⟩ = some (.map (some w.heap.size))) (go_keep) (fail)
    go_wp2_with (first | (at_builtin; refine wpList_append_run rfl _ _ _ rfl _ _ (.slice a3 (L + 1) c3) W3 rfl rfl r3 ?_; clear r3) | (at_builtin; refine wpList_append_run rfl _ _ _ rfl _ _ (.slice a5 (N + 1) c5) W5 rfl rfl r5 ?_; clear r5))
    refine bodyPost_ret (v := .tuple #[.int .i64 (N : Int), .int .i64 0]) (by simp [results, Try.f9, go_sem]) rfl ⟨rfl, T6, HT6.out, HL6.out⟩
  | some mb =>
    obtain ⟨W2, a3, c3, W3, a5, c5, W5, r2, a0, a1, r3, b0, bz, b2, r5, d2, dz, T6, hT6, hL6⟩ := KEY2.out mb hv
    rw [hv] at f1 hl f1a
    clear KEY1 KEY2 HR HVE HVF hv hL hN
    have HT6 : Hid (TV (W5.setCell ⟨T.tb, 2, none⟩ (.slice a5 (N + 1) c5)) T6 (add rs ob ver)) := hT6
    have HL6 : Hid (Lf w (W5.setCell ⟨T.tb, 2, none⟩ (.slice a5 (N + 1) c5)) T T6) := hL6
    clear hT6 hL6
    go_wp2
    go_region_held3 (fun w' => w'.cell? ⟨T.tb, 0, none⟩ = some (.slice ae L ce) ∧ w'.cell? ⟨T.tb, 1, none⟩ = some (.map (some mb))) (go_keep) (fail)
    go_wp2_with (first | (at_builtin; refine wpList_append_run rfl _ _ _ rfl _ _ (.slice a3 (L + 1) c3) W3 rfl rfl r3 ?_; clear r3) | (at_builtin; refine wpList_append_run rfl _ _ _ rfl _ _ (.slice a5 (N + 1) c5) W5 rfl rfl r5 ?_; clear r5))
    refine bodyPost_ret (v := .tuple #[.int .i64 (N : Int), .int .i64 0]) (by simp [results, Try.f9, go_sem]) rfl ⟨rfl, T6, HT6.out, HL6.out⟩
end Go.Proofs.Ytagplkgjdaojnaa
