import Derived.Test.YtgjndhbfjofkeaaGreatDoorG05
import Derived.Shelf.SlMaps.Clone
import Derived.Lib.SliceRun
namespace Go.Proofs.YtgjndhbfjofkeaaGreatDoor.TB
open Go.RowKit
attribute [local go_sem] Oper.semAt_some
structure Lf (w w' : World) (T T' : Tk) : Prop where
  kp : Keeps T.Blk w w'
  bk : ∀ k, T'.Blk k → T.Blk k ∨ w.heap.size ≤ k
  tb : T'.tb = T.tb
  oc : ∀ o v, o < 11 ∨ 14 ≤ o → w.cell? ⟨T.tb, o, none⟩ = some v → w'.cell? ⟨T.tb, o, none⟩ = some v
theorem Lf.refl (w : World) (T : Tk) : Lf w w T T := ⟨Keeps.refl _ w, fun _ h => .inl h, rfl, fun _ _ _ h => h⟩
theorem Lf.trans {a b c : World} {T T' T'' : Tk} (h : Lf a b T T') (k : Lf b c T' T'') : Lf a c T T'' :=
  ⟨h.kp.trans' k.kp (fun _ _ e => e) (fun i hi e => (h.bk i e).elim id (fun e' => by omega)), fun i hi => (k.bk i hi).elim (h.bk i) (fun e => .inr (by have := h.kp.size; omega)), k.tb.trans h.tb, fun o v ho hc => by have := k.oc o v ho; rw [h.tb] at this; exact this (h.oc o v ho hc)⟩
theorem Lf.new {a b : World} {T : Tk} (h : Keeps (fun _ => False) a b) : Lf a b T T := ⟨h.mono (fun _ _ e => e.elim), fun _ h => .inl h, rfl, fun _ _ _ hc => h.cell hc (fun e => e)⟩
theorem keeps_set (w : World) (b o : Nat) (v : Value) : Keeps (fun i => i = b) w (w.setCell ⟨b, o, none⟩ v) := (Keeps.refl (fun i => i = b) w).setCell (p := ⟨b, o, none⟩) (fun _ => rfl) v
theorem TV.mkmap {w : World} {T : Tk} {rs : List Rd} (h : TV w T rs) (hr : rs = []) : TV ((w.alloc (.map #[] 0)).setCell ⟨T.tb, 12, none⟩ (.map (some w.heap.size))) ⟨T.tb, T.ve, some w.heap.size, T.vf⟩ rs ∧ Lf w ((w.alloc (.map #[] 0)).setCell ⟨T.tb, 12, none⟩ (.map (some w.heap.size))) T ⟨T.tb, T.ve, some w.heap.size, T.vf⟩ := by
  subst hr
  have lt := h.tlt
  have le := owns_lt' h.re
  have lf := owns_lt' h.rf
  have k1 : Keeps (fun _ => False) w (w.alloc (.map #[] 0)) := (Keeps.refl _ w).alloc _
  have k2 := keeps_set (w.alloc (.map #[] 0)) T.tb 12 (.map (some w.heap.size))
  have k3 : Keeps (fun i => i = T.tb) w ((w.alloc (.map #[] 0)).setCell ⟨T.tb, 12, none⟩ (.map (some w.heap.size))) := k1.trans' k2 (fun _ _ e => e.elim) (fun _ _ e => e)
  have c0 := k1.cell h.f0 (fun e => e)
  have c1 := k1.cell h.f1 (fun e => e)
  have c2 := k1.cell h.f2 (fun e => e)
  refine ⟨⟨?_, ?_, ?_, fun o ho => ?_, k3.owns h.re (fun g e e' => h.n1 (e' ▸ e)), k3.owns h.rf (fun g e e' => h.n2 (e' ▸ e)), .inr ⟨_, rfl, ((OM.made w).keep k2 (fun e => by omega))⟩, h.gd, h.n1, h.n2, h.n3, fun e => (by have := Option.some.inj e; simp only at this; omega), fun g e => ?_⟩, k3.mono (fun _ _ e => .inl e), fun k hk => ?_, rfl, fun o v ho hc => (World.cell?_setCell_other (h := by simp <;> omega) ..).trans (k1.cell hc (fun e => e))⟩
  · exact (World.cell?_setCell_other (h := by simp) ..).trans c0
  · exact World.cell?_setCell_same (h := c1) ..
  · exact (World.cell?_setCell_other (h := by simp) ..).trans c2
  · rw [World.frozen?_setCell]
    exact (k1.frozen (p := ⟨T.tb, o, none⟩) lt (fun e => e)).trans (h.z o ho)
  · cases e
    exact ⟨fun e => by have := le _ e; omega, fun e => by have := lf _ e; omega⟩
  · rcases hk with e | e | e | e
    · exact .inl (.inl e)
    · exact .inl (.inr (.inl e))
    · cases e; exact .inr (Nat.le_refl _)
    · exact .inl (.inr (.inr (.inr e)))
theorem cellone (W : World) : (W.alloc (.cells #[.int .i64 1] 218)).cell? ⟨W.heap.size, 0, none⟩ = some (.int .i64 1) := by simp
theorem TV.add_end {W W2 W3 W5 : World} {T : Tk} {rs : List Rd} {mb : Nat} {ob ver : Int} {v' v2 : Value} {o1 o2 : Obj} (h : TV W T rs) (hv : T.vm = some mb) (h1 : I64 ob) (h2 : I64 ver) (hn : ¬ hld rs ob)
    (m2 : OM W2 mb ((es rs).length + 1) (upd (pl (es rs)) ob (some (es rs).length))) (K2 : Keeps (fun i => i = mb) W W2)
    (g3 : (W2.alloc o1).grownBy W3 T.ve.ownBlock) (o3 : W3.ownsRow 0 141 3 v' ((es rs).length + 1) (fl ecells (es rs) ++ ecells ⟨ob, ver, rs.length⟩)) (l3 : v'.ownBlock = T.ve.ownBlock ∨ v'.ownBlock = some (W2.alloc o1).heap.size)
    (g5 : ((W3.setCell ⟨T.tb, 11, none⟩ v').alloc o2).grownBy W5 T.vf.ownBlock) (o5 : W5.ownsRow 0 218 1 v2 (rs.length + 1) (fcells rs ++ [.int .i64 1])) (l5 : v2.ownBlock = T.vf.ownBlock ∨ v2.ownBlock = some ((W3.setCell ⟨T.tb, 11, none⟩ v').alloc o2).heap.size) :
    TV (W5.setCell ⟨T.tb, 13, none⟩ v2) ⟨T.tb, v', some mb, v2⟩ (add rs ob ver) ∧ Lf W (W5.setCell ⟨T.tb, 13, none⟩ v2) T ⟨T.tb, v', some mb, v2⟩ := by
  have lt := h.tlt
  have le := owns_lt' h.re
  have lf := owns_lt' h.rf
  have lm := h.lt (.inr (.inr (.inl hv)))
  have ntm : T.tb ≠ mb := fun e => h.n4 (by rw [hv, e])
  have sz2 := K2.size
  have sA : (W2.alloc o1).heap.size = W2.heap.size + 1 := by simp
  have s3 := g3.size
  have kA : Keeps (fun i => i = mb ∨ T.ve.ownBlock = some i) W W3 := ((K2.mono (fun _ _ e => .inl e)).alloc o1).grown g3 (fun _ _ e => .inr e)
  have kB : Keeps (fun i => T.vf.ownBlock = some i) (W3.setCell ⟨T.tb, 11, none⟩ v') W5 := ((Keeps.refl (fun i => T.vf.ownBlock = some i) (W3.setCell ⟨T.tb, 11, none⟩ v')).alloc o2).grown g5 (fun _ _ e => e)
  have kS := keeps_set W3 T.tb 11 v'
  have kE := keeps_set W5 T.tb 13 v2
  have sB : ((W3.setCell ⟨T.tb, 11, none⟩ v').alloc o2).heap.size = W3.heap.size + 1 := by simp
  have lv' : ∀ g, v'.ownBlock = some g → T.ve.ownBlock = some g ∨ (g = W2.heap.size + 1) := fun g e => by
    rcases l3 with e' | e'
    · exact .inl (e' ▸ e)
    · rw [e', sA] at e; cases e; exact .inr rfl
  have lv2 : ∀ g, v2.ownBlock = some g → T.vf.ownBlock = some g ∨ (g = W3.heap.size + 1) := fun g e => by
    rcases l5 with e' | e'
    · exact .inl (e' ▸ e)
    · rw [e', sB] at e; cases e; exact .inr rfl
  have l3' := owns_lt' o3
  have nT : ¬ (T.tb = mb ∨ T.ve.ownBlock = some T.tb) := fun e => e.elim ntm h.n1
  have a0 := kA.cell h.f0 nT
  have a1 := kA.cell h.f1 nT
  have a2 := kA.cell h.f2 nT
  have b0 := kB.cell (World.cell?_setCell_same (v := v') (h := a0) ..) h.n2
  have b1 := kB.cell ((World.cell?_setCell_other (v := v') (a := ⟨T.tb, 11, none⟩) (h := by simp) ..).trans a1) h.n2
  have b2 := kB.cell ((World.cell?_setCell_other (v := v') (a := ⟨T.tb, 11, none⟩) (h := by simp) ..).trans a2) h.n2
  have hG := h.gd.add h1 h2 hn
  have ee : es (add rs ob ver) = es rs ++ [⟨ob, ver, rs.length⟩] := es_add rs ob ver
  have hd : Dis (es rs ++ [(⟨ob, ver, rs.length⟩ : En)]) := ee ▸ hG.dis
  have hp : upd (pl (es rs)) ob (some (es rs).length) = pl (es rs ++ [(⟨ob, ver, rs.length⟩ : En)]) := pl_snoc (e := ⟨ob, ver, rs.length⟩) hd
  have n5 := h.n5 mb hv
  have kk : Keeps T.Blk W (W5.setCell ⟨T.tb, 13, none⟩ v2) := by
    have x1 : Keeps T.Blk W W3 := kA.mono (fun i _ e => by rcases e with rfl | e; exact .inr (.inr (.inl hv)); exact .inr (.inl e))
    have x2 : Keeps T.Blk W (W3.setCell ⟨T.tb, 11, none⟩ v') := x1.trans' kS (fun _ _ e => e) (fun _ _ e => .inl e)
    have x3 : Keeps T.Blk W W5 := x2.trans' kB (fun _ _ e => e) (fun _ _ e => .inr (.inr (.inr e)))
    exact x3.trans' kE (fun _ _ e => e) (fun _ _ e => .inl e)
  have s5 := kB.size
  have sS : (W3.setCell ⟨T.tb, 11, none⟩ v').heap.size = W3.heap.size := by simp
  have kw3 := kA.size
  refine ⟨⟨?_, ?_, ?_, fun o ho => ?_, ?_, ?_, .inr ⟨mb, rfl, ?_⟩, hG, ?_, ?_, ?_, fun e => ntm (Option.some.inj e).symm, ?_⟩, kk, fun k hk => ?_, rfl, fun o v ho hc => (World.cell?_setCell_other (h := by simp <;> omega) ..).trans (kB.cell ((World.cell?_setCell_other (v := v') (a := ⟨T.tb, 11, none⟩) (h := by simp <;> omega) ..).trans (kA.cell hc nT)) h.n2)⟩
  · exact (World.cell?_setCell_other (h := by simp) ..).trans b0
  · exact (World.cell?_setCell_other (h := by simp) ..).trans (by rw [b1, hv])
  · exact World.cell?_setCell_same (h := b2) ..
  · rw [World.frozen?_setCell]
    have lt3 : T.tb < (W3.setCell ⟨T.tb, 11, none⟩ v').heap.size := by omega
    refine (kB.frozen (p := ⟨T.tb, o, none⟩) lt3 h.n2).trans ?_
    rw [World.frozen?_setCell]
    exact (kA.frozen (p := ⟨T.tb, o, none⟩) lt nT).trans (h.z o ho)
  · rw [ee, List.length_append]
    have er : fl ecells (es rs ++ [(⟨ob, ver, rs.length⟩ : En)]) = fl ecells (es rs) ++ ecells ⟨ob, ver, rs.length⟩ := by rw [fl_append]; simp [fl]
    rw [er]
    refine kE.owns (kB.owns (kS.owns o3 (fun g e e' => ?_)) (fun g e e' => ?_)) (fun g e e' => ?_)
    · rcases lv' g e with x | x
      · exact h.n1 (e' ▸ x)
      · omega
    · rcases lv' g e with x | x
      · exact h.n3 g x e'
      · have := lf g e'; omega
    · rcases lv' g e with x | x
      · exact h.n1 (e' ▸ x)
      · omega
  · rw [add_len]
    have er : fcells (add rs ob ver) = fcells rs ++ [.int .i64 1] := by simp [fcells, add]
    rw [er]
    refine kE.owns o5 (fun g e e' => ?_)
    rcases lv2 g e with x | x
    · exact h.n2 (e' ▸ x)
    · omega
  · rw [ee, List.length_append, ← hp]
    have := ((Keeps.refl (fun i => T.ve.ownBlock = some i) W2).alloc o1).grown g3 (fun _ _ e => e)
    exact (((m2.keep this n5.1).keep kS (fun e => ntm e.symm)).keep kB n5.2).keep kE (fun e => ntm e.symm)
  · intro e
    rcases lv' _ e with x | x
    · exact h.n1 x
    · simp at x; omega
  · intro e
    rcases lv2 _ e with x | x
    · exact h.n2 x
    · simp at x; omega
  · intro g e e'
    have l1 := l3' g e
    rcases lv2 g e' with y | y
    · rcases lv' g e with x | x
      · exact h.n3 g x y
      · have := lf g y; omega
    · omega
  · intro g e
    cases e
    refine ⟨fun e => ?_, fun e => ?_⟩
    · rcases lv' _ e with x | x
      · exact n5.1 x
      · omega
    · rcases lv2 _ e with x | x
      · exact n5.2 x
      · omega
  · rcases hk with e | e | e | e
    · exact .inl (.inl e)
    · rcases lv' _ e with x | x
      · exact .inl (.inr (.inl x))
      · exact .inr (by omega)
    · exact .inl (.inr (.inr (.inl (hv.trans e))))
    · rcases lv2 _ e with x | x
      · exact .inl (.inr (.inr (.inr x)))
      · exact .inr (by omega)
set_option maxHeartbeats 3200000 in
set_option maxRecDepth 1000000 in
theorem add_ok {w : World} {T : Tk} {rs : List Rd} (h : TV w T rs) {ob ver : Int} (h1 : I64 ob) (h2 : I64 ver) (hh : ¬ hld rs ob) (hn : rs.length ≤ 4398046511200) : Calls Tryz.prog 167 #[.pointer (some ⟨T.tb, 11, none⟩), .int .i64 ob, .int .i64 ver] w fun e w' => e = .returned (.tuple #[.int .i64 (rs.length : Int), .int .i64 0]) ∧ ∃ T', TV w' T' (add rs ob ver) ∧ Lf w w' T T' := by
  have hs : (pl (es rs) ob).isSome = false := by
    cases e : (pl (es rs) ob).isSome with
    | false => rfl
    | true => exact absurd ((hld_pl h.gd ob).2 e) hh
  have hl := h.look h1 (Keeps.refl _ w)
  rw [hs] at hl
  have f0 := h.f0
  have f1 := h.f1
  have f2 := h.f2
  have z1 := h.z 12 (by omega)
  obtain ⟨ae, ce, hve, -⟩ := h.eform
  obtain ⟨af, cf, hvf, -⟩ := h.fform
  have hmm := @run_makeMap Tryz.prog
  have hq := fun w p => run_eql_map_nil_sl (P := Tryz.prog) w 135 _ _ p underM
  have HT : Hid (TV w T rs) := h
  have hmp := h.mp
  have lt := h.tlt
  have f0a := fun ob => ((Keeps.refl (fun _ => False) w).alloc ob).cell f0 (fun e => e)
  have f1a := fun ob => ((Keeps.refl (fun _ => False) w).alloc ob).cell f1 (fun e => e)
  have f2a := fun ob => ((Keeps.refl (fun _ => False) w).alloc ob).cell f2 (fun e => e)
  have z1a : ∀ ob, (w.alloc ob).frozen? ⟨T.tb, 12, none⟩ = false := fun ob => (((Keeps.refl (fun _ => False) w).alloc ob).frozen (p := ⟨T.tb, 12, none⟩) lt (fun e => e)).trans z1
  obtain ⟨L, hL⟩ : ∃ L, Hid (L = (es rs).length) := ⟨_, rfl⟩
  obtain ⟨N, hN⟩ : ∃ N, Hid (N = rs.length) := ⟨_, rfl⟩
  rw [← hL.out] at hve
  rw [← hN.out] at hvf ⊢
  have HVE : Hid (T.ve = .slice ae L ce) := hve
  have HVF : Hid (T.vf = .slice af N cf) := hvf
  rw [hve] at f0 f0a
  rw [hvf] at f2 f2a
  have key : ∀ (W : World) (T' : Tk) (mb : Nat), TV W T' rs → Lf w W T T' → T'.vm = some mb → T'.tb = T.tb → T'.ve = T.ve → T'.vf = T.vf → ∃ W2 a3 c3 W3 a5 c5 W5, (Instr.mapUpdate 135 (.map (some mb)) (.int .i64 ob) (.int .i64 (L : Int))).run Tryz.prog W.drew = .ok () W2 ∧ W2.cell? ⟨T.tb, 11, none⟩ = some (.slice ae L ce) ∧ W2.cell? ⟨T.tb, 12, none⟩ = some (.map (some mb)) ∧
      (Builtin.append_ #[134, 134] 134 #[.slice ae L ce, .slice (some ⟨W2.heap.size, 0, none⟩) 1 1]).run Tryz.prog (W2.alloc (.cells #[.int .i64 ob, .int .i64 ver, .int .i64 (N : Int)] 141)) = .ok (.slice a3 (L + 1) c3) W3 ∧ W3.cell? ⟨T.tb, 11, none⟩ = some (.slice ae L ce) ∧ W3.frozen? ⟨T.tb, 11, none⟩ = false ∧ W3.cell? ⟨T.tb, 13, none⟩ = some (.slice af N cf) ∧
      (Builtin.append_ #[136, 136] 136 #[.slice af N cf, .slice (some ⟨W3.heap.size, 0, none⟩) 1 1]).run Tryz.prog ((W3.setCell ⟨T.tb, 11, none⟩ (.slice a3 (L + 1) c3)).alloc (.cells #[.int .i64 1] 218)) = .ok (.slice a5 (N + 1) c5) W5 ∧ W5.cell? ⟨T.tb, 13, none⟩ = some (.slice af N cf) ∧ W5.frozen? ⟨T.tb, 13, none⟩ = false ∧ ∃ T'', TV (W5.setCell ⟨T.tb, 13, none⟩ (.slice a5 (N + 1) c5)) T'' (add rs ob ver) ∧ Lf w (W5.setCell ⟨T.tb, 13, none⟩ (.slice a5 (N + 1) c5)) T T'' := fun W T' mb hV hLf hvm e1 e2 e3 => by
    obtain ⟨tb', ve', vm', vf'⟩ := T'
    simp only at hvm e1 e2 e3
    subst e1 e2 e3 hvm
    have hvm : (⟨T.tb, T.ve, some mb, T.vf⟩ : Tk).vm = some mb := rfl
    obtain ⟨iE, hE0, hE1, hE2, hE3⟩ := info_parts infoE
    obtain ⟨iF, hF0, hF1, hF2, hF3⟩ := info_parts infoF
    have hLn : L ≤ N := by rw [hL.out, hN.out]; exact es_len rs
    have hN' : N ≤ 4398046511200 := by rw [hN.out]; exact hn
    have kd : Keeps (fun _ => False) W W.drew := (Keeps.refl _ W).drew
    obtain ⟨mb', x1, hm⟩ : ∃ mb', some mb = some mb' ∧ OM W mb' (es rs).length (pl (es rs)) := by
      rcases hV.mp with ⟨e, _⟩ | e
      · cases e
      · exact e
    obtain rfl : mb = mb' := Option.some.inj x1
    obtain ⟨W2, hr2, hm2, K2⟩ := (hm.keep kd (fun e => e)).put h1 (v := L) (by omega) (by rw [← hL.out]; omega)
    rw [hs] at hm2
    simp only [Bool.false_eq_true, if_false] at hm2
    have K2' : Keeps (fun i => i = mb) W W2 := kd.trans' K2 (fun _ _ e => e.elim) (fun _ _ e => e)
    have ntm : T.tb ≠ mb := fun e => hV.n4 (by rw [hvm]; exact congrArg some e.symm)
    have nm5 := hV.n5 mb hvm
    have c0 := K2'.cell hV.f0 ntm
    have c2 := K2'.cell hV.f2 ntm
    have g1 := heap_alloc_new W2 (.cells #[.int .i64 ob, .int .i64 ver, .int .i64 (N : Int)] 141)
    obtain ⟨v', W3, hr3, ho3, hg3, _, hl3⟩ := run_append_own_at (P := Tryz.prog) (w := W2.alloc (.cells #[.int .i64 ob, .int .i64 ver, .int .i64 (N : Int)] 141)) 0 134 134 141 iE _ 3 24 underE hE0 hE1 hE2 hE3 rfl (by decide) T.ve L _ ((((K2'.owns hV.re (fun g e e' => nm5.1 (e' ▸ e))).alloc _)) |> (hL.out ▸ ·)) ⟨W2.heap.size, 0, none⟩ 1 1 (ecells ⟨ob, ver, N⟩) rfl (fun j u hu => by
      have hj : j < 3 := (List.getElem?_eq_some_iff.1 hu).1
      rw [show ((⟨W2.heap.size, 0, none⟩ : Addr).add j) = ⟨W2.heap.size, j, none⟩ by unfold Addr.add; split <;> simp_all]
      rcases (by omega : j = 0 ∨ j = 1 ∨ j = 2) with rfl | rfl | rfl <;> (simp [ecells] at hu; subst hu; simp)) (fun u hu => by simp [ecells] at hu; rcases hu with rfl | rfl | rfl <;> rfl) (by unfold maxLen; omega) (by omega) (Nat.zero_le _)
    obtain ⟨a3, c3, rfl, -⟩ := owns_form ho3
    have kA : Keeps (fun i => i = mb ∨ T.ve.ownBlock = some i) W W3 := ((K2'.mono (fun _ _ e => .inl e)).alloc _).grown hg3 (fun _ _ e => .inr e)
    have nT : ¬ (T.tb = mb ∨ T.ve.ownBlock = some T.tb) := fun e => e.elim ntm hV.n1
    have a0 := kA.cell hV.f0 nT
    have a2 := kA.cell hV.f2 nT
    have az0 := (kA.frozen (p := ⟨T.tb, 11, none⟩) hV.tlt nT).trans (hV.z 11 (by omega))
    have az2 := (kA.frozen (p := ⟨T.tb, 13, none⟩) hV.tlt nT).trans (hV.z 13 (by omega))
    have kS := keeps_set W3 T.tb 11 (.slice a3 (L + 1) c3)
    have b2 : (W3.setCell ⟨T.tb, 11, none⟩ (.slice a3 (L + 1) c3)).cell? ⟨T.tb, 13, none⟩ = some T.vf := (World.cell?_setCell_other (v := .slice a3 (L + 1) c3) (a := ⟨T.tb, 11, none⟩) (h := by simp) ..).trans a2
    have own5 := (kS.owns (kA.owns hV.rf (fun g e e' => by rcases e' with rfl | e'; exact nm5.2 e; exact hV.n3 g e' e)) (fun g e e' => hV.n2 (e' ▸ e))).alloc (.cells #[.int .i64 1] 218)
    have sS : (W3.setCell ⟨T.tb, 11, none⟩ (.slice a3 (L + 1) c3)).heap.size = W3.heap.size := by simp
    obtain ⟨v2, W5, hr5, ho5, hg5, _, hl5⟩ := run_append_own_at (P := Tryz.prog) (w := (W3.setCell ⟨T.tb, 11, none⟩ (.slice a3 (L + 1) c3)).alloc (.cells #[.int .i64 1] 218)) 0 136 136 218 iF _ 1 8 underF hF0 hF1 hF2 hF3 rfl (by decide) T.vf N _ (hN.out ▸ own5) ⟨W3.heap.size, 0, none⟩ 1 1 [.int .i64 1] rfl (fun j u hu => by
      have hj : j < 1 := (List.getElem?_eq_some_iff.1 hu).1
      obtain rfl : j = 0 := by omega
      simp at hu
      subst hu
      have := cellone (W3.setCell ⟨T.tb, 11, none⟩ (.slice a3 (L + 1) c3))
      rw [sS] at this
      exact this) (fun u hu => by simp at hu; subst hu; rfl) (by unfold maxLen; omega) (by omega) (Nat.zero_le _)
    obtain ⟨a5, c5, rfl, -⟩ := owns_form ho5
    have kB : Keeps (fun i => T.vf.ownBlock = some i) (W3.setCell ⟨T.tb, 11, none⟩ (.slice a3 (L + 1) c3)) W5 := ((Keeps.refl (fun i => T.vf.ownBlock = some i) (W3.setCell ⟨T.tb, 11, none⟩ (.slice a3 (L + 1) c3))).alloc _).grown hg5 (fun _ _ e => e)
    have d2 := kB.cell b2 hV.n2
    have dz : W5.frozen? ⟨T.tb, 13, none⟩ = false := (kB.frozen (p := ⟨T.tb, 13, none⟩) (World.block_lt_of_cell? _ _ b2) hV.n2).trans (by rw [World.frozen?_setCell]; exact az2)
    rw [hL.out] at hm2
    obtain ⟨hT6, hL6⟩ := hV.add_end hvm h1 h2 hh hm2 K2' hg3 (by rw [← hL.out, ← hN.out]; exact ho3) hl3 hg5 (by rw [← hN.out]; exact ho5) hl5
    rw [HVE.out] at a0 hr3
    rw [HVF.out] at a2 hr5 d2
    exact ⟨W2, a3, c3, W3, a5, c5, W5, hr2, (by rw [← HVE.out]; exact c0), K2'.cell hV.f1 ntm, hr3, a0, az0, a2, hr5, d2, dz, _, hT6, hLf.trans hL6⟩
  have hmr := hmp
  have HR : Hid (T.vm = none ∧ rs = [] ∨ ∃ mb, T.vm = some mb ∧ OM w mb (es rs).length (pl (es rs))) := hmp
  have KEY1 : Hid (T.vm = none → ∃ W2 a3 c3 W3 a5 c5 W5, (Instr.mapUpdate 135 (.map (some w.heap.size)) (.int .i64 ob) (.int .i64 (L : Int))).run Tryz.prog ((w.alloc (.map #[] 0)).setCell ⟨T.tb, 12, none⟩ (.map (some w.heap.size))).drew = .ok () W2 ∧ W2.cell? ⟨T.tb, 11, none⟩ = some (.slice ae L ce) ∧ W2.cell? ⟨T.tb, 12, none⟩ = some (.map (some w.heap.size)) ∧
      (Builtin.append_ #[134, 134] 134 #[.slice ae L ce, .slice (some ⟨W2.heap.size, 0, none⟩) 1 1]).run Tryz.prog (W2.alloc (.cells #[.int .i64 ob, .int .i64 ver, .int .i64 (N : Int)] 141)) = .ok (.slice a3 (L + 1) c3) W3 ∧ W3.cell? ⟨T.tb, 11, none⟩ = some (.slice ae L ce) ∧ W3.frozen? ⟨T.tb, 11, none⟩ = false ∧ W3.cell? ⟨T.tb, 13, none⟩ = some (.slice af N cf) ∧
      (Builtin.append_ #[136, 136] 136 #[.slice af N cf, .slice (some ⟨W3.heap.size, 0, none⟩) 1 1]).run Tryz.prog ((W3.setCell ⟨T.tb, 11, none⟩ (.slice a3 (L + 1) c3)).alloc (.cells #[.int .i64 1] 218)) = .ok (.slice a5 (N + 1) c5) W5 ∧ W5.cell? ⟨T.tb, 13, none⟩ = some (.slice af N cf) ∧ W5.frozen? ⟨T.tb, 13, none⟩ = false ∧ ∃ T'', TV (W5.setCell ⟨T.tb, 13, none⟩ (.slice a5 (N + 1) c5)) T'' (add rs ob ver) ∧ Lf w (W5.setCell ⟨T.tb, 13, none⟩ (.slice a5 (N + 1) c5)) T T'') := fun e => by
    rcases hmp with ⟨_, hr⟩ | ⟨mb, e', _⟩
    · obtain ⟨x1, x2⟩ := h.mkmap hr
      exact key _ _ _ x1 x2 rfl rfl rfl rfl
    · rw [e] at e'; cases e'
  have KEY2 : Hid (∀ mb, T.vm = some mb → ∃ W2 a3 c3 W3 a5 c5 W5, (Instr.mapUpdate 135 (.map (some mb)) (.int .i64 ob) (.int .i64 (L : Int))).run Tryz.prog w.drew = .ok () W2 ∧ W2.cell? ⟨T.tb, 11, none⟩ = some (.slice ae L ce) ∧ W2.cell? ⟨T.tb, 12, none⟩ = some (.map (some mb)) ∧
      (Builtin.append_ #[134, 134] 134 #[.slice ae L ce, .slice (some ⟨W2.heap.size, 0, none⟩) 1 1]).run Tryz.prog (W2.alloc (.cells #[.int .i64 ob, .int .i64 ver, .int .i64 (N : Int)] 141)) = .ok (.slice a3 (L + 1) c3) W3 ∧ W3.cell? ⟨T.tb, 11, none⟩ = some (.slice ae L ce) ∧ W3.frozen? ⟨T.tb, 11, none⟩ = false ∧ W3.cell? ⟨T.tb, 13, none⟩ = some (.slice af N cf) ∧
      (Builtin.append_ #[136, 136] 136 #[.slice af N cf, .slice (some ⟨W3.heap.size, 0, none⟩) 1 1]).run Tryz.prog ((W3.setCell ⟨T.tb, 11, none⟩ (.slice a3 (L + 1) c3)).alloc (.cells #[.int .i64 1] 218)) = .ok (.slice a5 (N + 1) c5) W5 ∧ W5.cell? ⟨T.tb, 13, none⟩ = some (.slice af N cf) ∧ W5.frozen? ⟨T.tb, 13, none⟩ = false ∧ ∃ T'', TV (W5.setCell ⟨T.tb, 13, none⟩ (.slice a5 (N + 1) c5)) T'' (add rs ob ver) ∧ Lf w (W5.setCell ⟨T.tb, 13, none⟩ (.slice a5 (N + 1) c5)) T T'') := fun mb e => key w T mb h (Lf.refl _ _) e rfl rfl rfl
  clear key h hve hvf hmp hmr hs hh hn
  go_enter Tryz.func167, Tryz.ntmps167
  cases hv : T.vm with
  | none =>
    obtain ⟨W2, a3, c3, W3, a5, c5, W5, r2, a0, a1, r3, b0, bz, b2, r5, d2, dz, T6, hT6, hL6⟩ := KEY1.out hv
    rw [hv] at f1 hl f1a
    have eW : (w.alloc (.map #[] 0)).setCell ⟨T.tb, 12, none⟩ (.map (some w.heap.size)) = (w.setCell ⟨T.tb, 12, none⟩ (.map (some w.heap.size))).alloc (.map #[] 0) := by go_simp
    rw [eW] at r2
    have k8 : ∀ ob, Keeps (fun _ => False) (w.setCell ⟨T.tb, 12, none⟩ (.map (some w.heap.size))) ((w.setCell ⟨T.tb, 12, none⟩ (.map (some w.heap.size))).alloc ob).drew := fun ob => ((Keeps.refl _ _).alloc ob).drew
    have e0 := fun ob => (k8 ob).cell ((World.cell?_setCell_other (v := .map (some w.heap.size)) (a := ⟨T.tb, 12, none⟩) (h := by simp) ..).trans f0) (fun e => e)
    have e1 := fun ob => (k8 ob).cell (World.cell?_setCell_same (v := .map (some w.heap.size)) (a := ⟨T.tb, 12, none⟩) (h := f1) ..) (fun e => e)
    clear k8
    clear KEY1 KEY2 HR HVE HVF hv hL hN
    have HT6 : Hid (TV (W5.setCell ⟨T.tb, 13, none⟩ (.slice a5 (N + 1) c5)) T6 (add rs ob ver)) := hT6
    have HL6 : Hid (Lf w (W5.setCell ⟨T.tb, 13, none⟩ (.slice a5 (N + 1) c5)) T T6) := hL6
    clear hT6 hL6
    go_wp2
    go_region_held3 (fun w' => w'.cell? ⟨T.tb, 11, none⟩ = some (.slice ae L ce) ∧ w'.cell? ⟨T.tb, 12, none⟩ = some (.map (some w.heap.size))) (go_keep) (fail)
    go_wp2_with (first | (at_builtin; refine wpList_append_run rfl _ _ _ rfl _ _ (.slice a3 (L + 1) c3) W3 rfl rfl r3 ?_; clear r3) | (at_builtin; refine wpList_append_run rfl _ _ _ rfl _ _ (.slice a5 (N + 1) c5) W5 rfl rfl r5 ?_; clear r5))
    refine bodyPost_ret (v := .tuple #[.int .i64 (N : Int), .int .i64 0]) (by simp [results, Tryz.f167, go_sem]) rfl ⟨rfl, T6, HT6.out, HL6.out⟩
  | some mb =>
    obtain ⟨W2, a3, c3, W3, a5, c5, W5, r2, a0, a1, r3, b0, bz, b2, r5, d2, dz, T6, hT6, hL6⟩ := KEY2.out mb hv
    rw [hv] at f1 hl f1a
    clear KEY1 KEY2 HR HVE HVF hv hL hN
    have HT6 : Hid (TV (W5.setCell ⟨T.tb, 13, none⟩ (.slice a5 (N + 1) c5)) T6 (add rs ob ver)) := hT6
    have HL6 : Hid (Lf w (W5.setCell ⟨T.tb, 13, none⟩ (.slice a5 (N + 1) c5)) T T6) := hL6
    clear hT6 hL6
    go_wp2
    go_region_held3 (fun w' => w'.cell? ⟨T.tb, 11, none⟩ = some (.slice ae L ce) ∧ w'.cell? ⟨T.tb, 12, none⟩ = some (.map (some mb))) (go_keep) (fail)
    go_wp2_with (first | (at_builtin; refine wpList_append_run rfl _ _ _ rfl _ _ (.slice a3 (L + 1) c3) W3 rfl rfl r3 ?_; clear r3) | (at_builtin; refine wpList_append_run rfl _ _ _ rfl _ _ (.slice a5 (N + 1) c5) W5 rfl rfl r5 ?_; clear r5))
    refine bodyPost_ret (v := .tuple #[.int .i64 (N : Int), .int .i64 0]) (by simp [results, Tryz.f167, go_sem]) rfl ⟨rfl, T6, HT6.out, HL6.out⟩
end Go.Proofs.YtgjndhbfjofkeaaGreatDoor.TB

namespace Go.Proofs.YtgjndhbfjofkeaaGreatDoor.TB
open Go.RowKit
attribute [local go_sem] Oper.semAt_some
theorem step_append_run {P : Program} {ops : Array Oper} {o : Oper} {a : Act} {w : World} {K : Act → World → Prop} {Q : Exit → Act → World → Prop} {E : Prop} (hgd : o.guard = none) (s x : Operand) (t : TypeId)
    (ho : o.op = .call { callee := .builtin .append, args := #[s, x], argTypes := #[t, t] }) (v src v' : Value) (w' : World) (hs : a.eval s = v) (hx : a.eval x = src)
    (hr : (Builtin.append_ #[t, t] o.type #[v, src]).run P w = .ok v' w') (h : K (a.put o.dst v') w') : if Region.wanted o (yielded ops a.tmps) = true then Oper.wp P o a w K Q else E := by
  have hw : Region.wanted o (yielded ops a.tmps) = true := by simp [Region.wanted, hgd]
  rw [if_pos hw]
  unfold Oper.wp execOp
  simp only [ho, resolve, invoke, builtin, Sem.run_bind, Sem.run_pure, Result.andThen_ok, List.map_toArray, List.map_cons, List.map_nil, hs, hx, hr]
  exact h
theorem run_clear_en (w : World) (ty : TypeId) (b o c : Nat) (hc : ∀ j, j < 3 → (w.cell? ⟨b, o + j, none⟩).isSome = true) (hf : ∀ j, j < 3 → w.frozen? ⟨b, o + j, none⟩ = false) :
    (Builtin.clear_ #[134] ty #[.slice (some ⟨b, o, none⟩) 1 c]).run Tryz.prog w = .ok (.tuple #[]) (w.setCells b o [.int .i64 0, .int .i64 0, .int .i64 0]) := by
  have hzc : (Builtin.zeroCells (Value.agg #[.int .i64 0, .int .i64 0, .int .i64 0]).cells 1).toList = [.int .i64 0, .int .i64 0, .int .i64 0] := by kernel_rfl
  have hst := run_storeCells_cells (P := Tryz.prog) b o [.int .i64 0, .int .i64 0, .int .i64 0] 0 w (by simpa using hc) (by simpa using hf) (by intro v hv; simp at hv; subst hv; rfl)
  simp only [Nat.add_zero] at hst
  simp [Builtin.clear_, run_underlying underE, hzc, hst]
theorem delete_world {w : World} {g cap : Nat} {A B : List En} {e : En} (h : w.ownsRow 0 141 3 (.slice (some ⟨g, 0, none⟩) (A.length + B.length + 1) cap) (A.length + B.length + 1) (fl ecells (A ++ e :: B))) :
    ∃ ad W1 W2, (if cap = A.length + 1 then some (⟨g, 0, none⟩ : Addr) else some ⟨g, (A.length + 1) * 3, none⟩) = some ad ∧
      (Builtin.append_ #[134, 134] 134 #[.slice (some ⟨g, 0, none⟩) A.length cap, .slice (some ad) B.length (cap - (A.length + 1))]).run Tryz.prog w.drew = .ok (.slice (some ⟨g, 0, none⟩) (A.length + B.length) cap) W1 ∧
      (∀ ty c, (Builtin.clear_ #[134] ty #[.slice (some ⟨g, (A.length + B.length) * 3, none⟩) 1 c]).run Tryz.prog W1 = .ok (.tuple #[]) W2) ∧
      W2.ownsRow 0 141 3 (.slice (some ⟨g, 0, none⟩) (A.length + B.length) cap) (A.length + B.length) (fl ecells (A ++ B)) ∧ Keeps (fun i => i = g) w W2 := by
  obtain ⟨i0, hi0, hz0, hz1, hz2⟩ := info_parts infoE
  have hcap := owns_cap h
  have hfl : fl ecells (A ++ e :: B) = fl ecells A ++ (ecells e ++ fl ecells B) := by rw [fl_append]; rfl
  have lA := fl_length ecells_len A
  have lB := fl_length ecells_len B
  have own : w.drew.ownsRow 0 141 3 (.slice (some ⟨g, 0, none⟩) A.length cap) A.length (fl ecells A) := by
    refine ⟨lA, .inr ?_⟩
    rcases h.2 with ⟨h', _⟩ | ⟨g', cap', cur, h', hb, hg, hnc, hcm, hcs, htake⟩
    · cases h'
    · cases h'
      refine ⟨g, cap, cur, rfl, hb, hg, by omega, hcm, hcs, ?_⟩
      have := congrArg (List.take (A.length * 3)) htake
      rw [List.take_take, Nat.min_eq_left (by omega), hfl, List.take_append_of_le_length (by omega), List.take_of_length_le (l := fl ecells A) (by omega)] at this
      exact this
  obtain ⟨ad, had, hnews⟩ : ∃ ad : Addr, (if cap = A.length + 1 then some (⟨g, 0, none⟩ : Addr) else some ⟨g, (A.length + 1) * 3, none⟩) = some ad ∧ ∀ j u, (fl ecells B)[j]? = some u → w.drew.cell? (ad.add j) = some u := by
    by_cases hc : cap = A.length + 1
    · refine ⟨⟨g, 0, none⟩, by rw [if_pos hc], fun j u hu => ?_⟩
      have : B.length = 0 := by omega
      rw [List.length_eq_zero_iff.1 this] at hu
      simp [fl] at hu
    · refine ⟨⟨g, (A.length + 1) * 3, none⟩, by rw [if_neg hc], fun j u hu => ?_⟩
      have := owns_cell h rfl (j := (A.length + 1) * 3 + j) (u := u) (by
        rw [hfl, List.getElem?_append_right (by omega), lA, show (A.length + 1) * 3 + j - A.length * 3 = 3 + j by omega, List.getElem?_append_right (by simp [ecells])]
        simpa [ecells] using hu)
      rw [show ((⟨g, (A.length + 1) * 3, none⟩ : Addr).add j) = ⟨g, (A.length + 1) * 3 + j, none⟩ by unfold Addr.add; split <;> simp_all]
      exact this
  obtain ⟨W1, hr1, ho1, hg1⟩ := run_append_fits (P := Tryz.prog) w.drew 0 134 134 141 i0 3 underE hi0 hz1 g A.length cap (fl ecells A) own ad B.length (cap - (A.length + 1)) (fl ecells B) lB hnews (ecells_one B) (by omega)
  have hso : ∀ j, j < 3 → (W1.cell? ⟨g, (A.length + B.length) * 3 + j, none⟩).isSome = true := fun j hj => by
    rcases ho1.2 with ⟨h', _⟩ | ⟨g', cap', cur, h', hb, hg, hnc, hcm, hcs, htake⟩
    · cases h'
    · cases h'
      have : (A.length + B.length) * 3 + j < cur.size := by rw [hcs]; omega
      simp [World.cell?, hg, this]
  have hcl := fun ty c => run_clear_en W1 ty g ((A.length + B.length) * 3) c hso (fun j hj => ho1.frozenAt _)
  have s1 := ho1.stored ((A.length + B.length) * 3) (.int .i64 0)
  have s2 := s1.1.stored ((A.length + B.length) * 3 + 1) (.int .i64 0)
  have s3 := s2.1.stored ((A.length + B.length) * 3 + 1 + 1) (.int .i64 0)
  have lAB : (fl ecells A ++ fl ecells B).length = (A.length + B.length) * 3 := by rw [List.length_append]; omega
  refine ⟨ad, W1, _, had, hr1, hcl, ?_, ?_⟩
  · have := s3.1
    rw [List.set_eq_of_length_le (by simp [lAB] <;> omega), List.set_eq_of_length_le (by simp [lAB] <;> omega), List.set_eq_of_length_le (by simp [lAB] <;> omega)] at this
    rw [fl_append]
    exact this
  · have k1 : Keeps (fun i => i = g) w W1 := ((Keeps.refl (fun i => i = g) w).drew).grown hg1 (fun _ _ e => by cases e; rfl)
    have k2 := k1.grown s1.2 (fun _ _ e => by cases e; rfl)
    have k3 := k2.grown s2.2 (fun _ _ e => by cases e; rfl)
    exact k3.grown s3.2 (fun _ _ e => by cases e; rfl)
set_option maxHeartbeats 3200000 in
set_option maxRecDepth 1000000 in
theorem delete_any {w : World} {g cap : Nat} {A B : List En} {e : En} (h : w.ownsRow 0 141 3 (.slice (some ⟨g, 0, none⟩) (A.length + B.length + 1) cap) (A.length + B.length + 1) (fl ecells (A ++ e :: B))) :
    Calls Tryz.prog 170 #[.slice (some ⟨g, 0, none⟩) (A.length + B.length + 1) cap, .int .i64 (A.length : Int), .int .i64 ((A.length : Int) + 1)] w fun e w' => e = .returned (.slice (some ⟨g, 0, none⟩) (A.length + B.length) cap) ∧ w'.ownsRow 0 141 3 (.slice (some ⟨g, 0, none⟩) (A.length + B.length) cap) (A.length + B.length) (fl ecells (A ++ B)) ∧ Keeps (fun i => i = g) w w' := by
  obtain ⟨ad, W1, W2, had, hr1, hcl, hO, hK⟩ := delete_world h
  have hcap := owns_cap h
  have HO : Hid (W2.ownsRow 0 141 3 (.slice (some ⟨g, 0, none⟩) (A.length + B.length) cap) (A.length + B.length) (fl ecells (A ++ B))) := hO
  have HK : Hid (Keeps (fun i => i = g) w W2) := hK
  clear h hO hK
  generalize A.length = p at *
  generalize B.length = q at *
  have hc1 : p ≤ cap := by omega
  have hc2 : p + 1 ≤ cap := by omega
  have hc3 : p + q ≤ cap := by omega
  have hc4 : p + 1 ≤ p + q + 1 := by omega
  have hc5 : p + q + 1 - (p + 1) = q := by omega
  have hc6 : ¬ cap = p + q := by omega
  have hc7 : (0 : Int) ≤ (p : Int) + 1 := by omega
  have hc8 : (p : Int) ≤ (p : Int) + (q : Int) := by omega
  have hc9 : (0 : Int) ≤ (p : Int) + (q : Int) := by omega
  go_enter Tryz.func170, Tryz.ntmps170
  go_wp2_with fail
  go_region_law (refine step_append_run rfl (.tmp 22) (.tmp 25) 134 rfl (.slice (some ⟨g, 0, none⟩) p cap) (.slice (some ad) q (cap - (p + 1))) (.slice (some ⟨g, 0, none⟩) (p + q) cap) W1 (by simp [Act.eval, Act.put]) (by simp [Act.eval, Act.put]) hr1 ?_)
  go_wp2
  go_ret
  exact ⟨rfl, HO.out, HK.out⟩
end Go.Proofs.YtgjndhbfjofkeaaGreatDoor.TB

namespace Go.Proofs.YtgjndhbfjofkeaaGreatDoor.TB
open Go.RowKit
attribute [local go_sem] Oper.semAt_some
set_option maxHeartbeats 3200000 in
set_option maxRecDepth 1000000 in
theorem moveUp_any {w : World} {tb g mb cap : Nat} {A B : List En} {e : En} (h0 : w.cell? ⟨tb, 11, none⟩ = some (.slice (some ⟨g, 0, none⟩) (A.length + B.length + 1) cap)) (h1 : w.cell? ⟨tb, 12, none⟩ = some (.map (some mb))) (z0 : w.frozen? ⟨tb, 11, none⟩ = false)
    (ho : w.ownsRow 0 141 3 (.slice (some ⟨g, 0, none⟩) (A.length + B.length + 1) cap) (A.length + B.length + 1) (fl ecells (A ++ e :: B))) (hm : OM w mb (A.length + B.length + 1) (pl (A ++ e :: B)))
    (hd : Dis (A ++ e :: B)) (hd' : Dis (A ++ B)) (hi : ∀ x ∈ A ++ e :: B, I64 x.ob) (n1 : g ≠ tb) (n2 : mb ≠ tb) (n3 : mb ≠ g) (hn : A.length + B.length ≤ 4398046511200) :
    Calls Tryz.prog 155 #[.pointer (some ⟨tb, 11, none⟩), .int .i64 (A.length : Int)] w fun e w' => e = .returned (.tuple #[]) ∧ w'.cell? ⟨tb, 11, none⟩ = some (.slice (some ⟨g, 0, none⟩) (A.length + B.length) cap) ∧ w'.ownsRow 0 141 3 (.slice (some ⟨g, 0, none⟩) (A.length + B.length) cap) (A.length + B.length) (fl ecells (A ++ B)) ∧ OM w' mb (A.length + B.length) (pl (A ++ B)) ∧
      Keeps (fun i => i = tb ∨ i = g ∨ i = mb) w w' ∧ (∀ o v, o ≠ 11 → w.cell? ⟨tb, o, none⟩ = some v → w'.cell? ⟨tb, o, none⟩ = some v) ∧ (∀ o, w'.frozen? ⟨tb, o, none⟩ = w.frozen? ⟨tb, o, none⟩) := by
  have ltb := World.block_lt_of_cell? _ _ h0
  have he : (A ++ e :: B)[A.length]? = some e := by simp
  have e0 : w.cell? ⟨g, A.length * 3, none⟩ = some (.int .i64 e.ob) := (owns_en ho rfl he).r0
  have ie := hi e (by simp)
  have kd : Keeps (fun _ => False) w w.drew := (Keeps.refl _ w).drew
  have hsome : (pl (A ++ e :: B) e.ob).isSome = true := by rw [pl_of hd he]; rfl
  obtain ⟨W1, hdel, m1, k1⟩ := (hm.keep kd (fun e => e)).del ie hsome 0
  rw [Nat.add_sub_cancel, mv_start hd] at m1
  have K1 : Keeps (fun i => i = mb) w W1 := kd.trans' k1 (fun _ _ e => e.elim) (fun _ _ e => e)
  have a0 := K1.cell h0 (Ne.symm n2)
  have a1 := K1.cell h1 (Ne.symm n2)
  have a2 := K1.cell e0 (Ne.symm n3)
  have az := (K1.frozen (p := ⟨tb, 11, none⟩) ltb (Ne.symm n2)).trans z0
  have hD := delete_any (K1.owns ho (fun g' e => by cases e; exact Ne.symm n3))
  have hib : ∀ x ∈ A ++ B, I64 x.ob := fun x hx => hi x (by simp at hx ⊢; rcases hx with h | h; exact .inl h; exact .inr (.inr h))
  have HW : Hid (∀ o v, w.cell? ⟨tb, o, none⟩ = some v → W1.cell? ⟨tb, o, none⟩ = some v) := fun o v hc => K1.cell hc (Ne.symm n2)
  have HZ : Hid (∀ o, W1.frozen? ⟨tb, o, none⟩ = w.frozen? ⟨tb, o, none⟩) := fun o => K1.frozen (p := ⟨tb, o, none⟩) ltb (Ne.symm n2)
  have HM1 : Hid (OM W1 mb (A.length + B.length) (mv (A ++ B) A.length)) := m1
  have HK1 : Hid (Keeps (fun i => i = mb) w W1) := K1
  obtain ⟨obj, hob⟩ : ∃ obj, Hid (obj = e.ob) := ⟨_, rfl⟩
  rw [← hob.out] at e0 a2 hdel
  obtain ⟨p, hp⟩ : ∃ p, Hid (p = A.length) := ⟨_, rfl⟩
  obtain ⟨q, hq⟩ : ∃ q, Hid (q = A.length + B.length) := ⟨_, rfl⟩
  rw [← hq.out] at hD h0 a0 ⊢
  rw [← hp.out] at a2 e0 hD ⊢
  have hpq : p ≤ q := by rw [hp.out, hq.out]; omega
  have hpqI : (p : Int) < (q : Int) + 1 := by omega
  have hp0 : (0 : Int) ≤ (p : Int) := by omega
  have hq9 : q ≤ 4398046511200 := by rw [hq.out]; exact hn
  have hpw : (p : Int) + 1 ≤ 9223372036854775807 := by omega
  clear hm ho hi hd m1 k1 K1 ie hsome he kd hn
  go_enter Tryz.func155, Tryz.ntmps155
  go_wp2_with fail
  go_region_held3 (fun w' => w'.cell? ⟨tb, 11, none⟩ = some (.slice (some ⟨g, 0, none⟩) (q + 1) cap) ∧ w'.cell? ⟨tb, 12, none⟩ = some (.map (some mb)) ∧ w'.cell? ⟨g, p * 3, none⟩ = some (.int .i64 obj)) (go_keep) (fail)
  rename_i hHeld
  go_wp2_with ((go_at_call 170; refine hD.mono ?_; rintro e w2 ⟨rfl, ho2, k2⟩; clear hD; have b0 := k2.cell a0 (Ne.symm n1); have b1 := k2.cell a1 (Ne.symm n1); have bz := (k2.frozen (p := ⟨tb, 11, none⟩) (World.block_lt_of_cell? _ _ a0) (Ne.symm n1)).trans az))
  have c0 : (w2.setCell ⟨tb, 11, none⟩ (.slice (some ⟨g, 0, none⟩) q cap)).cell? ⟨tb, 11, none⟩ = some (.slice (some ⟨g, 0, none⟩) q cap) := World.cell?_setCell_same (h := b0) ..
  have c1 : (w2.setCell ⟨tb, 11, none⟩ (.slice (some ⟨g, 0, none⟩) q cap)).cell? ⟨tb, 12, none⟩ = some (.map (some mb)) := (World.cell?_setCell_other (h := by simp) ..).trans b1
  have kS := keeps_set w2 tb 11 (.slice (some ⟨g, 0, none⟩) q cap)
  have HO3 : Hid ((w2.setCell ⟨tb, 11, none⟩ (.slice (some ⟨g, 0, none⟩) q cap)).ownsRow 0 141 3 (.slice (some ⟨g, 0, none⟩) q cap) q (fl ecells (A ++ B))) := kS.owns ho2 (fun g' e => by cases e; exact n1)
  have HM3 : OM (w2.setCell ⟨tb, 11, none⟩ (.slice (some ⟨g, 0, none⟩) q cap)) mb q (mv (A ++ B) p) := by
    rw [hp.out, hq.out]
    exact (HM1.out.keep k2 n3).keep (keeps_set w2 tb 11 _) n2
  have HK3 : Hid (Keeps (fun i => i = tb ∨ i = g ∨ i = mb) w (w2.setCell ⟨tb, 11, none⟩ (.slice (some ⟨g, 0, none⟩) q cap))) := ((HK1.out.mono (fun _ _ e => .inr (.inr e))).trans (k2.mono (fun _ _ e => .inr (.inl e)))).trans (kS.mono (fun _ _ e => .inl e))
  have HC3 : Hid (∀ o v, o ≠ 11 → w.cell? ⟨tb, o, none⟩ = some v → (w2.setCell ⟨tb, 11, none⟩ (.slice (some ⟨g, 0, none⟩) q cap)).cell? ⟨tb, o, none⟩ = some v) := fun o v ho hc => (World.cell?_setCell_other (h := by simp <;> omega) ..).trans (k2.cell (HW.out o v hc) (Ne.symm n1))
  have HZ3 : Hid (∀ o, (w2.setCell ⟨tb, 11, none⟩ (.slice (some ⟨g, 0, none⟩) q cap)).frozen? ⟨tb, o, none⟩ = w.frozen? ⟨tb, o, none⟩) := fun o => by
    rw [World.frozen?_setCell]
    have lt1 : tb < W1.heap.size := World.block_lt_of_cell? _ _ a0
    exact (k2.frozen (p := ⟨tb, o, none⟩) lt1 (Ne.symm n1)).trans (HZ.out o)
  clear h0 h1 a0 a1 a2 az b0 b1 bz k2 kS ho2 HM1 HK1 HW HZ hdel e0 hob hHeld
  generalize w2.setCell ⟨tb, 11, none⟩ (.slice (some ⟨g, 0, none⟩) q cap) = W3 at *
  have hlAB : Hid ((A ++ B).length = q) := by rw [hq.out]; show _ = _; simp
  have ltb3 := World.block_lt_of_cell? _ _ c0
  go_loopw [4] (fun iv W => ∃ i : Nat, iv = .int .i64 (i : Int) ∧ i ≤ q ∧ OM W mb q (mv (A ++ B) i) ∧ Keeps (fun k => k = mb) W3 W) (fun iv _ => q - (intOf iv).toNat)
  case atStart => exact ⟨p, rfl, hpq, HM3, Keeps.refl _ _⟩
  case round =>
    obtain ⟨i, rfl, hiq, hM, hK⟩ := hrel
    have d0 := hK.cell c0 (Ne.symm n2)
    have d1 := hK.cell c1 (Ne.symm n2)
    have hi0 : (0 : Int) ≤ (i : Int) := by omega
    by_cases hlt : i < q
    · have hltI : (i : Int) < (q : Int) := by omega
      obtain ⟨x, hx⟩ : ∃ x, (A ++ B)[i]? = some x := ⟨(A ++ B)[i]'(by rw [hlAB.out]; exact hlt), by simp⟩
      have d2 : wr.cell? ⟨g, i * 3, none⟩ = some (.int .i64 x.ob) := (owns_en (hK.owns HO3.out (fun g' e => by cases e; exact Ne.symm n3)) rfl hx).r0
      obtain ⟨W4, hput, m4, k4⟩ := (hM.keep ((Keeps.refl (fun _ => False) wr).drew) (fun e => e)).put (hib x (List.mem_of_getElem? hx)) (v := i) (by omega) (by omega)
      rw [mv_has hd' hx, mv_step hd' hx] at m4
      simp only [if_true] at m4
      have HM4 : Hid (OM W4 mb q (mv (A ++ B) (i + 1))) := m4
      have K4 : Keeps (fun k => k = mb) wr W4 := ((Keeps.refl (fun k => k = mb) wr).drew).trans k4
      have HK4 : Hid (Keeps (fun k => k = mb) W3 W4) := hK.trans K4
      have f0 := K4.cell d0 (Ne.symm n2)
      have f1 := K4.cell d1 (Ne.symm n2)
      have f2 := K4.cell d2 (Ne.symm n3)
      obtain ⟨xo, hxo⟩ : ∃ xo, Hid (xo = x.ob) := ⟨_, rfl⟩
      rw [← hxo.out] at d2 f2 hput
      clear hM hK m4 k4 K4 hx hxo HM3
      go_wp2_with fail
      go_region_held3 (fun w' => w'.cell? ⟨tb, 11, none⟩ = some (.slice (some ⟨g, 0, none⟩) q cap) ∧ w'.cell? ⟨tb, 12, none⟩ = some (.map (some mb)) ∧ w'.cell? ⟨g, i * 3, none⟩ = some (.int .i64 xo)) (go_keep) (fail)
      go_wp2_with fail
      go_roundw
      case rel => exact ⟨i + 1, by go_num, by omega, HM4.out, HK4.out⟩
      case measure => simp [intOf]; omega
    · obtain rfl : i = q := by omega
      have HMe : Hid (OM wr mb i (pl (A ++ B))) := by
        have := hM
        rw [show i = (A ++ B).length from hlAB.out.symm, mv_end] at this
        rw [← hlAB.out]
        exact this
      have HKe : Hid (Keeps (fun k => k = mb) W3 wr) := hK
      clear hM hK hlt HM3
      go_wp2
      go_end0
      refine ⟨rfl, d0, HKe.out.owns HO3.out (fun g' e => by cases e; exact Ne.symm n3), HMe.out, HK3.out.trans (HKe.out.mono (fun _ _ e => .inr (.inr e))), fun o v ho hc => HKe.out.cell (HC3.out o v ho hc) (Ne.symm n2), fun o => (HKe.out.frozen (p := ⟨tb, o, none⟩) ltb3 (Ne.symm n2)).trans (HZ3.out o)⟩
end Go.Proofs.YtgjndhbfjofkeaaGreatDoor.TB

