import Derived.Test.YthchbcfecconbaaGreatDoorG05
import Derived.Test.YthchbcfecconbaaGreatDoorG07
import Derived.Deep.RegionLaw
namespace Go.Proofs.YthchbcfecconbaaGreatDoor
open Go.RowKit
theorem owns_down {w : World} {base base' : Nat} {e : TypeId} {size : Nat} {v : Value} {n : Nat} {xs : List Value} (h : w.ownsRow base e size v n xs) (hb : base' ≤ base) : w.ownsRow base' e size v n xs := by
  refine ⟨h.1, ?_⟩
  rcases h.2 with h0 | ⟨g, cap, cur, rfl, h1, rest⟩
  · exact .inl h0
  · exact .inr ⟨g, cap, cur, rfl, Nat.le_trans hb h1, rest⟩
def DKs (B : Nat) (vo vh : Value) (k : Nat) : Prop := k = B ∨ vo.ownBlock = some k ∨ vh.ownBlock = some k
section
variable {w w' : World} {B : Nat} {d : Ds} {vo vh : Value}
theorem DM.dk (h : DM w B d vo vh) {b : Nat} (hb : b < B) : ¬ DKs B vo vh b := by
  rintro (e | e | e)
  · omega
  · have := owns_baseD h.oo b e; omega
  · have := owns_baseD h.hh b e; omega
theorem DM.dn (h : DM w B d vo vh) {b : Nat} (hb : w.heap.size ≤ b) : ¬ DKs B vo vh b := by
  rintro (e | e | e)
  · have := h.lt; omega
  · have := owns_lt' h.oo b e; omega
  · have := owns_lt' h.hh b e; omega
theorem DM.putH (h : DM w B d vo vh) {v' : Value} {l : List Pr} (k : Keeps (fun i => vh.ownBlock = some i) w w') (ho : w'.ownsRow (B + 1) 108 2 v' l.length (pclD l)) (hnb : ∀ g, vo.ownBlock = some g → v'.ownBlock ≠ some g) : DM (w'.setCell ⟨B, 17, none⟩ v') B { d with held := l } vo v' := by
  have nB : ¬ vh.ownBlock = some B := fun e => h.bh e rfl
  have ke : Keeps (fun k => k = B) w' (w'.setCell ⟨B, 17, none⟩ v') := (Keeps.refl (fun k => k = B) w').setCell (p := ⟨B, 17, none⟩) (fun _ => rfl) v'
  have g : ∀ j u, j ≠ 17 → w.cell? ⟨B, j, none⟩ = some u → (w'.setCell ⟨B, 17, none⟩ v').cell? ⟨B, j, none⟩ = some u := fun j u hj e => by
    rw [World.cell?_setCell_other _ _ _ _ (by intro e2; injection e2 with _ e3; omega)]
    exact k.cell e nB
  refine ⟨fun i hi => g i _ (by omega) (h.r i hi), g 16 _ (by omega) h.o, World.cell?_setCell_same _ _ _ (k.cell h.h nB), g 18 _ (by omega) h.q, g 19 _ (by omega) h.p, g 20 _ (by omega) h.k, g 21 _ (by omega) h.c, g 22 _ (by omega) h.u, fun j hj => by simp only [World.frozen?_setCell]; exact (k.frozen (p := ⟨B, j, none⟩) h.lt nB).trans (h.z j hj), ?_, ?_, hnb⟩
  · exact ke.owns (k.owns h.oo (fun g e => h.nb g e)) (fun g e => h.bo e)
  · exact ke.owns ho (fun g e => by have := owns_baseD ho g e; omega)
theorem DM.putO (h : DM w B d vo vh) {v' : Value} {l : List Pr} (k : Keeps (fun i => vo.ownBlock = some i) w w') (ho : w'.ownsRow (B + 1) 108 2 v' l.length (pclD l)) (hnb : ∀ g, v'.ownBlock = some g → vh.ownBlock ≠ some g) : DM (w'.setCell ⟨B, 16, none⟩ v') B { d with own := l } v' vh := by
  have nB : ¬ vo.ownBlock = some B := fun e => h.bo e rfl
  have ke : Keeps (fun k => k = B) w' (w'.setCell ⟨B, 16, none⟩ v') := (Keeps.refl (fun k => k = B) w').setCell (p := ⟨B, 16, none⟩) (fun _ => rfl) v'
  have g : ∀ j u, j ≠ 16 → w.cell? ⟨B, j, none⟩ = some u → (w'.setCell ⟨B, 16, none⟩ v').cell? ⟨B, j, none⟩ = some u := fun j u hj e => by
    rw [World.cell?_setCell_other _ _ _ _ (by intro e2; injection e2 with _ e3; omega)]
    exact k.cell e nB
  refine ⟨fun i hi => g i _ (by omega) (h.r i hi), World.cell?_setCell_same _ _ _ (k.cell h.o nB), g 17 _ (by omega) h.h, g 18 _ (by omega) h.q, g 19 _ (by omega) h.p, g 20 _ (by omega) h.k, g 21 _ (by omega) h.c, g 22 _ (by omega) h.u, fun j hj => by simp only [World.frozen?_setCell]; exact (k.frozen (p := ⟨B, j, none⟩) h.lt nB).trans (h.z j hj), ?_, ?_, hnb⟩
  · exact ke.owns ho (fun g e => by have := owns_baseD ho g e; omega)
  · exact ke.owns (k.owns h.hh (fun g e e2 => h.nb g e2 e)) (fun g e => h.bh e)
theorem DM.tk (h : DM w B d vo vh) {o : Nat} (ho : o < 23) : (w.cell? ⟨B, o, none⟩).isSome = true ∧ w.frozen? ⟨B, o, none⟩ = false := by
  refine ⟨?_, h.z o ho⟩
  by_cases h1 : o < 16
  · rw [h.r o h1]; rfl
  rcases (by omega : o = 16 ∨ o = 17 ∨ o = 18 ∨ o = 19 ∨ o = 20 ∨ o = 21 ∨ o = 22) with rfl | rfl | rfl | rfl | rfl | rfl | rfl
  · rw [h.o]; rfl
  · rw [h.h]; rfl
  · rw [h.q]; rfl
  · rw [h.p]; rfl
  · rw [h.k]; rfl
  · rw [h.c]; rfl
  · rw [h.u]; rfl
end
theorem run_st_int {w : World} {b o : Nat} (t : TypeId) (ht : t = 3 ∨ t = 2) (hc : (w.cell? ⟨b, o, none⟩).isSome = true) (hz : w.frozen? ⟨b, o, none⟩ = false) (v : Int) : (storeVar t ⟨b, o, none⟩ (.int .i64 v)).run Tryz.prog w = .ok () (w.setCell ⟨b, o, none⟩ (.int .i64 v)) := by
  obtain ⟨u, hu⟩ := Option.isSome_iff_exists.1 hc
  rcases ht with rfl | rfl <;> go_simp
theorem run_st_sl {w : World} {b o : Nat} (hc : (w.cell? ⟨b, o, none⟩).isSome = true) (hz : w.frozen? ⟨b, o, none⟩ = false) (a : Option Addr) (n c : Nat) : (storeVar 76 ⟨b, o, none⟩ (.slice a n c)).run Tryz.prog w = .ok () (w.setCell ⟨b, o, none⟩ (.slice a n c)) := by
  obtain ⟨u, hu⟩ := Option.isSome_iff_exists.1 hc
  go_simp
theorem wpList_st_int {w : World} {ops : Array Oper} {rest : List Oper} {o : Oper} {a : Act} {Q : Exit → Act → World → Prop} (hgd : o.guard = none) (hd : o.dst = none) (t : TypeId) (x y : Operand) (ho : o.op = .store t x y) (ht : t = 3 ∨ t = 2) (b off : Nat) (hx : a.eval x = .pointer (some ⟨b, off, none⟩)) (v : Int) (hy : a.eval y = .int .i64 v)
    (hc : (w.cell? ⟨b, off, none⟩).isSome = true ∧ w.frozen? ⟨b, off, none⟩ = false) (h : ∀ w1, w1 = w.setCell ⟨b, off, none⟩ (.int .i64 v) → wpList Tryz.prog ops Q rest a w1) : wpList Tryz.prog ops Q (o :: rest) a w :=
  wpList_plain hgd fun _ hK => by
    unfold Oper.wp execOp
    simp only [ho, hx, hy, Instr.storeAt, Instr.sureAddr, Sem.run_bind, Sem.run_pure, Result.andThen_ok, run_st_int t ht hc.1 hc.2 v]
    refine hK _ _ ?_
    rw [hd]
    exact h _ rfl
theorem wpList_st_sl {w : World} {ops : Array Oper} {rest : List Oper} {o : Oper} {a : Act} {Q : Exit → Act → World → Prop} (hgd : o.guard = none) (hd : o.dst = none) (x y : Operand) (ho : o.op = .store 76 x y) (b off : Nat) (hx : a.eval x = .pointer (some ⟨b, off, none⟩)) (ad : Option Addr) (n c : Nat) (hy : a.eval y = .slice ad n c)
    (hc : (w.cell? ⟨b, off, none⟩).isSome = true ∧ w.frozen? ⟨b, off, none⟩ = false) (h : ∀ w1, w1 = w.setCell ⟨b, off, none⟩ (.slice ad n c) → wpList Tryz.prog ops Q rest a w1) : wpList Tryz.prog ops Q (o :: rest) a w :=
  wpList_plain hgd fun _ hK => by
    unfold Oper.wp execOp
    simp only [ho, hx, hy, Instr.storeAt, Instr.sureAddr, Sem.run_bind, Sem.run_pure, Result.andThen_ok, run_st_sl hc.1 hc.2]
    refine hK _ _ ?_
    rw [hd]
    exact h _ rfl
def Ds.rdv (d : Ds) (os : List Int) (gs : List (Bool × Int)) (x : Nat) : Int := match fix d.own x with | some i => (d.own.getD i (0, 0)).2 | none => match fix d.held x with | some i => (d.held.getD i (0, 0)).2 | none => seenV os gs d.rd x
def Ds.wrv (d : Ds) (os : List Int) (x : Nat) : Int := match fix d.own x with | some i => (d.own.getD i (0, 0)).2 | none => os.getD x 0
theorem DR.rdv {s : Rs} {d : Ds} (h : DR s d) (os : List Int) (gs : List (Bool × Int)) {x : Nat} (hx : x < 16) : d.rdv os gs x = (s.rdo os gs x).nm x := by
  unfold Ds.rdv Rs.rdo
  cases ho : fix d.own x with
  | some i =>
    obtain ⟨h1, h2⟩ := h.ow.has hx ho
    simp only
    rw [if_neg (by omega), List.getD_eq_getElem?_getD, h2]; rfl
  | none =>
    have n2 := h.ow.not hx ho
    cases hh : fix d.held x with
    | some i =>
      obtain ⟨h1, h2⟩ := h.hd.has hx hh
      simp only
      rw [if_neg (by omega), List.getD_eq_getElem?_getD, h2]; rfl
    | none =>
      have n1 := h.hd.not hx hh
      have n0 : s.st x = 0 := by have := h.st x hx; omega
      simp only
      rw [if_pos n0, h.rd]
      simp
theorem DR.wrv {s : Rs} {d : Ds} (h : DR s d) (os : List Int) {x : Nat} (hx : x < 16) : d.wrv os x = (s.wro os x).nm x := by
  unfold Ds.wrv Rs.wro
  cases ho : fix d.own x with
  | some i =>
    obtain ⟨h1, h2⟩ := h.ow.has hx ho
    simp only
    rw [if_pos h1, List.getD_eq_getElem?_getD, h2]; rfl
  | none =>
    have n2 := h.ow.not hx ho
    simp only
    rw [if_neg n2]
    simp
end Go.Proofs.YthchbcfecconbaaGreatDoor

namespace Go.Proofs.YthchbcfecconbaaGreatDoor
open Go.RowKit
theorem fixV_some {l : List Pr} {x : Int} {i : Nat} (h : fix l x = some i) : fixV l x = (i : Int) := by unfold fixV; rw [h]
theorem fixV_none {l : List Pr} {x : Int} (h : fix l x = none) : fixV l x = -1 := by unfold fixV; rw [h]
theorem get_num {w : World} {a : Option Addr} {os : List Int} (hO : NUM w a os) {x : Nat} (hx : x < os.length) : ∃ b off, a = some ⟨b, off, none⟩ ∧ w.cell? ⟨b, off + x, none⟩ = some (.int .i64 (os.getD x 0)) := hO x _ (by rw [List.getD_eq_getElem?_getD, List.getElem?_eq_getElem hx]; rfl)
theorem get_pair {w : World} {a : Option Addr} {l : List Pr} (h : PRL w a l) {i : Nat} (hi : i < l.length) : ∃ b off, a = some ⟨b, off, none⟩ ∧ w.cell? ⟨b, off + i * 2 + 1, none⟩ = some (.int .i64 (l.getD i (0, 0)).2) := by
  obtain ⟨b, off, e, _, h2⟩ := h i (l.getD i (0, 0)) (by rw [List.getD_eq_getElem?_getD, List.getElem?_eq_getElem hi]; rfl)
  exact ⟨b, off, e, h2⟩
theorem fix_lt {l : List Pr} {x : Int} {i : Nat} (h : fix l x = some i) : i < l.length := by
  obtain ⟨n, hn⟩ := fix_some h
  exact (List.getElem?_eq_some_iff.1 hn).1
set_option maxHeartbeats 1000000 in
set_option maxRecDepth 100000 in
theorem reads_own {w : World} {B : Nat} {d : Ds} {vo vh : Value} (h : DM w B d vo vh) {a ag : Option Addr} {cap cg : Nat} {os : List Int} {gs : List (Bool × Int)} (hO : NUM w a os) (hG : GVN w ag gs) {x : Nat} (hx : x < os.length) (hn : os.length ≤ 16 ∧ gs.length ≤ 4096 ∧ d.own.length ≤ 100000 ∧ d.held.length ≤ 100000 ∧ d.rd ≤ 100000) {i : Nat} (hf : fix d.own x = some i) : Calls Tryz.prog 61 #[.pointer (some ⟨B, 0, none⟩), .int .i64 (x : Int), .slice a os.length cap, .slice ag gs.length cg] w fun e w' => ∃ vh', e = .returned (.int .i64 (d.rdv os gs x)) ∧ DM w' B (d.rdo os gs x) vo vh' ∧ Keeps (DKs B vo vh) w w' := by
  have e1 : d.rdv os gs x = (d.own.getD i (0, 0)).2 := by unfold Ds.rdv; rw [hf]
  have e2 : d.rdo os gs x = d := by unfold Ds.rdo; rw [hf]; rfl
  rw [e1, e2]
  have hil := fix_lt hf
  have _u := And.intro hO (And.intro hG hx)
  obtain ⟨ao, co, rfl, hpo, hbo⟩ := prl_of_owns h.oo
  obtain ⟨ah, ch, rfl, hph, hbh⟩ := prl_of_owns h.hh
  have hfo := find_any (cap := co) hpo (by omega) (x : Int)
  have co16 := h.o
  rw [fixV_some hf] at hfo
  obtain ⟨b, off, rfl, cp⟩ := get_pair hpo hil
  have i1 : (0 : Int) ≤ (i : Int) := by omega
  have i2 : (i : Int) < (d.own.length : Int) := by omega
  have i3 : decide ((0 : Int) ≤ (i : Int)) = true := decide_eq_true i1
  clear hpo hph hbo hbh hO hG hn hf e1 e2 hil _u
  have HH : Hid (DM w B d _ _) := h
  clear h
  generalize (d.own.getD i (0, 0)).2 = v at *
  generalize d.own.length = N1 at *
  generalize d.held.length = N2 at *
  generalize os.length = N3 at *
  generalize gs.length = N4 at *
  go_enter Tryz.func61, Tryz.ntmps61
  go_wp2_with (go_at_call 41; refine hfo.mono ?_; clear hfo; rintro e w1 ⟨rfl, ew⟩; subst w1)
  go_ret
  exact ⟨_, rfl, HH.out, Keeps.refl _ _⟩
set_option maxHeartbeats 1000000 in
set_option maxRecDepth 100000 in
theorem reads_held {w : World} {B : Nat} {d : Ds} {vo vh : Value} (h : DM w B d vo vh) {a ag : Option Addr} {cap cg : Nat} {os : List Int} {gs : List (Bool × Int)} (hO : NUM w a os) (hG : GVN w ag gs) {x : Nat} (hx : x < os.length) (hn : os.length ≤ 16 ∧ gs.length ≤ 4096 ∧ d.own.length ≤ 100000 ∧ d.held.length ≤ 100000 ∧ d.rd ≤ 100000) {i : Nat} (hf0 : fix d.own x = none) (hf : fix d.held x = some i) : Calls Tryz.prog 61 #[.pointer (some ⟨B, 0, none⟩), .int .i64 (x : Int), .slice a os.length cap, .slice ag gs.length cg] w fun e w' => ∃ vh', e = .returned (.int .i64 (d.rdv os gs x)) ∧ DM w' B (d.rdo os gs x) vo vh' ∧ Keeps (DKs B vo vh) w w' := by
  have e1 : d.rdv os gs x = (d.held.getD i (0, 0)).2 := by unfold Ds.rdv; rw [hf0, hf]
  have e2 : d.rdo os gs x = d := by unfold Ds.rdo; rw [hf0, hf]; rfl
  rw [e1, e2]
  have hil := fix_lt hf
  have _u := And.intro hO (And.intro hG hx)
  obtain ⟨ao, co, rfl, hpo, hbo⟩ := prl_of_owns h.oo
  obtain ⟨ah, ch, rfl, hph, hbh⟩ := prl_of_owns h.hh
  have hfo := find_any (cap := co) hpo (by omega) (x : Int)
  have co16 := h.o
  rw [fixV_none hf0] at hfo
  have hfh := find_any (cap := ch) hph (by omega) (x : Int)
  rw [fixV_some hf] at hfh
  have co17 := h.h
  obtain ⟨b, off, rfl, cp⟩ := get_pair hph hil
  have i1 : (0 : Int) ≤ (i : Int) := by omega
  have i2 : (i : Int) < (d.held.length : Int) := by omega
  have i3 : decide ((0 : Int) ≤ (i : Int)) = true := decide_eq_true i1
  clear hpo hph hbo hbh hO hG hn hf hf0 e1 e2 hil _u
  have HH : Hid (DM w B d _ _) := h
  clear h
  generalize (d.held.getD i (0, 0)).2 = v at *
  generalize d.own.length = N1 at *
  generalize d.held.length = N2 at *
  generalize os.length = N3 at *
  generalize gs.length = N4 at *
  go_enter Tryz.func61, Tryz.ntmps61
  go_wp2_with (first | (go_at_call 41; (with_reducible refine hfo.mono ?_); clear hfo; rintro e w1 ⟨rfl, ew⟩; subst w1) | (go_at_call 41; (with_reducible refine hfh.mono ?_); clear hfh; rintro e w1 ⟨rfl, ew⟩; subst w1))
  go_ret
  exact ⟨_, rfl, HH.out, Keeps.refl _ _⟩
set_option maxHeartbeats 1000000 in
set_option maxRecDepth 100000 in
theorem reads_no {w : World} {B : Nat} {d : Ds} {vo vh : Value} (h : DM w B d vo vh) {a ag : Option Addr} {cap cg : Nat} {os : List Int} {gs : List (Bool × Int)} (hO : NUM w a os) (hG : GVN w ag gs) {x : Nat} (hx : x < os.length) (hn : os.length ≤ 16 ∧ gs.length ≤ 4096 ∧ d.own.length ≤ 100000 ∧ d.held.length ≤ 100000 ∧ d.rd ≤ 100000) (hf0 : fix d.own x = none) (hf : fix d.held x = none) (hr : gs.length ≤ d.rd) : Calls Tryz.prog 61 #[.pointer (some ⟨B, 0, none⟩), .int .i64 (x : Int), .slice a os.length cap, .slice ag gs.length cg] w fun e w' => ∃ vh', e = .returned (.int .i64 (d.rdv os gs x)) ∧ DM w' B (d.rdo os gs x) vo vh' ∧ Keeps (DKs B vo vh) w w' := by
  have _u := hG
  clear _u
  have e1 : d.rdv os gs x = seenV os gs d.rd x := by unfold Ds.rdv; rw [hf0, hf]
  have e2 : d.rdo os gs x = { d with held := d.held ++ [((x : Int), seenV os gs d.rd x)], rd := d.rd + 1 } := by unfold Ds.rdo; rw [hf0, hf]; rfl
  rw [e1, e2]
  obtain ⟨ao, co, rfl, hpo, hbo⟩ := prl_of_owns h.oo
  obtain ⟨ah, ch, rfl, hph, hbh⟩ := prl_of_owns h.hh
  have hfo := find_any (cap := co) hpo (by omega) (x : Int)
  have co16 := h.o
  rw [fixV_none hf0] at hfo
  have hfh := find_any (cap := ch) hph (by omega) (x : Int)
  rw [fixV_none hf] at hfh
  have co17 := h.h
  have co18 := h.q
  obtain ⟨b, off, rfl, cx⟩ := get_num hO hx
  have ix1 : (0 : Int) ≤ (x : Int) := by omega
  have ix2 : (x : Int) < (os.length : Int) := by omega
  obtain ⟨m1, hm1⟩ : ∃ m1 : Nat, d.rd + 1 = m1 := ⟨_, rfl⟩
  rw [hm1]
  have hD : DM (w.setCell ⟨B, 18, none⟩ (.int .i64 (m1 : Int))) B { d with rd := m1 } _ _ := h.setD m1
  have k3 : Keeps (DKs B (.slice ao d.own.length co) (.slice ah d.held.length ch)) w (w.setCell ⟨B, 18, none⟩ (.int .i64 (m1 : Int))) := (Keeps.refl (DKs B _ _) w).setCell (p := ⟨B, 18, none⟩) (fun _ => .inl rfl) _
  have htk := h.tk (o := 18) (by omega)
  have v18 : IntKind.i64.wrap ((d.rd : Int) + 1) = (m1 : Int) := by rw [IntKind.wrap_i64]; omega
  clear hm1
  have esv : os.getD x 0 = seenV os gs d.rd x := by
    unfold seenV
    rw [List.getD_eq_getElem?_getD (l := gs), List.getElem?_eq_none hr]; rfl
  rw [esv] at cx
  have j1 : decide ((d.rd : Int) < (gs.length : Int)) = false := decide_eq_false (by omega)
  have j2 : decide (d.rd < gs.length) = false := decide_eq_false (by omega)
  clear esv hr
  clear hpo hph hbo hbh hO hG hf hf0 e1 e2
  have HL1 : Hid (d.held.length ≤ 100000) := hn.2.2.2.1
  have HTK : Hid _ := htk
  clear hn htk
  generalize hsv : seenV os gs d.rd x = sv at *
  obtain ⟨W3, hW3⟩ : ∃ W3, W3 = w.setCell ⟨B, 18, none⟩ (.int .i64 (m1 : Int)) := ⟨_, rfl⟩
  rw [← hW3] at hD k3
  obtain ⟨a', c', W', hr', ho', kq, hbl⟩ := append_pD hD.hh hD.lt (by have := HL1.out; show (d.held.length + 1) * 16 ≤ _; omega) ((x : Int), sv)
  have hnb : ∀ g, (Value.slice ao d.own.length co).ownBlock = some g → (Value.slice a' (d.held.length + 1) c').ownBlock ≠ some g := fun g e e2 => by
    rcases hbl g e2 with h1 | h1
    · exact hD.nb g e h1
    · have := owns_lt' hD.oo g e
      omega
  have hlen9 : (d.held ++ [((x : Int), sv)]).length = d.held.length + 1 := by simp
  have hF := hD.putH (l := d.held ++ [((x : Int), sv)]) kq (by rw [hlen9]; exact ho') hnb
  have htk2 : (W'.cell? ⟨B, 17, none⟩).isSome = true ∧ W'.frozen? ⟨B, 17, none⟩ = false := by
    have nB : ¬ (Value.slice ah d.held.length ch).ownBlock = some B := fun e => hD.bh e rfl
    exact ⟨by rw [kq.cell hD.h nB]; rfl, (kq.frozen (p := ⟨B, 17, none⟩) hD.lt nB).trans (hD.z 17 (by omega))⟩
  have K9 : Keeps (DKs B (.slice ao d.own.length co) (.slice ah d.held.length ch)) w (W'.setCell ⟨B, 17, none⟩ (.slice a' (d.held.length + 1) c')) := (k3.trans (kq.mono (fun i _ e => .inr (.inr e)))).setCell (p := ⟨B, 17, none⟩) (fun _ => .inl rfl) _
  have co17' := hD.h
  have HR : Hid (_ = _) := hr'
  have HF : Hid _ := hF
  have HK : Hid _ := K9
  have HT2 : Hid _ := htk2
  have HW : Hid (W3 = _) := hW3
  clear hr' hF K9 htk2 hW3 hbl hnb ho' kq hD k3 HL1 hlen9 h
  generalize d.own.length = N1 at *
  generalize d.held.length = N2 at *
  generalize os.length = N3 at *
  generalize gs.length = N4 at *
  go_enter Tryz.func61, Tryz.ntmps61
  go_wp2_with (first | (go_at_call 41; (with_reducible refine hfo.mono ?_); clear hfo; rintro e w1 ⟨rfl, ew⟩; subst w1) | (go_at_call 41; (with_reducible refine hfh.mono ?_); clear hfh; rintro e w1 ⟨rfl, ew⟩; subst w1) | (refine wpList_st_int rfl rfl _ _ _ rfl (by decide) B 18 rfl _ rfl HTK.out ?_; intro w3 e3; rw [← HW.out] at e3; subst w3) | (at_builtin; refine wpList_append_q rfl _ _ _ rfl _ _ _ W' rfl rfl HR.out ?_; clear HR) | (refine wpList_st_sl rfl rfl _ _ rfl B 17 rfl _ _ _ rfl HT2.out ?_; intro w4 e4; subst w4))
  go_ret
  exact ⟨_, rfl, HF.out, HK.out⟩
set_option maxHeartbeats 1000000 in
set_option maxRecDepth 100000 in
theorem reads_yes {w : World} {B : Nat} {d : Ds} {vo vh : Value} (h : DM w B d vo vh) {a ag : Option Addr} {cap cg : Nat} {os : List Int} {gs : List (Bool × Int)} (hO : NUM w a os) (hG : GVN w ag gs) {x : Nat} (hx : x < os.length) (hn : os.length ≤ 16 ∧ gs.length ≤ 4096 ∧ d.own.length ≤ 100000 ∧ d.held.length ≤ 100000 ∧ d.rd ≤ 100000) (hf0 : fix d.own x = none) (hf : fix d.held x = none) (hr : d.rd < gs.length) : Calls Tryz.prog 61 #[.pointer (some ⟨B, 0, none⟩), .int .i64 (x : Int), .slice a os.length cap, .slice ag gs.length cg] w fun e w' => ∃ vh', e = .returned (.int .i64 (d.rdv os gs x)) ∧ DM w' B (d.rdo os gs x) vo vh' ∧ Keeps (DKs B vo vh) w w' := by
  have e1 : d.rdv os gs x = seenV os gs d.rd x := by unfold Ds.rdv; rw [hf0, hf]
  have e2 : d.rdo os gs x = { d with held := d.held ++ [((x : Int), seenV os gs d.rd x)], rd := d.rd + 1 } := by unfold Ds.rdo; rw [hf0, hf]; rfl
  rw [e1, e2]
  obtain ⟨ao, co, rfl, hpo, hbo⟩ := prl_of_owns h.oo
  obtain ⟨ah, ch, rfl, hph, hbh⟩ := prl_of_owns h.hh
  have hfo := find_any (cap := co) hpo (by omega) (x : Int)
  have co16 := h.o
  rw [fixV_none hf0] at hfo
  have hfh := find_any (cap := ch) hph (by omega) (x : Int)
  rw [fixV_none hf] at hfh
  have co17 := h.h
  have co18 := h.q
  obtain ⟨b, off, rfl, cx⟩ := get_num hO hx
  have ix1 : (0 : Int) ≤ (x : Int) := by omega
  have ix2 : (x : Int) < (os.length : Int) := by omega
  obtain ⟨m1, hm1⟩ : ∃ m1 : Nat, d.rd + 1 = m1 := ⟨_, rfl⟩
  rw [hm1]
  have hD : DM (w.setCell ⟨B, 18, none⟩ (.int .i64 (m1 : Int))) B { d with rd := m1 } _ _ := h.setD m1
  have k3 : Keeps (DKs B (.slice ao d.own.length co) (.slice ah d.held.length ch)) w (w.setCell ⟨B, 18, none⟩ (.int .i64 (m1 : Int))) := (Keeps.refl (DKs B _ _) w).setCell (p := ⟨B, 18, none⟩) (fun _ => .inl rfl) _
  have htk := h.tk (o := 18) (by omega)
  have v18 : IntKind.i64.wrap ((d.rd : Int) + 1) = (m1 : Int) := by rw [IntKind.wrap_i64]; omega
  clear hm1
  obtain ⟨b2, off2, rfl, cg0, cg1⟩ := hG d.rd (gs.getD d.rd (false, 0)) (by rw [List.getD_eq_getElem?_getD, List.getElem?_eq_getElem hr]; rfl)
  have j1 : decide ((d.rd : Int) < (gs.length : Int)) = true := decide_eq_true (by omega)
  have j2 : decide (d.rd < gs.length) = true := decide_eq_true (by omega)
  have j3 : (0 : Int) ≤ (d.rd : Int) := by omega
  have j4 : (d.rd : Int) < (gs.length : Int) := by omega
  have esv : seenV os gs d.rd x = if (gs.getD d.rd (false, 0)).1 = true then (gs.getD d.rd (false, 0)).2 else os.getD x 0 := rfl
  generalize gs.getD d.rd (false, 0) = gg at *
  obtain ⟨g1, g2⟩ := gg
  simp only at cg0 cg1 esv
  cases g1
  · rw [if_neg (by decide)] at esv
    rw [← esv] at cx
    clear esv hr
    clear hpo hph hbo hbh hO hG hf hf0 e1 e2
    have HL1 : Hid (d.held.length ≤ 100000) := hn.2.2.2.1
    have HTK : Hid _ := htk
    clear hn htk
    generalize hsv : seenV os gs d.rd x = sv at *
    obtain ⟨W3, hW3⟩ : ∃ W3, W3 = w.setCell ⟨B, 18, none⟩ (.int .i64 (m1 : Int)) := ⟨_, rfl⟩
    rw [← hW3] at hD k3
    obtain ⟨a', c', W', hr', ho', kq, hbl⟩ := append_pD hD.hh hD.lt (by have := HL1.out; show (d.held.length + 1) * 16 ≤ _; omega) ((x : Int), sv)
    have hnb : ∀ g, (Value.slice ao d.own.length co).ownBlock = some g → (Value.slice a' (d.held.length + 1) c').ownBlock ≠ some g := fun g e e2 => by
      rcases hbl g e2 with h1 | h1
      · exact hD.nb g e h1
      · have := owns_lt' hD.oo g e
        omega
    have hlen9 : (d.held ++ [((x : Int), sv)]).length = d.held.length + 1 := by simp
    have hF := hD.putH (l := d.held ++ [((x : Int), sv)]) kq (by rw [hlen9]; exact ho') hnb
    have htk2 : (W'.cell? ⟨B, 17, none⟩).isSome = true ∧ W'.frozen? ⟨B, 17, none⟩ = false := by
      have nB : ¬ (Value.slice ah d.held.length ch).ownBlock = some B := fun e => hD.bh e rfl
      exact ⟨by rw [kq.cell hD.h nB]; rfl, (kq.frozen (p := ⟨B, 17, none⟩) hD.lt nB).trans (hD.z 17 (by omega))⟩
    have K9 : Keeps (DKs B (.slice ao d.own.length co) (.slice ah d.held.length ch)) w (W'.setCell ⟨B, 17, none⟩ (.slice a' (d.held.length + 1) c')) := (k3.trans (kq.mono (fun i _ e => .inr (.inr e)))).setCell (p := ⟨B, 17, none⟩) (fun _ => .inl rfl) _
    have co17' := hD.h
    have HR : Hid (_ = _) := hr'
    have HF : Hid _ := hF
    have HK : Hid _ := K9
    have HT2 : Hid _ := htk2
    have HW : Hid (W3 = _) := hW3
    clear hr' hF K9 htk2 hW3 hbl hnb ho' kq hD k3 HL1 hlen9 h
    generalize d.own.length = N1 at *
    generalize d.held.length = N2 at *
    generalize os.length = N3 at *
    generalize gs.length = N4 at *
    go_enter Tryz.func61, Tryz.ntmps61
    go_wp2_with (first | (go_at_call 41; (with_reducible refine hfo.mono ?_); clear hfo; rintro e w1 ⟨rfl, ew⟩; subst w1) | (go_at_call 41; (with_reducible refine hfh.mono ?_); clear hfh; rintro e w1 ⟨rfl, ew⟩; subst w1) | (refine wpList_st_int rfl rfl _ _ _ rfl (by decide) B 18 rfl _ rfl HTK.out ?_; intro w3 e3; rw [← HW.out] at e3; subst w3) | (at_builtin; refine wpList_append_q rfl _ _ _ rfl _ _ _ W' rfl rfl HR.out ?_; clear HR) | (refine wpList_st_sl rfl rfl _ _ rfl B 17 rfl _ _ _ rfl HT2.out ?_; intro w4 e4; subst w4))
    go_ret
    exact ⟨_, rfl, HF.out, HK.out⟩
  · rw [if_pos rfl] at esv
    rw [← esv] at cg1
    clear esv hr
    clear hpo hph hbo hbh hO hG hf hf0 e1 e2
    have HL1 : Hid (d.held.length ≤ 100000) := hn.2.2.2.1
    have HTK : Hid _ := htk
    clear hn htk
    generalize hsv : seenV os gs d.rd x = sv at *
    obtain ⟨W3, hW3⟩ : ∃ W3, W3 = w.setCell ⟨B, 18, none⟩ (.int .i64 (m1 : Int)) := ⟨_, rfl⟩
    rw [← hW3] at hD k3
    obtain ⟨a', c', W', hr', ho', kq, hbl⟩ := append_pD hD.hh hD.lt (by have := HL1.out; show (d.held.length + 1) * 16 ≤ _; omega) ((x : Int), sv)
    have hnb : ∀ g, (Value.slice ao d.own.length co).ownBlock = some g → (Value.slice a' (d.held.length + 1) c').ownBlock ≠ some g := fun g e e2 => by
      rcases hbl g e2 with h1 | h1
      · exact hD.nb g e h1
      · have := owns_lt' hD.oo g e
        omega
    have hlen9 : (d.held ++ [((x : Int), sv)]).length = d.held.length + 1 := by simp
    have hF := hD.putH (l := d.held ++ [((x : Int), sv)]) kq (by rw [hlen9]; exact ho') hnb
    have htk2 : (W'.cell? ⟨B, 17, none⟩).isSome = true ∧ W'.frozen? ⟨B, 17, none⟩ = false := by
      have nB : ¬ (Value.slice ah d.held.length ch).ownBlock = some B := fun e => hD.bh e rfl
      exact ⟨by rw [kq.cell hD.h nB]; rfl, (kq.frozen (p := ⟨B, 17, none⟩) hD.lt nB).trans (hD.z 17 (by omega))⟩
    have K9 : Keeps (DKs B (.slice ao d.own.length co) (.slice ah d.held.length ch)) w (W'.setCell ⟨B, 17, none⟩ (.slice a' (d.held.length + 1) c')) := (k3.trans (kq.mono (fun i _ e => .inr (.inr e)))).setCell (p := ⟨B, 17, none⟩) (fun _ => .inl rfl) _
    have co17' := hD.h
    have HR : Hid (_ = _) := hr'
    have HF : Hid _ := hF
    have HK : Hid _ := K9
    have HT2 : Hid _ := htk2
    have HW : Hid (W3 = _) := hW3
    clear hr' hF K9 htk2 hW3 hbl hnb ho' kq hD k3 HL1 hlen9 h
    generalize d.own.length = N1 at *
    generalize d.held.length = N2 at *
    generalize os.length = N3 at *
    generalize gs.length = N4 at *
    go_enter Tryz.func61, Tryz.ntmps61
    go_wp2_with (first | (go_at_call 41; (with_reducible refine hfo.mono ?_); clear hfo; rintro e w1 ⟨rfl, ew⟩; subst w1) | (go_at_call 41; (with_reducible refine hfh.mono ?_); clear hfh; rintro e w1 ⟨rfl, ew⟩; subst w1) | (refine wpList_st_int rfl rfl _ _ _ rfl (by decide) B 18 rfl _ rfl HTK.out ?_; intro w3 e3; rw [← HW.out] at e3; subst w3) | (at_builtin; refine wpList_append_q rfl _ _ _ rfl _ _ _ W' rfl rfl HR.out ?_; clear HR) | (refine wpList_st_sl rfl rfl _ _ rfl B 17 rfl _ _ _ rfl HT2.out ?_; intro w4 e4; subst w4))
    go_ret
    exact ⟨_, rfl, HF.out, HK.out⟩
theorem reads_any {w : World} {B : Nat} {d : Ds} {vo vh : Value} (h : DM w B d vo vh) {a ag : Option Addr} {cap cg : Nat} {os : List Int} {gs : List (Bool × Int)} (hO : NUM w a os) (hG : GVN w ag gs) {x : Nat} (hx : x < os.length) (hn : os.length ≤ 16 ∧ gs.length ≤ 4096 ∧ d.own.length ≤ 100000 ∧ d.held.length ≤ 100000 ∧ d.rd ≤ 100000) : Calls Tryz.prog 61 #[.pointer (some ⟨B, 0, none⟩), .int .i64 (x : Int), .slice a os.length cap, .slice ag gs.length cg] w fun e w' => ∃ vh', e = .returned (.int .i64 (d.rdv os gs x)) ∧ DM w' B (d.rdo os gs x) vo vh' ∧ Keeps (DKs B vo vh) w w' := by
  cases hf0 : fix d.own x with
  | some i => exact reads_own h hO hG hx hn hf0
  | none =>
    cases hf : fix d.held x with
    | some i => exact reads_held h hO hG hx hn hf0 hf
    | none =>
      by_cases hr : d.rd < gs.length
      · exact reads_yes h hO hG hx hn hf0 hf hr
      · exact reads_no h hO hG hx hn hf0 hf (by omega)
end Go.Proofs.YthchbcfecconbaaGreatDoor

namespace Go.Proofs.YthchbcfecconbaaGreatDoor
open Go.RowKit
theorem step_append_run {P : Program} {ops : Array Oper} {o : Oper} {a : Act} {w : World} {K : Act → World → Prop} {Q : Exit → Act → World → Prop} {E : Prop} (hgd : o.guard = none) (s x : Operand) (t : TypeId)
    (ho : o.op = .call { callee := .builtin .append, args := #[s, x], argTypes := #[t, t] }) (v src v' : Value) (w' : World) (hs : a.eval s = v) (hx : a.eval x = src)
    (hr : (Builtin.append_ #[t, t] o.type #[v, src]).run P w = .ok v' w') (h : K (a.put o.dst v') w') : if Region.wanted o (yielded ops a.tmps) = true then Oper.wp P o a w K Q else E := by
  have hw : Region.wanted o (yielded ops a.tmps) = true := by simp [Region.wanted, hgd]
  rw [if_pos hw]
  unfold Oper.wp execOp
  simp only [ho, resolve, invoke, builtin, Sem.run_bind, Sem.run_pure, Result.andThen_ok, List.map_toArray, List.map_cons, List.map_nil, hs, hx, hr]
  exact h
set_option maxHeartbeats 1000000 in
set_option maxRecDepth 100000 in
theorem writes_own {w : World} {B : Nat} {d : Ds} {vo vh : Value} (h : DM w B d vo vh) {a : Option Addr} {cap : Nat} {os : List Int} (hO : NUM w a os) (hOB : ∀ b off, a = some ⟨b, off, none⟩ → b < B) {x : Nat} (hx : x < os.length) (hn : os.length ≤ 16 ∧ d.own.length ≤ 100000 ∧ d.held.length ≤ 100000) {i : Nat} (hf : fix d.own x = some i) : Calls Tryz.prog 62 #[.pointer (some ⟨B, 0, none⟩), .int .i64 (x : Int), .slice a os.length cap] w fun e w' => ∃ vo' vh', e = .returned (.int .i64 (d.wrv os x)) ∧ DM w' B (d.wro os x) vo' vh' ∧ Keeps (DKs B vo vh) w w' := by
  have e1 : d.wrv os x = (d.own.getD i (0, 0)).2 := by unfold Ds.wrv; rw [hf]
  have e2 : d.wro os x = d := by unfold Ds.wro; rw [hf]; rfl
  rw [e1, e2]
  have hil := fix_lt hf
  have _u := And.intro hO (And.intro hOB hx)
  obtain ⟨ao, co, rfl, hpo, hbo⟩ := prl_of_owns h.oo
  obtain ⟨ah, ch, rfl, hph, hbh⟩ := prl_of_owns h.hh
  have hfo := find_any (cap := co) hpo (by omega) (x : Int)
  have co16 := h.o
  rw [fixV_some hf] at hfo
  obtain ⟨b, off, rfl, cp⟩ := get_pair hpo hil
  have i1 : (0 : Int) ≤ (i : Int) := by omega
  have i2 : (i : Int) < (d.own.length : Int) := by omega
  have i3 : decide ((0 : Int) ≤ (i : Int)) = true := decide_eq_true i1
  clear hpo hph hbo hbh hO hOB hn hf e1 e2 hil _u
  have HH : Hid (DM w B d _ _) := h
  clear h
  generalize (d.own.getD i (0, 0)).2 = v at *
  generalize d.own.length = N1 at *
  generalize d.held.length = N2 at *
  generalize os.length = N3 at *
  go_enter Tryz.func62, Tryz.ntmps62
  go_wp2_with (go_at_call 41; refine hfo.mono ?_; clear hfo; rintro e w1 ⟨rfl, ew⟩; subst w1)
  go_ret
  exact ⟨_, _, rfl, HH.out, Keeps.refl _ _⟩
set_option maxHeartbeats 1000000 in
set_option maxRecDepth 100000 in
theorem writes_new {w : World} {B : Nat} {d : Ds} {vo vh : Value} (h : DM w B d vo vh) {a : Option Addr} {cap : Nat} {os : List Int} (hO : NUM w a os) (hOB : ∀ b off, a = some ⟨b, off, none⟩ → b < B) {x : Nat} (hx : x < os.length) (hn : os.length ≤ 16 ∧ d.own.length ≤ 100000 ∧ d.held.length ≤ 100000) (hf : fix d.own x = none) : Calls Tryz.prog 62 #[.pointer (some ⟨B, 0, none⟩), .int .i64 (x : Int), .slice a os.length cap] w fun e w' => ∃ vo' vh', e = .returned (.int .i64 (d.wrv os x)) ∧ DM w' B (d.wro os x) vo' vh' ∧ Keeps (DKs B vo vh) w w' := by
  have e1 : d.wrv os x = os.getD x 0 := by unfold Ds.wrv; rw [hf]
  have e2 : d.wro os x = { d with own := d.own ++ [((x : Int), os.getD x 0)], held := wout d.held x } := by unfold Ds.wro; rw [hf]; rfl
  rw [e1, e2]
  obtain ⟨ao, co, rfl, hpo, hbo⟩ := prl_of_owns h.oo
  obtain ⟨ah, ch, rfl, hph, hbh⟩ := prl_of_owns h.hh
  have hfo := find_any (cap := co) hpo (by omega) (x : Int)
  have co16 := h.o
  rw [fixV_none hf] at hfo
  obtain ⟨b, off, rfl, cx⟩ := get_num hO hx
  have hbB : b < B := hOB b off rfl
  have ix1 : (0 : Int) ≤ (x : Int) := by omega
  have ix2 : (x : Int) < (os.length : Int) := by omega
  obtain ⟨y, hy⟩ : ∃ y, os.getD x 0 = y := ⟨_, rfl⟩
  rw [hy] at cx
  rw [hy]
  have hdr : DM w.drew B d _ _ := h.new (Keeps.refl (fun _ => False) w).drew
  obtain ⟨a', c', W', hr', ho', kq, hbl⟩ := append_pD hdr.oo hdr.lt (by have := hn.2.1; show (d.own.length + 1) * 16 ≤ _; omega) ((x : Int), y)
  have hlen9 : (d.own ++ [((x : Int), y)]).length = d.own.length + 1 := by simp
  have hnb : ∀ g, (Value.slice a' (d.own.length + 1) c').ownBlock = some g → (Value.slice ah d.held.length ch).ownBlock ≠ some g := fun g e e2 => by
    rcases hbl g e with h1 | h1
    · exact hdr.nb g h1 e2
    · have := owns_lt' hdr.hh g e2
      omega
  have hF1 := hdr.putO (l := d.own ++ [((x : Int), y)]) kq (by rw [hlen9]; exact ho') hnb
  have htk1 : (W'.cell? ⟨B, 16, none⟩).isSome = true ∧ W'.frozen? ⟨B, 16, none⟩ = false := by
    have nB : ¬ (Value.slice ao d.own.length co).ownBlock = some B := fun e => hdr.bo e rfl
    exact ⟨by rw [kq.cell hdr.o nB]; rfl, (kq.frozen (p := ⟨B, 16, none⟩) hdr.lt nB).trans (hdr.z 16 (by omega))⟩
  have k5 : Keeps (DKs B (.slice ao d.own.length co) (.slice ah d.held.length ch)) w (W'.setCell ⟨B, 16, none⟩ (.slice a' (d.own.length + 1) c')) := (((Keeps.refl (DKs B _ _) w).drew).trans (kq.mono (fun i _ e => .inr (.inl e)))).setCell (p := ⟨B, 16, none⟩) (fun _ => .inl rfl) _
  have HND : Hid (¬ DKs B (.slice ao d.own.length co) (.slice ah d.held.length ch) b) := h.dk hbB
  have hap : (Builtin.append_ #[76, 76] 76 #[.slice ao d.own.length co, .slice (some ⟨w.heap.size, 0, none⟩) 1 1]).run Tryz.prog ((w.alloc (.cells #[.int .i64 (x : Int), .int .i64 y] 108)).drew) = .ok (.slice a' (d.own.length + 1) c') W' := hr'
  have HLh : Hid (d.held.length ≤ 100000) := hn.2.2
  have co16a := ((Keeps.refl (fun _ => False) w).alloc (.cells #[.int .i64 (x : Int), .int .i64 y] 108)).cell co16 (fun e => e)
  obtain ⟨m1, hm1⟩ : ∃ m1 : Nat, d.own.length + 1 = m1 := ⟨_, rfl⟩
  rw [hm1] at hap hF1 k5
  have H1 : Hid (DM _ _ _ _ _) := hF1
  have HK5 : Hid (Keeps _ _ _) := k5
  obtain ⟨t1, t2⟩ := htk1
  obtain ⟨tv, ht1⟩ := Option.isSome_iff_exists.1 t1
  clear t1 hF1 k5 hr' hbl hnb ho' kq hdr hpo hph hbo hbh hn hO hOB hf e1 e2 hlen9 h hm1
  have hne1 : ¬ b = B := by omega
  have hne2 : ¬ B = b := by omega
  generalize d.own.length = N1 at *
  generalize hN2 : d.held.length = N2 at *
  generalize os.length = N3 at *
  go_enter Tryz.func62, Tryz.ntmps62
  go_wp2_with (go_at_call 41; (with_reducible refine hfo.mono ?_); clear hfo; rintro e w1 ⟨rfl, ew⟩; subst w1)
  go_region_law (refine step_append_run (by rfl) _ _ _ (by rfl) (.slice ao N1 co) (.slice (some ⟨w.heap.size, 0, none⟩) 1 1) (.slice a' m1 c') W' (by rfl) (by rfl) hap ?_)
  all_goals
    rename_i K9 hK9
    generalize h9 : World.setCell _ _ _ = W5
    replace H1 : Hid (DM W5 B { d with own := d.own ++ [((x : Int), y)] } (.slice a' m1 c') (.slice ah N2 ch)) := by show DM _ _ _ _ _; rw [← h9]; exact H1.out
    replace HK5 : Hid (Keeps (DKs B (.slice ao N1 co) (.slice ah N2 ch)) w W5) := by show Keeps _ _ _; rw [← h9]; exact HK5.out
    clear h9 hap ht1 t2 co16a
    have h5 := H1.out
    obtain ⟨_, _, e9, hph, hbh⟩ := prl_of_owns h5.hh
    injection e9 with e91 e92 e93
    subst e91 e93
    have hwo := without_any (cap := ch) hph (by have := HLh.out; show d.held.length ≤ _; omega) (x : Int)
    replace hwo : Calls Tryz.prog 63 #[.slice ah N2 ch, .int .i64 (x : Int)] W5 fun e w' => ∃ a' c', e = .returned (.slice a' (wout d.held x).length c') ∧ w'.ownsRow W5.heap.size 108 2 (.slice a' (wout d.held x).length c') (wout d.held x).length (pclD (wout d.held x)) ∧ Keeps (fun _ => False) W5 w' := hN2 ▸ hwo
    have cx5 := HK5.out.cell cx HND.out
    have co17 := h5.h
    clear e92 hph hbh
    clear hN2
    have HH5 : Hid (DM W5 B { d with own := d.own ++ [((x : Int), y)] } (.slice a' m1 c') (.slice ah N2 ch)) := h5
    clear h5 H1
    go_wp2_with (first | (go_at_call 63; refine hwo.mono ?_; clear hwo; rintro e w6 ⟨a6, c6, rfl, ho6, k6⟩; have hnb6 : ∀ g, (Value.slice a' m1 c').ownBlock = some g → (Value.slice a6 (wout d.held x).length c6).ownBlock ≠ some g := (fun g e e2 => by have q1 := owns_lt' HH5.out.oo g e; have q2 := owns_baseD ho6 g e2; omega); have HF6 : Hid (DM _ _ _ _ _) := HH5.out.putH (l := wout d.held x) (k6.mono (fun _ _ e => e.elim)) (owns_down ho6 HH5.out.lt) hnb6; have ht6 := (HH5.out.new k6).tk (o := 17) (by omega); have HK6 : Hid (Keeps (DKs B (.slice ao N1 co) (.slice ah N2 ch)) w (w6.setCell ⟨B, 17, none⟩ (.slice a6 (wout d.held x).length c6))) := (HK5.out.trans (k6.mono (fun _ _ e => e.elim))).setCell (p := ⟨B, 17, none⟩) (fun _ => .inl rfl) _; have HT6 : Hid (_ ∧ _) := ht6; clear ht6 hnb6) | (refine wpList_st_sl rfl rfl _ _ rfl B 17 rfl _ _ _ rfl HT6.out ?_; intro w7 e7; have cx7 : w7.cell? ⟨b, off + x, none⟩ = some (.int .i64 y) := (by rw [e7]; exact HK6.out.cell cx HND.out); have HE7 : Hid (_ = _) := e7; clear e7))
    go_ret
    exact ⟨_, _, rfl, by rw [HE7.out]; exact HF6.out, by rw [HE7.out]; exact HK6.out⟩
theorem writes_any {w : World} {B : Nat} {d : Ds} {vo vh : Value} (h : DM w B d vo vh) {a : Option Addr} {cap : Nat} {os : List Int} (hO : NUM w a os) (hOB : ∀ b off, a = some ⟨b, off, none⟩ → b < B) {x : Nat} (hx : x < os.length) (hn : os.length ≤ 16 ∧ d.own.length ≤ 100000 ∧ d.held.length ≤ 100000) : Calls Tryz.prog 62 #[.pointer (some ⟨B, 0, none⟩), .int .i64 (x : Int), .slice a os.length cap] w fun e w' => ∃ vo' vh', e = .returned (.int .i64 (d.wrv os x)) ∧ DM w' B (d.wro os x) vo' vh' ∧ Keeps (DKs B vo vh) w w' := by
  cases hf : fix d.own x with
  | some i => exact writes_own h hO hOB hx hn hf
  | none => exact writes_new h hO hOB hx hn hf
end Go.Proofs.YthchbcfecconbaaGreatDoor

