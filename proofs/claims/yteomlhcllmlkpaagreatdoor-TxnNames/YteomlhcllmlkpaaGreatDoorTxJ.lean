import Derived.Test.YteomlhcllmlkpaaGreatDoorTxI
import Derived.Test.YteomlhcllmlkpaaGreatDoorTxCmT
namespace Go.Proofs.YteomlhcllmlkpaaGreatDoor
open Go.RowKit
attribute [local go_sem] Oper.semAt_some run_store_nf run_store_f
section
variable {w w' : World} {ρ ρ' ρ'' : Nat → Nat} {u j : Nat} {c : Sc} {ab rb n n' : Nat} {x x' : Tx} {f f' : Int → Option Nat} {s s' : Ws} {m m' : Mm} {r r' : Ro}
set_option maxHeartbeats 400000 in
set_option maxRecDepth 1000000 in
theorem live_ok (hA : AX w ρ u j c ab x n f s m) (hR : RX w ρ c ab rb r) (hf : Wf s m) (hno : x.no < s.atts.length) (hfr : m.free = true) (hlog : (m.log.length + 1) * 56 ≤ 140737488355328) (h1 : (ca m.cells (s.att x.no).status).2 = 1) :
    Calls Tryz.prog 97 #[.pointer (some ⟨ab, 0, none⟩), .pointer (some ⟨rb, 0, none⟩)] w fun e w' => e = .returned (.tuple #[]) ∧ ∃ ρ', AX w' ρ' u j c ab x n f s (m.load (s.att x.no).status) ∧ RX w' ρ' c ab rb (({ r with kind := 7 } : Ro).acc (m.load (s.att x.no).status).took) ∧ Fr (OwnR c ab rb) u j w w' ρ ρ' := by
  have hq := hR.cl
  have r5 := hq.c 5 _ rfl
  have zr5 := hq.z 5 (by show 5 < 26; decide)
  have hR1 : RX (w.setCell ⟨rb, 5, none⟩ (.int .i64 7)) ρ c ab rb { r with kind := 7 } := hR.set1 (o := 5) (by decide) _ rfl
  have hA1 := hA.setR hR 5 (.int .i64 7)
  have fr1 := (Fr.refl (OwnR c ab rb) u j w ρ).setR 5 (.int .i64 7)
  clear hq
  go_enter Tryz.func97, Tryz.ntmps97
  go_wp2_with fail
  clear r5 zr5
  generalize w.setCell ⟨rb, 5, none⟩ (.int .i64 7) = W1 at *
  replace hA1 := hA1.new (Keeps.refl _ W1).drew
  replace hR1 := hR1.new (Keeps.refl _ W1).drew
  replace fr1 := fr1.kN (Keeps.refl _ W1).drew
  have hS := Status_ok hA1.st hf hno hfr hlog
  rw [h1] at hS
  have hc := hA1.cl
  have f1 := hc.c 1 _ rfl
  have f7 := hc.c 7 _ rfl
  clear hc h1
  go_region_held3 (fun w' => w'.cell? ⟨ab, 1, none⟩ = some (.pointer (some ⟨c.wb, 0, none⟩)) ∧ w'.cell? ⟨ab, 7, none⟩ = some (.int .i64 (x.no : Int))) (go_keep) (first | (go_at_call 93; refine hS.mono ?_; clear hS; rintro e W3 ⟨rfl, ρ3, s3, x3⟩; have hA3 := hA1.run s3 x3; have hR3 := hR1.run (Sr.not0 hA1.st) x3; have fr3 := fr1.ex x3; have hc3 := hA3.cl; have g1 := hc3.c 1 _ rfl; have g7 := hc3.c 7 _ rfl) | (go_at_call 75; refine (must_int _ _).mono ?_; rintro e W4 ⟨rfl, rfl⟩))
  clear g1 g7 hc3 hA1 hR1 fr1 s3 x3 f1 f7
  have hT := atook hA3 hR3 (had_load m _) (by rw [log_load]; omega)
  go_wp2_with fail
  refine hT.mono ?_
  rintro e W8 ⟨rfl, hA8, hR8, k8⟩
  have fr8 := fr3.kR k8
  clear hT
  go_wp2_with fail
  go_end0
  exact ⟨rfl, ρ3, hA8, hR8, fr8⟩
set_option maxHeartbeats 400000 in
set_option maxRecDepth 1000000 in
theorem tell_ok (hA : AX w ρ u j c ab x n f s m) (hR : RX w ρ c ab rb r) {v : Nat} (hv : v < s.vals.length) (en : Int) :
    Calls Tryz.prog 49 #[.pointer (some ⟨ab, 0, none⟩), .pointer (some ⟨rb, 0, none⟩), .int .i64 (v : Int), .int .i64 en] w fun e w' => e = .returned (.tuple #[]) ∧ AX w' ρ u j c ab x.thru n f s m ∧ RX w' ρ c ab rb { r with entry := en, told := true, val := s.vl v } ∧ Fr (OwnR c ab rb) u j w w' ρ ρ := by
  have hq := hR.cl
  have r8 := hq.c 8 _ rfl
  have zr8 := hq.z 8 (by show 8 < 26; decide)
  have r17 := hq.c 17 _ rfl
  have zr17 := hq.z 17 (by show 17 < 26; decide)
  have hA1 := (hA.setR hR 8 (.int .i64 en)).setR (hR.set1 (r' := { r with entry := en }) (o := 8) (by decide) (.int .i64 en) rfl) 17 (.bool true)
  have hR1 : RX ((w.setCell ⟨rb, 8, none⟩ (.int .i64 en)).setCell ⟨rb, 17, none⟩ (.bool true)) ρ c ab rb { r with entry := en, told := true } := (hR.set1 (r' := { r with entry := en }) (o := 8) (by decide) _ rfl).set1 (o := 17) (by decide) _ rfl
  have fr1 := ((Fr.refl (OwnR c ab rb) u j w ρ).setR 8 (.int .i64 en)).setR 17 (.bool true)
  have hV := Version_ok hA1.st hv
  have hc := hA1.cl
  have f1 := hc.c 1 _ rfl
  have n1 := hR.n1
  have n1' := hR.n1.symm
  clear hq hc
  go_enter Tryz.func49, Tryz.ntmps49
  go_wp2_with fail
  clear r8 zr8 r17 zr17 f1
  generalize (w.setCell ⟨rb, 8, none⟩ (.int .i64 en)).setCell ⟨rb, 17, none⟩ (.bool true) = W1 at *
  refine hV.mono ?_
  rintro e W2 ⟨rfl, k2⟩
  clear hV
  go_wp2_with fail
  refine (must_val _ _).mono ?_
  rintro e W3 ⟨rfl, k3⟩
  have hA3 := hA1.new (k2.trans k3)
  have hR3 := hR1.new (k2.trans k3)
  have fr3 := fr1.kN (k2.trans k3)
  clear hA1 hR1 fr1 k2 k3
  obtain ⟨V, HV⟩ : ∃ V, Hid (s.vl v = V) := ⟨_, rfl⟩
  rw [HV.out]
  obtain ⟨va, vb, vd⟩ := V
  simp only [vv]
  have hq := hR3.cl
  have r18 := hq.c 18 _ rfl
  have zr18 := hq.z 18 (by show 18 < 26; decide)
  have r19 := hq.c 19 _ rfl
  have zr19 := hq.z 19 (by show 19 < 26; decide)
  have r20 := hq.c 20 _ rfl
  have zr20 := hq.z 20 (by show 20 < 26; decide)
  have hA4 := ((hA3.setR hR3 18 (.int .i64 va)).setR (hR3.set1 (r' := { r with entry := en, told := true, val := ⟨va, r.val.next, r.val.dead⟩ }) (o := 18) (by decide) (.int .i64 va) rfl) 19 (.int .i64 vb)).setR ((hR3.set1 (r' := { r with entry := en, told := true, val := ⟨va, r.val.next, r.val.dead⟩ }) (o := 18) (by decide) (.int .i64 va) rfl).set1 (r' := { r with entry := en, told := true, val := ⟨va, vb, r.val.dead⟩ }) (o := 19) (by decide) (.int .i64 vb) rfl) 20 (.bool vd)
  have hR4 : RX _ ρ c ab rb { r with entry := en, told := true, val := ⟨va, vb, vd⟩ } := ((hR3.set1 (r' := { r with entry := en, told := true, val := ⟨va, r.val.next, r.val.dead⟩ }) (o := 18) (by decide) (.int .i64 va) rfl).set1 (r' := { r with entry := en, told := true, val := ⟨va, vb, r.val.dead⟩ }) (o := 19) (by decide) (.int .i64 vb) rfl).set1 (o := 20) (by decide) (.bool vd) rfl
  have fr4 := ((fr3.setR 18 (.int .i64 va)).setR 19 (.int .i64 vb)).setR 20 (.bool vd)
  have hT := athrough hA4.cl
  clear hq
  go_wp2_with fail
  clear r18 zr18 r19 zr19 r20 zr20 hA3 hR3 fr3
  generalize ((W3.setCell ⟨rb, 18, none⟩ (.int .i64 va)).setCell ⟨rb, 19, none⟩ (.int .i64 vb)).setCell ⟨rb, 20, none⟩ (.bool vd) = W4 at *
  refine hT.mono ?_
  rintro e W5 ⟨rfl, hc5, k5⟩
  go_wp2_with fail
  go_end0
  refine ⟨rfl, hA4.self k5 hc5, ?_, fr4.kA k5⟩
  rw [HV.out]
  exact hR4.far k5 hR.n1.symm
set_option maxHeartbeats 400000 in
set_option maxRecDepth 1000000 in
theorem opened_w (hA : AX w ρ u j c ab x n f s m) (hR : RX w ρ c ab rb r) (hp : x.phase = 2) {v : Nat} (hbv : x.base = (v : Int)) (hv : v < s.vals.length) :
    Calls Tryz.prog 132 #[.pointer (some ⟨ab, 0, none⟩), .pointer (some ⟨rb, 0, none⟩)] w fun e w' => e = .returned (.tuple #[]) ∧ AX w' ρ u j c ab x.thru n f s m ∧ RX w' ρ c ab rb { r with entry := x.entry, told := true, val := s.vl v } ∧ Fr (OwnR c ab rb) u j w w' ρ ρ := by
  have hD := hA.new (Keeps.refl _ w).drew
  have hT := tell_ok hD (hR.new (Keeps.refl _ w).drew) hv x.entry
  rw [← hbv] at hT
  have hc := hA.cl
  have f16 := hc.c 16 _ rfl
  rw [hp] at f16
  have hc' := hD.cl
  have g18 := hc'.c 18 _ rfl
  have g20 := hc'.c 20 _ rfl
  clear hc hc' hp hbv
  go_enter Tryz.func132, Tryz.ntmps132
  go_wp2_with fail
  go_region_with ((go_at_call 49; refine hT.mono ?_; clear hT; rintro e W3 ⟨rfl, hA3, hR3, fr3⟩))
  all_goals
    go_wp2_with fail
    go_end0
    exact ⟨rfl, hA3, hR3, (Fr.of_keeps (Keeps.refl (fun _ => False) w).drew (fun _ _ e => e.elim)).tr fr3⟩
set_option maxHeartbeats 400000 in
set_option maxRecDepth 1000000 in
theorem mine_goes {w : World} {k : Nat} {p : Int} (hM : Mg w c.gb k p) (hTR : TR w) (hkp : kpT k = false) (hI : Inv s m) (hno : x.no < s.atts.length) (hfr : m.free = true) (hlog : (m.log.length + 1) * 56 ≤ 140737488355328) (h1 : (ca m.cells (s.att x.no).status).2 = 1) (hp : x.phase = 2) {v : Nat} (hbv : x.base = (v : Int)) (hv : v < s.vals.length)
    (hr : ∀ k, k = 0 ∨ k = c.gb → ρ k = 0 ∧ k ≠ ab ∧ k ≠ c.om) :
    GoesK w 119 u j c ab ρ x x.thru n n f f s s m (m.load (s.att x.no).status)
      { (({ x.blank with object := x.object, kind := 7 } : Ro).acc (m.load (s.att x.no).status).took) with entry := x.entry, told := true, val := s.vl v } := by
  intro W rb hrb hW hA hR
  have hg := Mg.keep hM hW
  have ht := TR.keep hTR hW
  have hq := hR.cl
  have r7 := hq.c 7 _ rfl
  have zr7 := hq.z 7 (by show 7 < 26; decide)
  have hR1 : RX (W.setCell ⟨rb, 7, none⟩ (.int .i64 x.object)) ρ c ab rb { x.blank with object := x.object } := hR.set1 (o := 7) (by decide) _ rfl
  have hA1 := hA.setR hR 7 (.int .i64 x.object)
  have fr1 := (Fr.refl (OwnR c ab rb) u j W ρ).setR 7 (.int .i64 x.object)
  have hL := live_ok hA1 hR1 hI.wf hno hfr hlog h1
  have hc := hA.cl
  have f17 := hc.c 17 _ rfl
  have n1 := hR.n1
  have n1' := hR.n1.symm
  clear hc hq h1
  go_enter Tryz.func119, Tryz.ntmps119
  go_wp2_with fail
  clear r7 zr7 f17
  generalize W.setCell ⟨rb, 7, none⟩ (.int .i64 x.object) = W1 at *
  refine hL.mono ?_
  rintro e W2 ⟨rfl, ρ2, hA2, hR2, fr2⟩
  have fr2' := fr1.tr fr2
  have S0 : ¬ Sr u j 0 := Sr.not0 hA.st
  have hgl : c.gb < w.heap.size := World.block_lt_of_cell? _ _ hM.2.2
  have h0l : 0 < w.heap.size := by omega
  have hn : ∀ q, q = 0 ∨ q = c.gb → ¬ (Sr u j (ρ q) ∨ OwnR c ab rb q) := fun q hq e => e.elim (fun e => S0 (by rw [(hr q hq).1] at e; exact e)) (fun e => e.elim (fun e => (hr q hq).2.1 e) (fun e => e.elim (fun e => (hr q hq).2.2 e) (fun e => by have : q < w.heap.size := hq.elim (fun e => by omega) (fun e => by omega); omega)))
  have hg2 : Mg W2 c.gb k p := ⟨hg.1, hg.2.1, fr2'.keeps.cell hg.2.2 (hn _ (.inr rfl))⟩
  have ht2 : TR W2 := fun i hi => ⟨fr2'.keeps.cell (ht i hi).1 (hn _ (.inl rfl)), fr2'.keeps.cell (ht i hi).2.1 (hn _ (.inl rfl)), fr2'.keeps.cell (ht i hi).2.2.1 (hn _ (.inl rfl)), fr2'.keeps.cell (ht i hi).2.2.2 (hn _ (.inl rfl))⟩
  have hK := mKeeps hg2 ht2
  rw [hkp] at hK
  have hc := hA2.cl
  have f2 := hc.c 2 _ rfl
  have HP : Hid (x.phase = 2) := hp
  have HB : Hid (x.base = (v : Int)) := hbv
  clear hc hL hp hbv hg ht hg2 ht2 hkp hA hA1 hR1 fr1 fr2
  go_wp2_with fail
  refine hK.mono ?_
  rintro e W3 ⟨rfl, k3⟩
  have hA3 := hA2.new k3
  have hR3 := hR2.new k3
  have fr3 := fr2'.kN k3
  have hO := opened_w hA3 hR3 HP.out HB.out hv
  clear hK hA2 hR2 fr2' f2
  go_wp2_with fail
  refine hO.mono ?_
  rintro e W4 ⟨rfl, hA4, hR4, fr4⟩
  clear hO
  go_wp2_with fail
  go_end0
  exact ⟨rfl, ρ2, hA4, hR4, fr3.tr fr4⟩
/-- An attempt that is over. -/
def Tx.over (x : Tx) : Tx := ({ x with alive := false } : Tx).thru
set_option maxHeartbeats 400000 in
set_option maxRecDepth 1000000 in
theorem end_any (hA : AX w ρ u j c ab x n f s m) (hR : RX w ρ c ab rb r) (en : Int) :
    Calls Tryz.prog 85 #[.pointer (some ⟨ab, 0, none⟩), .pointer (some ⟨rb, 0, none⟩), .int .i64 en] w fun e w' => e = .returned (.tuple #[]) ∧ AX w' ρ u j c ab x.over n f s m ∧ RX w' ρ c ab rb { r with fin := en } ∧ Fr (OwnR c ab rb) u j w w' ρ ρ := by
  have hq := hR.cl
  have r25 := hq.c 25 _ rfl
  have zr25 := hq.z 25 (by show 25 < 26; decide)
  have hR1 : RX (w.setCell ⟨rb, 25, none⟩ (.int .i64 en)) ρ c ab rb { r with fin := en } := hR.set1 (o := 25) (by decide) _ rfl
  have hA1 := hA.setR hR 25 (.int .i64 en)
  have hc := hA1.cl
  have f9 := hc.c 9 _ rfl
  have zf9 := hc.z 9 (by show 9 < 36; decide)
  have hA2 : AX ((w.setCell ⟨rb, 25, none⟩ (.int .i64 en)).setCell ⟨ab, 9, none⟩ (.bool false)) ρ u j c ab { x with alive := false } n f s m := hA1.set1 (o := 9) (by decide) _ rfl
  have hR2 := hR1.setA 9 (.bool false)
  have fr2 := ((Fr.refl (OwnR c ab rb) u j w ρ).setR 25 (.int .i64 en)).setA 9 (.bool false)
  have hT := athrough hA2.cl
  clear hq hc
  go_enter Tryz.func85, Tryz.ntmps85
  go_wp2_with fail
  clear r25 zr25 f9 zf9 hA1 hR1
  generalize (w.setCell ⟨rb, 25, none⟩ (.int .i64 en)).setCell ⟨ab, 9, none⟩ (.bool false) = W2 at *
  refine hT.mono ?_
  rintro e W5 ⟨rfl, hc5, k5⟩
  go_wp2_with fail
  go_end0
  exact ⟨rfl, hA2.self k5 hc5, hR2.far k5 hR.n1.symm, fr2.kA k5⟩
set_option maxHeartbeats 400000 in
set_option maxRecDepth 1000000 in
theorem endAs_won (hA : AX w ρ u j c ab x n f s m) (hR : RX w ρ c ab rb r) (en : Int) :
    Calls Tryz.prog 89 #[.pointer (some ⟨ab, 0, none⟩), .pointer (some ⟨rb, 0, none⟩), .bool true, .int .i64 en] w fun e w' => e = .returned (.tuple #[]) ∧ AX w' ρ u j c ab x.over n f s m ∧ RX w' ρ c ab rb { r with fin := en } ∧ Fr (OwnR c ab rb) u j w w' ρ ρ := by
  have hE := end_any hA hR en
  go_enter Tryz.func89, Tryz.ntmps89
  go_wp2_with fail
  refine hE.mono ?_
  rintro e W1 ⟨rfl, hA1, hR1, fr1⟩
  go_wp2_with fail
  go_end0
  exact ⟨rfl, hA1, hR1, fr1⟩
set_option maxHeartbeats 400000 in
set_option maxRecDepth 1000000 in
theorem commit_goes (hI : Inv s m) (hno1 : 1 ≤ x.no) (hno : x.no < s.atts.length) (hfr : m.free = true) (hlog : (m.log.length + 1) * 56 ≤ 140737488355328) (h1 : (ca m.cells (s.att x.no).status).2 = 1) :
    Goes 61 u j c ab ρ x x.over n n f f s s m (m.swap (s.att x.no).status 1 2) { (({ x.blank with kind := 15 } : Ro).acc (m.swap (s.att x.no).status 1 2).took) with fin := 1 } := by
  intro W rb hA hR
  have hq := hR.cl
  have r5 := hq.c 5 _ rfl
  have zr5 := hq.z 5 (by show 5 < 26; decide)
  have hR1 : RX (W.setCell ⟨rb, 5, none⟩ (.int .i64 15)) ρ c ab rb { x.blank with kind := 15 } := hR.set1 (o := 5) (by decide) _ rfl
  have hA1 := hA.setR hR 5 (.int .i64 15)
  have fr1 := (Fr.refl (OwnR c ab rb) u j W ρ).setR 5 (.int .i64 15)
  clear hq
  go_enter Tryz.func61, Tryz.ntmps61
  go_wp2_with fail
  clear r5 zr5
  generalize W.setCell ⟨rb, 5, none⟩ (.int .i64 15) = W1 at *
  replace hA1 := hA1.new (Keeps.refl _ W1).drew
  replace hR1 := hR1.new (Keeps.refl _ W1).drew
  replace fr1 := fr1.kN (Keeps.refl _ W1).drew
  have hS := Commit_ok hA1.st hI.wf hno1 hno hfr hlog
  rw [show decide ((ca m.cells (s.att x.no).status).2 = 1) = true from decide_eq_true h1] at hS
  have hc := hA1.cl
  have f1 := hc.c 1 _ rfl
  have f7 := hc.c 7 _ rfl
  clear hc h1
  go_region_held3 (fun w' => w'.cell? ⟨ab, 1, none⟩ = some (.pointer (some ⟨c.wb, 0, none⟩)) ∧ w'.cell? ⟨ab, 7, none⟩ = some (.int .i64 (x.no : Int))) (go_keep) (first | (go_at_call 88; refine hS.mono ?_; clear hS; rintro e W3 ⟨rfl, ρ3, s3, x3⟩; have hA3 := hA1.run s3 x3; have hR3 := hR1.run (Sr.not0 hA1.st) x3; have fr3 := fr1.ex x3; have hc3 := hA3.cl; have g1 := hc3.c 1 _ rfl; have g7 := hc3.c 7 _ rfl) | (go_at_call 81; refine (must_bool _ _).mono ?_; rintro e W4 ⟨rfl, rfl⟩))
  clear g1 g7 hc3 hA1 hR1 fr1 s3 x3 f1 f7
  have hT := atook hA3 hR3 (had_swap m _ _ _) (by rw [log_swap]; omega)
  go_wp2_with fail
  refine hT.mono ?_
  rintro e W8 ⟨rfl, hA8, hR8, k8⟩
  have fr8 := fr3.kR k8
  have hE := endAs_won hA8 hR8 1
  clear hT
  go_wp2_with fail
  refine hE.mono ?_
  rintro e W9 ⟨rfl, hA9, hR9, fr9⟩
  clear hE
  go_wp2_with fail
  go_end0
  exact ⟨rfl, ρ3, hA9, hR9, fr8.tr fr9⟩
end
end Go.Proofs.YteomlhcllmlkpaaGreatDoor
