import Derived.Test.YtgjndhbfjofkeaaGreatDoorG18
import Derived.Test.YtgjndhbfjofkeaaGreatDoorG02
namespace Go.Proofs.YtgjndhbfjofkeaaGreatDoor
open Go.RowKit
attribute [local go_sem] Oper.semAt_some run_store_nf run_store_f
section
variable {w w' : World} {ρ ρ' ρ'' : Nat → Nat} {u j : Nat} {c : Sc} {ab rb n n' : Nat} {x x' : Tx} {f f' : Int → Option Nat} {s s' : Ws} {m m' : Mm} {r r' : Ro}
set_option maxHeartbeats 400000 in
set_option maxRecDepth 1000000 in
theorem opened_w (hA : AX w ρ u j c ab x n f s m) (hR : RX w ρ c ab rb r) (hp : x.phase = 2) {v : Nat} (hbv : x.base = (v : Int)) (hv : v < s.vals.length) :
    Calls Tryz.prog 151 #[.pointer (some ⟨ab, 0, none⟩), .pointer (some ⟨rb, 0, none⟩)] w fun e w' => e = .returned (.tuple #[]) ∧ AX w' ρ u j c ab x.thru n f s m ∧ RX w' ρ c ab rb { r with entry := x.entry, told := true, val := s.vl v } ∧ Fr (OwnR c ab rb) u j w w' ρ ρ := by
  have hD := hA.new (Keeps.refl _ w).drew
  have hT := tell_ok hD (hR.new (Keeps.refl _ w).drew) hv x.entry
  rw [← hbv] at hT
  have hc := hA.cl
  have f16 := hc.c 16 _ rfl
  rw [hp] at f16
  have hc' := hD.cl
  have g18 := hc'.c 18 _ rfl
  have g20 := hc'.c 20 _ rfl
  clear hc hc' hp hbv
  go_enter Tryz.func151, Tryz.ntmps151
  go_wp2_with fail
  go_region_with ((go_at_call 107; refine hT.mono ?_; clear hT; rintro e W3 ⟨rfl, hA3, hR3, fr3⟩))
  all_goals
    go_wp2_with fail
    go_end0
    exact ⟨rfl, hA3, hR3, (Fr.of_keeps (Keeps.refl (fun _ => False) w).drew (fun _ _ e => e.elim)).tr fr3⟩
set_option maxHeartbeats 400000 in
set_option maxRecDepth 1000000 in
theorem opened_r (hA : AX w ρ u j c ab x n f s m) (hR : RX w ρ c ab rb r) (hp : x.phase = 1) (ho : I64 x.object) (hh : ¬ hld c.rs x.object) (hl : c.rs.length ≤ 1000000000) {v : Nat} (hbv : x.base = (v : Int)) (hv : v < s.vals.length) (hv2 : s.vals.length ≤ 1000000000) :
    Calls Tryz.prog 151 #[.pointer (some ⟨ab, 0, none⟩), .pointer (some ⟨rb, 0, none⟩)] w fun e w' => e = .returned (.tuple #[]) ∧ ∃ c', Res w w' ρ ρ u j c c' ab x.thru (add c.rs x.object x.base) n f s m (OwnR c ab rb) ∧ RX w' ρ c' ab rb { r with entry := (c.rs.length : Int), told := true, val := s.vl v } := by
  have hD := hA.new (Keeps.refl _ w).drew
  have hRD := hR.new (Keeps.refl _ w).drew
  have hAd : Calls Tryz.prog 167 #[.pointer (some ⟨ab, 11, none⟩), .int .i64 x.object, .int .i64 x.base] w.drew fun e w' => e = .returned (.tuple #[.int .i64 (c.rs.length : Int), .int .i64 0]) ∧ ∃ T, TB.TV w' T (add c.rs x.object x.base) ∧ TB.Lf w.drew w' ⟨ab, c.ve, c.vm, c.vf⟩ T := TB.add_ok hD.ct.tv ho (by rw [hbv]; constructor <;> omega) hh (by omega)
  have HB : Hid (x.base = (v : Int)) := hbv
  have hc := hA.cl
  have f16 := hc.c 16 _ rfl
  rw [hp] at f16
  have hc' := hD.cl
  have g17 := hc'.c 17 _ rfl
  have g18 := hc'.c 18 _ rfl
  clear hc hc' hp hbv hh
  obtain ⟨L, HL⟩ : ∃ L : Int, Hid ((c.rs.length : Int) = L) := ⟨_, rfl⟩
  rw [HL.out] at hAd ⊢
  go_enter Tryz.func151, Tryz.ntmps151
  go_wp2_with fail
  go_region_held3 (fun w' => w'.cell? ⟨ab, 17, none⟩ = some (.int .i64 x.object) ∧ w'.cell? ⟨ab, 18, none⟩ = some (.int .i64 x.base)) (first | go_keep | exact KZ _) ((go_at_call 167; refine hAd.mono ?_; clear hAd; rintro e w2 ⟨rfl, T, hT, hLf⟩; have h2 := hD.tab hT hLf; have hc2 := h2.cl; have q17 := hc2.c 17 _ rfl; have q18 := hc2.c 18 _ rfl; have q20 := hc2.c 20 _ rfl; have zq20 := hc2.z 20 (by show 20 < 36; decide); have KZ := fun (v : Value) => And.intro ((hc2.set (o := 20) (by show 20 < 36; decide) v).c 17 _ rfl) ((hc2.set (o := 20) (by show 20 < 36; decide) v).c 18 _ rfl)))
  have h3 : AX (w2.setCell ⟨ab, 20, none⟩ (.int .i64 L)) ρ u j (c.tab T (add c.rs x.object x.base)) ab { x with entry := L } n f s m := h2.set1 (o := 20) (by decide) _ rfl
  have hR3 := (hRD.tab hT hLf).setA 20 (.int .i64 L)
  have fr3 : Fr (OwnR c ab rb) u j w (w2.setCell ⟨ab, 20, none⟩ (.int .i64 L)) ρ ρ := ((Fr.of_keeps (A := OwnR c ab rb) (Keeps.refl (fun _ => False) w).drew (fun _ _ e => e.elim)).tr (Fr.of_keeps hLf.kp (fun _ _ e => e.elim (fun e => .inl e) (fun e => .inr (.inl (.inr e)))))).setA 20 (.int .i64 L)
  have BK := Sc.tab_bk hT hLf
  clear KZ q17 q18 q20 zq20 hc2 h2 hD hRD hT hLf f16 g17 g18
  generalize w2.setCell ⟨ab, 20, none⟩ (.int .i64 L) = w3 at *
  go_wp2_with fail
  have h4 := h3.new (Keeps.refl _ w3).drew
  have hR4 := hR3.new (Keeps.refl _ w3).drew
  have hT := tell_ok h4 hR4 hv L
  rw [← HB.out] at hT
  have hc4 := h4.cl
  have g18 := hc4.c 18 _ rfl
  have g20 := hc4.c 20 _ rfl
  clear hc4 h3 hR3
  go_region_with ((go_at_call 107; refine hT.mono ?_; clear hT; rintro e W3 ⟨rfl, hA3, hR3, fr4⟩))
  all_goals
    go_wp2_with fail
    go_end0
    refine ⟨rfl, _, ⟨Sam.tab c T _, hA3, (fr3.kN (Keeps.refl _ w3).drew).trans fr4 (fun _ _ e => e) (fun i hi e => e.elim (fun e => .inl e) (fun e => e.elim (fun e => (BK i e).elim (fun e => .inr (.inl e)) (fun e => absurd hi (Nat.not_lt.2 e))) (fun e => .inr (.inr e)))), BK⟩, hR3⟩
def Tx.opRs (x : Tx) (rs : List Rd) : List Rd := if x.phase = 1 then add rs x.object x.base else rs
def Tx.opEn (x : Tx) (rs : List Rd) : Int := if x.phase = 1 then (rs.length : Int) else x.entry
theorem opened_any (hA : AX w ρ u j c ab x n f s m) (hR : RX w ρ c ab rb r) (hp : x.phase = 1 ∨ x.phase = 2) (ho : I64 x.object) (hh : x.phase = 1 → ¬ hld c.rs x.object) (hl : c.rs.length ≤ 1000000000) {v : Nat} (hbv : x.base = (v : Int)) (hv : v < s.vals.length) (hv2 : s.vals.length ≤ 1000000000) :
    Calls Tryz.prog 151 #[.pointer (some ⟨ab, 0, none⟩), .pointer (some ⟨rb, 0, none⟩)] w fun e w' => e = .returned (.tuple #[]) ∧ ∃ c', Res w w' ρ ρ u j c c' ab x.thru (x.opRs c.rs) n f s m (OwnR c ab rb) ∧ RX w' ρ c' ab rb { r with entry := x.opEn c.rs, told := true, val := s.vl v } := by
  rcases hp with hp | hp
  · rw [show x.opRs c.rs = add c.rs x.object x.base from if_pos hp, show x.opEn c.rs = (c.rs.length : Int) from if_pos hp]
    exact opened_r hA hR hp ho (hh hp) hl hbv hv hv2
  · rw [show x.opRs c.rs = c.rs from if_neg (by omega), show x.opEn c.rs = x.entry from if_neg (by omega)]
    exact (opened_w hA hR hp hbv hv).mono (fun e w' ⟨h1, h2, h3, h4⟩ => ⟨h1, c, ⟨Sam.refl c, h2, h4, fun _ e => .inl e⟩, h3⟩)
structure Fx (w : World) (ρ : Nat → Nat) (c : Sc) (ab k : Nat) (p : Int) : Prop where
  mg : Mg w c.gb k p
  tr : TR w
  rl : ∀ q, q = 0 ∨ q = c.gb → ρ q = 0 ∧ q ≠ ab ∧ ¬ c.Q q
theorem Fx.lt {k : Nat} {p : Int} (h : Fx w ρ c ab k p) {q : Nat} (hq : q = 0 ∨ q = c.gb) : q < w.heap.size := by
  have hgl : c.gb < w.heap.size := World.block_lt_of_cell? _ _ h.mg.2.2
  rcases hq with e | e <;> omega
theorem Fx.fr {k : Nat} {p : Int} {W W' : World} {A : Nat → Prop} (h : Fx w ρ c ab k p) (hW : Keeps (fun _ => False) w W) (S0 : ¬ Sr u j 0) (fr : Fr A u j W W' ρ ρ') (hA : ∀ q, q = 0 ∨ q = c.gb → ¬ A q) : Mg W' c.gb k p ∧ TR W' := by
  have hn : ∀ q, q = 0 ∨ q = c.gb → ¬ (Sr u j (ρ q) ∨ A q) := fun q hq e => e.elim (fun e => S0 (by rw [(h.rl q hq).1] at e; exact e)) (hA q hq)
  have hg := Mg.keep h.mg hW
  have ht := TR.keep h.tr hW
  exact ⟨⟨hg.1, hg.2.1, fr.keeps.cell hg.2.2 (hn _ (.inr rfl))⟩, fun i hi => ⟨fr.keeps.cell (ht i hi).1 (hn _ (.inl rfl)), fr.keeps.cell (ht i hi).2.1 (hn _ (.inl rfl)), fr.keeps.cell (ht i hi).2.2.1 (hn _ (.inl rfl)), fr.keeps.cell (ht i hi).2.2.2 (hn _ (.inl rfl))⟩⟩
theorem Fx.nR {k : Nat} {p : Int} (h : Fx w ρ c ab k p) (hrb : w.heap.size ≤ rb) : ∀ q, q = 0 ∨ q = c.gb → ¬ OwnR c ab rb q := fun q hq e => e.elim (fun e => (h.rl q hq).2.1 e) (fun e => e.elim (fun e => (h.rl q hq).2.2 e) (fun e => by have := h.lt hq; omega))
def Tx.mineRow (x : Tx) (s : Ws) (m : Mm) : Ro := ({ x.blank with object := x.object, kind := 7 } : Ro).acc (m.load (s.att x.no).status).took
set_option maxHeartbeats 400000 in
set_option maxRecDepth 1000000 in
theorem mine_no {w : World} {k : Nat} {p : Int} (hM : Fx w ρ c ab k p) (hI : Inv s m) (hno : x.no < s.atts.length) (hfr : m.free = true) (hlog : (m.log.length + 1) * 56 ≤ 140737488355328) (h1 : (ca m.cells (s.att x.no).status).2 = 1) (hkp : kpT k = false) (hp : x.phase = 1 ∨ x.phase = 2) (ho : I64 x.object) (hh : x.phase = 1 → ¬ hld c.rs x.object) (hl : c.rs.length ≤ 1000000000) {v : Nat} (hbv : x.base = (v : Int)) (hv : v < s.vals.length) (hv2 : s.vals.length ≤ 1000000000) :
    GoesK w 134 u j c ab ρ x x.thru (x.opRs c.rs) n n f f s s m (m.load (s.att x.no).status)
      { x.mineRow s m with entry := x.opEn c.rs, told := true, val := s.vl v } := by
  intro W rb hrb hW hA hR
  have hq := hR.cl
  have r7 := hq.c 7 _ rfl
  have zr7 := hq.z 7 (by show 7 < 26; decide)
  have hR1 : RX (W.setCell ⟨rb, 7, none⟩ (.int .i64 x.object)) ρ c ab rb { x.blank with object := x.object } := hR.set1 (o := 7) (by decide) _ rfl
  have hA1 := hA.setR hR 7 (.int .i64 x.object)
  have fr1 := (Fr.refl (OwnR c ab rb) u j W ρ).setR 7 (.int .i64 x.object)
  have hL := live_ok hA1 hR1 hI.wf hno hfr hlog h1
  have hc := hA.cl
  have f17 := hc.c 17 _ rfl
  have n1 := hR.n1
  have n1' := hR.n1.symm
  clear hc hq h1
  go_enter Tryz.func134, Tryz.ntmps134
  go_wp2_with fail
  clear r7 zr7 f17
  generalize W.setCell ⟨rb, 7, none⟩ (.int .i64 x.object) = W1 at *
  refine hL.mono ?_
  rintro e W2 ⟨rfl, ρ2, hA2, hR2, fr2⟩
  have fr2' := fr1.tr fr2
  have S0 : ¬ Sr u j 0 := Sr.not0 hA.st
  obtain ⟨hg2, ht2⟩ := hM.fr hW S0 fr2' (hM.nR hrb)
  have hK := mKeeps hg2 ht2
  rw [hkp] at hK
  have hc := hA2.cl
  have f2 := hc.c 2 _ rfl
  have HP : Hid (x.phase = 1 ∨ x.phase = 2) := hp
  have HB : Hid (x.base = (v : Int)) := hbv
  have HH : Hid (x.phase = 1 → ¬ hld c.rs x.object) := hh
  have HV : Hid (v < s.vals.length) := hv
  clear hc hL hp hbv hg2 ht2 hkp hA hA1 hR1 fr1 fr2 hh hv
  go_wp2_with fail
  refine hK.mono ?_
  rintro e W3 ⟨rfl, k3⟩
  have hA3 := hA2.new k3
  have hR3 := hR2.new k3
  have fr3 := fr2'.kN k3
  have hO := opened_any hA3 hR3 HP.out ho HH.out hl HB.out HV.out hv2
  clear hK hA2 hR2 fr2' f2
  go_wp2_with fail
  refine hO.mono ?_
  rintro e W4 ⟨rfl, c', rs4, hR4⟩
  clear hO
  go_wp2_with fail
  go_end0
  exact ⟨rfl, ρ2, c', ⟨rs4.sam, rs4.ax, fr3.tr rs4.fr, fun k hk => (rs4.bk k hk).imp id (fun e => Nat.le_trans fr3.keeps.size e)⟩, hR4⟩
set_option maxHeartbeats 400000 in
set_option maxRecDepth 1000000 in
theorem mine_top {w : World} {k : Nat} {p : Int} (hM : Fx w ρ c ab k p) (hI : Inv s m) (hno : x.no < s.atts.length) (hfr : m.free = true) (hlog : (m.log.length + 1) * 56 ≤ 140737488355328) (h1 : (ca m.cells (s.att x.no).status).2 = 1) (hkp : kpT k = true) (hrk : decide (x.rank < 255) = false) (hp : x.phase = 1 ∨ x.phase = 2) (ho : I64 x.object) (hh : x.phase = 1 → ¬ hld c.rs x.object) (hl : c.rs.length ≤ 1000000000) {v : Nat} (hbv : x.base = (v : Int)) (hv : v < s.vals.length) (hv2 : s.vals.length ≤ 1000000000) :
    GoesK w 134 u j c ab ρ x x.thru (x.opRs c.rs) n n f f s s m (m.load (s.att x.no).status)
      { x.mineRow s m with entry := x.opEn c.rs, told := true, val := s.vl v } := by
  intro W rb hrb hW hA hR
  have hq := hR.cl
  have r7 := hq.c 7 _ rfl
  have zr7 := hq.z 7 (by show 7 < 26; decide)
  have hR1 : RX (W.setCell ⟨rb, 7, none⟩ (.int .i64 x.object)) ρ c ab rb { x.blank with object := x.object } := hR.set1 (o := 7) (by decide) _ rfl
  have hA1 := hA.setR hR 7 (.int .i64 x.object)
  have fr1 := (Fr.refl (OwnR c ab rb) u j W ρ).setR 7 (.int .i64 x.object)
  have hL := live_ok hA1 hR1 hI.wf hno hfr hlog h1
  have hc := hA.cl
  have f17 := hc.c 17 _ rfl
  have n1 := hR.n1
  have n1' := hR.n1.symm
  clear hc hq h1
  go_enter Tryz.func134, Tryz.ntmps134
  go_wp2_with fail
  clear r7 zr7 f17
  generalize W.setCell ⟨rb, 7, none⟩ (.int .i64 x.object) = W1 at *
  refine hL.mono ?_
  rintro e W2 ⟨rfl, ρ2, hA2, hR2, fr2⟩
  have fr2' := fr1.tr fr2
  have S0 : ¬ Sr u j 0 := Sr.not0 hA.st
  obtain ⟨hg2, ht2⟩ := hM.fr hW S0 fr2' (hM.nR hrb)
  have hK := mKeeps hg2 ht2
  rw [hkp] at hK
  have hc := hA2.cl
  have f2 := hc.c 2 _ rfl
  have HP : Hid (x.phase = 1 ∨ x.phase = 2) := hp
  have HB : Hid (x.base = (v : Int)) := hbv
  have HH : Hid (x.phase = 1 → ¬ hld c.rs x.object) := hh
  have HV : Hid (v < s.vals.length) := hv
  clear hc hL hp hbv hg2 ht2 hkp hA hA1 hR1 fr1 fr2 hh hv
  go_wp2_with fail
  refine hK.mono ?_
  rintro e W3 ⟨rfl, k3⟩
  have hA3 := hA2.new k3
  have hc3 := hA3.cl
  have g8 := hc3.c 8 _ rfl
  clear hc3
  have hR3 := hR2.new k3
  have fr3 := fr2'.kN k3
  have hO := opened_any hA3 hR3 HP.out ho HH.out hl HB.out HV.out hv2
  clear hK hA2 hR2 fr2' f2
  go_wp2_with fail
  refine hO.mono ?_
  rintro e W4 ⟨rfl, c', rs4, hR4⟩
  clear hO
  go_wp2_with fail
  go_end0
  exact ⟨rfl, ρ2, c', ⟨rs4.sam, rs4.ax, fr3.tr rs4.fr, fun k hk => (rs4.bk k hk).imp id (fun e => Nat.le_trans fr3.keeps.size e)⟩, hR4⟩
set_option maxHeartbeats 400000 in
set_option maxRecDepth 1000000 in
theorem mine_boost {w : World} {k : Nat} {p : Int} (hM : Fx w ρ c ab k p) (hI : Inv s m) (hno : x.no < s.atts.length) (hfr : m.free = true) (hlog : (m.log.length + 1) * 56 ≤ 140737488355328) (h1 : (ca m.cells (s.att x.no).status).2 = 1) (hkp : kpT k = true) (hrk : decide (x.rank < 255) = true) :
    GoesK w 134 u j c ab ρ x { x with nx := some 150 } c.rs n n f f s s m (m.load (s.att x.no).status) (x.mineRow s m) := by
  intro W rb hrb hW hA hR
  have hq := hR.cl
  have r7 := hq.c 7 _ rfl
  have zr7 := hq.z 7 (by show 7 < 26; decide)
  have hR1 : RX (W.setCell ⟨rb, 7, none⟩ (.int .i64 x.object)) ρ c ab rb { x.blank with object := x.object } := hR.set1 (o := 7) (by decide) _ rfl
  have hA1 := hA.setR hR 7 (.int .i64 x.object)
  have fr1 := (Fr.refl (OwnR c ab rb) u j W ρ).setR 7 (.int .i64 x.object)
  have hL := live_ok hA1 hR1 hI.wf hno hfr hlog h1
  have hc := hA.cl
  have f17 := hc.c 17 _ rfl
  have n1 := hR.n1
  have n1' := hR.n1.symm
  clear hc hq h1
  go_enter Tryz.func134, Tryz.ntmps134
  go_wp2_with fail
  clear r7 zr7 f17
  generalize W.setCell ⟨rb, 7, none⟩ (.int .i64 x.object) = W1 at *
  refine hL.mono ?_
  rintro e W2 ⟨rfl, ρ2, hA2, hR2, fr2⟩
  have fr2' := fr1.tr fr2
  have S0 : ¬ Sr u j 0 := Sr.not0 hA.st
  obtain ⟨hg2, ht2⟩ := hM.fr hW S0 fr2' (hM.nR hrb)
  have hK := mKeeps hg2 ht2
  rw [hkp] at hK
  have hc := hA2.cl
  have f2 := hc.c 2 _ rfl
  clear hc hL hg2 ht2 hkp hA hA1 hR1 fr1 fr2
  have hmf : ∀ (fn : Fn) (first cap : Array Value) (w : World), (Instr.makeFunc fn first cap).run Tryz.prog w = .ok (.func fn first cap) w := fun _ _ _ _ => rfl
  go_wp2_with fail
  refine hK.mono ?_
  rintro e W3 ⟨rfl, k3⟩
  have hA3 := hA2.new k3
  have hR3 := hR2.new k3
  have fr3 := fr2'.kN k3
  have hc3 := hA3.cl
  have g8 := hc3.c 8 _ rfl
  have zg8 := hc3.z 8 (by show 8 < 36; decide)
  have g15 := hc3.c 15 _ rfl
  have zg15 := hc3.z 15 (by show 15 < 36; decide)
  clear hK hA2 hR2 fr2' f2 hc3
  go_wp2_with fail
  (try simp only [Exit.then])
  refine bodyPost_ret (results_none rfl _ _ _) rfl ?_
  exact ⟨rfl, ρ2, c, ⟨Sam.refl c, hA3.set1 (o := 15) (by decide) _ rfl, fr3.setA 15 _, fun _ e => .inl e⟩, hR3.setA 15 _⟩
end
end Go.Proofs.YtgjndhbfjofkeaaGreatDoor

namespace Go.Proofs.YtgjndhbfjofkeaaGreatDoor
open Go.RowKit
set_option maxHeartbeats 3200000 in
set_option maxRecDepth 1000000 in
theorem access_add {w : World} {mb : Nat} {s : Mm} {F : List Nat} (h : MI w mb s F) {c : Nat} (hc : c < s.cells.length) (hfr : s.free = true) (hlog : (s.log.length + 1) * 56 ≤ 140737488355328) (kind wrote : Int) (done : Bool) (p : Nat)
    (hw : ∀ W, Keeps (fun _ => False) w W → Calls Tryz.prog 101 #[.int .i64 (ca s.cells c).2, .pointer (some ⟨p, 0, none⟩)] W fun e W' => e = .returned (.tuple #[.int .i64 wrote, .bool done]) ∧ W' = W) :
    Calls Tryz.prog 100 #[.pointer (some ⟨mb, 0, none⟩), .int .i64 kind, .int .i64 (c : Int), .func (.func 101) #[] #[.pointer (some ⟨p, 0, none⟩)]] w fun e w' =>
      e = .returned (.tuple #[.agg #[.int .i64 s.step, .int .i64 s.thread, .int .i64 kind, .int .i64 (c : Int), .int .i64 (ca s.cells c).2, .int .i64 wrote, .bool done], .int .i64 0]) ∧ ∃ F', MI w' mb (s.take kind c wrote done) F' ∧ Left w w' F F' := by
  obtain ⟨w0, hw0⟩ : ∃ w0, w0 = w.alloc (.cells #[.int .i64 0, .int .i64 0, .int .i64 0, .int .i64 0, .int .i64 0, .int .i64 0, .bool false] 167) := ⟨_, rfl⟩
  have K0 : Keeps (fun _ => False) w w0 := by rw [hw0]; exact (Keeps.refl _ w).alloc _
  have B0 : RowAt w0 w.heap.size 0 rw0 := by rw [hw0]; constructor <;> simp [rw0]
  have Z0 : ∀ o, w0.frozen? ⟨w.heap.size, o, none⟩ = false := fun o => by rw [hw0]; simp
  have sz0 : Hid (w0.heap.size = w.heap.size + 1) := by show _ = _; rw [hw0]; simp
  have hw1 := hw w0 K0
  clear hw
  have hh := has_any (h.new K0) (c : Int)
  rw [there_ok hc] at hh
  obtain ⟨vc, vl, h, rfl⟩ := h
  have h0 := h.new K0
  have H : Hid (MV w0 mb vc vl s) := h0
  obtain ⟨a, cap, rfl, hs⟩ := h0.slice
  obtain ⟨g, rfl, hg⟩ := hs (by omega)
  have f0 := h0.f0
  have f2 := h0.f2
  have f3 := h0.f3
  have f5 := h0.f5
  rw [hfr] at f5
  have cc := (h0.cell hg hc).2
  have hcI : (c : Int) < (s.cells.length : Int) := by omega
  have hrc := h.rc
  have hrl := h.rl
  have hlm := h.lt
  have hnl := h.nl
  have hnc := h.nc
  clear h h0 hs
  go_enter Tryz.func100, Tryz.ntmps100
  go_wp2_with fail
  rw [← hw0]
  clear hw0
  go_wp2_with (first | (go_at_call 40; refine hh.mono ?_; clear hh; rintro e w0 ⟨rfl, rfl⟩) | (go_at_call 101; refine hw1.mono ?_; clear hw1; rintro e w0 ⟨rfl, rfl⟩))
  have q2 : ∀ ob, (w0.alloc ob).cell? ⟨mb, 2, none⟩ = some (.int .i64 s.step) := fun ob => ((Keeps.refl (fun _ => False) w0).alloc ob).cell f2 (fun e => e)
  have q3 : ∀ ob, (w0.alloc ob).cell? ⟨mb, 3, none⟩ = some (.int .i64 s.thread) := fun ob => ((Keeps.refl (fun _ => False) w0).alloc ob).cell f3 (fun e => e)
  go_region
  obtain ⟨w2, hw2⟩ : ∃ w2, w2 = World.drew (w0.alloc (.cells #[.int .i64 s.step, .int .i64 s.thread, .int .i64 kind, .int .i64 (c : Int), .int .i64 (ca s.cells c).2, .int .i64 wrote, .bool done] 167)) := ⟨_, rfl⟩
  have K2 : Keeps (fun _ => False) w0 w2 := by rw [hw2]; exact ((Keeps.refl _ w0).alloc _).drew
  have R2 : RowAt w2 w0.heap.size 0 (s.row kind c wrote done) := by rw [hw2]; constructor <;> simp [Mm.row]
  have sz2 : Hid (w2.heap.size = w0.heap.size + 1) := by show _ = _; rw [hw2]; simp
  rw [← hw2]
  clear hw2 q2 q3 f2 f3 f5
  have H2 := H.out.new K2
  replace f0 := H2.f0
  replace cc := (H2.cell hg hc).2
  have zg : w2.frozen? ⟨g, c * 2 + 1, none⟩ = false := H2.rc.frozenAt _
  obtain ⟨H3, K3⟩ := H2.set hg hc wrote
  have lg : g < w.heap.size := owns_lt' hrc g hg
  have R3 := R2.keep K3 (by have := K0.size; omega)
  clear R2
  obtain ⟨w3, hw3⟩ : ∃ w3, w3 = w2.setCell ⟨g, c * 2 + 1, none⟩ (.int .i64 wrote) := ⟨_, rfl⟩
  have sz3 : Hid (w3.heap.size = w0.heap.size + 1) := by show _ = _; rw [hw3]; simp; exact sz2.out
  go_wp2_with fail
  rw [← hw3] at H3 K3 R3 ⊢
  clear hw3 cc zg f0
  have f1 := H3.f1
  have z1 := H3.z 1 (by omega)
  have r0 := R3.r0
  have r1 := R3.r1
  have r2 := R3.r2
  have r3 := R3.r3
  have r4 := R3.r4
  have r5 := R3.r5
  have r6 := R3.r6
  simp only [Mm.row] at r0 r1 r2 r3 r4 r5 r6
  have nl := H3.nl
  have HO : Hid (w3.ownsRow 0 167 7 vl s.log.length (fl rcells s.log)) := H3.rl
  have HM : Hid (MV w3 mb (.slice (some ⟨g, 0, none⟩) s.cells.length cap) vl { s with cells := s.cells.set c ((ca s.cells c).1, wrote) }) := H3
  have lm : mb < w.heap.size := hlm
  clear H3
  obtain ⟨i0, hi0, hz0, hz1, hz2⟩ := info_parts rowInfo
  have h63 : s.log.length + 1 ≤ maxLen := by unfold maxLen; omega
  have q1 : ∀ ob, (w3.alloc ob).cell? ⟨mb, 1, none⟩ = some vl := fun ob => ((Keeps.refl (fun _ => False) w3).alloc ob).cell f1 (fun e => e)
  have ka : ∀ (ob : Obj), (w3.alloc ob).drew.cell? ⟨mb, 1, none⟩ = some vl ∧ (w3.alloc ob).drew.frozen? ⟨mb, 1, none⟩ = false := fun ob =>
    ⟨(((Keeps.refl (fun _ => False) w3).alloc ob).drew).cell f1 (fun e => e), ((((Keeps.refl (fun _ => False) w3).alloc ob).drew).frozen (p := ⟨mb, 1, none⟩) (World.block_lt_of_cell? _ _ f1) (fun e => e)).trans z1⟩
  have lm3 : mb < w3.heap.size := World.block_lt_of_cell? _ _ f1
  go_region_law ((refine step_append_lies _ (by rfl) _ _ _ (by rfl) 0 167 i0 _ 7 56 underRows hi0 hz0 hz1 hz2 rfl (by omega) vl s.log.length (fl rcells s.log) (by rfl) ((HO.out.alloc _).drew) ⟨w3.heap.size, 0, none⟩ 1 1 [.int .i64 s.step, .int .i64 s.thread, .int .i64 kind, .int .i64 (c : Int), .int .i64 (ca s.cells c).2, .int .i64 wrote, .bool done] (by rfl) (by rfl) (World.news_of_block (cs := #[.int .i64 s.step, .int .i64 s.thread, .int .i64 kind, .int .i64 (c : Int), .int .i64 (ca s.cells c).2, .int .i64 wrote, .bool done]) (t := 167) (fr := (0, 0)) (heap_alloc_new w3 _)) (by simp [Value.oneCell']) (by omega) h63 hlog (Nat.zero_le _) (w3.heap.size + 1) (by simp) ?_; intro gg cap1 w4 hown1 hgrow hat hlt1; have r1 := (hgrow.cell_far ⟨mb, 1, none⟩ (by simp; omega) (Ne.symm nl)).trans (ka _).1; have r2 := (hgrow.frozen_far ⟨mb, 1, none⟩ (by simp; omega) (Ne.symm nl)).trans (ka _).2))
  all_goals
    (try simp only [Exit.then])
    have KA : Keeps (fun _ => False) w3 (World.drew (w3.alloc (.cells #[.int .i64 s.step, .int .i64 s.thread, .int .i64 kind, .int .i64 (c : Int), .int .i64 (ca s.cells c).2, .int .i64 wrote, .bool done] 167))) := ((Keeps.refl _ w3).alloc _).drew
    obtain ⟨H5, K5⟩ := (HM.out.new KA).logged (r := s.row kind c wrote done) hgrow hown1 (hat.imp id (fun e => by rw [e]; simp))
    have lgg : Hid (vl.ownBlock = some gg ∨ w0.heap.size + 1 < gg) := hat.imp id (fun e => by have := sz3.out; omega)
    clear r0 r1 r2 r3 r4 r5 r6 f1 z1 q1 ka HO hown1 hgrow hat hlt1 h63 hz0 hz1 hz2 hi0 HM
    obtain ⟨w5, hw5⟩ : ∃ w5, w5 = w4.setCell ⟨mb, 1, none⟩ (.slice (some ⟨gg, 0, none⟩) (s.log.length + 1) cap1) := ⟨_, rfl⟩
    rw [← hw5] at H5 K5 ⊢
    clear hw5
    have s0 := sz0.out
    have nR : ¬ w0.heap.size = mb := by omega
    have nB : ¬ w.heap.size = mb := by omega
    have nR' : ¬ mb = w0.heap.size := by omega
    have nB' : ¬ mb = w.heap.size := by omega
    have nL : ∀ k, w.heap.size ≤ k → vl.ownBlock ≠ some k := fun k hk e => by have := owns_lt' hrl _ e; omega
    have R5 := (R3.keep KA (fun e => e)).keep K5 (fun e => e.elim (nL _ (by omega)) nR)
    have B5 := (((B0.keep K2 (fun e => e)).keep K3 (by omega)).keep KA (fun e => e)).keep K5 (fun e => e.elim (nL _ (Nat.le_refl _)) nB)
    have Z5 : ∀ o, w5.frozen? ⟨w.heap.size, o, none⟩ = false := fun o => by
      have l0 : w.heap.size < w0.heap.size := by omega
      rw [K5.frozen (p := ⟨w.heap.size, o, none⟩) (Nat.lt_of_lt_of_le l0 (Nat.le_trans K2.size (Nat.le_trans K3.size KA.size))) (fun e => e.elim (nL _ (Nat.le_refl _)) nB), KA.frozen (p := ⟨w.heap.size, o, none⟩) (Nat.lt_of_lt_of_le l0 (Nat.le_trans K2.size K3.size)) (fun e => e), K3.frozen (p := ⟨w.heap.size, o, none⟩) (Nat.lt_of_lt_of_le l0 K2.size) (by show ¬ w.heap.size = g; omega), K2.frozen (p := ⟨w.heap.size, o, none⟩) l0 (fun e => e)]
      exact Z0 o
    have H6 := H5.free false
    have K6 := keeps_set w5 mb 5 (.bool false)
    have KT : Keeps (fun k => k ∈ (mb :: ((Value.slice (some ⟨g, 0, none⟩) s.cells.length cap).ownBlock.toList ++ vl.ownBlock.toList))) w (w5.setCell ⟨mb, 5, none⟩ (.bool false)) := by
      have Ka := ((K0.trans K2).mono (T := fun k => k ∈ (mb :: ((Value.slice (some ⟨g, 0, none⟩) s.cells.length cap).ownBlock.toList ++ vl.ownBlock.toList))) (fun _ _ e => e.elim))
      have Kb := Ka.trans' (U := fun k => k ∈ (mb :: ((Value.slice (some ⟨g, 0, none⟩) s.cells.length cap).ownBlock.toList ++ vl.ownBlock.toList))) K3 (fun _ _ e => e) (fun _ _ e => by simp [e, Value.ownBlock])
      have Kc := Kb.trans' (U := fun k => k ∈ (mb :: ((Value.slice (some ⟨g, 0, none⟩) s.cells.length cap).ownBlock.toList ++ vl.ownBlock.toList))) KA (fun _ _ e => e) (fun _ _ e => e.elim)
      have Kd := Kc.trans' (U := fun k => k ∈ (mb :: ((Value.slice (some ⟨g, 0, none⟩) s.cells.length cap).ownBlock.toList ++ vl.ownBlock.toList))) K5 (fun _ _ e => e) (fun _ _ e => by rcases e with e | e <;> simp [e])
      exact Kd.trans' K6 (fun _ _ e => e) (fun _ _ e => by simp [e])
    have f5 := H5.f5
    have z5 := H5.z 5 (by omega)
    have r0 := R5.r0
    have r1 := R5.r1
    have r2 := R5.r2
    have r3 := R5.r3
    have r4 := R5.r4
    have r5 := R5.r5
    have r6 := R5.r6
    simp only [Mm.row, Nat.zero_add] at r0 r1 r2 r3 r4 r5 r6
    have b0 := B5.r0
    have b1 := B5.r1
    have b2 := B5.r2
    have b3 := B5.r3
    have b4 := B5.r4
    have b5 := B5.r5
    have b6 := B5.r6
    simp only [rw0, Nat.zero_add] at b0 b1 b2 b3 b4 b5 b6
    have H7 : Hid (MV (w5.setCell ⟨mb, 5, none⟩ (.bool false)) mb (.slice (some ⟨g, 0, none⟩) s.cells.length cap) (.slice (some ⟨gg, 0, none⟩) (s.log.length + 1) cap1) (s.take kind c wrote done)) := H6
    clear H6 H5 K5 K6 KA R3 R5 B5 H2 H K3 K2
    have hs0 : Hid (w0.heap.size = w.heap.size + 1) := s0
    clear s0
    go_wp2_with fail
    (try simp only [Exit.inBlock, Exit.then])
    refine bodyPost_ret (v := .tuple #[.agg #[.int .i64 s.step, .int .i64 s.thread, .int .i64 kind, .int .i64 (c : Int), .int .i64 (ca s.cells c).2, .int .i64 wrote, .bool done], .int .i64 0]) ?_ rfl ⟨rfl, ?_⟩
    · rw [results_cell_tmp rfl]
      go_simp
    · have hs1 := hs0.out
      have K7 := keeps_set7 (w5.setCell ⟨mb, 5, none⟩ (.bool false)) w.heap.size (.int .i64 s.step) (.int .i64 s.thread) (.int .i64 kind) (.int .i64 (c : Int)) (.int .i64 (ca s.cells c).2) (.int .i64 wrote) (.bool done)
      have t1 : ∀ k, (Value.slice (some ⟨g, 0, none⟩) s.cells.length cap).ownBlock = some k → ¬ k = w.heap.size := fun k e e' => by
        have e1 : g = k := by simpa [Value.ownBlock] using e
        omega
      have t2 : ∀ k, (Value.slice (some ⟨gg, 0, none⟩) (s.log.length + 1) cap1).ownBlock = some k → ¬ k = w.heap.size := fun k e e' => by
        have e1 : gg = k := by simpa [Value.ownBlock] using e
        rcases lgg.out with e2 | e2
        · exact nL _ (by omega) e2
        · omega
      refine ⟨_, ⟨_, _, H7.out.keep K7 (fun e => nB e.symm) t1 t2, rfl⟩, KT.trans' K7 (fun _ _ e => e) (fun k hk e => by omega), fun k hk => ?_⟩
      simp [Value.ownBlock] at hk ⊢
      rcases hk with e | e | e
      · exact .inl (.inl e)
      · exact .inl (.inr (.inl e))
      · rcases lgg.out with e1 | e1
        · exact .inl (.inr (.inr (by rw [e]; exact e1)))
        · exact .inr (by omega)
set_option maxHeartbeats 1600000 in
set_option maxRecDepth 1000000 in
theorem add_ok {w : World} {mb : Nat} {s : Mm} {F : List Nat} (h : MI w mb s F) {c : Nat} (hc : c < s.cells.length) (hfr : s.free = true) (hlog : (s.log.length + 1) * 56 ≤ 140737488355328) (u : Int) :
    Calls Tryz.prog 79 #[.pointer (some ⟨mb, 0, none⟩), .int .i64 (c : Int), .int .i64 u] w fun e w' =>
      e = .returned (.tuple #[.int .i64 (ca s.cells c).2, .int .i64 0]) ∧ ∃ F', MI w' mb (s.take 3 c (wrap64 ((ca s.cells c).2 + u)) true) F' ∧ Left w w' F F' := by
  have hmf : ∀ (fn : Fn) (first cap : Array Value) (w : World), (Instr.makeFunc fn first cap).run Tryz.prog w = .ok (.func fn first cap) w := fun _ _ _ _ => rfl
  have K0 : Keeps (fun _ => False) w (w.alloc (.cells #[.int .i64 u] 2)) := (Keeps.refl _ w).alloc _
  have cu : (w.alloc (.cells #[.int .i64 u] 2)).cell? ⟨w.heap.size, 0, none⟩ = some (.int .i64 u) := by simp
  have hac := access_add (h.new K0) hc hfr hlog 3 (wrap64 ((ca s.cells c).2 + u)) true w.heap.size (fun W k => addw_any (k.cell cu (fun e => e)) _)
  clear cu
  go_enter Tryz.func79, Tryz.ntmps79
  go_wp2_with (go_at_call 100; refine hac.mono ?_; clear hac; rintro e w' ⟨rfl, F', h', l'⟩)
  go_ret2
  exact ⟨rfl, F', h'.new ((Keeps.refl _ _).alloc _), ((Left.new K0).trans l').trans (Left.new ((Keeps.refl _ _).alloc _))⟩
end Go.Proofs.YtgjndhbfjofkeaaGreatDoor

namespace Go.Proofs.YtgjndhbfjofkeaaGreatDoor
open Go.RowKit
attribute [local go_sem] Oper.semAt_some run_store_nf run_store_f
def Mm.bump (m : Mm) (c : Nat) : Mm := m.take 3 c (wrap64 ((ca m.cells c).2 + 1)) true
theorem had_bump (m : Mm) (k : Nat) : (m.bump k).had := fun _ _ => by simp [Mm.bump, Mm.take]
theorem log_bump (m : Mm) (k : Nat) : (m.bump k).log.length = m.log.length + 1 := by simp [Mm.bump, Mm.take]
section
variable {w w' : World} {ρ ρ' ρ'' : Nat → Nat} {u j : Nat} {c : Sc} {ab rb n n' : Nat} {x x' : Tx} {f f' : Int → Option Nat} {s s' : Ws} {m m' : Mm} {r r' : Ro}
theorem sbump {wb mb : Nat} (h : St w ρ u j wb mb s m) {q : Nat} (hc : q < m.cells.length) (hfr : m.free = true) (hlog : (m.log.length + 1) * 56 ≤ 140737488355328) :
    Calls Tryz.prog 79 #[.pointer (some ⟨mb, 0, none⟩), .int .i64 (q : Int), .int .i64 1] w fun e w' =>
      e = .returned (.tuple #[.int .i64 (ca m.cells q).2, .int .i64 0]) ∧ ∃ ρ', St w' ρ' u j wb mb s (m.bump q) ∧ Ext (Sr u j) w w' ρ ρ' := by
  obtain ⟨F, hm1, hF⟩ := h.mj
  refine (add_ok hm1 hc hfr hlog 1).mono ?_
  rintro e w' ⟨rfl, F', h', l⟩
  obtain ⟨ρ', k⟩ := MJ.next hF h' l
  exact ⟨rfl, ρ', (h.mem k).1, (h.mem k).2⟩
set_option maxHeartbeats 800000 in
set_option maxRecDepth 1000000 in
theorem must_i64 (w : World) (v : Int) : Calls Tryz.prog 166 #[.int .i64 v, .int .i64 0] w fun e w' => e = .returned (.int .i64 v) ∧ w' = w := by
  go_enter Tryz.func166, Tryz.ntmps166
  go_wp2
  go_ret
  exact ⟨rfl, rfl⟩
def Tx.boostRow (x : Tx) (m : Mm) (q : Nat) : Ro := ({ x.blank with kind := 14, object := x.object } : Ro).acc (m.bump q).took
set_option maxHeartbeats 800000 in
set_option maxRecDepth 1000000 in
theorem boost_goes {q : Nat} (hq : x.prio = (q : Int)) (hqi : q < m.cells.length) (hrk : 0 ≤ x.rank ∧ x.rank < 255) (hfr : m.free = true) (hlog : (m.log.length + 1) * 56 ≤ 140737488355328)
    (hp : x.phase = 1 ∨ x.phase = 2) (ho : I64 x.object) (hh : x.phase = 1 → ¬ hld c.rs x.object) (hl : c.rs.length ≤ 1000000000) {v : Nat} (hbv : x.base = (v : Int)) (hv : v < s.vals.length) (hv2 : s.vals.length ≤ 1000000000) (w : World) :
    GoesK w 150 u j c ab ρ x ({ x with rank := x.rank + 1 } : Tx).thru (x.opRs c.rs) n n f f s s m (m.bump q) { x.boostRow m q with entry := x.opEn c.rs, told := true, val := s.vl v } := by
  intro W rb _ _ hA hR
  have HQ : Hid (x.prio = (q : Int)) := hq
  have HB : Hid (x.base = (v : Int)) := hbv
  have HH : Hid (x.phase = 1 → ¬ hld c.rs x.object) := hh
  have HP : Hid (x.phase = 1 ∨ x.phase = 2) := hp
  have HV : Hid (v < s.vals.length) := hv
  have hwr : IntKind.i64.wrap (x.rank + 1) = x.rank + 1 := by rw [IntKind.wrap_i64]; omega
  have hq5 := hR.cl
  have r5 := hq5.c 5 _ rfl
  have zr5 := hq5.z 5 (by show 5 < 26; decide)
  have r7 := hq5.c 7 _ rfl
  have zr7 := hq5.z 7 (by show 7 < 26; decide)
  have hc := hA.cl
  have f17 := hc.c 17 _ rfl
  have hR0 : RX (W.setCell ⟨rb, 5, none⟩ (.int .i64 14)) ρ c ab rb { x.blank with kind := 14 } := hR.set1 (o := 5) (by decide) _ rfl
  have hR1 : RX ((W.setCell ⟨rb, 5, none⟩ (.int .i64 14)).setCell ⟨rb, 7, none⟩ (.int .i64 x.object)) ρ c ab rb { x.blank with kind := 14, object := x.object } := hR0.set1 (o := 7) (by decide) _ rfl
  have hA1 := (hA.setR hR 5 (.int .i64 14)).setR hR0 7 (.int .i64 x.object)
  have fr1 := ((Fr.refl (OwnR c ab rb) u j W ρ).setR 5 (.int .i64 14)).setR 7 (.int .i64 x.object)
  have n1 := hR.n1
  have n1' := hR.n1.symm
  clear hq5 hc hq hbv hh hp hv hrk
  go_enter Tryz.func150, Tryz.ntmps150
  go_wp2_with fail
  clear r5 zr5 r7 zr7 f17 hR0
  generalize (W.setCell ⟨rb, 5, none⟩ (.int .i64 14)).setCell ⟨rb, 7, none⟩ (.int .i64 x.object) = W1 at *
  replace hA1 := hA1.new (Keeps.refl _ W1).drew
  replace hR1 := hR1.new (Keeps.refl _ W1).drew
  replace fr1 := fr1.kN (Keeps.refl _ W1).drew
  have hS := sbump hA1.st hqi hfr hlog
  rw [← HQ.out] at hS
  have hc := hA1.cl
  have f0 := hc.c 0 _ rfl
  have f6 := hc.c 6 _ rfl
  clear hc
  go_region_held3 (fun w' => w'.cell? ⟨ab, 0, none⟩ = some (.pointer (some ⟨c.mb, 0, none⟩)) ∧ w'.cell? ⟨ab, 6, none⟩ = some (.int .i64 x.prio)) (go_keep) (first | (go_at_call 79; refine hS.mono ?_; clear hS; rintro e W3 ⟨rfl, ρ3, s3, x3⟩; have hA3 := hA1.run s3 x3; have hR3 := hR1.run (Sr.not0 hA1.st) x3; have fr3 := fr1.ex x3; have hc3 := hA3.cl; have g0 := hc3.c 0 _ rfl; have g6 := hc3.c 6 _ rfl) | (go_at_call 166; refine (must_i64 _ _).mono ?_; rintro e W4 ⟨rfl, rfl⟩))
  clear g0 g6 hc3 hA1 hR1 fr1 s3 x3 f0 f6
  have hT := atook hA3 hR3 (had_bump m _) (by rw [log_bump]; omega)
  go_wp2_with fail
  refine hT.mono ?_
  rintro e W8 ⟨rfl, hA8, hR8, k8⟩
  have fr8 := fr3.kR k8
  have hc := hA8.cl
  have f8 := hc.c 8 _ rfl
  have zf8 := hc.z 8 (by show 8 < 36; decide)
  have hA9 : AX (W8.setCell ⟨ab, 8, none⟩ (.int .i64 (x.rank + 1))) ρ3 u j c ab { x with rank := x.rank + 1 } n f s (m.bump q) := hA8.set1 (o := 8) (by decide) _ rfl
  have hR9 := hR8.setA 8 (.int .i64 (x.rank + 1))
  have fr9 := fr8.setA 8 (.int .i64 (x.rank + 1))
  have hO := opened_any hA9 hR9 HP.out ho HH.out hl HB.out HV.out hv2
  clear hT hc
  go_wp2_with fail
  clear f8 zf8 hA8 hR8 fr8
  generalize W8.setCell ⟨ab, 8, none⟩ (.int .i64 (x.rank + 1)) = W9 at *
  refine hO.mono ?_
  rintro e W10 ⟨rfl, c', rs4, hR4⟩
  clear hO
  go_wp2_with fail
  go_end0
  exact ⟨rfl, ρ3, c', ⟨rs4.sam, rs4.ax, fr9.tr rs4.fr, fun k hk => (rs4.bk k hk).imp id (fun e => Nat.le_trans fr9.keeps.size e)⟩, hR4⟩
end
end Go.Proofs.YtgjndhbfjofkeaaGreatDoor

