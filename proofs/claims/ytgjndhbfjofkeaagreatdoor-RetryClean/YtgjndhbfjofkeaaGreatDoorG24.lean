import Derived.Test.YtgjndhbfjofkeaaGreatDoorG21
import Derived.Test.YtgjndhbfjofkeaaGreatDoorG23
import Derived.Test.YtgjndhbfjofkeaaGreatDoorG05
namespace Go.Proofs.YtgjndhbfjofkeaaGreatDoor
open Go.RowKit
attribute [local go_sem] Oper.semAt_some run_store_nf run_store_f
structure CutE (S : Nat → World → Prop) (F : Nat → Act) (e : Exit) (a : Act) (w : World) : Prop where
  go : e = .normal ∧ ∃ E, a = F E ∧ S E w
theorem wp_cutE {P : Program} {c : Code} {a : Act} {w : World} {Q' : Exit → Act → World → Prop} {R : (Nat → Act) → Exit → Act → World → Prop} (F : Nat → Act) (h : c.wp P (R F) a w) (hq : ∀ e a w, R F e a w → Q' e a w) : c.wp P Q' a w := wp_mono h hq
theorem keeps_drewN {S : Nat → Prop} {a b : World} (h : Keeps S a b) : ∀ n : Nat, Keeps S a (b.drewN n) := fun _ => ⟨h.os, h.tape, h.output, h.size, h.block⟩
structure DX (w : World) (ρ : Nat → Nat) (c : Sc) (ab : Nat) (g nd : Nat) (xs : Nat → Int) (kd : Nat) : Prop where
  dr : IsDr w c.db g nd xs kd
  r1 : ρ c.db = 0 ∧ c.db ≠ ab ∧ ¬ c.Q c.db
  r2 : ρ g = 0 ∧ g ≠ ab ∧ ¬ c.Q g
  ne : g ≠ c.db
  lt : g < w.heap.size
  i64 : ∀ i, In64 (xs i)
theorem IsDr.keep {w w' : World} {b g n k : Nat} {xs : Nat → Int} (h : IsDr w b g n xs k) {S : Nat → Prop} (K : Keeps S w w') (h1 : ¬ S b) (h2 : ¬ S g) : IsDr w' b g n xs k :=
  ⟨K.cell h.row h1, K.cell h.taken h1, (K.frozen (p := ⟨b, 1, none⟩) (World.block_lt_of_cell? _ _ h.taken) h1).trans h.free, fun i hi => K.cell (h.nums i hi) h2, h.le, h.small⟩
def drv (nd : Nat) (xs : Nat → Int) (kd : Nat) : Int := if kd < nd then xs kd else 0
def drk (nd kd : Nat) : Nat := if kd < nd then kd + 1 else kd
theorem next_any {w : World} {b g nd kd : Nat} {xs : Nat → Int} (h : IsDr w b g nd xs kd) (hne : g ≠ b) :
    Calls Tryz.prog 163 #[.pointer (some ⟨b, 0, none⟩)] w fun e w' => e = .returned (.int .i64 (drv nd xs kd)) ∧ IsDr w' b g nd xs (drk nd kd) ∧ Keeps (fun k => k = b) w w' := by
  unfold drv drk
  by_cases hk : kd < nd
  · rw [if_pos hk, if_pos hk]
    refine (next_some h hk).mono ?_
    rintro e w' ⟨rfl, m, rfl⟩
    have K : Keeps (fun k => k = b) w ((w.setCell ⟨b, 1, none⟩ (.int .i64 ((kd : Int) + 1))).drewN m) := keeps_drewN ((Keeps.refl _ w).setA _ _) m
    refine ⟨rfl, ⟨?_, ?_, ?_, fun i hi => K.cell (h.nums i hi) hne, hk, h.small⟩, K⟩
    · show (w.setCell ⟨b, 1, none⟩ (.int .i64 ((kd : Int) + 1))).cell? ⟨b, 0, none⟩ = _
      rw [World.cell?_setCell_other _ _ _ _ (by intro e2; injection e2 with _ e3; omega)]
      exact h.row
    · show (w.setCell ⟨b, 1, none⟩ (.int .i64 ((kd : Int) + 1))).cell? ⟨b, 1, none⟩ = _
      rw [World.cell?_setCell_same _ _ _ h.taken]
      rfl
    · show (w.setCell ⟨b, 1, none⟩ (.int .i64 ((kd : Int) + 1))).frozen? ⟨b, 1, none⟩ = _
      rw [World.frozen?_setCell]
      exact h.free
  · rw [if_neg hk, if_neg hk]
    refine (next_none h (by have := h.le; omega)).mono ?_
    rintro e w' ⟨rfl, m, rfl⟩
    have K : Keeps (fun k => k = b) w (w.drewN m) := keeps_drewN (Keeps.refl _ w) m
    exact ⟨rfl, h.keep (keeps_drewN (Keeps.refl (fun _ => False) w) m) (fun e => e) (fun e => e), K⟩
section
variable {w w' : World} {ρ ρ' ρ'' : Nat → Nat} {u j : Nat} {c : Sc} {ab rb n n' : Nat} {x x' : Tx} {f f' : Int → Option Nat} {s s' : Ws} {m m' : Mm} {r r' : Ro}
def lookM (s : Ws) (m : Mm) (k en q : Nat) : Mm := if lkT k = 1 then m.load q else if lkT k = 2 then m.load (s.att en).flag else m
def lookT (m : Mm) (k q : Nat) : Int := if lkT k = 1 then (ca m.cells q).2 else 0
def lookF (s : Ws) (m : Mm) (k en : Nat) : Bool := if lkT k = 2 then decide ((ca m.cells (s.att en).flag).2 = 1) else false
def lookR (s : Ws) (m : Mm) (k en q : Nat) (r : Ro) : Ro := if lkT k = 0 then r else r.acc (lookM s m k en q).took
theorem lk_cases {k : Nat} (h : k < 5) : lkT k = 0 ∨ lkT k = 1 ∨ lkT k = 2 := by
  rcases (by omega : k = 0 ∨ k = 1 ∨ k = 2 ∨ k = 3 ∨ k = 4) with rfl | rfl | rfl | rfl | rfl <;> simp [lkT]
theorem regard_any {k B : Nat} {p : Int} {a0 a2 a3 a5 a6 : Int} (hA : AX w ρ u j c ab x n f s m) (hR : RX w ρ c ab rb r) (hB : BX w ρ c ab rb B (cfl a0 0 a2 a3 false a5 a6 0)) (hM : Mg w c.gb k p) (hT : TR w) (e0 e1 : Int) {q en : Nat} (hqi : q < m.cells.length) (hf : Wf s m) (hen : x.enemy = (en : Int)) (hei : en < s.atts.length) (hfr : m.free = true) (hlog : (m.log.length + 1) * 56 ≤ 140737488355328) :
    Calls Tryz.prog 162 #[.pointer (some ⟨ab, 0, none⟩), .pointer (some ⟨rb, 0, none⟩), .agg #[.int .i64 e0, .int .i64 e1, .int .i64 (q : Int)], .pointer (some ⟨B, 0, none⟩)] w fun e w' => e = .returned (.tuple #[]) ∧ ∃ ρ', AX w' ρ' u j c ab x n f s (lookM s m k en q) ∧ RX w' ρ' c ab rb (lookR s m k en q r) ∧ BX w' ρ' c ab rb B (cfl a0 (lookT m k q) a2 a3 (lookF s m k en) a5 a6 0) ∧ Fr (fun q => OwnR c ab rb q ∨ q = B) u j w w' ρ ρ' := by
  unfold lookR lookM lookT lookF
  rcases lk_cases hM.1 with h | h | h
  · rw [if_neg (by omega), if_neg (by omega), if_pos h, if_neg (by omega), if_neg (by omega)]
    exact (regard_0 hA hR hB (by show 0 < 8; decide) hM hT h e0 e1 (q : Int)).mono (fun e w' ⟨h1, h2, h3, h4, h5⟩ => ⟨h1, ρ, h2, h3, h4, Fr.of_keeps h5 (fun _ _ e => e.elim)⟩)
  · rw [if_pos h, if_pos h, if_neg (by omega), if_neg (by omega)]
    exact regard_1 hA hR hB hM hT h e0 e1 (q : Int) rfl hqi hfr hlog
  · rw [if_neg (by omega), if_pos h, if_neg (by omega), if_neg (by omega), if_pos h]
    exact regard_2 hA hR hB hM hT h e0 e1 (q : Int) hf hen hei hfr hlog
def Tx.obeys (x : Tx) (k : Nat) (v : CM.Vd) : Tx := { x with left := v.n, nx := some (if v.a = true then 176 else if flT k = true ∧ x.flag = false then 178 else 179) }
theorem obey_any (hgn : ∀ q, q = 0 ∨ q = c.gb → ¬ q = ab) (hA : AX w ρ u j c ab x n f s m) {k : Nat} {p : Int} (hM : Mg w c.gb k p) (hT : TR w) (v : CM.Vd) :
    Calls Tryz.prog 165 #[.pointer (some ⟨ab, 0, none⟩), .agg #[.bool v.a, .bool v.t, .int .i64 v.n]] w fun e w' => e = .returned (.tuple #[]) ∧ CL w' ab ((x.obeys k v).cells c ab) ∧ Keeps (fun k => k = ab) w w' := by
  unfold Tx.obeys
  cases hv : v.a with
  | true => rw [if_pos rfl]; exact obey_kill hA rfl
  | false =>
    rw [if_neg (by simp)]
    cases hfl : flT k with
    | false => rw [if_neg (by simp)]; exact obey_wait hgn hA hM hT rfl hfl
    | true =>
      by_cases hxf : x.flag = false
      · rw [if_pos ⟨rfl, hxf⟩]; exact obey_up hgn hA hM hT rfl hfl hxf
      · rw [if_neg (by simp [hxf])]; exact obey_wait2 hgn hA hM hT rfl hfl (by simpa using hxf)
def Tx.conf (x : Tx) (s : Ws) (m : Mm) (k en q nd : Nat) (xs : Nat → Int) (kd : Nat) : CM.Cf := ⟨x.rank, lookT m k q, x.stamp, (s.att en).stamp, lookF s m k en, x.tries, x.waited, drv nd xs kd⟩
def Tx.judgeRow (x : Tx) (s : Ws) (m : Mm) (k en q : Nat) (v : CM.Vd) : Ro := { lookR s m k en q (({ x.blank with kind := 8 } : Ro).vs x) with abort := v.a, timeout := v.t, wait := v.n }
set_option maxHeartbeats 1600000 in
set_option maxRecDepth 1000000 in
theorem judge_goes {w : World} {k : Nat} {p : Int} (hM : Fx w ρ c ab k p) {g nd kd : Nat} {xs : Nat → Int} (hD : DX w ρ c ab g nd xs kd) (hf : Wf s m) {en q : Nat} (hen : x.enemy = (en : Int)) (hei : en < s.atts.length) (hpr : (s.att en).prio = (q : Int)) (hqi : q < m.cells.length) (hfr : m.free = true) (hlog : (m.log.length + 1) * 56 ≤ 140737488355328)
    (hok : (x.conf s m k en q nd xs kd).ok) (ht : 0 ≤ x.tries ∧ x.tries ≤ 1000000000) (hng : ∀ z, z = 0 ∨ z = c.gb → z ≠ c.db) {v : CM.Vd} (hv : CM.judgev k p (x.conf s m k en q nd xs kd).norm = v) :
    GoesX (fun z => z = c.db) (fun W => IsDr W c.db g nd xs (drk nd kd)) w 149 u j c ab ρ x (({ x with tries := x.tries + 1 } : Tx).obeys k v) c.rs n n f f s s m (lookM s m k en q) (x.judgeRow s m k en q v) := by
  intro W rb hrb hW hA hR
  have HEN : Hid (x.enemy = (en : Int)) := hen
  have HPR : Hid ((s.att en).prio = (q : Int)) := hpr
  have S0 : ¬ Sr u j 0 := Sr.not0 hA.st
  have HM : Hid (Fx w ρ c ab k p) := hM
  have HD : Hid (DX w ρ c ab g nd xs kd) := hD
  have HOK : Hid (x.conf s m k en q nd xs kd).ok := hok
  have HV : Hid (CM.judgev k p (x.conf s m k en q nd xs kd).norm = v) := hv
  have HT : Hid (0 ≤ x.tries ∧ x.tries ≤ 1000000000) := ht
  have HR : Hid (RX W ρ c ab rb x.blank) := hR
  have HF : Hid (Wf s m) := hf
  have HNG : Hid (∀ z, z = 0 ∨ z = c.gb → z ≠ c.db) := hng
  clear hng hM hD hok hv ht hf
  have hq := hR.cl
  have r5 := hq.c 5 _ rfl
  have zr5 := hq.z 5 (by show 5 < 26; decide)
  have hR1 : RX (W.setCell ⟨rb, 5, none⟩ (.int .i64 8)) ρ c ab rb { x.blank with kind := 8 } := hR.set1 (o := 5) (by decide) _ rfl
  have hA1 := hA.setR hR 5 (.int .i64 8)
  have fr1 := (Fr.refl (OwnR c ab rb) u j W ρ).setR 5 (.int .i64 8)
  have hag := against_any hA1 hR1
  clear hq hen hpr
  go_enter Tryz.func149, Tryz.ntmps149
  go_wp2_with fail
  clear r5 zr5
  generalize W.setCell ⟨rb, 5, none⟩ (.int .i64 8) = W1 at *
  refine hag.mono ?_
  rintro e W2 ⟨rfl, hA2, hR2, fr2⟩
  have fr3 := fr1.tr fr2
  clear hag hA1 hR1 fr1 fr2 hA hR
  go_wp2_with fail
  -- the enemy's record
  apply wp_cutE (R := fun F e a w => CutE (fun E W' => Keeps (fun _ => False) W2 W' ∧ CL W' E [.int .i64 (s.att en).thread, .int .i64 (s.att en).stamp, .int .i64 (s.att en).prio] ∧ W2.heap.size ≤ E) F e a w)
  case h =>
    have ka : Keeps (fun _ => False) W2 (W2.alloc (.cells #[.int .i64 0, .int .i64 0, .int .i64 0] 51)).drew := ((Keeps.refl _ W2).alloc _).drew
    have hEa : CL (W2.alloc (.cells #[.int .i64 0, .int .i64 0, .int .i64 0] 51)).drew W2.heap.size [.int .i64 0, .int .i64 0, .int .i64 0] := (CL.made W2 [.int .i64 0, .int .i64 0, .int .i64 0] _).drew
    have hXa := hA2.new ka
    have hXb := hA2.new (Keeps.refl _ W2).drew
    have hLa := Owner_ok hXa.st hei
    have hLb := Owner_ok hXb.st hei
    rw [← HEN.out] at hLa hLb
    have HS : ∀ W', Keeps (fun _ => False) W2 W' → W'.cell? ⟨ab, 1, none⟩ = some (.pointer (some ⟨c.wb, 0, none⟩)) ∧ W'.cell? ⟨ab, 31, none⟩ = some (.int .i64 x.enemy) := fun W' k => by
      have hc9 := (hA2.new k).cl
      exact ⟨hc9.c 1 _ rfl, hc9.c 31 _ rfl⟩
    have n0 : ∀ B, W2.heap.size ≤ B → (B < W2.heap.size → False) := fun B h e => absurd e (Nat.not_lt.2 h)
    have lta : ab < W2.heap.size := hA2.alt
    go_region_held3 (fun w' => w'.cell? ⟨ab, 1, none⟩ = some (.pointer (some ⟨c.wb, 0, none⟩)) ∧ w'.cell? ⟨ab, 31, none⟩ = some (.int .i64 x.enemy)) (first | exact HS _ (Keeps.refl _ W2).drew | exact HS _ ka | exact HS _ kk | exact HS _ (kk.alloc _) | exact HS _ kk4 | exact HS _ (kk4.alloc _) | exact HS _ (((kk4.setCell (n0 _ (Nat.le_refl _)) _).setCell (n0 _ (Nat.le_refl _)) _).setCell (n0 _ (Nat.le_refl _)) _) | exact HS _ (((kk4.setCell (n0 _ kk.size) _).setCell (n0 _ kk.size) _).setCell (n0 _ kk.size) _)) (first | (go_at_call 11; (with_reducible refine hLa.mono ?_); rintro e W3 ⟨rfl, k3⟩; have hA3 := hXa.new k3; have e3 := hEa.keep (by show 0 < 3; decide) k3 (fun e => e); have kk := ka.trans k3) | (go_at_call 11; (with_reducible refine hLb.mono ?_); rintro e W3 ⟨rfl, k3⟩; have hA3 := hXb.new k3; have kk := (Keeps.refl (fun _ => False) W2).drew.trans k3) | (go_at_call 161; refine (must_own _ _ _ _).mono ?_; rintro e W4 ⟨rfl, k4⟩; first | (have e4 := e3.keep (by show 0 < 3; decide) k4 (fun e => e); have hA4 := hA3.new k4; have kk4 := kk.trans k4; have e0 := e4.c 0 _ rfl; have e1 := e4.c 1 _ rfl; have e2 := e4.c 2 _ rfl; have ze0 := e4.z 0 (by show 0 < 3; decide); have ze1 := e4.z 1 (by show 1 < 3; decide); have ze2 := e4.z 2 (by show 2 < 3; decide)) | (have e4 := (CL.made W3 [.int .i64 0, .int .i64 0, .int .i64 0] 51).keep (by show 0 < 3; decide) k4 (fun e => e); have hA4 := (hA3.new ((Keeps.refl _ W3).alloc _)).new k4; have kk4 := (kk.alloc _).trans k4; have e0 := e4.c 0 _ rfl; have e1 := e4.c 1 _ rfl; have e2 := e4.c 2 _ rfl; have ze0 := e4.z 0 (by show 0 < 3; decide); have ze1 := e4.z 1 (by show 1 < 3; decide); have ze2 := e4.z 2 (by show 2 < 3; decide)) | (have hA4 := hA3.new k4; have kk4 := kk.trans k4)))
    · obtain ⟨E, hE⟩ : ∃ E, W4.heap.size = E := ⟨_, rfl⟩
      have hQ := CL.made W4 [.int .i64 (s.att en).thread, .int .i64 (s.att en).stamp, .int .i64 (s.att en).prio] 51
      rw [hE] at hQ ⊢
      exact ⟨rfl, E, rfl, kk4.alloc _, hQ, hE ▸ kk4.size⟩
    · exact ⟨rfl, W3.heap.size, rfl, ((kk4.setCell (n0 _ kk.size) _).setCell (n0 _ kk.size) _).setCell (n0 _ kk.size) _, ((e4.set (o := 0) (by show 0 < 3; decide) (.int .i64 (s.att en).thread)).set (o := 1) (by show 1 < 3; decide) (.int .i64 (s.att en).stamp)).set (o := 2) (by show 2 < 3; decide) (.int .i64 (s.att en).prio), kk.size⟩
    · exact ⟨rfl, W2.heap.size, rfl, ((kk4.setCell (n0 _ (Nat.le_refl _)) _).setCell (n0 _ (Nat.le_refl _)) _).setCell (n0 _ (Nat.le_refl _)) _, ((e4.set (o := 0) (by show 0 < 3; decide) (.int .i64 (s.att en).thread)).set (o := 1) (by show 1 < 3; decide) (.int .i64 (s.att en).stamp)).set (o := 2) (by show 2 < 3; decide) (.int .i64 (s.att en).prio), Nat.le_refl _⟩
  case hq =>
  rintro _ _ W3 ⟨rfl, E, rfl, kE, hE, lE⟩
  have hA3 := hA2.new kE
  have hR3 := hR2.new kE
  have fr4 := fr3.kN kE
  have ltE : E < W3.heap.size := hE.lt (by show 0 < 3; decide)
  have hrE : ρ E = 0 := hA2.st.bnd _ lE
  have neE : E ≠ ab ∧ ¬ c.Q E ∧ E ≠ rb := ⟨by have := hA2.alt; omega, fun e => by have := hA2.qlt e; omega, by have := hR2.lt; omega⟩
  clear hA2 hR2 fr3
  go_wp2_with fail
  -- the conflict
  have kb : Keeps (fun _ => False) W3 W3.drew := (Keeps.refl _ W3).drew
  have HS : ∀ W', Keeps (fun _ => False) W3 W' → W'.cell? ⟨ab, 8, none⟩ = some (.int .i64 x.rank) ∧ W'.cell? ⟨ab, 5, none⟩ = some (.int .i64 x.stamp) ∧ W'.cell? ⟨ab, 32, none⟩ = some (.int .i64 x.tries) ∧ W'.cell? ⟨ab, 33, none⟩ = some (.int .i64 x.waited) ∧ W'.cell? ⟨E, 1, none⟩ = some (.int .i64 (s.att en).stamp) := fun W' k => by
    have hc9 := (hA3.new k).cl
    exact ⟨hc9.c 8 _ rfl, hc9.c 5 _ rfl, hc9.c 32 _ rfl, hc9.c 33 _ rfl, (hE.keep (by show 0 < 3; decide) k (fun e => e)).c 1 _ rfl⟩
  go_region_held3 (fun w' => w'.cell? ⟨ab, 8, none⟩ = some (.int .i64 x.rank) ∧ w'.cell? ⟨ab, 5, none⟩ = some (.int .i64 x.stamp) ∧ w'.cell? ⟨ab, 32, none⟩ = some (.int .i64 x.tries) ∧ w'.cell? ⟨ab, 33, none⟩ = some (.int .i64 x.waited) ∧ w'.cell? ⟨E, 1, none⟩ = some (.int .i64 (s.att en).stamp)) (first | exact HS _ kb | exact HS _ (kb.alloc _)) (fail)
  rename_i hHeld
  clear hHeld HS kb
  have kB : Keeps (fun _ => False) W3 (W3.alloc (.cells #[.int .i64 x.rank, .int .i64 0, .int .i64 x.stamp, .int .i64 (s.att en).stamp, .bool false, .int .i64 x.tries, .int .i64 x.waited, .int .i64 0] 229)).drew := ((Keeps.refl _ W3).alloc _).drew
  have hB : BX (W3.alloc (.cells #[.int .i64 x.rank, .int .i64 0, .int .i64 x.stamp, .int .i64 (s.att en).stamp, .bool false, .int .i64 x.tries, .int .i64 x.waited, .int .i64 0] 229)).drew ρ c ab rb W3.heap.size (cfl x.rank 0 x.stamp (s.att en).stamp false x.tries x.waited 0) := ⟨(CL.made W3 (cfl x.rank 0 x.stamp (s.att en).stamp false x.tries x.waited 0) _).drew, hA3.st.bnd _ (Nat.le_refl _), by have := hA3.alt; omega, fun e => by have := hA3.qlt e; omega, by have := hR3.lt; omega⟩
  have gE : W.heap.size ≤ W3.heap.size := fr4.keeps.size
  obtain ⟨B, hBe⟩ : ∃ B, W3.heap.size = B := ⟨_, rfl⟩
  rw [hBe] at hB gE ⊢
  have hA4 := hA3.new kB
  have hR4 := hR3.new kB
  have fr5 := fr4.kN kB
  have hE4 := hE.keep (by show 0 < 3; decide) kB (fun e => e)
  have ltEB : E ≠ B := by omega
  clear hA3 hR3 fr4 hE kE kB hBe ltE
  generalize (W3.alloc (.cells #[.int .i64 x.rank, .int .i64 0, .int .i64 x.stamp, .int .i64 (s.att en).stamp, .bool false, .int .i64 x.tries, .int .i64 x.waited, .int .i64 0] 229)).drew = W4 at *
  obtain ⟨hg4, ht4⟩ := HM.out.fr hW S0 fr5 (HM.out.nR hrb)
  have e0 := hE4.c 0 _ rfl
  have e1 := hE4.c 1 _ rfl
  have e2 := hE4.c 2 _ rfl
  rw [HPR.out] at e2
  have hRG := regard_any hA4 hR4 hB hg4 ht4 (s.att en).thread (s.att en).stamp hqi HF.out HEN.out hei hfr hlog
  clear hA4 hR4 hg4 ht4
  go_wp2_with fail
  refine hRG.mono ?_
  rintro e W5 ⟨rfl, ρ5, hA5, hR5, hB5, fr6⟩
  have A5 : Fr (fun z => OwnR c ab rb z ∨ z = c.db) u j W W5 ρ ρ5 := fr5.trans fr6 (fun _ _ e => .inl e) (fun i hi e => e.elim (fun e => .inl e) (fun e => by omega))
  have fr56 : Keeps (fun z => Sr u j (ρ z) ∨ (OwnR c ab rb z ∨ z = B)) W W5 := ((fr5.mono (fun _ _ e => Or.inl e) : Fr (fun z => OwnR c ab rb z ∨ z = B) u j W W4 ρ ρ).tr fr6).keeps
  clear hRG e0 e1 e2 hE4 hB fr5 fr6
  -- the draw
  have dlt : ∀ z, z = c.db ∨ z = g → z < w.heap.size := fun z hz => hz.elim (fun e => e ▸ World.block_lt_of_cell? _ _ HD.out.dr.row) (fun e => e ▸ HD.out.lt)
  have dfar : ∀ z, z = c.db ∨ z = g → ρ z = 0 ∧ z ≠ ab ∧ ¬ c.Q z ∧ z ≠ rb ∧ z ≠ B := fun z hz => by
    have h1 := dlt z hz
    have h2 := hW.size
    rcases hz with rfl | rfl
    · exact ⟨HD.out.r1.1, HD.out.r1.2.1, HD.out.r1.2.2, by omega, by omega⟩
    · exact ⟨HD.out.r2.1, HD.out.r2.2.1, HD.out.r2.2.2, by omega, by omega⟩
  have ds5 : IsDr W5 c.db g nd xs kd := by
    have h1 := HD.out.dr.keep hW (fun e => e) (fun e => e)
    refine h1.keep fr56 ?_ ?_
    · exact fun e => e.elim (fun e => S0 (by rw [(dfar _ (.inl rfl)).1] at e; exact e)) (fun e => e.elim (fun e => e.elim (dfar _ (.inl rfl)).2.1 (fun e => e.elim (dfar _ (.inl rfl)).2.2.1 (dfar _ (.inl rfl)).2.2.2.1)) (dfar _ (.inl rfl)).2.2.2.2)
    · exact fun e => e.elim (fun e => S0 (by rw [(dfar _ (.inr rfl)).1] at e; exact e)) (fun e => e.elim (fun e => e.elim (dfar _ (.inr rfl)).2.1 (fun e => e.elim (dfar _ (.inr rfl)).2.2.1 (dfar _ (.inr rfl)).2.2.2.1)) (dfar _ (.inr rfl)).2.2.2.2)
  have ltW : w.heap.size ≤ W.heap.size := hW.size
  have r5 : ρ5 c.db = 0 := (A5.old _ (Nat.lt_of_lt_of_le (dlt _ (.inl rfl)) ltW)).trans (dfar _ (.inl rfl)).1
  have hN := next_any ds5 HD.out.ne
  have hc := hA5.cl
  have f3 := hc.c 3 _ rfl
  clear hc fr56
  go_wp2_with fail
  refine hN.mono ?_
  rintro e W6 ⟨rfl, ds6, k6⟩
  have hA6 := hA5.far k6 r5 (dfar _ (.inl rfl)).2.1 (dfar _ (.inl rfl)).2.2.1
  have hR6 := hR5.far k6 (dfar _ (.inl rfl)).2.2.2.1
  have hB6 : BX W6 ρ5 c ab rb B _ := ⟨hB5.cl.keep (by show 0 < 8; decide) k6 (fun e => (dfar _ (.inl rfl)).2.2.2.2 e.symm), hB5.rr, hB5.n1, hB5.n2, hB5.n3⟩
  have A6 := A5.tr (Fr.of_keeps k6 (fun _ _ e => .inr e))
  clear hN hA5 hR5 hB5 A5 ds5 f3
  have hq6 := hB6.cl
  have b7 := hq6.c 7 _ rfl
  have zb7 := hq6.z 7 (by show 7 < 8; decide)
  have kS : Keeps (fun k => k = B) W6 (W6.setCell ⟨B, 7, none⟩ (.int .i64 (drv nd xs kd))) := (Keeps.refl _ W6).setA _ _
  have hA7 := hA6.far kS hB6.rr hB6.n1 hB6.n2
  have hR7 := hR6.far kS hB6.n3
  have hB7 : BX (W6.setCell ⟨B, 7, none⟩ (.int .i64 (drv nd xs kd))) ρ5 c ab rb B [.int .i64 x.rank, .int .i64 (lookT m k q), .int .i64 x.stamp, .int .i64 (s.att en).stamp, .bool (lookF s m k en), .int .i64 x.tries, .int .i64 x.waited, .int .i64 (drv nd xs kd)] := ⟨hq6.set (o := 7) (by show 7 < 8; decide) _, hB6.rr, hB6.n1, hB6.n2, hB6.n3⟩
  have ds7 := ds6.keep kS (fun e => (dfar _ (.inl rfl)).2.2.2.2 e) (fun e => (dfar _ (.inr rfl)).2.2.2.2 e)
  have A7 : Fr (fun z => OwnR c ab rb z ∨ z = c.db) u j W (W6.setCell ⟨B, 7, none⟩ (.int .i64 (drv nd xs kd))) ρ ρ5 := A6.trans (Fr.of_keeps (A := fun z => z = B) kS (fun _ _ e => e)) (fun _ _ e => e) (fun i hi e => by omega)
  clear hA6 hR6 hB6 hq6 ds6 A6 k6 kS
  go_wp2_with fail
  clear b7 zb7
  generalize W6.setCell ⟨B, 7, none⟩ (.int .i64 (drv nd xs kd)) = W7 at *
  -- the verdict
  have nA : ∀ z, z = 0 ∨ z = c.gb → ¬ (OwnR c ab rb z ∨ z = c.db) := fun z hz e => e.elim (HM.out.nR hrb z hz) (fun e => HNG.out z hz e)
  obtain ⟨hg7, ht7⟩ := HM.out.fr hW S0 A7 nA
  apply wp_cutE (R := fun F e a w => CutE (fun V W' => Keeps (fun _ => False) W7 W' ∧ CL W' V [.bool v.a, .bool v.t, .int .i64 v.n] ∧ W7.heap.size ≤ V) F e a w)
  case h =>
    have ka : Keeps (fun _ => False) W7 (W7.alloc (.cells #[.bool false, .bool false, .int .i64 0] 233)).drew := ((Keeps.refl _ W7).alloc _).drew
    have kb : Keeps (fun _ => False) W7 W7.drew := (Keeps.refl _ W7).drew
    have hEa : CL (W7.alloc (.cells #[.bool false, .bool false, .int .i64 0] 233)).drew W7.heap.size [.bool false, .bool false, .int .i64 0] := (CL.made W7 [.bool false, .bool false, .int .i64 0] _).drew
    have HJ : ∀ W', Mg W' c.gb k p → Calls Tryz.prog 164 #[.pointer (some ⟨c.gb, 0, none⟩), .agg #[.int .i64 x.rank, .int .i64 (lookT m k q), .int .i64 x.stamp, .int .i64 (s.att en).stamp, .bool (lookF s m k en), .int .i64 x.tries, .int .i64 x.waited, .int .i64 (drv nd xs kd)]] W' fun e w' => e = .returned (.agg #[.bool v.a, .bool v.t, .int .i64 v.n]) ∧ Keeps (fun _ => False) W' w' := fun W' hg => by
      have := CM.judge_any (w := W') (mb := c.gb) (k := k) (p := p) hg (x.conf s m k en q nd xs kd) HOK.out
      rw [HV.out] at this
      exact this
    have hJa := HJ _ (Mg.keep hg7 ka)
    have hJb := HJ _ (Mg.keep hg7 kb)
    have HS : ∀ W', Keeps (fun _ => False) W7 W' → W'.cell? ⟨ab, 2, none⟩ = some (.pointer (some ⟨c.gb, 0, none⟩)) ∧ W'.cell? ⟨B, 0, none⟩ = some (.int .i64 x.rank) ∧ W'.cell? ⟨B, 1, none⟩ = some (.int .i64 (lookT m k q)) ∧ W'.cell? ⟨B, 2, none⟩ = some (.int .i64 x.stamp) ∧ W'.cell? ⟨B, 3, none⟩ = some (.int .i64 (s.att en).stamp) ∧ W'.cell? ⟨B, 4, none⟩ = some (.bool (lookF s m k en)) ∧ W'.cell? ⟨B, 5, none⟩ = some (.int .i64 x.tries) ∧ W'.cell? ⟨B, 6, none⟩ = some (.int .i64 x.waited) ∧ W'.cell? ⟨B, 7, none⟩ = some (.int .i64 (drv nd xs kd)) := fun W' k => by
      have hc9 := (hA7.new k).cl
      have h9 := (hB7.new (by show 0 < 8; decide) k).cl
      exact ⟨hc9.c 2 _ rfl, h9.c 0 _ rfl, h9.c 1 _ rfl, h9.c 2 _ rfl, h9.c 3 _ rfl, h9.c 4 _ rfl, h9.c 5 _ rfl, h9.c 6 _ rfl, h9.c 7 _ rfl⟩
    have n0 : ∀ B, W7.heap.size ≤ B → (B < W7.heap.size → False) := fun B h e => absurd e (Nat.not_lt.2 h)
    go_region_held3 (fun w' => w'.cell? ⟨ab, 2, none⟩ = some (.pointer (some ⟨c.gb, 0, none⟩)) ∧ w'.cell? ⟨B, 0, none⟩ = some (.int .i64 x.rank) ∧ w'.cell? ⟨B, 1, none⟩ = some (.int .i64 (lookT m k q)) ∧ w'.cell? ⟨B, 2, none⟩ = some (.int .i64 x.stamp) ∧ w'.cell? ⟨B, 3, none⟩ = some (.int .i64 (s.att en).stamp) ∧ w'.cell? ⟨B, 4, none⟩ = some (.bool (lookF s m k en)) ∧ w'.cell? ⟨B, 5, none⟩ = some (.int .i64 x.tries) ∧ w'.cell? ⟨B, 6, none⟩ = some (.int .i64 x.waited) ∧ w'.cell? ⟨B, 7, none⟩ = some (.int .i64 (drv nd xs kd))) (first | exact HS _ kb | exact HS _ ka | exact HS _ kk4 | exact HS _ (kk4.alloc _) | exact HS _ (((kk4.setCell (n0 _ (Nat.le_refl _)) _).setCell (n0 _ (Nat.le_refl _)) _).setCell (n0 _ (Nat.le_refl _)) _)) (first | (go_at_call 164; (with_reducible refine hJa.mono ?_); rintro e W8 ⟨rfl, k8⟩; have kk4 := ka.trans k8; have e4 := hEa.keep (by show 0 < 3; decide) k8 (fun e => e); have e0 := e4.c 0 _ rfl; have e1 := e4.c 1 _ rfl; have e2 := e4.c 2 _ rfl; have ze0 := e4.z 0 (by show 0 < 3; decide); have ze1 := e4.z 1 (by show 1 < 3; decide); have ze2 := e4.z 2 (by show 2 < 3; decide)) | (go_at_call 164; (with_reducible refine hJb.mono ?_); rintro e W8 ⟨rfl, k8⟩; have kk4 := kb.trans k8))
    · obtain ⟨V, hV⟩ : ∃ V, W8.heap.size = V := ⟨_, rfl⟩
      have hQ := CL.made W8 [.bool v.a, .bool v.t, .int .i64 v.n] 233
      rw [hV] at hQ ⊢
      exact ⟨rfl, V, rfl, kk4.alloc _, hQ, hV ▸ kk4.size⟩
    · exact ⟨rfl, W7.heap.size, rfl, ((kk4.setCell (n0 _ (Nat.le_refl _)) _).setCell (n0 _ (Nat.le_refl _)) _).setCell (n0 _ (Nat.le_refl _)) _, ((e4.set (o := 0) (by show 0 < 3; decide) (.bool v.a)).set (o := 1) (by show 1 < 3; decide) (.bool v.t)).set (o := 2) (by show 2 < 3; decide) (.int .i64 v.n), Nat.le_refl _⟩
  case hq =>
  rintro _ _ W8 ⟨rfl, V, rfl, k8, hV, lV⟩
  have hA8 := hA7.new k8
  have hR8 := hR7.new k8
  have A8 := A7.kN k8
  have ds8 := ds7.keep k8 (fun e => e) (fun e => e)
  have nV : V ≠ ab ∧ ¬ c.Q V ∧ V ≠ rb := ⟨by have := hA7.alt; omega, fun e => by have := hA7.qlt e; omega, by have := hR7.lt; omega⟩
  clear hA7 hR7 A7 ds7 hB7 hg7 ht7
  go_wp2_with fail
  have v0 := hV.c 0 _ rfl
  have v1 := hV.c 1 _ rfl
  have v2 := hV.c 2 _ rfl
  have hq9 := hR8.cl
  have r14 := hq9.c 14 _ rfl
  have zr14 := hq9.z 14 (by show 14 < 26; decide)
  have r15 := hq9.c 15 _ rfl
  have zr15 := hq9.z 15 (by show 15 < 26; decide)
  have r16 := hq9.c 16 _ rfl
  have zr16 := hq9.z 16 (by show 16 < 26; decide)
  have nVr : ¬ V = rb := nV.2.2
  have nrV : ¬ rb = V := fun e => nV.2.2 e.symm
  go_region_held3 (fun w' => w'.cell? ⟨V, 0, none⟩ = some (.bool v.a) ∧ w'.cell? ⟨V, 1, none⟩ = some (.bool v.t) ∧ w'.cell? ⟨V, 2, none⟩ = some (.int .i64 v.n)) (go_keep) (fail)
  rename_i hHeld
  clear hHeld
  have kR : Keeps (fun k => k = rb) W8 (((W8.setCell ⟨rb, 14, none⟩ (.bool v.a)).setCell ⟨rb, 15, none⟩ (.bool v.t)).setCell ⟨rb, 16, none⟩ (.int .i64 v.n)).drew := ((((Keeps.refl _ W8).setA 14 (.bool v.a)).setA 15 (.bool v.t)).setA 16 (.int .i64 v.n)).drew
  have hR9 : RX (((W8.setCell ⟨rb, 14, none⟩ (.bool v.a)).setCell ⟨rb, 15, none⟩ (.bool v.t)).setCell ⟨rb, 16, none⟩ (.int .i64 v.n)).drew ρ5 c ab rb (x.judgeRow s m k en q v) := hR8.self ((((hq9.set (o := 14) (by show 14 < 26; decide) (.bool v.a)).set (o := 15) (by show 15 < 26; decide) (.bool v.t)).set (o := 16) (by show 16 < 26; decide) (.int .i64 v.n)).drew)
  have hA9 := hA8.far kR hR8.rr hR8.n1 hR8.n2
  have A9 := A8.tr (Fr.of_keeps kR (fun _ _ e => .inl (.inr (.inr e))))
  have ds9 := ds8.keep kR (fun e => (dfar _ (.inl rfl)).2.2.2.1 e) (fun e => (dfar _ (.inr rfl)).2.2.2.1 e)
  have hV9 := hV.keep (by show 0 < 3; decide) kR nVr
  clear hq9 v0 v1 v2 r14 r15 r16 zr14 zr15 zr16 hV hR8 hA8 A8 ds8 kR
  generalize (((W8.setCell ⟨rb, 14, none⟩ (.bool v.a)).setCell ⟨rb, 15, none⟩ (.bool v.t)).setCell ⟨rb, 16, none⟩ (.int .i64 v.n)).drew = W9 at *
  have hw1 : IntKind.i64.wrap (x.tries + 1) = x.tries + 1 := by have := HT.out; rw [IntKind.wrap_i64]; omega
  have hc9 := hA9.cl
  have f32 := hc9.c 32 _ rfl
  have zf32 := hc9.z 32 (by show 32 < 36; decide)
  have hAx : AX (W9.setCell ⟨ab, 32, none⟩ (.int .i64 (x.tries + 1))) ρ5 u j c ab { x with tries := x.tries + 1 } n f s _ := hA9.set1 (o := 32) (by decide) _ rfl
  have hRx := hR9.setA 32 (.int .i64 (x.tries + 1))
  have kX : Keeps (fun k => k = ab) W9 (W9.setCell ⟨ab, 32, none⟩ (.int .i64 (x.tries + 1))) := (Keeps.refl _ W9).setA _ _
  have Ax := A9.tr (Fr.of_keeps kX (fun _ _ e => .inl (.inl e)))
  have dsx := ds9.keep kX (fun e => (dfar _ (.inl rfl)).2.1 e) (fun e => (dfar _ (.inr rfl)).2.1 e)
  have hVx := hV9.keep (by show 0 < 3; decide) kX nV.1
  obtain ⟨hgx, htx⟩ := HM.out.fr hW S0 Ax nA
  have hO := obey_any (fun z hz => (HM.out.rl z hz).2.1) hAx hgx htx v
  have v0 := hVx.c 0 _ rfl
  have v1 := hVx.c 1 _ rfl
  have v2 := hVx.c 2 _ rfl
  clear hc9 hgx htx
  go_wp2_with fail
  clear f32 zf32 v0 v1 v2 hVx hV9 ds9 A9 hR9 hA9 kX
  generalize W9.setCell ⟨ab, 32, none⟩ (.int .i64 (x.tries + 1)) = Wx at *
  refine hO.mono ?_
  rintro e Wy ⟨rfl, hcy, ky⟩
  go_wp2_with fail
  go_end0
  exact ⟨rfl, ρ5, c, ⟨Sam.refl c, hAx.self ky hcy, Ax.tr (Fr.of_keeps ky (fun _ _ e => .inl (.inl e))), fun _ e => .inl e⟩, hRx.far ky HR.out.n1.symm, dsx.keep ky (fun e => (dfar _ (.inl rfl)).2.1 e) (fun e => (dfar _ (.inr rfl)).2.1 e)⟩
end
end Go.Proofs.YtgjndhbfjofkeaaGreatDoor

namespace Go.Proofs.YtgjndhbfjofkeaaGreatDoor
open Go.RowKit
attribute [local go_sem] Oper.semAt_some run_store_nf run_store_f
section
variable {w w' : World} {ρ ρ' ρ'' : Nat → Nat} {u j : Nat} {c : Sc} {ab rb n n' : Nat} {x x' : Tx} {f f' : Int → Option Nat} {s s' : Ws} {m m' : Mm} {r r' : Ro}
set_option maxHeartbeats 800000 in
set_option maxRecDepth 1000000 in
theorem write_free (h : AX w ρ u j c ab x n f s m) (ha : x.alive = true) (hn : x.nx = none) {o : Nat} (ho : o < s.objs.length) (hio : I64 (o : Int)) (hf : (f (o : Int)).isSome = false) :
    Calls Tryz.prog 87 #[.pointer (some ⟨ab, 0, none⟩), .int .i64 (o : Int)] w fun e w' => e = .returned (.int .i64 0) ∧ AX w' ρ u j c ab ((x.op 2 (o : Int)).opn 111) n f s m ∧ Keeps (fun k => k = ab) w w' := by
  have hmf : ∀ (fn : Fn) (first cap : Array Value) (w : World), (Instr.makeFunc fn first cap).run Tryz.prog w = .ok (.func fn first cap) w := fun _ _ _ _ => rfl
  have hr := refobj_no h ha hn ho
  have hb := abegin h.cl 2 (o : Int)
  clear ha hn ho
  go_enter Tryz.func87, Tryz.ntmps87
  go_wp2_with fail
  refine hr.mono ?_
  rintro e w1 ⟨rfl, rfl⟩
  clear hr
  go_wp2_with fail
  refine hb.mono ?_
  rintro e w2 ⟨rfl, hc2, k2⟩
  have h2 := h.self k2 hc2
  have hO := owns_any h2 hio
  rw [hf] at hO
  clear hb hf
  go_wp2_with fail
  refine hO.mono ?_
  rintro e w3 ⟨rfl, rfl⟩
  clear hO
  have hL := alook hc2 111
  go_wp2_with fail
  refine hL.mono ?_
  rintro e w4 ⟨rfl, hc4, k4⟩
  clear hL
  go_wp2_with fail
  go_ret
  exact ⟨rfl, h2.self k4 hc4, k2.trans k4⟩
set_option maxHeartbeats 800000 in
set_option maxRecDepth 1000000 in
theorem write_own (h : AX w ρ u j c ab x n f s m) (ha : x.alive = true) (hn : x.nx = none) {o : Nat} (ho : o < s.objs.length) (hio : I64 (o : Int)) (hf : (f (o : Int)).isSome = true) :
    Calls Tryz.prog 87 #[.pointer (some ⟨ab, 0, none⟩), .int .i64 (o : Int)] w fun e w' => e = .returned (.int .i64 0) ∧ AX w' ρ u j c ab ({ x.op 2 (o : Int) with nx := some 84 }) n f s m ∧ Keeps (fun k => k = ab) w w' := by
  have hmf : ∀ (fn : Fn) (first cap : Array Value) (w : World), (Instr.makeFunc fn first cap).run Tryz.prog w = .ok (.func fn first cap) w := fun _ _ _ _ => rfl
  have hr := refobj_no h ha hn ho
  have hb := abegin h.cl 2 (o : Int)
  clear ha hn ho
  go_enter Tryz.func87, Tryz.ntmps87
  go_wp2_with fail
  refine hr.mono ?_
  rintro e w1 ⟨rfl, rfl⟩
  clear hr
  go_wp2_with fail
  refine hb.mono ?_
  rintro e w2 ⟨rfl, hc2, k2⟩
  have h2 := h.self k2 hc2
  have hO := owns_any h2 hio
  rw [hf] at hO
  clear hb hf
  go_wp2_with fail
  refine hO.mono ?_
  rintro e w3 ⟨rfl, rfl⟩
  clear hO
  have g15 := hc2.c 15 _ rfl
  have zg15 := hc2.z 15 (by show 15 < 36; decide)
  go_wp2_with fail
  go_ret
  exact ⟨rfl, h2.set1 (o := 15) (by decide) _ rfl, k2.setA _ _⟩
set_option maxHeartbeats 800000 in
set_option maxRecDepth 1000000 in
theorem read_free (h : AX w ρ u j c ab x n f s m) (ha : x.alive = true) (hn : x.nx = none) {o : Nat} (ho : o < s.objs.length) (hio : I64 (o : Int)) (hf : (f (o : Int)).isSome = false) (hh : TB.fnd c.rs (o : Int) = none) :
    Calls Tryz.prog 59 #[.pointer (some ⟨ab, 0, none⟩), .int .i64 (o : Int)] w fun e w' => e = .returned (.int .i64 0) ∧ AX w' ρ u j c ab ((x.op 1 (o : Int)).opn 86) n f s m ∧ Keeps (fun k => k = ab) w w' := by
  have hmf : ∀ (fn : Fn) (first cap : Array Value) (w : World), (Instr.makeFunc fn first cap).run Tryz.prog w = .ok (.func fn first cap) w := fun _ _ _ _ => rfl
  have hr := refobj_no h ha hn ho
  have hb := abegin h.cl 1 (o : Int)
  clear ha hn ho
  go_enter Tryz.func59, Tryz.ntmps59
  go_wp2_with fail
  refine hr.mono ?_
  rintro e w1 ⟨rfl, rfl⟩
  clear hr
  go_wp2_with fail
  refine hb.mono ?_
  rintro e w2 ⟨rfl, hc2, k2⟩
  have h2 := h.self k2 hc2
  have hF := TB.find_any h2.ct.tv hio
  rw [hh] at hF
  simp only [TB.evo, TB.erz, TB.ev0] at hF
  clear hb hh
  go_wp2_with fail
  refine hF.mono ?_
  rintro e w3 ⟨rfl, k3⟩
  have h3 := h2.new (k3.alloc (.cells #[.int .i64 0, .int .i64 0, .int .i64 0] 141))
  have K3 : Keeps (fun k => k = ab) w1 (w3.alloc (.cells #[.int .i64 0, .int .i64 0, .int .i64 0] 141)) := k2.trans ((k3.alloc (.cells #[.int .i64 0, .int .i64 0, .int .i64 0] 141)).mono (fun _ _ e => e.elim))
  clear hF
  have hO := owns_any h3 hio
  rw [hf] at hO
  clear hf
  go_wp2_with fail
  generalize w3.alloc (.cells #[.int .i64 0, .int .i64 0, .int .i64 0] 141) = w4 at *
  refine hO.mono ?_
  rintro e w5 ⟨rfl, rfl⟩
  clear hO
  have hL := alook h3.cl 86
  go_wp2_with fail
  refine hL.mono ?_
  rintro e w6 ⟨rfl, hc6, k6⟩
  clear hL
  go_wp2_with fail
  go_ret
  exact ⟨rfl, h3.self k6 hc6, K3.trans k6⟩
set_option maxHeartbeats 800000 in
set_option maxRecDepth 1000000 in
theorem read_own (h : AX w ρ u j c ab x n f s m) (ha : x.alive = true) (hn : x.nx = none) {o : Nat} (ho : o < s.objs.length) (hio : I64 (o : Int)) (hf : (f (o : Int)).isSome = true) (hh : TB.fnd c.rs (o : Int) = none) :
    Calls Tryz.prog 59 #[.pointer (some ⟨ab, 0, none⟩), .int .i64 (o : Int)] w fun e w' => e = .returned (.int .i64 0) ∧ AX w' ρ u j c ab ({ x.op 1 (o : Int) with nx := some 84 }) n f s m ∧ Keeps (fun k => k = ab) w w' := by
  have hmf : ∀ (fn : Fn) (first cap : Array Value) (w : World), (Instr.makeFunc fn first cap).run Tryz.prog w = .ok (.func fn first cap) w := fun _ _ _ _ => rfl
  have hr := refobj_no h ha hn ho
  have hb := abegin h.cl 1 (o : Int)
  clear ha hn ho
  go_enter Tryz.func59, Tryz.ntmps59
  go_wp2_with fail
  refine hr.mono ?_
  rintro e w1 ⟨rfl, rfl⟩
  clear hr
  go_wp2_with fail
  refine hb.mono ?_
  rintro e w2 ⟨rfl, hc2, k2⟩
  have h2 := h.self k2 hc2
  have hF := TB.find_any h2.ct.tv hio
  rw [hh] at hF
  simp only [TB.evo, TB.erz, TB.ev0] at hF
  clear hb hh
  go_wp2_with fail
  refine hF.mono ?_
  rintro e w3 ⟨rfl, k3⟩
  have h3 := h2.new (k3.alloc (.cells #[.int .i64 0, .int .i64 0, .int .i64 0] 141))
  have K3 : Keeps (fun k => k = ab) w1 (w3.alloc (.cells #[.int .i64 0, .int .i64 0, .int .i64 0] 141)) := k2.trans ((k3.alloc (.cells #[.int .i64 0, .int .i64 0, .int .i64 0] 141)).mono (fun _ _ e => e.elim))
  clear hF
  have hO := owns_any h3 hio
  rw [hf] at hO
  clear hf
  go_wp2_with fail
  generalize w3.alloc (.cells #[.int .i64 0, .int .i64 0, .int .i64 0] 141) = w4 at *
  refine hO.mono ?_
  rintro e w5 ⟨rfl, rfl⟩
  clear hO
  have hc3 := h3.cl
  have g15 := hc3.c 15 _ rfl
  have zg15 := hc3.z 15 (by show 15 < 36; decide)
  go_wp2_with fail
  go_ret
  exact ⟨rfl, h3.set1 (o := 15) (by decide) _ rfl, K3.setA _ _⟩
set_option maxHeartbeats 800000 in
set_option maxRecDepth 1000000 in
theorem read_held (h : AX w ρ u j c ab x n f s m) (ha : x.alive = true) (hn : x.nx = none) {o : Nat} (ho : o < s.objs.length) (hio : I64 (o : Int)) {en : En} (hh : TB.fnd c.rs (o : Int) = some en) :
    Calls Tryz.prog 59 #[.pointer (some ⟨ab, 0, none⟩), .int .i64 (o : Int)] w fun e w' => e = .returned (.int .i64 0) ∧ AX w' ρ u j c ab ({ x.op 1 (o : Int) with nx := some 84 }) n f s m ∧ Keeps (fun k => k = ab) w w' := by
  have hmf : ∀ (fn : Fn) (first cap : Array Value) (w : World), (Instr.makeFunc fn first cap).run Tryz.prog w = .ok (.func fn first cap) w := fun _ _ _ _ => rfl
  have hr := refobj_no h ha hn ho
  have hb := abegin h.cl 1 (o : Int)
  clear ha hn ho
  go_enter Tryz.func59, Tryz.ntmps59
  go_wp2_with fail
  refine hr.mono ?_
  rintro e w1 ⟨rfl, rfl⟩
  clear hr
  go_wp2_with fail
  refine hb.mono ?_
  rintro e w2 ⟨rfl, hc2, k2⟩
  have h2 := h.self k2 hc2
  have hF := TB.find_any h2.ct.tv hio
  rw [hh] at hF
  simp only [TB.evo, TB.erz, TB.ev] at hF
  clear hb hh
  go_wp2_with fail
  refine hF.mono ?_
  rintro e w3 ⟨rfl, k3⟩
  have h3 := h2.new (k3.alloc (.cells #[.int .i64 en.ob, .int .i64 en.ver, .int .i64 (en.ord : Int)] 141))
  have K3 : Keeps (fun k => k = ab) w1 (w3.alloc (.cells #[.int .i64 en.ob, .int .i64 en.ver, .int .i64 (en.ord : Int)] 141)) := k2.trans ((k3.alloc (.cells #[.int .i64 en.ob, .int .i64 en.ver, .int .i64 (en.ord : Int)] 141)).mono (fun _ _ e => e.elim))
  clear hF
  have hc3 := h3.cl
  have g15 := hc3.c 15 _ rfl
  have zg15 := hc3.z 15 (by show 15 < 36; decide)
  go_wp2_with fail
  go_ret
  exact ⟨rfl, h3.set1 (o := 15) (by decide) _ rfl, K3.setA _ _⟩
set_option maxHeartbeats 800000 in
set_option maxRecDepth 1000000 in
theorem finish_ask (h : AX w ρ u j c ab x n f s m) (ha : x.alive = true) (hn : x.nx = none) :
    Calls Tryz.prog 47 #[.pointer (some ⟨ab, 0, none⟩)] w fun e w' => e = .returned (.int .i64 0) ∧ AX w' ρ u j c ab ((x.op 3 (-1)).fi c.rs 0) n f s m ∧ Keeps (fun k => k = ab) w w' := by
  have hr := refuses_no h.cl ha hn
  have hb := abegin h.cl 3 (-1)
  clear ha hn
  go_enter Tryz.func47, Tryz.ntmps47
  go_wp2_with fail
  refine hr.mono ?_
  rintro e w1 ⟨rfl, rfl⟩
  clear hr
  go_wp2_with fail
  refine hb.mono ?_
  rintro e w2 ⟨rfl, hc2, k2⟩
  have h2 := h.self k2 hc2
  have hL := finish_any h2.ct 0
  change Calls Tryz.prog 69 #[.pointer (some ⟨ab, 0, none⟩), .int .i64 0] _ _ at hL
  clear hb
  go_wp2_with fail
  refine hL.mono ?_
  rintro e w4 ⟨rfl, hc4, k4⟩
  clear hL
  go_wp2_with fail
  go_ret
  exact ⟨rfl, h2.self k4 hc4, k2.trans k4⟩
set_option maxHeartbeats 800000 in
set_option maxRecDepth 1000000 in
theorem quit_ask (h : AX w ρ u j c ab x n f s m) (ha : x.alive = true) (hn : x.nx = none) :
    Calls Tryz.prog 90 #[.pointer (some ⟨ab, 0, none⟩), .int .i64 2] w fun e w' => e = .returned (.int .i64 0) ∧ AX w' ρ u j c ab ({ x.op 4 (-1) with why := 2, nx := some 114 }) n f s m ∧ Keeps (fun k => k = ab) w w' := by
  have hmf : ∀ (fn : Fn) (first cap : Array Value) (w : World), (Instr.makeFunc fn first cap).run Tryz.prog w = .ok (.func fn first cap) w := fun _ _ _ _ => rfl
  have hr := refuses_no h.cl ha hn
  have hb := abegin h.cl 4 (-1)
  clear ha hn
  go_enter Tryz.func90, Tryz.ntmps90
  go_wp2_with fail
  refine hr.mono ?_
  rintro e w1 ⟨rfl, rfl⟩
  clear hr
  go_wp2_with fail
  refine hb.mono ?_
  rintro e w2 ⟨rfl, hc2, k2⟩
  have h2 := h.self k2 hc2
  have g15 := hc2.c 15 _ rfl
  have zg15 := hc2.z 15 (by show 15 < 36; decide)
  have g21 := hc2.c 21 _ rfl
  have zg21 := hc2.z 21 (by show 21 < 36; decide)
  clear hb
  go_wp2_with fail
  go_ret
  exact ⟨rfl, (h2.set1 (x' := { x.op 4 (-1) with why := 2 }) (o := 21) (by decide) _ rfl).set1 (o := 15) (by decide) _ rfl, (k2.setA _ _).setA _ _⟩
set_option maxHeartbeats 800000 in
set_option maxRecDepth 1000000 in
theorem rank_tell (h : CL w ab (x.cells c ab)) : Calls Tryz.prog 42 #[.pointer (some ⟨ab, 0, none⟩)] w fun e w' => e = .returned (.int .i64 x.rank) ∧ w' = w := by
  have f8 := h.c 8 _ rfl
  clear h
  have hp : ∀ w : World, (binOp .eql 86 (.pointer (some ⟨ab, 0, none⟩)) (.pointer none)).run Tryz.prog w = .ok (.bool false) w := fun _ => rfl
  go_enter Tryz.func42, Tryz.ntmps42
  go_wp2
  go_ret
  exact ⟨rfl, rfl⟩
set_option maxHeartbeats 800000 in
set_option maxRecDepth 1000000 in
theorem number_tell (h : CL w ab (x.cells c ab)) : Calls Tryz.prog 37 #[.pointer (some ⟨ab, 0, none⟩)] w fun e w' => e = .returned (.int .i64 (x.no : Int)) ∧ w' = w := by
  have f7 := h.c 7 _ rfl
  clear h
  have hp : ∀ w : World, (binOp .eql 86 (.pointer (some ⟨ab, 0, none⟩)) (.pointer none)).run Tryz.prog w = .ok (.bool false) w := fun _ => rfl
  go_enter Tryz.func37, Tryz.ntmps37
  go_wp2
  go_ret
  exact ⟨rfl, rfl⟩
set_option maxHeartbeats 800000 in
set_option maxRecDepth 1000000 in
theorem state_over (h : CL w ab (x.cells c ab)) (ha : x.alive = false) :
    Calls Tryz.prog 39 #[.pointer (some ⟨ab, 0, none⟩)] w fun e w' => e = .returned (.int .i64 3) ∧ w' = w := by
  have f9 := h.c 9 _ rfl
  rw [ha] at f9
  clear h ha
  have hp : ∀ w : World, (binOp .eql 86 (.pointer (some ⟨ab, 0, none⟩)) (.pointer none)).run Tryz.prog w = .ok (.bool false) w := fun _ => rfl
  go_enter Tryz.func39, Tryz.ntmps39
  go_wp2
  go_ret
  exact ⟨rfl, rfl⟩
def Tx.state (x : Tx) : Int := if x.alive = false then 3 else if x.nx = none then 1 else 2
theorem state_any (h : CL w ab (x.cells c ab)) : Calls Tryz.prog 39 #[.pointer (some ⟨ab, 0, none⟩)] w fun e w' => e = .returned (.int .i64 x.state) ∧ w' = w := by
  unfold Tx.state
  cases ha : x.alive with
  | false => rw [if_pos rfl]; exact state_over h ha
  | true =>
    rw [if_neg (by simp)]
    cases hn : x.nx with
    | none => rw [if_pos rfl]; exact state_open h ha hn
    | some k => rw [if_neg (by simp)]; exact state_busy h ha hn
set_option maxHeartbeats 800000 in
set_option maxRecDepth 1000000 in
theorem release_no (h : AX w ρ u j c ab x n f s m) (ha : x.alive = true) (hn : x.nx = none) {o : Nat} (ho : o < s.objs.length) (hio : I64 (o : Int)) (hh : ¬ hld c.rs (o : Int)) :
    Calls Tryz.prog 88 #[.pointer (some ⟨ab, 0, none⟩), .int .i64 (o : Int)] w fun e w' => e = .returned (.tuple #[.int .i64 (-1), .int .i64 0]) ∧ AX w' ρ u j c ab x n f s m ∧ Keeps (fun _ => False) w w' := by
  have hr := refobj_no h ha hn ho
  have hF : Calls Tryz.prog 112 #[.pointer (some ⟨ab, 11, none⟩), .int .i64 (o : Int)] w fun e w' => e = .returned (.tuple #[.agg #[.int .i64 0, .int .i64 0, .int .i64 0], .int .i64 71]) ∧ Keeps (fun _ => False) w w' := TB.release_no h.ct.tv hio hh
  clear ha hn ho hio hh
  go_enter Tryz.func88, Tryz.ntmps88
  go_wp2_with fail
  refine hr.mono ?_
  rintro e w1 ⟨rfl, rfl⟩
  clear hr
  go_wp2_with fail
  refine hF.mono ?_
  rintro e w2 ⟨rfl, k2⟩
  clear hF
  go_wp2_with fail
  refine bodyPost_ret (v := .tuple #[.int .i64 (-1), .int .i64 0]) (by simp [results, Tryz.f88, go_sem]) rfl ⟨rfl, h.new (k2.alloc _), k2.alloc _⟩
set_option maxHeartbeats 800000 in
set_option maxRecDepth 1000000 in
theorem release_ok (h : AX w ρ u j c ab x n f s m) (ha : x.alive = true) (hn : x.nx = none) {o : Nat} (ho : o < s.objs.length) {q : Nat} {y : Rd} (hq : c.rs[q]? = some y) (hy : y.fate = 1) (hyo : y.ob = (o : Int)) (hl : c.rs.length ≤ 1000000000) :
    Calls Tryz.prog 88 #[.pointer (some ⟨ab, 0, none⟩), .int .i64 (o : Int)] w fun e w' => e = .returned (.tuple #[.int .i64 (q : Int), .int .i64 0]) ∧ ∃ c', Res w w' ρ ρ u j c c' ab x (c.rs.set q (y.to 2)) n f s m (Own c ab) := by
  have hr := refobj_no h ha hn ho
  have hF : Calls Tryz.prog 112 #[.pointer (some ⟨ab, 11, none⟩), .int .i64 (o : Int)] w fun e w' => e = .returned (.tuple #[.agg #[.int .i64 y.ob, .int .i64 y.ver, .int .i64 (q : Int)], .int .i64 0]) ∧ ∃ T, TB.TV w' T (c.rs.set q (y.to 2)) ∧ TB.Lf w w' ⟨ab, c.ve, c.vm, c.vf⟩ T := by
    have := TB.release_ok h.ct.tv hq hy (by omega)
    rw [hyo] at this
    exact this
  clear ha hn ho hq hy hyo hl
  go_enter Tryz.func88, Tryz.ntmps88
  go_wp2_with fail
  refine hr.mono ?_
  rintro e w1 ⟨rfl, rfl⟩
  clear hr
  go_wp2_with fail
  refine hF.mono ?_
  rintro e w2 ⟨rfl, T, hT, hL⟩
  have h2 := (h.tab hT hL).new ((Keeps.refl _ w2).alloc (.cells #[.int .i64 y.ob, .int .i64 y.ver, .int .i64 (q : Int)] 141))
  have hQ := CL.made w2 [.int .i64 y.ob, .int .i64 y.ver, .int .i64 (q : Int)] 141
  have q2 := hQ.c 2 _ rfl
  clear hF
  go_wp2_with fail
  refine bodyPost_ret (v := .tuple #[.int .i64 (q : Int), .int .i64 0]) (by simp [results, Tryz.f88, go_sem]) rfl ⟨rfl, _, Sam.tab c T _, h2, ?_, Sc.tab_bk hT hL⟩
  exact (Fr.of_keeps hL.kp (fun _ _ e => e.elim (fun e => .inl e) (fun e => .inr (.inr e)))).kN ((Keeps.refl _ w2).alloc _)
end
end Go.Proofs.YtgjndhbfjofkeaaGreatDoor

