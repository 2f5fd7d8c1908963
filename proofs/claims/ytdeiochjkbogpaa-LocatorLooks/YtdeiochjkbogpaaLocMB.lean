import Derived.Test.YtdeiochjkbogpaaLocY
import Derived.Test.YtdeiochjkbogpaaLocMA
namespace Go.Proofs.Ytdeiochjkbogpaa
open Go.RowKit
section
variable {w w' : World} {ρ ρ' : Nat → Nat} {u j q rb wb mb : Nat} {s s' : Ws} {m m' : Mm} {k : Nat}
set_option maxHeartbeats 1600000 in
set_option maxRecDepth 1000000 in
/-- The version that is current with a status. -/
theorem Current_2 (h : St w ρ u j wb mb s m) {i : Nat} (hi : i < s.locs.length) :
    Calls Try.prog 65 #[.pointer (some ⟨wb, 0, none⟩), .int .i64 (i : Int), .int .i64 2] w fun e w' => e = .returned (.tuple #[.int .i64 ((s.lo i).new : Int), .int .i64 0]) ∧ w = w' := by
  obtain ⟨vo, va, vl, vn, hw⟩ := h.wj
  obtain ⟨gl, hgl, rl, ll, l0, l1, l2, l3⟩ := hw.loc hi
  have ha := locator_ok hw hi hgl
  have hq := leq gl (i * 4)
  generalize s.lo i = L at *
  clear h hw
  go_enter Try.func65, Try.ntmps65
  go_wp2_with fail
  refine ha.mono ?_
  rintro e w' ⟨rfl, rfl⟩
  go_wp2_with fail
  go_ret2
  exact ⟨rfl, rfl⟩
set_option maxHeartbeats 1600000 in
set_option maxRecDepth 1000000 in
theorem Current_13 (h : St w ρ u j wb mb s m) {i : Nat} {v : Int} (hv : v = 1 ∨ v = 3) (hi : i < s.locs.length) :
    Calls Try.prog 65 #[.pointer (some ⟨wb, 0, none⟩), .int .i64 (i : Int), .int .i64 v] w fun e w' => e = .returned (.tuple #[.int .i64 ((s.lo i).old : Int), .int .i64 0]) ∧ w = w' := by
  obtain ⟨vo, va, vl, vn, hw⟩ := h.wj
  obtain ⟨gl, hgl, rl, ll, l0, l1, l2, l3⟩ := hw.loc hi
  have ha := locator_ok hw hi hgl
  have hq := leq gl (i * 4)
  generalize s.lo i = L at *
  clear h hw
  rcases hv with e | e <;> subst e <;>
  · go_enter Try.func65, Try.ntmps65
    go_wp2_with fail
    refine ha.mono ?_
    rintro e w' ⟨rfl, rfl⟩
    go_wp2_with fail
    go_ret2
    exact ⟨rfl, rfl⟩
/-- With the status that the owner has. -/
theorem Current_ok (h : St w ρ u j wb mb s m) {i : Nat} (hi : i < s.locs.length) (hs : s.stat m (s.lo i).owner = 1 ∨ s.stat m (s.lo i).owner = 2 ∨ s.stat m (s.lo i).owner = 3) :
    Calls Try.prog 65 #[.pointer (some ⟨wb, 0, none⟩), .int .i64 (i : Int), .int .i64 (s.stat m (s.lo i).owner)] w fun e w' => e = .returned (.tuple #[.int .i64 (s.curV m i : Int), .int .i64 0]) ∧ w = w' := by
  unfold Ws.curV
  rcases hs with e | e | e
  · rw [if_neg (by rw [e]; decide), e]; exact Current_13 h (.inl rfl) hi
  · rw [if_pos e, e]; exact Current_2 h hi
  · rw [if_neg (by rw [e]; decide), e]; exact Current_13 h (.inr rfl) hi
end
end Go.Proofs.Ytdeiochjkbogpaa
namespace Go.Proofs.Ytdeiochjkbogpaa
open Go.RowKit
/-- The answer of 'mine'. -/
structure Mine (hl : List Nat) (o : Int) (e : Ending) : Prop where
  ex : ∃ b, e = .returned (.bool b) ∧ (b = true ↔ ∃ x, x ∈ hl ∧ (x : Int) = o)
set_option maxHeartbeats 1600000 in
set_option maxRecDepth 1000000 in
/-- Does a client hold the object? -/
theorem mine_ok {w : World} {fb k : Nat} (hk : k < 4) (o : Int) {a : Option Addr} {cap : Nat} {hl : List Nat} (c7 : w.cell? ⟨fb, 1 + k * 9 + 7, none⟩ = some (.slice a hl.length cap))
    (ha : ∀ i, i < hl.length → ∃ g, a = some ⟨g, 0, none⟩ ∧ w.cell? ⟨g, i, none⟩ = some (.int .i64 (hl.getD i 0 : Nat))) (hn : hl.length ≤ 1000000) :
    Calls Try.prog 22 #[.pointer (some ⟨fb, 0, none⟩), .int .i64 (k : Int), .int .i64 o] w fun e w' => Mine hl o e ∧ w = w' := by
  have k1 : decide ((k : Int) < 4) = true := by simp; omega
  have k2 : decide (k < 4) = true := by simp [hk]
  go_enter Try.func22, Try.ntmps22
  go_wp2_with fail
  go_loopw [7] (fun iv wr => ∃ i : Nat, i ≤ hl.length ∧ iv = .int .i64 (i : Int) ∧ w = wr ∧ Hid (∀ j, j < i → ((hl.getD j 0 : Nat) : Int) ≠ o)) (fun iv _ => hl.length - (intOf iv).toNat)
  case atStart => exact ⟨0, Nat.zero_le _, rfl, rfl, fun j hj => by omega⟩
  case round =>
    obtain ⟨i, hi, rfl, rfl, hj⟩ := hrel
    by_cases hlt : i < hl.length
    · have hltI : (i : Int) < (hl.length : Int) := by omega
      obtain ⟨g, rfl, x0⟩ := ha i hlt
      have hm : hl.getD i 0 ∈ hl := by rw [List.getD_eq_getElem?_getD, List.getElem?_eq_getElem hlt]; exact List.getElem_mem hlt
      generalize hx : hl.getD i 0 = x at *
      clear ha
      by_cases e : (x : Int) = o
      · subst e
        go_wp2_with fail
        go_ret
        exact ⟨⟨⟨true, rfl, fun _ => ⟨x, hm, rfl⟩, fun _ => rfl⟩⟩, rfl⟩
      · go_wp2_with fail
        go_roundw
        case rel => exact ⟨i + 1, by omega, by go_num, trivial, fun j q => by
          rcases Nat.lt_or_ge j i with q' | q'
          · exact hj j q'
          · rw [show j = i by omega, hx]; exact e⟩
        case measure => simp [intOf]; omega
    · have hltI : ¬ (i : Int) < (hl.length : Int) := by omega
      clear ha
      go_wp2_with fail
      go_ret
      refine ⟨⟨⟨false, rfl, ⟨fun e => (by cases e), fun ⟨x, q1, q2⟩ => ?_⟩⟩⟩, rfl⟩
      obtain ⟨j, j1, j2⟩ := List.getElem_of_mem q1
      have := hj j (by omega)
      rw [List.getD_eq_getElem?_getD, List.getElem?_eq_getElem j1, Option.getD_some, j2] at this
      exact absurd q2 this
end Go.Proofs.Ytdeiochjkbogpaa
namespace Go.Proofs.Ytdeiochjkbogpaa
open Go.RowKit
/-- The floor's block: what each of its cells holds. -/
structure FF (W : World) (ρ : Nat → Nat) (fb : Nat) (fv : Nat → Value) : Prop where
  cs : ∀ o, o < 41 → W.cell? ⟨fb, o, none⟩ = some (fv o)
  fz : ∀ o, W.frozen? ⟨fb, o, none⟩ = false
  rf : ρ fb = 8
def fset (fv : Nat → Value) (o : Nat) (v : Value) : Nat → Value := fun i => if i = o then v else fv i
theorem fset_self {fv : Nat → Value} {o : Nat} {v : Value} : fset fv o v o = v := if_pos rfl
theorem fset_other {fv : Nat → Value} {o i : Nat} {v : Value} (h : i ≠ o) : fset fv o v i = fv i := if_neg h
section
variable {W W' : World} {ρ ρ' : Nat → Nat} {fb : Nat} {fv : Nat → Value} {S : Nat → Prop}
theorem FF.lt (h : FF W ρ fb fv) : fb < W.heap.size := World.block_lt_of_cell? _ _ (h.cs 0 (by decide))
theorem FF.ext (h : FF W ρ fb fv) (x : Ext S W W' ρ ρ') (hS : ¬ S 8) : FF W' ρ' fb fv := by
  have n : ¬ S (ρ fb) := by rw [h.rf]; exact hS
  exact ⟨fun o ho => x.cell (h.cs o ho) n, fun o => (x.keeps.frozen (p := ⟨fb, o, none⟩) h.lt n).trans (h.fz o), (x.old fb h.lt).trans h.rf⟩
theorem FF.new (h : FF W ρ fb fv) (K : Keeps (fun _ => False) W W') : FF W' ρ fb fv :=
  ⟨fun o ho => K.cell (h.cs o ho) (fun e => e), fun o => (K.frozen (p := ⟨fb, o, none⟩) h.lt (fun e => e)).trans (h.fz o), h.rf⟩
theorem FF.set (h : FF W ρ fb fv) {o : Nat} (ho : o < 41) (v : Value) : FF (W.setCell ⟨fb, o, none⟩ v) ρ fb (fset fv o v) := by
  refine ⟨fun i hi => ?_, fun i => ?_, h.rf⟩
  · by_cases e : i = o
    · subst e
      rw [fset_self]
      exact World.cell?_setCell_same _ _ _ (h.cs i ho)
    · rw [fset_other e, World.cell?_setCell_other _ _ _ _ (fun q => by cases q; exact e rfl)]
      exact h.cs i hi
  · rw [World.frozen?_setCell]
    exact h.fz i
end
end Go.Proofs.Ytdeiochjkbogpaa
namespace Go.Proofs.Ytdeiochjkbogpaa
open Go.RowKit
section
variable {W W' : World} {ρ ρ' : Nat → Nat} {rb wb mb n : Nat} {s : Ws} {m : Mm}
/-- Blocks beside the raw's world are written. -/
theorem Rs.beside (r : Rs W ρ 1 2 7 rb wb mb s m n) (x : Ext (fun i => 8 ≤ i) W W' ρ ρ') (b : Bnd W' ρ') : Rs W' ρ' 1 2 7 rb wb mb s m n := by
  have n7 : ¬ 8 ≤ ρ rb := by rw [r.rr]; decide
  exact ⟨⟨b, r.st.mj.ext x (fun e => by omega), r.st.wj.ext x (fun q h1 h2 e => by omega), r.st.u0, r.st.j0, r.st.ap⟩, x.cell r.c0 n7, x.cell r.c1 n7, x.cell r.c2 n7, (x.keeps.frozen (p := ⟨rb, 2, none⟩) r.lt n7).trans r.z2, (x.old rb r.lt).trans r.rr, r.q0, r.qs, r.iv, r.bs, r.lg⟩
end
def Sf (r : Nat) : Prop := Sq 1 2 7 r ∨ 8 ≤ r
/-- A client that has begun anew, in the floor's block. -/
def fbeg (fv : Nat → Value) (k A : Nat) : Nat → Value := fset (fset (fset (fset fv (1 + k * 9 + 1) (.int .i64 (A : Int))) (1 + k * 9 + 7) (.slice none 0 0)) (1 + k * 9 + 8) (.slice none 0 0)) (1 + k * 9) (.int .i64 0)
set_option maxHeartbeats 1600000 in
set_option maxRecDepth 1000000 in
/-- A fresh attempt of client k. -/
theorem fattempt_ok {W : World} {ρ : Nat → Nat} {fb rb wb mb n k : Nat} {s : Ws} {m : Mm} {fv : Nat → Value} (hk : k < 4) (R : Rs W ρ 1 2 7 rb wb mb s m n) (F : FF W ρ fb fv) (f0 : fv 0 = .pointer (some ⟨rb, 0, none⟩)) (hn : n ≤ 2499999999999) (hr : s.roomA m = true) :
    Calls Try.prog 7 #[.pointer (some ⟨fb, 0, none⟩), .int .i64 (k : Int)] W fun e w' => e = .returned (.tuple #[]) ∧ ∃ ρ', Rs w' ρ' 1 2 7 rb wb mb (s.beg (k : Int) (k : Int) (-1) m.cells.length) ((m.make 1).make 0) n ∧ FF w' ρ' fb (fbeg fv k s.atts.length) ∧ Ext (fun r => Sq 1 2 7 r ∨ r = 8) W w' ρ ρ' := by
  have k1 : decide ((k : Int) < 4) = true := by simp; omega
  have k2 : decide (k < 4) = true := by simp [hk]
  have k3 : (0 : Int) ≤ (k : Int) := by omega
  have k4' : (k : Int) < 4 := by omega
  have c0 : W.cell? ⟨fb, 0, none⟩ = some (.pointer (some ⟨rb, 0, none⟩)) := by rw [← f0]; exact F.cs 0 (by decide)
  have hdo := does_any R hn ⟨1, (k : Int), (k : Int), -1, ⟨0, 0, false⟩, false⟩
  simp only [opv] at hdo
  have HF : Hid (FF W ρ fb fv) := F
  clear R F
  go_enter Try.func7, Try.ntmps7
  go_wp2_with fail
  refine hdo.mono ?_
  clear hdo c0
  rintro e W4 ⟨er, d, nn, rfl, ρ4, s4, m1, m4, k4, hop, hdo, R4, x4⟩
  rcases hop with ⟨q, _, _⟩ | ⟨_, q1, q2⟩
  · cases q
  subst q1
  subst q2
  obtain ⟨rfl, rfl, rfl, rfl⟩ := do_att hr hdo
  have F4 := HF.out.ext x4 (by intro e; rcases e with (e | e) | e <;> omega)
  have lF := F4.lt
  have nf : ¬ fb = W4.heap.size := by omega
  have nf' : ¬ W4.heap.size = fb := by omega
  have HF4 : Hid (FF W4 ρ4 fb fv) := F4
  have HR : Hid (Rs W4 ρ4 1 2 7 rb wb mb (s.beg (k : Int) (k : Int) (-1) m1.cells.length) ((m1.make 1).make 0) k4) := R4
  have HX : Hid (Ext (Sq 1 2 7) W W4 ρ ρ4) := x4
  clear F4 R4 x4 HF hdo
  obtain ⟨w5, hw5⟩ : ∃ w5, w5 = W4.alloc (.cells #[.int .i64 0, .bool d, .int .i64 (s.atts.length : Int)] 67) := ⟨_, rfl⟩
  have K5 : Keeps (fun _ => False) W4 w5 := by rw [hw5]; exact (Keeps.refl _ W4).alloc _
  have b2 : w5.cell? ⟨W4.heap.size, 2, none⟩ = some (.int .i64 (s.atts.length : Int)) := by rw [hw5]; simp
  have F5 := HF4.out.new K5
  have y0 := F5.cs (1 + k * 9) (by omega)
  have y1 := F5.cs (1 + k * 9 + 1) (by omega)
  have y7 := F5.cs (1 + k * 9 + 7) (by omega)
  have y8 := F5.cs (1 + k * 9 + 8) (by omega)
  have z0 := F5.fz (1 + k * 9)
  have z1 := F5.fz (1 + k * 9 + 1)
  have z7 := F5.fz (1 + k * 9 + 7)
  have z8 := F5.fz (1 + k * 9 + 8)
  have HF5 : Hid (FF w5 ρ4 fb fv) := F5
  clear F5
  go_wp2_with fail
  rw [← hw5]
  clear hw5
  go_region_held3 (fun w' => w'.cell? ⟨W4.heap.size, 2, none⟩ = some (.int .i64 (s.atts.length : Int))) (go_keep) (fail)
  go_wp2_with fail
  go_end0
  have R5 := (HR.out.new K5).1
  have F9 := (((HF5.out.set (o := 1 + k * 9 + 1) (by omega) (.int .i64 (s.atts.length : Int))).set (o := 1 + k * 9 + 7) (by omega) (.slice none 0 0)).set (o := 1 + k * 9 + 8) (by omega) (.slice none 0 0)).set (o := 1 + k * 9) (by omega) (.int .i64 0)
  have KS := (((keeps_set w5 fb (1 + k * 9 + 1) (.int .i64 (s.atts.length : Int))).trans (keeps_set _ fb (1 + k * 9 + 7) (.slice none 0 0))).trans (keeps_set _ fb (1 + k * 9 + 8) (.slice none 0 0))).trans (keeps_set _ fb (1 + k * 9) (.int .i64 0))
  have KD := Keeps.drew (S := fun _ => False) (Keeps.refl _ ((((w5.setCell ⟨fb, 1 + k * 9 + 1, none⟩ (.int .i64 (s.atts.length : Int))).setCell ⟨fb, 1 + k * 9 + 7, none⟩ (.slice none 0 0)).setCell ⟨fb, 1 + k * 9 + 8, none⟩ (.slice none 0 0)).setCell ⟨fb, 1 + k * 9, none⟩ (.int .i64 0)))
  have x8 : Ext (fun i => i = 8) w5 _ ρ4 ρ4 := ⟨(KS.trans' KD (fun _ _ e => e) (fun _ _ e => e.elim)).mono (fun i _ e => by rw [e, HF4.out.rf]), fun _ _ => rfl, fun i hi => .inr (R5.st.bnd i hi)⟩
  have b8 : Bnd _ ρ4 := fun i hi => R5.st.bnd i (Nat.le_trans x8.keeps.size hi)
  exact ⟨rfl, ρ4, R5.beside (x8.mono (fun _ e => by omega)) b8, F9.new KD, ((HX.out.mono (fun _ e => .inl e)).trans ((Ext.alloc HR.out.st.bnd K5).1)).trans (x8.mono (fun _ e => .inr e))⟩
end Go.Proofs.Ytdeiochjkbogpaa
namespace Go.Proofs.Ytdeiochjkbogpaa
open Go.RowKit
/-- Numbers as cells. -/
def nis (l : List Nat) : List Value := l.map fun (x : Nat) => .int .i64 (x : Int)
def iis (l : List Int) : List Value := l.map fun x => .int .i64 x
/-- The floor in memory: its block, the clients' lists (roles 9 + k and 13 + k), what is wanted (17), what was (18, its lists 19). -/
structure FL (W : World) (ρ : Nat → Nat) (fb rb : Nat) (fv : Nat → Value) (c : Nat → Cl) (want : List Vl) (was : List (List Vl)) (ws : List Value) (mk : Int) : Prop where
  ff : FF W ρ fb fv
  f0 : fv 0 = .pointer (some ⟨rb, 0, none⟩)
  a0 : ∀ k, k < 4 → fv (1 + k * 9) = .int .i64 ((c k).at_ : Int)
  a1 : ∀ k, k < 4 → fv (1 + k * 9 + 1) = .int .i64 ((c k).att : Int)
  a2 : ∀ k, k < 4 → fv (1 + k * 9 + 2) = .int .i64 ((c k).obj : Int)
  a3 : ∀ k, k < 4 → fv (1 + k * 9 + 3) = .int .i64 ((c k).loc : Int)
  a4 : ∀ k, k < 4 → fv (1 + k * 9 + 4) = .int .i64 ((c k).own : Int)
  a5 : ∀ k, k < 4 → fv (1 + k * 9 + 5) = .int .i64 ((c k).cur : Int)
  a6 : ∀ k, k < 4 → fv (1 + k * 9 + 6) = .int .i64 ((c k).since : Int)
  hh : ∀ k, k < 4 → W.ownsRow 0 3 1 (fv (1 + k * 9 + 7)) (c k).held.length (nis (c k).held)
  hr : ∀ k g, k < 4 → (fv (1 + k * 9 + 7)).ownBlock = some g → ρ g = 9 + k
  ph : ∀ k, k < 4 → W.ownsRow 0 2 1 (fv (1 + k * 9 + 8)) (c k).put.length (iis (c k).put)
  pr : ∀ k g, k < 4 → (fv (1 + k * 9 + 8)).ownBlock = some g → ρ g = 13 + k
  wo : W.ownsRow 0 52 3 (fv 37) want.length (fl vc3 want)
  wr : ∀ g, (fv 37).ownBlock = some g → ρ g = 17
  so : W.ownsRow 0 27 1 (fv 38) was.length ws
  sr : ∀ g, (fv 38).ownBlock = some g → ρ g = 18
  si : ∀ (i : Nat) (l : List Vl) (v : Value), was[i]? = some l → ws[i]? = some v → W.ownsRow 0 52 3 v l.length (fl vc3 l)
  sj : ∀ (i : Nat) (v : Value) (g : Nat), ws[i]? = some v → v.ownBlock = some g → ρ g = 19
  mk_ : fv 39 = .int .i64 mk
  fd : fv 40 = .bool false
section
variable {W W' : World} {ρ ρ' : Nat → Nat} {fb rb : Nat} {fv : Nat → Value} {c : Nat → Cl} {want : List Vl} {was : List (List Vl)} {ws : List Value} {mk : Int} {S : Nat → Prop}
theorem own_ext {base e z n r : Nat} {v : Value} {xs : List Value} (h : W.ownsRow base e z v n xs) (hr : ∀ g, v.ownBlock = some g → ρ g = r) (x : Ext S W W' ρ ρ') (hS : ¬ S r) : W'.ownsRow base e z v n xs :=
  x.keeps.owns h (fun g hg e => hS (by rw [← hr g hg]; exact e))
theorem role_ext {base e z n r : Nat} {v : Value} {xs : List Value} (h : W.ownsRow base e z v n xs) (hr : ∀ g, v.ownBlock = some g → ρ g = r) (x : Ext S W W' ρ ρ') : ∀ g, v.ownBlock = some g → ρ' g = r :=
  fun g hg => (x.old g (owns_lt' h g hg)).trans (hr g hg)
/-- Other blocks than the floor's have turned. -/
theorem FL.ext (h : FL W ρ fb rb fv c want was ws mk) (x : Ext S W W' ρ ρ') (hS : ∀ r, 8 ≤ r → r ≤ 19 → ¬ S r) : FL W' ρ' fb rb fv c want was ws mk := by
  refine ⟨h.ff.ext x (hS 8 (by omega) (by omega)), h.f0, h.a0, h.a1, h.a2, h.a3, h.a4, h.a5, h.a6, fun k hk => own_ext (h.hh k hk) (fun g => h.hr k g hk) x (hS _ (by omega) (by omega)), fun k g hk => role_ext (h.hh k hk) (fun g => h.hr k g hk) x g, fun k hk => own_ext (h.ph k hk) (fun g => h.pr k g hk) x (hS _ (by omega) (by omega)), fun k g hk => role_ext (h.ph k hk) (fun g => h.pr k g hk) x g, own_ext h.wo h.wr x (hS _ (by omega) (by omega)), role_ext h.wo h.wr x, own_ext h.so h.sr x (hS _ (by omega) (by omega)), role_ext h.so h.sr x, fun i l v hl hv => own_ext (h.si i l v hl hv) (fun g => h.sj i v g hv) x (hS _ (by omega) (by omega)), fun i v g hv hg => ?_, h.mk_, h.fd⟩
  have hil : i < was.length := by
    have h1 := h.so.1
    rw [Nat.mul_one] at h1
    rw [← h1]
    exact (List.getElem?_eq_some_iff.1 hv).1
  exact role_ext (h.si i _ v (List.getElem?_eq_getElem hil) hv) (fun g => h.sj i v g hv) x g hg
theorem FL.new (h : FL W ρ fb rb fv c want was ws mk) (K : Keeps (fun _ => False) W W') : FL W' ρ fb rb fv c want was ws mk :=
  ⟨h.ff.new K, h.f0, h.a0, h.a1, h.a2, h.a3, h.a4, h.a5, h.a6, fun k hk => K.owns (h.hh k hk) (fun _ _ e => e), h.hr, fun k hk => K.owns (h.ph k hk) (fun _ _ e => e), h.pr, K.owns h.wo (fun _ _ e => e), h.wr, K.owns h.so (fun _ _ e => e), h.sr, fun i l v hl hv => K.owns (h.si i l v hl hv) (fun _ _ e => e), h.sj, h.mk_, h.fd⟩
/-- One of the floor's own cells is written: its lists stand. -/
theorem FL.lists {o : Nat} {x : Value} {base e z n r : Nat} {v : Value} {xs : List Value} (h : FF W ρ fb fv) (hw : W.ownsRow base e z v n xs) (hr : ∀ g, v.ownBlock = some g → ρ g = r) (h8 : r ≠ 8) : (W.setCell ⟨fb, o, none⟩ x).ownsRow base e z v n xs :=
  (Keeps.setCell (S := fun k => k = fb) (Keeps.refl _ W) (p := ⟨fb, o, none⟩) (fun _ => rfl) x).owns hw (fun g hg e => h8 (by rw [← hr g hg, e]; exact h.rf))
end
end Go.Proofs.Ytdeiochjkbogpaa
namespace Go.Proofs.Ytdeiochjkbogpaa
open Go.RowKit
section
variable {W : World} {ρ : Nat → Nat} {fb rb : Nat} {fv : Nat → Value} {c : Nat → Cl} {want : List Vl} {was : List (List Vl)} {ws : List Value} {mk : Int}
theorem fset_cl {v : Value} {k k' i j : Nat} (hi : i < 9) (hj : j < 9) : fset fv (1 + k * 9 + j) v (1 + k' * 9 + i) = if k' = k ∧ i = j then v else fv (1 + k' * 9 + i) := by
  by_cases h : k' = k ∧ i = j
  · obtain ⟨rfl, rfl⟩ := h
    rw [if_pos ⟨rfl, rfl⟩, fset_self]
  · rw [if_neg h, fset_other (fun e => h (by omega))]
theorem FL.set_at_ (h : FL W ρ fb rb fv c want was ws mk) {k : Nat} (hk : k < 4) (x : Nat) : FL (W.setCell ⟨fb, 1 + k * 9, none⟩ (.int .i64 (x : Int))) ρ fb rb (fset fv (1 + k * 9) (.int .i64 (x : Int))) (upd c k { c k with at_ := x }) want was ws mk := by
  have hf : ∀ {k' i : Nat}, i < 9 → fset fv (1 + k * 9) (.int .i64 (x : Int)) (1 + k' * 9 + i) = if k' = k ∧ i = 0 then .int .i64 (x : Int) else fv (1 + k' * 9 + i) := fun hi => fset_cl (j := 0) hi (by omega)
  have hu : ∀ k', (upd c k { c k with at_ := x } k').held = (c k').held ∧ (upd c k { c k with at_ := x } k').put = (c k').put := fun k' => by
    by_cases e : k' = k
    · subst e; rw [upd_self]; exact ⟨rfl, rfl⟩
    · rw [upd_other e]; exact ⟨rfl, rfl⟩
  have far : ∀ {i : Nat}, 37 ≤ i → fset fv (1 + k * 9) (.int .i64 (x : Int)) i = fv i := fun hi => fset_other (by omega)
  refine ⟨h.ff.set (by omega) _, (fset_other (by omega)).trans h.f0, fun k' hk' => ?_, fun k' hk' => ?_, fun k' hk' => ?_, fun k' hk' => ?_, fun k' hk' => ?_, fun k' hk' => ?_, fun k' hk' => ?_, fun k' hk' => ?_, fun k' g hk' hg => ?_, fun k' hk' => ?_, fun k' g hk' hg => ?_, ?_, ?_, ?_, ?_, fun i l v hl hv => FL.lists h.ff (h.si i l v hl hv) (fun g => h.sj i v g hv) (by omega), h.sj, (far (by omega)).trans h.mk_, (far (by omega)).trans h.fd⟩
  · have e := hf (k' := k') (i := 0) (by omega)
    refine e.trans ?_
    by_cases q : k' = k
    · rw [if_pos ⟨q, rfl⟩, q, upd_self]
    · rw [if_neg (fun w => q w.1), upd_other q]; exact h.a0 k' hk'
  · have e := hf (k' := k') (i := 1) (by omega)
    rw [if_neg (fun w => absurd w.2 (by omega))] at e
    refine e.trans ((h.a1 k' hk').trans ?_)
    by_cases q : k' = k
    · rw [q, upd_self]
    · rw [upd_other q]
  · have e := hf (k' := k') (i := 2) (by omega)
    rw [if_neg (fun w => absurd w.2 (by omega))] at e
    refine e.trans ((h.a2 k' hk').trans ?_)
    by_cases q : k' = k
    · rw [q, upd_self]
    · rw [upd_other q]
  · have e := hf (k' := k') (i := 3) (by omega)
    rw [if_neg (fun w => absurd w.2 (by omega))] at e
    refine e.trans ((h.a3 k' hk').trans ?_)
    by_cases q : k' = k
    · rw [q, upd_self]
    · rw [upd_other q]
  · have e := hf (k' := k') (i := 4) (by omega)
    rw [if_neg (fun w => absurd w.2 (by omega))] at e
    refine e.trans ((h.a4 k' hk').trans ?_)
    by_cases q : k' = k
    · rw [q, upd_self]
    · rw [upd_other q]
  · have e := hf (k' := k') (i := 5) (by omega)
    rw [if_neg (fun w => absurd w.2 (by omega))] at e
    refine e.trans ((h.a5 k' hk').trans ?_)
    by_cases q : k' = k
    · rw [q, upd_self]
    · rw [upd_other q]
  · have e := hf (k' := k') (i := 6) (by omega)
    rw [if_neg (fun w => absurd w.2 (by omega))] at e
    refine e.trans ((h.a6 k' hk').trans ?_)
    by_cases q : k' = k
    · rw [q, upd_self]
    · rw [upd_other q]
  · have e := hf (k' := k') (i := 7) (by omega)
    rw [if_neg (fun w => absurd w.2 (by omega))] at e
    rw [e, (hu k').1]
    exact FL.lists h.ff (h.hh k' hk') (fun g => h.hr k' g hk') (by omega)
  · have e := hf (k' := k') (i := 7) (by omega)
    rw [if_neg (fun w => absurd w.2 (by omega))] at e
    rw [e] at hg
    exact h.hr k' g hk' hg
  · have e := hf (k' := k') (i := 8) (by omega)
    rw [if_neg (fun w => absurd w.2 (by omega))] at e
    rw [e, (hu k').2]
    exact FL.lists h.ff (h.ph k' hk') (fun g => h.pr k' g hk') (by omega)
  · have e := hf (k' := k') (i := 8) (by omega)
    rw [if_neg (fun w => absurd w.2 (by omega))] at e
    rw [e] at hg
    exact h.pr k' g hk' hg
  · rw [far (by omega)]; exact FL.lists h.ff h.wo h.wr (by omega)
  · rw [far (by omega)]; exact h.wr
  · rw [far (by omega)]; exact FL.lists h.ff h.so h.sr (by omega)
  · rw [far (by omega)]; exact h.sr
theorem FL.set_att (h : FL W ρ fb rb fv c want was ws mk) {k : Nat} (hk : k < 4) (x : Nat) : FL (W.setCell ⟨fb, 1 + k * 9 + 1, none⟩ (.int .i64 (x : Int))) ρ fb rb (fset fv (1 + k * 9 + 1) (.int .i64 (x : Int))) (upd c k { c k with att := x }) want was ws mk := by
  have hf : ∀ {k' i : Nat}, i < 9 → fset fv (1 + k * 9 + 1) (.int .i64 (x : Int)) (1 + k' * 9 + i) = if k' = k ∧ i = 1 then .int .i64 (x : Int) else fv (1 + k' * 9 + i) := fun hi => fset_cl (j := 1) hi (by omega)
  have hu : ∀ k', (upd c k { c k with att := x } k').held = (c k').held ∧ (upd c k { c k with att := x } k').put = (c k').put := fun k' => by
    by_cases e : k' = k
    · subst e; rw [upd_self]; exact ⟨rfl, rfl⟩
    · rw [upd_other e]; exact ⟨rfl, rfl⟩
  have far : ∀ {i : Nat}, 37 ≤ i → fset fv (1 + k * 9 + 1) (.int .i64 (x : Int)) i = fv i := fun hi => fset_other (by omega)
  refine ⟨h.ff.set (by omega) _, (fset_other (by omega)).trans h.f0, fun k' hk' => ?_, fun k' hk' => ?_, fun k' hk' => ?_, fun k' hk' => ?_, fun k' hk' => ?_, fun k' hk' => ?_, fun k' hk' => ?_, fun k' hk' => ?_, fun k' g hk' hg => ?_, fun k' hk' => ?_, fun k' g hk' hg => ?_, ?_, ?_, ?_, ?_, fun i l v hl hv => FL.lists h.ff (h.si i l v hl hv) (fun g => h.sj i v g hv) (by omega), h.sj, (far (by omega)).trans h.mk_, (far (by omega)).trans h.fd⟩
  · have e := hf (k' := k') (i := 0) (by omega)
    rw [if_neg (fun w => absurd w.2 (by omega))] at e
    refine e.trans ((h.a0 k' hk').trans ?_)
    by_cases q : k' = k
    · rw [q, upd_self]
    · rw [upd_other q]
  · have e := hf (k' := k') (i := 1) (by omega)
    refine e.trans ?_
    by_cases q : k' = k
    · rw [if_pos ⟨q, rfl⟩, q, upd_self]
    · rw [if_neg (fun w => q w.1), upd_other q]; exact h.a1 k' hk'
  · have e := hf (k' := k') (i := 2) (by omega)
    rw [if_neg (fun w => absurd w.2 (by omega))] at e
    refine e.trans ((h.a2 k' hk').trans ?_)
    by_cases q : k' = k
    · rw [q, upd_self]
    · rw [upd_other q]
  · have e := hf (k' := k') (i := 3) (by omega)
    rw [if_neg (fun w => absurd w.2 (by omega))] at e
    refine e.trans ((h.a3 k' hk').trans ?_)
    by_cases q : k' = k
    · rw [q, upd_self]
    · rw [upd_other q]
  · have e := hf (k' := k') (i := 4) (by omega)
    rw [if_neg (fun w => absurd w.2 (by omega))] at e
    refine e.trans ((h.a4 k' hk').trans ?_)
    by_cases q : k' = k
    · rw [q, upd_self]
    · rw [upd_other q]
  · have e := hf (k' := k') (i := 5) (by omega)
    rw [if_neg (fun w => absurd w.2 (by omega))] at e
    refine e.trans ((h.a5 k' hk').trans ?_)
    by_cases q : k' = k
    · rw [q, upd_self]
    · rw [upd_other q]
  · have e := hf (k' := k') (i := 6) (by omega)
    rw [if_neg (fun w => absurd w.2 (by omega))] at e
    refine e.trans ((h.a6 k' hk').trans ?_)
    by_cases q : k' = k
    · rw [q, upd_self]
    · rw [upd_other q]
  · have e := hf (k' := k') (i := 7) (by omega)
    rw [if_neg (fun w => absurd w.2 (by omega))] at e
    rw [e, (hu k').1]
    exact FL.lists h.ff (h.hh k' hk') (fun g => h.hr k' g hk') (by omega)
  · have e := hf (k' := k') (i := 7) (by omega)
    rw [if_neg (fun w => absurd w.2 (by omega))] at e
    rw [e] at hg
    exact h.hr k' g hk' hg
  · have e := hf (k' := k') (i := 8) (by omega)
    rw [if_neg (fun w => absurd w.2 (by omega))] at e
    rw [e, (hu k').2]
    exact FL.lists h.ff (h.ph k' hk') (fun g => h.pr k' g hk') (by omega)
  · have e := hf (k' := k') (i := 8) (by omega)
    rw [if_neg (fun w => absurd w.2 (by omega))] at e
    rw [e] at hg
    exact h.pr k' g hk' hg
  · rw [far (by omega)]; exact FL.lists h.ff h.wo h.wr (by omega)
  · rw [far (by omega)]; exact h.wr
  · rw [far (by omega)]; exact FL.lists h.ff h.so h.sr (by omega)
  · rw [far (by omega)]; exact h.sr
theorem FL.set_obj (h : FL W ρ fb rb fv c want was ws mk) {k : Nat} (hk : k < 4) (x : Nat) : FL (W.setCell ⟨fb, 1 + k * 9 + 2, none⟩ (.int .i64 (x : Int))) ρ fb rb (fset fv (1 + k * 9 + 2) (.int .i64 (x : Int))) (upd c k { c k with obj := x }) want was ws mk := by
  have hf : ∀ {k' i : Nat}, i < 9 → fset fv (1 + k * 9 + 2) (.int .i64 (x : Int)) (1 + k' * 9 + i) = if k' = k ∧ i = 2 then .int .i64 (x : Int) else fv (1 + k' * 9 + i) := fun hi => fset_cl (j := 2) hi (by omega)
  have hu : ∀ k', (upd c k { c k with obj := x } k').held = (c k').held ∧ (upd c k { c k with obj := x } k').put = (c k').put := fun k' => by
    by_cases e : k' = k
    · subst e; rw [upd_self]; exact ⟨rfl, rfl⟩
    · rw [upd_other e]; exact ⟨rfl, rfl⟩
  have far : ∀ {i : Nat}, 37 ≤ i → fset fv (1 + k * 9 + 2) (.int .i64 (x : Int)) i = fv i := fun hi => fset_other (by omega)
  refine ⟨h.ff.set (by omega) _, (fset_other (by omega)).trans h.f0, fun k' hk' => ?_, fun k' hk' => ?_, fun k' hk' => ?_, fun k' hk' => ?_, fun k' hk' => ?_, fun k' hk' => ?_, fun k' hk' => ?_, fun k' hk' => ?_, fun k' g hk' hg => ?_, fun k' hk' => ?_, fun k' g hk' hg => ?_, ?_, ?_, ?_, ?_, fun i l v hl hv => FL.lists h.ff (h.si i l v hl hv) (fun g => h.sj i v g hv) (by omega), h.sj, (far (by omega)).trans h.mk_, (far (by omega)).trans h.fd⟩
  · have e := hf (k' := k') (i := 0) (by omega)
    rw [if_neg (fun w => absurd w.2 (by omega))] at e
    refine e.trans ((h.a0 k' hk').trans ?_)
    by_cases q : k' = k
    · rw [q, upd_self]
    · rw [upd_other q]
  · have e := hf (k' := k') (i := 1) (by omega)
    rw [if_neg (fun w => absurd w.2 (by omega))] at e
    refine e.trans ((h.a1 k' hk').trans ?_)
    by_cases q : k' = k
    · rw [q, upd_self]
    · rw [upd_other q]
  · have e := hf (k' := k') (i := 2) (by omega)
    refine e.trans ?_
    by_cases q : k' = k
    · rw [if_pos ⟨q, rfl⟩, q, upd_self]
    · rw [if_neg (fun w => q w.1), upd_other q]; exact h.a2 k' hk'
  · have e := hf (k' := k') (i := 3) (by omega)
    rw [if_neg (fun w => absurd w.2 (by omega))] at e
    refine e.trans ((h.a3 k' hk').trans ?_)
    by_cases q : k' = k
    · rw [q, upd_self]
    · rw [upd_other q]
  · have e := hf (k' := k') (i := 4) (by omega)
    rw [if_neg (fun w => absurd w.2 (by omega))] at e
    refine e.trans ((h.a4 k' hk').trans ?_)
    by_cases q : k' = k
    · rw [q, upd_self]
    · rw [upd_other q]
  · have e := hf (k' := k') (i := 5) (by omega)
    rw [if_neg (fun w => absurd w.2 (by omega))] at e
    refine e.trans ((h.a5 k' hk').trans ?_)
    by_cases q : k' = k
    · rw [q, upd_self]
    · rw [upd_other q]
  · have e := hf (k' := k') (i := 6) (by omega)
    rw [if_neg (fun w => absurd w.2 (by omega))] at e
    refine e.trans ((h.a6 k' hk').trans ?_)
    by_cases q : k' = k
    · rw [q, upd_self]
    · rw [upd_other q]
  · have e := hf (k' := k') (i := 7) (by omega)
    rw [if_neg (fun w => absurd w.2 (by omega))] at e
    rw [e, (hu k').1]
    exact FL.lists h.ff (h.hh k' hk') (fun g => h.hr k' g hk') (by omega)
  · have e := hf (k' := k') (i := 7) (by omega)
    rw [if_neg (fun w => absurd w.2 (by omega))] at e
    rw [e] at hg
    exact h.hr k' g hk' hg
  · have e := hf (k' := k') (i := 8) (by omega)
    rw [if_neg (fun w => absurd w.2 (by omega))] at e
    rw [e, (hu k').2]
    exact FL.lists h.ff (h.ph k' hk') (fun g => h.pr k' g hk') (by omega)
  · have e := hf (k' := k') (i := 8) (by omega)
    rw [if_neg (fun w => absurd w.2 (by omega))] at e
    rw [e] at hg
    exact h.pr k' g hk' hg
  · rw [far (by omega)]; exact FL.lists h.ff h.wo h.wr (by omega)
  · rw [far (by omega)]; exact h.wr
  · rw [far (by omega)]; exact FL.lists h.ff h.so h.sr (by omega)
  · rw [far (by omega)]; exact h.sr
theorem FL.set_loc (h : FL W ρ fb rb fv c want was ws mk) {k : Nat} (hk : k < 4) (x : Nat) : FL (W.setCell ⟨fb, 1 + k * 9 + 3, none⟩ (.int .i64 (x : Int))) ρ fb rb (fset fv (1 + k * 9 + 3) (.int .i64 (x : Int))) (upd c k { c k with loc := x }) want was ws mk := by
  have hf : ∀ {k' i : Nat}, i < 9 → fset fv (1 + k * 9 + 3) (.int .i64 (x : Int)) (1 + k' * 9 + i) = if k' = k ∧ i = 3 then .int .i64 (x : Int) else fv (1 + k' * 9 + i) := fun hi => fset_cl (j := 3) hi (by omega)
  have hu : ∀ k', (upd c k { c k with loc := x } k').held = (c k').held ∧ (upd c k { c k with loc := x } k').put = (c k').put := fun k' => by
    by_cases e : k' = k
    · subst e; rw [upd_self]; exact ⟨rfl, rfl⟩
    · rw [upd_other e]; exact ⟨rfl, rfl⟩
  have far : ∀ {i : Nat}, 37 ≤ i → fset fv (1 + k * 9 + 3) (.int .i64 (x : Int)) i = fv i := fun hi => fset_other (by omega)
  refine ⟨h.ff.set (by omega) _, (fset_other (by omega)).trans h.f0, fun k' hk' => ?_, fun k' hk' => ?_, fun k' hk' => ?_, fun k' hk' => ?_, fun k' hk' => ?_, fun k' hk' => ?_, fun k' hk' => ?_, fun k' hk' => ?_, fun k' g hk' hg => ?_, fun k' hk' => ?_, fun k' g hk' hg => ?_, ?_, ?_, ?_, ?_, fun i l v hl hv => FL.lists h.ff (h.si i l v hl hv) (fun g => h.sj i v g hv) (by omega), h.sj, (far (by omega)).trans h.mk_, (far (by omega)).trans h.fd⟩
  · have e := hf (k' := k') (i := 0) (by omega)
    rw [if_neg (fun w => absurd w.2 (by omega))] at e
    refine e.trans ((h.a0 k' hk').trans ?_)
    by_cases q : k' = k
    · rw [q, upd_self]
    · rw [upd_other q]
  · have e := hf (k' := k') (i := 1) (by omega)
    rw [if_neg (fun w => absurd w.2 (by omega))] at e
    refine e.trans ((h.a1 k' hk').trans ?_)
    by_cases q : k' = k
    · rw [q, upd_self]
    · rw [upd_other q]
  · have e := hf (k' := k') (i := 2) (by omega)
    rw [if_neg (fun w => absurd w.2 (by omega))] at e
    refine e.trans ((h.a2 k' hk').trans ?_)
    by_cases q : k' = k
    · rw [q, upd_self]
    · rw [upd_other q]
  · have e := hf (k' := k') (i := 3) (by omega)
    refine e.trans ?_
    by_cases q : k' = k
    · rw [if_pos ⟨q, rfl⟩, q, upd_self]
    · rw [if_neg (fun w => q w.1), upd_other q]; exact h.a3 k' hk'
  · have e := hf (k' := k') (i := 4) (by omega)
    rw [if_neg (fun w => absurd w.2 (by omega))] at e
    refine e.trans ((h.a4 k' hk').trans ?_)
    by_cases q : k' = k
    · rw [q, upd_self]
    · rw [upd_other q]
  · have e := hf (k' := k') (i := 5) (by omega)
    rw [if_neg (fun w => absurd w.2 (by omega))] at e
    refine e.trans ((h.a5 k' hk').trans ?_)
    by_cases q : k' = k
    · rw [q, upd_self]
    · rw [upd_other q]
  · have e := hf (k' := k') (i := 6) (by omega)
    rw [if_neg (fun w => absurd w.2 (by omega))] at e
    refine e.trans ((h.a6 k' hk').trans ?_)
    by_cases q : k' = k
    · rw [q, upd_self]
    · rw [upd_other q]
  · have e := hf (k' := k') (i := 7) (by omega)
    rw [if_neg (fun w => absurd w.2 (by omega))] at e
    rw [e, (hu k').1]
    exact FL.lists h.ff (h.hh k' hk') (fun g => h.hr k' g hk') (by omega)
  · have e := hf (k' := k') (i := 7) (by omega)
    rw [if_neg (fun w => absurd w.2 (by omega))] at e
    rw [e] at hg
    exact h.hr k' g hk' hg
  · have e := hf (k' := k') (i := 8) (by omega)
    rw [if_neg (fun w => absurd w.2 (by omega))] at e
    rw [e, (hu k').2]
    exact FL.lists h.ff (h.ph k' hk') (fun g => h.pr k' g hk') (by omega)
  · have e := hf (k' := k') (i := 8) (by omega)
    rw [if_neg (fun w => absurd w.2 (by omega))] at e
    rw [e] at hg
    exact h.pr k' g hk' hg
  · rw [far (by omega)]; exact FL.lists h.ff h.wo h.wr (by omega)
  · rw [far (by omega)]; exact h.wr
  · rw [far (by omega)]; exact FL.lists h.ff h.so h.sr (by omega)
  · rw [far (by omega)]; exact h.sr
theorem FL.set_own (h : FL W ρ fb rb fv c want was ws mk) {k : Nat} (hk : k < 4) (x : Nat) : FL (W.setCell ⟨fb, 1 + k * 9 + 4, none⟩ (.int .i64 (x : Int))) ρ fb rb (fset fv (1 + k * 9 + 4) (.int .i64 (x : Int))) (upd c k { c k with own := x }) want was ws mk := by
  have hf : ∀ {k' i : Nat}, i < 9 → fset fv (1 + k * 9 + 4) (.int .i64 (x : Int)) (1 + k' * 9 + i) = if k' = k ∧ i = 4 then .int .i64 (x : Int) else fv (1 + k' * 9 + i) := fun hi => fset_cl (j := 4) hi (by omega)
  have hu : ∀ k', (upd c k { c k with own := x } k').held = (c k').held ∧ (upd c k { c k with own := x } k').put = (c k').put := fun k' => by
    by_cases e : k' = k
    · subst e; rw [upd_self]; exact ⟨rfl, rfl⟩
    · rw [upd_other e]; exact ⟨rfl, rfl⟩
  have far : ∀ {i : Nat}, 37 ≤ i → fset fv (1 + k * 9 + 4) (.int .i64 (x : Int)) i = fv i := fun hi => fset_other (by omega)
  refine ⟨h.ff.set (by omega) _, (fset_other (by omega)).trans h.f0, fun k' hk' => ?_, fun k' hk' => ?_, fun k' hk' => ?_, fun k' hk' => ?_, fun k' hk' => ?_, fun k' hk' => ?_, fun k' hk' => ?_, fun k' hk' => ?_, fun k' g hk' hg => ?_, fun k' hk' => ?_, fun k' g hk' hg => ?_, ?_, ?_, ?_, ?_, fun i l v hl hv => FL.lists h.ff (h.si i l v hl hv) (fun g => h.sj i v g hv) (by omega), h.sj, (far (by omega)).trans h.mk_, (far (by omega)).trans h.fd⟩
  · have e := hf (k' := k') (i := 0) (by omega)
    rw [if_neg (fun w => absurd w.2 (by omega))] at e
    refine e.trans ((h.a0 k' hk').trans ?_)
    by_cases q : k' = k
    · rw [q, upd_self]
    · rw [upd_other q]
  · have e := hf (k' := k') (i := 1) (by omega)
    rw [if_neg (fun w => absurd w.2 (by omega))] at e
    refine e.trans ((h.a1 k' hk').trans ?_)
    by_cases q : k' = k
    · rw [q, upd_self]
    · rw [upd_other q]
  · have e := hf (k' := k') (i := 2) (by omega)
    rw [if_neg (fun w => absurd w.2 (by omega))] at e
    refine e.trans ((h.a2 k' hk').trans ?_)
    by_cases q : k' = k
    · rw [q, upd_self]
    · rw [upd_other q]
  · have e := hf (k' := k') (i := 3) (by omega)
    rw [if_neg (fun w => absurd w.2 (by omega))] at e
    refine e.trans ((h.a3 k' hk').trans ?_)
    by_cases q : k' = k
    · rw [q, upd_self]
    · rw [upd_other q]
  · have e := hf (k' := k') (i := 4) (by omega)
    refine e.trans ?_
    by_cases q : k' = k
    · rw [if_pos ⟨q, rfl⟩, q, upd_self]
    · rw [if_neg (fun w => q w.1), upd_other q]; exact h.a4 k' hk'
  · have e := hf (k' := k') (i := 5) (by omega)
    rw [if_neg (fun w => absurd w.2 (by omega))] at e
    refine e.trans ((h.a5 k' hk').trans ?_)
    by_cases q : k' = k
    · rw [q, upd_self]
    · rw [upd_other q]
  · have e := hf (k' := k') (i := 6) (by omega)
    rw [if_neg (fun w => absurd w.2 (by omega))] at e
    refine e.trans ((h.a6 k' hk').trans ?_)
    by_cases q : k' = k
    · rw [q, upd_self]
    · rw [upd_other q]
  · have e := hf (k' := k') (i := 7) (by omega)
    rw [if_neg (fun w => absurd w.2 (by omega))] at e
    rw [e, (hu k').1]
    exact FL.lists h.ff (h.hh k' hk') (fun g => h.hr k' g hk') (by omega)
  · have e := hf (k' := k') (i := 7) (by omega)
    rw [if_neg (fun w => absurd w.2 (by omega))] at e
    rw [e] at hg
    exact h.hr k' g hk' hg
  · have e := hf (k' := k') (i := 8) (by omega)
    rw [if_neg (fun w => absurd w.2 (by omega))] at e
    rw [e, (hu k').2]
    exact FL.lists h.ff (h.ph k' hk') (fun g => h.pr k' g hk') (by omega)
  · have e := hf (k' := k') (i := 8) (by omega)
    rw [if_neg (fun w => absurd w.2 (by omega))] at e
    rw [e] at hg
    exact h.pr k' g hk' hg
  · rw [far (by omega)]; exact FL.lists h.ff h.wo h.wr (by omega)
  · rw [far (by omega)]; exact h.wr
  · rw [far (by omega)]; exact FL.lists h.ff h.so h.sr (by omega)
  · rw [far (by omega)]; exact h.sr
theorem FL.set_cur (h : FL W ρ fb rb fv c want was ws mk) {k : Nat} (hk : k < 4) (x : Nat) : FL (W.setCell ⟨fb, 1 + k * 9 + 5, none⟩ (.int .i64 (x : Int))) ρ fb rb (fset fv (1 + k * 9 + 5) (.int .i64 (x : Int))) (upd c k { c k with cur := x }) want was ws mk := by
  have hf : ∀ {k' i : Nat}, i < 9 → fset fv (1 + k * 9 + 5) (.int .i64 (x : Int)) (1 + k' * 9 + i) = if k' = k ∧ i = 5 then .int .i64 (x : Int) else fv (1 + k' * 9 + i) := fun hi => fset_cl (j := 5) hi (by omega)
  have hu : ∀ k', (upd c k { c k with cur := x } k').held = (c k').held ∧ (upd c k { c k with cur := x } k').put = (c k').put := fun k' => by
    by_cases e : k' = k
    · subst e; rw [upd_self]; exact ⟨rfl, rfl⟩
    · rw [upd_other e]; exact ⟨rfl, rfl⟩
  have far : ∀ {i : Nat}, 37 ≤ i → fset fv (1 + k * 9 + 5) (.int .i64 (x : Int)) i = fv i := fun hi => fset_other (by omega)
  refine ⟨h.ff.set (by omega) _, (fset_other (by omega)).trans h.f0, fun k' hk' => ?_, fun k' hk' => ?_, fun k' hk' => ?_, fun k' hk' => ?_, fun k' hk' => ?_, fun k' hk' => ?_, fun k' hk' => ?_, fun k' hk' => ?_, fun k' g hk' hg => ?_, fun k' hk' => ?_, fun k' g hk' hg => ?_, ?_, ?_, ?_, ?_, fun i l v hl hv => FL.lists h.ff (h.si i l v hl hv) (fun g => h.sj i v g hv) (by omega), h.sj, (far (by omega)).trans h.mk_, (far (by omega)).trans h.fd⟩
  · have e := hf (k' := k') (i := 0) (by omega)
    rw [if_neg (fun w => absurd w.2 (by omega))] at e
    refine e.trans ((h.a0 k' hk').trans ?_)
    by_cases q : k' = k
    · rw [q, upd_self]
    · rw [upd_other q]
  · have e := hf (k' := k') (i := 1) (by omega)
    rw [if_neg (fun w => absurd w.2 (by omega))] at e
    refine e.trans ((h.a1 k' hk').trans ?_)
    by_cases q : k' = k
    · rw [q, upd_self]
    · rw [upd_other q]
  · have e := hf (k' := k') (i := 2) (by omega)
    rw [if_neg (fun w => absurd w.2 (by omega))] at e
    refine e.trans ((h.a2 k' hk').trans ?_)
    by_cases q : k' = k
    · rw [q, upd_self]
    · rw [upd_other q]
  · have e := hf (k' := k') (i := 3) (by omega)
    rw [if_neg (fun w => absurd w.2 (by omega))] at e
    refine e.trans ((h.a3 k' hk').trans ?_)
    by_cases q : k' = k
    · rw [q, upd_self]
    · rw [upd_other q]
  · have e := hf (k' := k') (i := 4) (by omega)
    rw [if_neg (fun w => absurd w.2 (by omega))] at e
    refine e.trans ((h.a4 k' hk').trans ?_)
    by_cases q : k' = k
    · rw [q, upd_self]
    · rw [upd_other q]
  · have e := hf (k' := k') (i := 5) (by omega)
    refine e.trans ?_
    by_cases q : k' = k
    · rw [if_pos ⟨q, rfl⟩, q, upd_self]
    · rw [if_neg (fun w => q w.1), upd_other q]; exact h.a5 k' hk'
  · have e := hf (k' := k') (i := 6) (by omega)
    rw [if_neg (fun w => absurd w.2 (by omega))] at e
    refine e.trans ((h.a6 k' hk').trans ?_)
    by_cases q : k' = k
    · rw [q, upd_self]
    · rw [upd_other q]
  · have e := hf (k' := k') (i := 7) (by omega)
    rw [if_neg (fun w => absurd w.2 (by omega))] at e
    rw [e, (hu k').1]
    exact FL.lists h.ff (h.hh k' hk') (fun g => h.hr k' g hk') (by omega)
  · have e := hf (k' := k') (i := 7) (by omega)
    rw [if_neg (fun w => absurd w.2 (by omega))] at e
    rw [e] at hg
    exact h.hr k' g hk' hg
  · have e := hf (k' := k') (i := 8) (by omega)
    rw [if_neg (fun w => absurd w.2 (by omega))] at e
    rw [e, (hu k').2]
    exact FL.lists h.ff (h.ph k' hk') (fun g => h.pr k' g hk') (by omega)
  · have e := hf (k' := k') (i := 8) (by omega)
    rw [if_neg (fun w => absurd w.2 (by omega))] at e
    rw [e] at hg
    exact h.pr k' g hk' hg
  · rw [far (by omega)]; exact FL.lists h.ff h.wo h.wr (by omega)
  · rw [far (by omega)]; exact h.wr
  · rw [far (by omega)]; exact FL.lists h.ff h.so h.sr (by omega)
  · rw [far (by omega)]; exact h.sr
theorem FL.set_since (h : FL W ρ fb rb fv c want was ws mk) {k : Nat} (hk : k < 4) (x : Nat) : FL (W.setCell ⟨fb, 1 + k * 9 + 6, none⟩ (.int .i64 (x : Int))) ρ fb rb (fset fv (1 + k * 9 + 6) (.int .i64 (x : Int))) (upd c k { c k with since := x }) want was ws mk := by
  have hf : ∀ {k' i : Nat}, i < 9 → fset fv (1 + k * 9 + 6) (.int .i64 (x : Int)) (1 + k' * 9 + i) = if k' = k ∧ i = 6 then .int .i64 (x : Int) else fv (1 + k' * 9 + i) := fun hi => fset_cl (j := 6) hi (by omega)
  have hu : ∀ k', (upd c k { c k with since := x } k').held = (c k').held ∧ (upd c k { c k with since := x } k').put = (c k').put := fun k' => by
    by_cases e : k' = k
    · subst e; rw [upd_self]; exact ⟨rfl, rfl⟩
    · rw [upd_other e]; exact ⟨rfl, rfl⟩
  have far : ∀ {i : Nat}, 37 ≤ i → fset fv (1 + k * 9 + 6) (.int .i64 (x : Int)) i = fv i := fun hi => fset_other (by omega)
  refine ⟨h.ff.set (by omega) _, (fset_other (by omega)).trans h.f0, fun k' hk' => ?_, fun k' hk' => ?_, fun k' hk' => ?_, fun k' hk' => ?_, fun k' hk' => ?_, fun k' hk' => ?_, fun k' hk' => ?_, fun k' hk' => ?_, fun k' g hk' hg => ?_, fun k' hk' => ?_, fun k' g hk' hg => ?_, ?_, ?_, ?_, ?_, fun i l v hl hv => FL.lists h.ff (h.si i l v hl hv) (fun g => h.sj i v g hv) (by omega), h.sj, (far (by omega)).trans h.mk_, (far (by omega)).trans h.fd⟩
  · have e := hf (k' := k') (i := 0) (by omega)
    rw [if_neg (fun w => absurd w.2 (by omega))] at e
    refine e.trans ((h.a0 k' hk').trans ?_)
    by_cases q : k' = k
    · rw [q, upd_self]
    · rw [upd_other q]
  · have e := hf (k' := k') (i := 1) (by omega)
    rw [if_neg (fun w => absurd w.2 (by omega))] at e
    refine e.trans ((h.a1 k' hk').trans ?_)
    by_cases q : k' = k
    · rw [q, upd_self]
    · rw [upd_other q]
  · have e := hf (k' := k') (i := 2) (by omega)
    rw [if_neg (fun w => absurd w.2 (by omega))] at e
    refine e.trans ((h.a2 k' hk').trans ?_)
    by_cases q : k' = k
    · rw [q, upd_self]
    · rw [upd_other q]
  · have e := hf (k' := k') (i := 3) (by omega)
    rw [if_neg (fun w => absurd w.2 (by omega))] at e
    refine e.trans ((h.a3 k' hk').trans ?_)
    by_cases q : k' = k
    · rw [q, upd_self]
    · rw [upd_other q]
  · have e := hf (k' := k') (i := 4) (by omega)
    rw [if_neg (fun w => absurd w.2 (by omega))] at e
    refine e.trans ((h.a4 k' hk').trans ?_)
    by_cases q : k' = k
    · rw [q, upd_self]
    · rw [upd_other q]
  · have e := hf (k' := k') (i := 5) (by omega)
    rw [if_neg (fun w => absurd w.2 (by omega))] at e
    refine e.trans ((h.a5 k' hk').trans ?_)
    by_cases q : k' = k
    · rw [q, upd_self]
    · rw [upd_other q]
  · have e := hf (k' := k') (i := 6) (by omega)
    refine e.trans ?_
    by_cases q : k' = k
    · rw [if_pos ⟨q, rfl⟩, q, upd_self]
    · rw [if_neg (fun w => q w.1), upd_other q]; exact h.a6 k' hk'
  · have e := hf (k' := k') (i := 7) (by omega)
    rw [if_neg (fun w => absurd w.2 (by omega))] at e
    rw [e, (hu k').1]
    exact FL.lists h.ff (h.hh k' hk') (fun g => h.hr k' g hk') (by omega)
  · have e := hf (k' := k') (i := 7) (by omega)
    rw [if_neg (fun w => absurd w.2 (by omega))] at e
    rw [e] at hg
    exact h.hr k' g hk' hg
  · have e := hf (k' := k') (i := 8) (by omega)
    rw [if_neg (fun w => absurd w.2 (by omega))] at e
    rw [e, (hu k').2]
    exact FL.lists h.ff (h.ph k' hk') (fun g => h.pr k' g hk') (by omega)
  · have e := hf (k' := k') (i := 8) (by omega)
    rw [if_neg (fun w => absurd w.2 (by omega))] at e
    rw [e] at hg
    exact h.pr k' g hk' hg
  · rw [far (by omega)]; exact FL.lists h.ff h.wo h.wr (by omega)
  · rw [far (by omega)]; exact h.wr
  · rw [far (by omega)]; exact FL.lists h.ff h.so h.sr (by omega)
  · rw [far (by omega)]; exact h.sr
end
end Go.Proofs.Ytdeiochjkbogpaa
