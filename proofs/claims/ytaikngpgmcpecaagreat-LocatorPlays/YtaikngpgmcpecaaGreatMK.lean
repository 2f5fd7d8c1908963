import Derived.Test.YtaikngpgmcpecaaGreatMJ
import Derived.Test.YtaikngpgmcpecaaGreatLocOpen
import Derived.Test.YtaikngpgmcpecaaGreatCelLog
import Derived.Test.YtaikngpgmcpecaaGreatRefCelL
namespace Go.Proofs.YtaikngpgmcpecaaGreat
open Go.RowKit
/-- The script's state. -/
structure PZ (w1 : World) (i pb wb mb qb rb : Nat) (Wr : World) (ρ : Nat → Nat) (D : Nat → Prop) (s : Ws) (m : Mm) : Prop where
  pp : PP Wr ρ D wb mb qb rb s m
  pb : PBl Wr ρ D pb mb wb rb qb
  k : Keeps (fun _ => False) w1 Wr
  b : ∀ i, i < w1.heap.size → ρ i = 0 ∧ ¬ D i
  l : lg m ≤ i
set_option maxHeartbeats 1600000 in
set_option maxRecDepth 1000000 in
theorem plaw_any {w : World} (cells : Int) {a : Option Addr} {cap : Nat} {vs : List Vl} (hv : VB w a vs) (hz : a = none → cap = 0) (hn : vs.length ≤ 5864062014805) {sa : Option Addr} {l : List Oq} (hl : OL w sa l) (hln : l.length ≤ 2199023255488) (sc : Nat) :
    Calls Tryz.prog 3 #[.int .i64 cells, .slice a vs.length cap, .slice sa l.length sc] w fun e w' => e = .returned (.bool true) ∧ Below w.heap.size w w' := by
  have hh := head_any w
  have HV : Hid (VB w a vs) := hv
  have HZ : Hid (a = none → cap = 0) := hz
  have HL : Hid (OL w sa l) := hl
  obtain ⟨n, hnn⟩ : ∃ x, x = vs.length := ⟨_, rfl⟩
  have HN : Hid (n = vs.length) := hnn
  rw [← hnn] at hn
  rw [← hnn]
  obtain ⟨N, hNN⟩ : ∃ x, x = l.length := ⟨_, rfl⟩
  have HNN : Hid (N = l.length) := hNN
  rw [← hNN] at hln
  rw [← hNN]
  clear hv hz hl hnn hNN
  go_enter Tryz.func3, Tryz.ntmps3
  refine wp_seq_k (fun KK hKK => ?_)
  have hKH : Hid _ := hKK
  clear hKK
  go_wp2_with fail
  refine hKH.out _ _ ?_
  clear hKH KK
  refine wp_seq_k (fun KK hKK => ?_)
  have hKH : Hid _ := hKK
  clear hKK
  go_wp2_with (go_at_call 4; refine hh.mono ?_; clear hh; rintro e w1 ⟨rfl, k1⟩)
  refine hKH.out _ _ ?_
  clear hKH KK
  have hbe := begins_any (cap := cap) cells (HV.out.keep k1) HZ.out (by rw [← HN.out]; exact hn)
  rw [← HN.out] at hbe
  refine wp_seq_k (fun KK hKK => ?_)
  have hKH : Hid _ := hKK
  clear hKK
  go_wp2_with (go_at_call 5; refine hbe.mono ?_; clear hbe; rintro e w2 ⟨pb, rfl, k2, hbg⟩; have HBG : Hid _ := hbg; clear hbg)
  refine hKH.out _ _ ?_
  clear hKH KK
  refine wp_seq_k (fun KK hKK => ?_)
  have hKH : Hid _ := hKK
  clear hKK
  go_wp2_with fail
  refine hKH.out _ _ ?_
  clear hKH KK
  rcases HBG.out with hnone | ⟨ρ, D, wb, mb, qb, rb, s, m, hpp, hpb, hb, hob, hlg⟩
  · have hq := rweqn
    clear HBG
    go_wp2_with fail
    go_ret
    exact ⟨rfl, (k1.trans k2).below (Nat.le_refl _) (fun _ _ e => e)⟩
  · have hq := rweq qb
    have p1 := hpb.c1
    have p3 := hpb.c3
    have hoj := objects_any hpp.hp.st
    rw [hob, ← HN.out] at hoj
    have HS0 : Hid (PZ w1 0 pb wb mb qb rb w2 ρ D s m) := ⟨hpp, hpb, k2, hb, by omega⟩
    clear HBG hpp hpb hb hob hlg
    refine wp_seq_k (fun KK hKK => ?_)
    have hKH : Hid _ := hKK
    clear hKK
    go_wp2_with fail
    refine hKH.out _ _ ?_
    clear hKH KK
    refine wp_seq_k (fun KK hKK => ?_)
    have hKH : Hid _ := hKK
    clear hKK
    go_wp2_with (go_at_call 6; refine hoj.mono ?_; clear hoj; rintro e w' ⟨rfl, rfl⟩)
    refine hKH.out _ _ ?_
    clear hKH KK
    refine wp_seq_k (fun KK hKK => ?_)
    have hKH : Hid _ := hKK
    clear hKK
    go_wp2_with fail
    refine hKH.out _ _ ?_
    clear hKH KK
    refine wp_seq_k (fun KK hKK => ?_)
    have hKH : Hid _ := hKK
    clear hKK
    go_wp2_with fail
    go_loopg [8, 10] N (fun g v8 iv Wr => ∃ (i : Nat) (ρ : Nat → Nat) (D : Nat → Prop) (s : Ws) (m : Mm), i + g = N ∧ iv = .int .i64 (i : Int) ∧ PZ w1 i pb wb mb qb rb Wr ρ D s m)
    case atStart => exact ⟨0, ρ, D, s, m, by omega, rfl, HS0.out⟩
    case round =>
      obtain ⟨i, ρ1, D1, s1, m1, hig, rfl, hP⟩ := hrel
      have HP : Hid (PZ w1 i pb wb mb qb rb wr ρ1 D1 s1 m1) := hP
      clear hP HS0 p1 p3 k2
      cases gk with
      | zero =>
        have d1 : decide ((i : Int) < (N : Int)) = false := decide_eq_false (by omega)
        have d2 : decide (i < N) = false := decide_eq_false (by omega)
        have hP := HP.out
        have hll : m1.log.length * 56 ≤ 140737488355328 := by have := lg_log m1; have := hP.l; omega
        obtain ⟨F, hm1, -⟩ := hP.pp.hp.st.mj
        have hlo := log_any hm1 hll
        have HRI : Hid (∃ B, RI wr rb m1 B) := by
          obtain ⟨sv, σ, B, hw, -⟩ := hP.pp.hp.di
          exact ⟨B, hw.ri⟩
        have hsz := ssize hP.pp.hp.st
        have p0 := hP.pb.c0
        have p2 := hP.pb.c2
        have HLL : Hid (m1.log.length * 56 ≤ 140737488355328) := hll
        have HST : Hid (∀ W, Keeps (fun _ => False) wr W → Calls Tryz.prog 11 #[.pointer (some ⟨mb, 0, none⟩)] W fun e w' => e = .returned (.int .i64 m1.cells.length) ∧ W = w') := fun W K => ssize (hP.pp.new K).hp.st
        have HKF : Hid (∀ W, Keeps (fun _ => False) wr W → Below w.heap.size w W) := fun W K => ((k1.trans hP.k).trans K).below (Nat.le_refl _) (fun _ _ e => e)
        clear hP hm1 hll hsz
        go_wp2_with fail
        refine hKH.out _ _ ?_
        go_wp2_with (first | (go_at_call 8; refine hlo.mono ?_; clear hlo; rintro e w3 ⟨v3, rfl, hO3, k3⟩; have p2 := k3.cell p2 id; have p0 := k3.cell p0 id; obtain ⟨B3, hr3⟩ := HRI.out; have hrl := rlog_any (hr3.new k3) HLL.out; obtain ⟨q1, r1, c1, rfl, hq1⟩ := owns_rows hO3; clear hr3) | (go_at_call 9; refine hrl.mono ?_; clear hrl; rintro e w4 ⟨v4, rfl, hO4, k4⟩; have p2 := k4.cell p2 id; have p0 := k4.cell p0 id; obtain ⟨q2, r2, c2, rfl, hq2⟩ := owns_rows hO4; have hsl := sameLog_any (c1 := c1) (c2 := c2) m1.log (by have := HLL.out; omega) (fun i hi => ⟨(hq1 i hi).1, (hq1 i hi).2.keep k4 id⟩) hq2; clear hq1 hq2 hO3 hO4) | (go_at_call 10; refine hsl.mono ?_; clear hsl; rintro e w5 ⟨rfl, k5⟩; have p2 := k5.cell p2 id; have p0 := k5.cell p0 id; have K5 := (k3.trans k4).trans k5; have hs5 := HST.out w5 K5; obtain ⟨B5, hr5⟩ := HRI.out; have hrs := rsize_any (hr5.new K5); clear hr5) | (go_at_call 11; refine hs5.mono ?_; clear hs5; rintro e w' ⟨rfl, rfl⟩) | (go_at_call 12; refine hrs.mono ?_; clear hrs; rintro e w' ⟨rfl, e'⟩; obtain rfl := e'.symm))
        go_ret
        exact ⟨rfl, HKF.out _ K5⟩
      | succ g =>
        have hi : i < N := by omega
        have d1 : decide ((i : Int) < (N : Int)) = true := decide_eq_true (by omega)
        have d2 : decide (i < N) = true := decide_eq_true hi
        have d3 : IntKind.i64.wrap ((i : Int) + 1) = (i : Int) + 1 := by rw [IntKind.wrap_i64]; omega
        have hiI : (i : Int) < (N : Int) := by omega
        have hi0 : (0 : Int) ≤ (i : Int) := by omega
        have hP := HP.out
        obtain ⟨b, off, rfl, -, hop⟩ := HL.out.some (by rw [← HNN.out]; omega)
        have hq := (hop i (by rw [← HNN.out]; exact hi)).keep (k1.trans hP.k) id
        obtain ⟨o, ho⟩ : ∃ o, o = oa l i := ⟨_, rfl⟩
        rw [← ho] at hq
        obtain ⟨ok, oa, ob1, oc, ⟨on, ox, ot⟩, os⟩ := o
        have o0 := hq.r0
        have o1 := hq.r1
        have o2 := hq.r2
        have o3 := hq.r3
        have o4 := hq.r4
        have o5 := hq.r5
        have o6 := hq.r6
        have o7 := hq.r7
        dsimp only at o0 o1 o2 o3 o4 o5 o6 o7
        have hpl := plays_any hP.pp hP.pb (by have := hP.l; omega) ok oa ob1 oc on ox ot os (i : Int)
        have HNX : Hid (∀ W, PS wr ρ1 D1 wb mb qb rb m1 W → ∃ ρ' D' s' m', PZ w1 (i + 1) pb wb mb qb rb W ρ' D' s' m') := fun W ⟨ρ', D', s', m', q1, q2, q3⟩ => by
          obtain ⟨k', b'⟩ := q2.base hP.k hP.b
          exact ⟨ρ', D', s', m', q1, hP.pb.lv q2, k', b', by have := hP.l; omega⟩
        clear hP hq hop ho
        go_wp2_with (go_at_call 7; refine hpl.mono ?_; clear hpl; rintro e w3 ⟨rfl, hps⟩; obtain ⟨ρ3, D3, s3, m3, hz3⟩ := HNX.out w3 hps; clear HNX hps)
        go_roundg g
        case measure => omega
        case rel => exact ⟨i + 1, ρ3, D3, s3, m3, by omega, by go_num, hz3⟩
end Go.Proofs.YtaikngpgmcpecaaGreat
namespace Go.Proofs.YtaikngpgmcpecaaGreat
open Go.RowKit Go.Deep Go.ChangeShapes Go.WideShapes Go.ChangeAt
theorem open_cap2 {H : Type} {enc : TypeId × Value → H} {P : Program} {W : World} {spare : Nat → Bool} {held : Bool} {t e : TypeId} {fuel : Nat} {a : Option Addr} {len cap : Nat} {x : DataW H × List MemPlace}
    (ht : P.underlying t = some (.slice e)) (h : DataW.trod enc P W 0 spare held fuel t [.slice a len cap] = some x) : len ≤ cap ∧ (a = none → cap = 0) := by
  rcases open_slice ht h with ⟨hcs, _⟩ | ⟨a', len', cap', m, n, D, Pl, hcs, hb, hl, hm, hmm, rfl, hx⟩
  · simp at hcs
    obtain ⟨rfl, rfl, rfl⟩ := hcs
    exact ⟨Nat.le_refl _, fun _ => rfl⟩
  · simp at hcs
    obtain ⟨rfl, rfl, rfl⟩ := hcs
    exact ⟨hl, fun e => by cases e⟩
instance : Inhabited Vl := ⟨vl0⟩
/-- Values that were handed in. -/
theorem open_valb {H : Type} {enc : TypeId × Value → H} {P : Program} {W : World} {spare : Nat → Bool} {held : Bool} {t e : TypeId} {f0 f1 f2 : Field} {fuel : Nat} {a : Option Addr} {len cap : Nat} {x : DataW H × List MemPlace}
    (ht : P.underlying t = some (.slice e)) (hs : P.underlying e = some (.struct #[f0, f1, f2])) (ce : P.cellsOf e = 3) (o0 : f0.offset = 0) (o1 : f1.offset = 1) (o2 : f2.offset = 2)
    (c0 : P.cellsOf f0.type = 1) (c1 : P.cellsOf f1.type = 1) (c2 : P.cellsOf f2.type = 1) (u0 : P.underlying f0.type = some (.int .i64)) (u1 : P.underlying f1.type = some (.int .i64)) (u2 : P.underlying f2.type = some .bool)
    (h : DataW.trod enc P W 0 spare held fuel t [.slice a len cap] = some x) : ∃ l : List Vl, l.length = len ∧ VB W a l ∧ (len = 0 ∨ ∃ es ss, x.1 = .slice es ss ∧ len ≤ es.length + ss.length) := by
  by_cases h0 : len = 0
  · subst h0
    exact ⟨[], rfl, (fun i hi => absurd hi (Nat.not_lt_zero _)), .inl rfl⟩
  rcases open_slice ht h with ⟨hcs, _⟩ | ⟨a', len', cap', m, n, D, Pl, hcs, hb, hl, hm, hmm, rfl, hx⟩
  · simp at hcs; omega
  simp at hcs
  obtain ⟨rfl, rfl, rfl⟩ := hcs
  have hlm : len ≤ m := by rw [hmm]; split <;> omega
  have each : ∀ i, i < len → ∃ q : Vl, W.cell? (a'.add (i * 3)) = some (.int .i64 q.num) ∧ W.cell? (a'.add (i * 3 + 1)) = some (.int .i64 q.next) ∧ W.cell? (a'.add (i * 3 + 2)) = some (.bool q.dead) := by
    intro i hi
    obtain ⟨cs', h1, h2⟩ := hx i (by omega)
    rw [ce] at h1
    obtain ⟨_, hlen, hcell⟩ := World.cells?_some h1
    obtain ⟨xs, k, hk, hxy, _, hxl, hf⟩ := DataW.trod_struct hs h2
    match xs, hxl, cs', hlen with
    | [y0, y1, y2], _, [v0, v1, v2], _ =>
      have g0 := hf 0 f0 rfl
      have g1 := hf 1 f1 rfl
      have g2 := hf 2 f2 rfl
      simp [o0, o1, o2, c0, c1, c2] at g0 g1 g2
      have e0 := hcell 0 (by omega)
      have e1 := hcell 1 (by omega)
      have e2 := hcell 2 (by omega)
      rw [add_add] at e0 e1 e2
      obtain ⟨q0, r0, _, w0⟩ := DataW.trod_int u0 g0
      obtain ⟨q1, r1, _, w1⟩ := DataW.trod_int u1 g1
      obtain ⟨q2, r2, _⟩ := DataW.trod_bool u2 g2
      simp at r0 r1 r2
      subst r0 r1 r2
      exact ⟨⟨q0, q1, q2⟩, by simpa using e0, by simpa using e1, by simpa using e2⟩
  obtain ⟨b, off, spot⟩ := a'
  obtain ⟨_, z0, _⟩ := each 0 (by omega)
  have hspot : spot = none := by simpa [Addr.add] using World.cell?_spot z0
  subst hspot
  obtain ⟨V, hV⟩ := choose_lt each
  refine ⟨(List.range len).map V, by simp, fun i hi => ?_, .inr ⟨_, _, rfl, by simp⟩⟩
  have hi : i < len := by simpa using hi
  have hv : ((List.range len).map V).getD i vl0 = V i := by simp [List.getD_eq_getElem?_getD, hi]
  obtain ⟨z0, z1, z2⟩ := hV i hi
  rw [hv]
  refine ⟨b, off, rfl, fun j v e => ?_⟩
  have hj : j < 3 := (List.getElem?_eq_some_iff.1 e).1
  match j, hj, e with
  | 0, _, e => cases e; simpa [add_none] using z0
  | 1, _, e => cases e; simpa [add_none, Nat.add_assoc] using z1
  | 2, _, e => cases e; simpa [add_none, Nat.add_assoc] using z2
theorem plaw_all {w : World} (cells : Int) (_ : I64 cells) {a : Option Addr} {cap : Nat} {vs : List Vl} (hv : VB w a vs) (hn : vs.length ≤ 5864062014805) (hz : a = none → cap = 0) {sa : Option Addr} {l : List Oq} (hl : OL w sa l) (_ : ∀ q ∈ l, q.ok) (hln : l.length ≤ 2199023255488) (sc : Nat) :
    Calls Tryz.prog 3 #[.int .i64 cells, .slice a vs.length cap, .slice sa l.length sc] w fun e w' => e = .returned (.bool true) ∧ Below w.heap.size w w' := plaw_any cells hv hz hn hl hln sc
end Go.Proofs.YtaikngpgmcpecaaGreat
