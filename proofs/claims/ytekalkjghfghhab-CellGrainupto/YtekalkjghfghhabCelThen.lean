import Derived.Test.YtekalkjghfghhabCelSame
import Derived.Test.YtekalkjghfghhabCelThenB
namespace Go.Proofs.Ytekalkjghfghhab
open Go.RowKit

theorem MP.toMN {w0 w : World} {R : Nat → Prop} {mb : Nat} {s : Mm} (h : MP w0 R w mb s) : MN w0 w mb s := by
  obtain ⟨F, h, hF, hk, _⟩ := h
  exact ⟨F, h, fun k hk' => (hF k hk').1, hk⟩
/-- One block more is one's own. -/
theorem MP.hold {w0 w : World} {mb : Nat} {s : Mm} (h : MN w0 w mb s) (o : Obj) : MP w0 (fun k => k = w.heap.size) (w.alloc o) mb s :=
  (MP.ofMN h).own ((Keeps.refl _ w).alloc o) (fun k hk => ⟨.inr (by omega), by rw [hk]; simp⟩)
theorem pask_ok {w0 w : World} {R : Nat → Prop} {mb : Nat} {s : Mm} (h : MP w0 R w mb s) (q : Ac) (hc : pl q.c < s.cells.length) (hfr : s.free = true) (hlog : (s.log.length + 1) * 56 ≤ 140737488355328) :
    Calls Try.prog 12 #[.pointer (some ⟨mb, 0, none⟩), .agg #[.int .i64 q.kind, .int .i64 q.c, .int .i64 q.x, .int .i64 q.y]] w fun e w' =>
      e = .returned (.tuple #[.int .i64 (q.said (ca s.cells (pl q.c)).2), .int .i64 0]) ∧ MP w0 R w' mb (s.take q.kd (pl q.c) (q.wrote (ca s.cells (pl q.c)).2) (q.done (ca s.cells (pl q.c)).2)) ∧ KP w0 R w w' := by
  obtain ⟨F, h, hF, hk, hR⟩ := h
  refine (asked_ok h q hc hfr hlog).mono ?_
  rintro e w' ⟨rfl, F', h', l⟩
  exact ⟨rfl, MP.next h hF hk hR h' l⟩
theorem pask_cell {w0 w : World} {R : Nat → Prop} {mb : Nat} {s : Mm} (h : MP w0 R w mb s) (q : Ac) (hc : s.there (pl q.c : Int) = false) :
    Calls Try.prog 12 #[.pointer (some ⟨mb, 0, none⟩), .agg #[.int .i64 q.kind, .int .i64 q.c, .int .i64 q.x, .int .i64 q.y]] w fun e w' =>
      e = .returned (.tuple #[.int .i64 0, .int .i64 30]) ∧ MP w0 R w' mb s ∧ KP w0 R w w' := by
  have hn := h
  obtain ⟨F, h, hF, hk, hR⟩ := h
  refine (asked_cell h q hc).mono ?_
  rintro e w' ⟨rfl, k⟩
  exact ⟨rfl, hn.new k, KP.new k⟩

theorem no_three {s : Mm} (hl : s.cells.length = 3) {c : Nat} (hc : c = 3) : s.there (c : Int) = false := by simp [Mm.there, hl, hc]
theorem ra_left {l : List Rw} {r : Rw} {j : Nat} (h : j < l.length) : ra (l ++ [r]) j = ra l j := by simp only [ra, List.getD_eq_getElem?_getD]; rw [List.getElem?_append_left h]
theorem ra_last {l : List Rw} {r : Rw} : ra (l ++ [r]) l.length = r := by simp [ra]
theorem Rises.snoc {l : List Rw} {r : Rw} (h : Rises l) (hr : ∀ j, j < l.length → (ra l j).step < r.step) : Rises (l ++ [r]) := by
  intro i j hij hj
  simp at hj
  by_cases e : j = l.length
  · rw [e, ra_last, ra_left (by omega)]; exact hr i (by omega)
  · rw [ra_left (by omega), ra_left (by omega)]; exact h i j hij (by omega)
theorem Upto.uniq {L : List Rw} {st : Int} {N M : Nat} (h : Upto L st N) (k : Upto L st M) : N = M := by
  obtain ⟨h1, h2, h3⟩ := h
  obtain ⟨k1, k2, k3⟩ := k
  rcases Nat.lt_trichotomy N M with e | e | e
  · have a := k2 N e; have b := h3 N (Nat.le_refl _) (by omega); omega
  · exact e
  · have a := h2 M e; have b := k3 M (Nat.le_refl _) (by omega); omega

/-- The memory behind so many acts. -/
structure TS (s : Mm) (i took : Nat) (d : Int) : Prop where
  len : s.cells.length = 3
  first : ∀ c, c < 3 → (ca s.cells c).1 = 10 + (c : Int)
  log : s.log.length = took
  le : took ≤ i
  rises : Rises s.log
  low : ∀ j, j < s.log.length → (ra s.log j).step < d
  stp : s.begun = true → s.step < d
theorem TS.start : TS (fr 3) 0 0 0 := ⟨rfl, (fun c hc => by
  rcases c with _ | _ | _ | c
  · rfl
  · rfl
  · rfl
  · omega), rfl, Nat.le_refl _, (fun i j _ h => by cases h), (fun j h => by cases h), (fun e => by cases e)⟩
theorem TS.may {s : Mm} {i took : Nat} {d : Int} (h : TS s i took d) (hd : 0 ≤ d) {th : Int} (hth : 0 ≤ th) : s.may d th = true := by
  have := h.stp
  simp only [Mm.may]
  cases hb : s.begun with
  | false => simp [hd, hth]
  | true => have := this hb; simp [hd, hth]; omega
theorem TS.skip {s : Mm} {i took : Nat} {d : Int} (h : TS s i took d) (th : Int) {d' : Int} (hd : d < d') : TS (s.begin d th) (i + 1) took d' :=
  ⟨h.len, h.first, h.log, Nat.le_succ_of_le h.le, h.rises, fun j hj => by have := h.low j hj; simp [Mm.begin]; omega, fun _ => hd⟩
theorem TS.take {s : Mm} {i took : Nat} {d : Int} (h : TS s i took d) (th : Int) {d' : Int} (hd : d < d') (kind : Int) {c : Nat} (wrote : Int) (dn : Bool) : TS ((s.begin d th).take kind c wrote dn) (i + 1) (took + 1) d' := by
  have hl := h.len
  refine ⟨by simp [Mm.take, Mm.begin, hl], fun k hk => ?_, by simp [Mm.take, Mm.begin, h.log], by have := h.le; omega, ?_, fun j hj => ?_, fun _ => hd⟩
  · have := h.first k hk
    simp only [Mm.take, Mm.begin, ca, List.getD_eq_getElem?_getD] at this ⊢
    by_cases e : c = k
    · subst e; simp [hl, hk] at this ⊢; exact this
    · rw [List.getElem?_set_ne e]; exact this
  · exact h.rises.snoc (fun j hj => by have := h.low j hj; simpa [Mm.row, Mm.begin] using this)
  · simp [Mm.take, Mm.begin] at hj
    by_cases e : j = s.log.length
    · show (ra (s.log ++ [_]) j).step < d'
      rw [e, ra_last]; exact hd
    · show (ra (s.log ++ [_]) j).step < d'
      rw [ra_left (by omega)]; have := h.low j (by omega); omega

theorem rows_of_owns {w : World} {base : Nat} {v : Value} {L : List Rw} (h : w.ownsRow base 39 7 v L.length (fl rcells L)) : ∃ a cap, v = .slice a L.length cap ∧ RowsAt w a L := by
  rcases h.2 with ⟨rfl, h0⟩ | ⟨g, cap, cur, rfl, hb, hg, rest⟩
  · exact ⟨none, 0, by rw [h0], .inl h0⟩
  · exact ⟨_, cap, rfl, .inr ⟨g, rfl, owns_lt' h g rfl, fun i hi => owns_row h rfl hi⟩⟩
theorem RowsAt.new {w w' : World} {a : Option Addr} {L : List Rw} (h : RowsAt w a L) (k : Keeps (fun _ => False) w w') : RowsAt w' a L := h.below (k.below (Nat.le_refl _) (fun _ _ e => e)) rfl

set_option maxHeartbeats 6400000 in
set_option maxRecDepth 1000000 in
theorem cellThen_walk {w : World} {a : Option Addr} {l : List Ac} (hA : AL w a l) (_ : ∀ q ∈ l, q.ok) (hln : l.length ≤ 1048576) (cap : Nat) {a2 : Option Addr} {n2 : Nat} {z : Nat → Int} (hZ : NL w a2 n2 z) (_ : ∀ i, i < n2 → I64 (z i)) (hn2 : n2 ≤ 1048576) (cap2 : Nat) :
    Calls Try.prog 7 #[.slice a l.length cap, .slice a2 n2 cap2] w fun e w' => e = .returned (.bool true) ∧ Below w.heap.size w w' := by
  have hp := peq w.heap.size
  have HA : Hid (AL w a l) := hA
  have HZ : Hid (NL w a2 n2 z) := hZ
  clear hA hZ
  go_enter Try.func7, Try.ntmps7
  go_wp2_with fail
  refine (fresh_any w).mono ?_
  rintro e w1 ⟨rfl, M1⟩
  go_wp2_with fail
  go_loopw [24, 6] (fun iv tv wr => ∃ (i t : Nat) (s : Mm), i ≤ l.length ∧ iv = .int .i64 i ∧ tv = .int .i64 t ∧ MN w wr w.heap.size s ∧ TS s i t (3 * (i : Int))) (fun iv _ _ => l.length - (intOf iv).toNat)
  case atStart => exact ⟨0, 0, fr 3, Nat.zero_le _, rfl, rfl, M1, TS.start⟩
  case round =>
    obtain ⟨i, t, s, hi, rfl, rfl, M, T⟩ := hrel
    have htl := T.le
    by_cases hlt : i < l.length
    · obtain ⟨b, off, rfl, hb, hc⟩ := HA.out.some (by omega)
      have hiI : (i : Int) < (l.length : Int) := by omega
      have d0 := M.keeps.cell (hc i hlt).1 (fun e => e)
      have d1 := M.keeps.cell (hc i hlt).2.1 (fun e => e)
      have d2 := M.keeps.cell (hc i hlt).2.2.1 (fun e => e)
      have d3 := M.keeps.cell (hc i hlt).2.2.2 (fun e => e)
      generalize aa l i = q at *
      have h4 := pl_lt q.c
      obtain ⟨wx, hwx⟩ : ∃ wx, wx = wr.alloc (.cells #[.int .i64 q.kind, .int .i64 q.c, .int .i64 q.x, .int .i64 q.y] 27) := ⟨_, rfl⟩
      have b0 : wx.cell? ⟨wr.heap.size, 0, none⟩ = some (.int .i64 q.kind) := by rw [hwx]; simp
      have b1 : wx.cell? ⟨wr.heap.size, 1, none⟩ = some (.int .i64 q.c) := by rw [hwx]; simp
      have b2 : wx.cell? ⟨wr.heap.size, 2, none⟩ = some (.int .i64 q.x) := by rw [hwx]; simp
      have b3 : wx.cell? ⟨wr.heap.size, 3, none⟩ = some (.int .i64 q.y) := by rw [hwx]; simp
      have MX : MP w (fun k => k = wr.heap.size) wx w.heap.size s := by rw [hwx]; exact MP.hold M _
      have BG := pbegin MX (3 * (i : Int)) 0 (T.may (by omega) (by omega))
      go_wp2_with fail
      rw [← hwx]
      clear hwx hc
      refine BG.mono ?_
      rintro e w5 ⟨rfl, M5, K5⟩
      have c0 := K5.cell b0 rfl
      have c1 := K5.cell b1 rfl
      have c2 := K5.cell b2 rfl
      have c3 := K5.cell b3 rfl
      clear b0 b1 b2 b3 d0 d1 d2 d3 BG
      go_wp2_with (go_at_call 11; refine (num_any _ _).mono ?_; rintro e w5 ⟨rfl, rfl⟩)
      by_cases hpl : pl q.c = 3
      · skip
        refine (pask_cell M5 q (no_three T.len hpl)).mono ?_
        rintro e w6 ⟨rfl, M6, K6⟩
        have e0 := K6.cell c0 rfl
        have e1 := K6.cell c1 rfl
        have e2 := K6.cell c2 rfl
        have e3 := K6.cell c3 rfl
        have hpN : ((pl q.c : Int) != 3) = false := by simp [hpl]
        have hpl2 : Hid (pl q.c = 3) := hpl
        clear hpl
        clear c0 c1 c2 c3
        go_wp2_with fail
        refine (place_any w6 q).mono ?_
        rintro e w7 ⟨rfl, hw7⟩
        have K7 : Keeps (fun _ => False) w6 w7 := by rw [hw7]; exact (Keeps.refl _ w6).alloc _
        clear hw7
        go_wp2_with fail
        go_roundw
        case rel => exact ⟨i + 1, t, _, by omega, by go_num, rfl, (M6.new K7).toMN, T.skip 0 (by omega)⟩
        case measure => simp [intOf]; omega
      · skip
        refine (pask_ok M5 q (by show pl q.c < s.cells.length; rw [T.len]; omega) rfl (by show (s.log.length + 1) * 56 ≤ _; rw [T.log]; omega)).mono ?_
        rintro e w6 ⟨rfl, M6, K6⟩
        have e0 := K6.cell c0 rfl
        have e1 := K6.cell c1 rfl
        have e2 := K6.cell c2 rfl
        have e3 := K6.cell c3 rfl
        have hpN : ((pl q.c : Int) != 3) = true := by simp; omega
        have hpl2 : Hid (¬ pl q.c = 3) := hpl
        clear hpl
        clear c0 c1 c2 c3
        go_wp2_with fail
        refine (place_any w6 q).mono ?_
        rintro e w7 ⟨rfl, hw7⟩
        have K7 : Keeps (fun _ => False) w6 w7 := by rw [hw7]; exact (Keeps.refl _ w6).alloc _
        clear hw7
        go_wp2_with fail
        go_roundw
        case rel => exact ⟨i + 1, t + 1, _, by omega, by go_num, by go_num, (M6.new K7).toMN, T.take 0 (by omega) _ _ _⟩
        case measure => simp [intOf]; omega
    · skip
      have hiI : ¬ (i : Int) < (l.length : Int) := by omega
      have hlog56 : s.log.length * 56 ≤ 140737488355328 := by rw [T.log]; omega
      have LG := nlog M hlog56
      go_wp2_with fail
      refine LG.mono ?_
      clear LG
      rintro e w2 ⟨v, rfl, ho, M2, K2⟩
      obtain ⟨av, cv, rfl, RW⟩ := rows_of_owns ho
      have hLL : Hid (s.log.length = t) := T.log
      have hLn : s.log.length ≤ 1048576 := by rw [T.log]; omega
      have HR : Hid (Rises s.log) := T.rises
      have HF : Hid (∀ c, c < 3 → (ca s.cells c).1 = 10 + (c : Int)) := T.first
      have HL : Hid (s.cells.length = 3) := T.len
      have HRW : Hid (RowsAt w2 av s.log) := RW
      have e56 : (t : Int) = (s.log.length : Int) := by rw [T.log]
      rw [e56]
      clear ho T K2 M RW e56
      generalize hLg : s.log = L at *
      go_wp2_with fail
      go_loopw [52] (fun jv wr => ∃ j : Nat, j ≤ n2 ∧ jv = .int .i64 j ∧ Keeps (fun _ => False) w2 wr) (fun jv _ => n2 - (intOf jv).toNat)
      case atStart => exact ⟨0, Nat.zero_le _, rfl, Keeps.refl _ _⟩
      case round =>
        obtain ⟨j, hj, rfl, K⟩ := hrel
        by_cases hltj : j < n2
        · obtain ⟨bz, oz, rfl, hbz, hcz⟩ := HZ.out.some (by omega)
          have hjI : (j : Int) < (n2 : Int) := by omega
          have cz := K.cell (M2.keeps.cell (hcz j hltj) (fun e => e)) (fun e => e)
          generalize z j = st at *
          clear hcz
          go_wp2_with fail
          clear cz
          go_loopw [12] (fun cv wr => ∃ c : Nat, c ≤ 3 ∧ cv = .int .i64 c ∧ Keeps (fun _ => False) w2 wr) (fun cv _ => 3 - (intOf cv).toNat)
          case atStart => exact ⟨0, by omega, rfl, K⟩
          case round =>
            obtain ⟨c, hc3, rfl, Kc⟩ := hrel
            by_cases hltc : c < 3
            · have hcI : (c : Int) < 3 := by omega
              go_wp2_with fail
              go_loopw [14, 13] (fun kv wv wr => ∃ (k : Nat) (x : Int), k ≤ L.length ∧ kv = .int .i64 k ∧ wv = .int .i64 x ∧ x = lastOf c (10 + (c : Int)) (L.take k) ∧ (∀ m, m < k → (ra L m).step ≤ st) ∧ Keeps (fun _ => False) w2 wr) (fun kv _ _ => L.length - (intOf kv).toNat)
              case atStart => exact ⟨0, _, Nat.zero_le _, rfl, rfl, by simp [lastOf], fun m hm => by omega, Kc⟩
              case round =>
                obtain ⟨k, x, hk, rfl, rfl, hx, hlow, Kk⟩ := hrel
                have DONE : Upto L st k → Calls Try.prog 23 #[.pointer (some ⟨w.heap.size, 0, none⟩), .int .i64 (c : Int), .int .i64 st] wr fun e W' => e = .returned (.tuple #[.int .i64 x, .int .i64 0]) ∧ Keeps (fun _ => False) w2 W' := fun hU => by
                  obtain ⟨F, h, _, _⟩ := M2.new Kk
                  refine (then_any h (by rw [hLg]; omega) (by rw [hLg]; exact HR.out) (c := c) (by rw [HL.out]; omega) st).mono ?_
                  rintro e W' ⟨N, hN, rfl, k'⟩
                  rw [hLg] at hN ⊢
                  rw [HF.out c hltc, hN.uniq hU, hx]
                  exact ⟨rfl, Kk.trans k'⟩
                by_cases hltk : k < L.length
                · have hkI : (k : Int) < (L.length : Int) := by omega
                  have RWr := HRW.out.new Kk
                  rcases RWr with h0 | ⟨g, rfl, hg, hrr⟩
                  · omega
                  have r0 := (hrr k hltk).r0
                  have r3 := (hrr k hltk).r3
                  have r5 := (hrr k hltk).r5
                  have hsn : Hid (lastOf c (10 + (c : Int)) (L.take (k + 1)) = if (ra L k).cell = (c : Int) then (ra L k).wrote else lastOf c (10 + (c : Int)) (L.take k)) := by show _ = _; rw [take_snoc hltk, lastOf_snoc]
                  have hup : Hid (st < (ra L k).step → Upto L st k) := fun h => ⟨by omega, hlow, fun m h1 h2 => by
                    by_cases e : k = m
                    · subst e; exact h
                    · have := HR.out k m (by omega) h2; omega⟩
                  have hlow' : Hid ((ra L k).step ≤ st → ∀ m, m < k + 1 → (ra L m).step ≤ st) := fun h m hm => by
                    by_cases e : m = k
                    · subst e; exact h
                    · exact hlow m (by omega)
                  generalize ra L k = r at *
                  clear hrr hlow
                  by_cases hs : r.step ≤ st
                  · have hs' : decide (r.step ≤ st) = true := by simp [hs]
                    have HL2 := hlow'.out hs
                    clear hs DONE
                    by_cases hcl : r.cell = (c : Int)
                    · have hcl' : (r.cell == (c : Int)) = true := by simp [hcl]
                      have hsn' : Hid (lastOf c (10 + (c : Int)) (L.take (k + 1)) = r.wrote) := by show _ = _; rw [hsn.out, if_pos hcl]
                      clear hcl hsn
                      have HX : Hid (x = lastOf c (10 + (c : Int)) (L.take k)) := hx
                      clear hx
                      go_wp2_with fail
                      go_roundw
                      case rel => exact ⟨k + 1, _, by omega, by go_num, rfl, hsn'.out.symm, HL2, Kk⟩
                      case measure => simp [intOf]; omega
                    · have hcl' : (r.cell == (c : Int)) = false := by simp [hcl]
                      have hsn' : Hid (lastOf c (10 + (c : Int)) (L.take (k + 1)) = x) := by show _ = _; rw [hsn.out, if_neg hcl, hx]
                      clear hcl hsn hx
                      go_wp2_with fail
                      go_roundw
                      case rel => exact ⟨k + 1, _, by omega, by go_num, rfl, hsn'.out.symm, HL2, Kk⟩
                      case measure => simp [intOf]; omega
                  · have hs' : decide (r.step ≤ st) = false := by simp [hs]
                    have D := DONE (hup.out (by omega))
                    clear hs DONE hx hsn hup hlow'
                    go_wp2_with fail
                    refine D.mono ?_
                    clear D
                    rintro e w5 ⟨rfl, K5⟩
                    go_wp2_with (go_at_call 11; refine (num_any _ _).mono ?_; rintro e w5 ⟨rfl, rfl⟩)
                    go_roundw
                    case rel => exact ⟨c + 1, by omega, by go_num, K5⟩
                    case measure => simp [intOf]; omega
                · have hkI : ¬ (k : Int) < (L.length : Int) := by omega
                  have D := DONE ⟨by omega, hlow, fun m h1 h2 => by omega⟩
                  clear DONE hx hlow
                  go_wp2_with fail
                  refine D.mono ?_
                  clear D
                  rintro e w5 ⟨rfl, K5⟩
                  go_wp2_with (go_at_call 11; refine (num_any _ _).mono ?_; rintro e w5 ⟨rfl, rfl⟩)
                  go_roundw
                  case rel => exact ⟨c + 1, by omega, by go_num, K5⟩
                  case measure => simp [intOf]; omega
            · have hcI : ¬ (c : Int) < 3 := by omega
              have N3 : Calls Try.prog 23 #[.pointer (some ⟨w.heap.size, 0, none⟩), .int .i64 3, .int .i64 st] wr fun e W' => e = .returned (.tuple #[.int .i64 0, .int .i64 30]) ∧ Keeps (fun _ => False) w2 W' := by
                obtain ⟨F, h, _, _⟩ := M2.new Kc
                refine (then_not h (no_three HL.out rfl) st).mono ?_
                rintro e W' ⟨rfl, k'⟩
                exact ⟨rfl, Kc.trans k'⟩
              go_wp2_with fail
              refine N3.mono ?_
              clear N3
              rintro e w5 ⟨rfl, K5⟩
              go_wp2_with (go_at_call 11; refine (num_any _ _).mono ?_; rintro e w5 ⟨rfl, rfl⟩)
              go_roundw
              case rel => exact ⟨j + 1, by omega, by go_num, K5⟩
              case measure => simp [intOf]; omega
        · have hjI : ¬ (j : Int) < (n2 : Int) := by omega
          go_wp2_with fail
          go_ret
          exact ⟨rfl, (M2.new K).keeps.below (Nat.le_refl _) (fun _ _ e => e)⟩
end Go.Proofs.Ytekalkjghfghhab
