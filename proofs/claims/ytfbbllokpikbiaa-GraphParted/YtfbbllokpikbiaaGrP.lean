import Derived.Test.YtfbbllokpikbiaaGrO
namespace Go.Proofs.Ytfbbllokpikbiaa
open Go.RowKit Go.Deep
attribute [local go_sem] Oper.semAt_some run_store_nf run_store_f
/-- What Order answers, the program's and the document's. -/
def OrA (n : Int) (l : List Ed) (L : List Nat) (ok : Bool) (ec : Int) : Prop := (fltG n l ≠ 0 ∧ ec = fltG n l ∧ ok = false ∧ L = []) ∨ (fltG n l = 0 ∧ ec = 0 ∧ ∀ (m : Nat) (g : List Eg), n = (m : Int) → l = g.map Eg.ed → OrdL g m L ∧ (∀ u, ¬ Fre g m L u) ∧ ok = decide (L.length = m))
theorem OrA.one {n : Int} {l : List Ed} {L L' : List Nat} {ok ok' : Bool} {ec ec' : Int} (h : OrA n l L ok ec) (h' : OrA n l L' ok' ec') : L = L' ∧ ok = ok' ∧ ec = ec' := by
  rcases h with ⟨h1, h2, h3, h4⟩ | ⟨h1, h2, h3⟩ <;> rcases h' with ⟨g1, g2, g3, g4⟩ | ⟨g1, g2, g3⟩
  · exact ⟨h4.trans g4.symm, h3.trans g3.symm, h2.trans g2.symm⟩
  · exact absurd g1 h1
  · exact absurd h1 g1
  · obtain ⟨m, g, e1, -, e2, -⟩ := good_eg h1
    obtain ⟨a1, a2, a3⟩ := h3 m g e1 e2
    obtain ⟨b1, b2, b3⟩ := g3 m g e1 e2
    obtain rfl := a1.one b1 a2 b2
    exact ⟨rfl, a3.trans b3.symm, h2.trans g2.symm⟩
def OrP (n : Int) (l : List Ed) (w : World) (e : Ending) (w' : World) : Prop := ∃ v L ok ec, e = .returned (.tuple #[v, .bool ok, .int .i64 ec]) ∧ w'.ownsRow w.heap.size 3 1 v L.length (pvs L) ∧ OrA n l L ok ec ∧ Keeps (fun _ => False) w w'
theorem OrA.ok {m : Nat} {g : List Eg} {L : List Nat} (h0 : fltG (m : Int) (g.map Eg.ed) = 0) (h1 : OrdL g m L) (h2 : ∀ u, ¬ Fre g m L u) : OrA (m : Int) (g.map Eg.ed) L (decide (L.length = m)) 0 := .inr ⟨h0, rfl, fun m' g' e1 e2 => by
  obtain rfl : m = m' := by omega
  rw [← eg_inj e2]
  exact ⟨h1, h2, rfl⟩⟩
set_option maxHeartbeats 1500000 in
set_option maxRecDepth 100000 in
theorem Order_any {w : World} {a : Option Addr} {cap : Nat} {l : List Ed} (n : Int) (hl : EL w a l) (hlen : l.length ≤ 4398046511104) : Calls Try.prog 14 #[.int .i64 n, .slice a l.length cap] w (OrP n l w) := by
  have hfa := fault_any (cap := cap) n hl hlen
  have HP : Hid (∀ v L ok ec w', w'.ownsRow w.heap.size 3 1 v L.length (pvs L) → OrA n l L ok ec → Keeps (fun _ => False) w w' → OrP n l w (.returned (.tuple #[v, .bool ok, .int .i64 ec])) w') := fun v L ok ec w' h1 h2 h3 => ⟨v, L, ok, ec, rfl, h1, h2, h3⟩
  by_cases h0 : fltG n l = 0
  · obtain ⟨m, g, rfl, hm, rfl, hbl⟩ := good_eg h0
    have HPX : Hid (∀ v L w', w'.ownsRow w.heap.size 3 1 v L.length (pvs L) → OrdL g m L → (∀ u, ¬ Fre g m L u) → Keeps (fun _ => False) w w' → OrP (m : Int) (g.map Eg.ed) w (.returned (.tuple #[v, .bool (decide (L.length = m)), .int .i64 0])) w') := fun v L w' h1 h2 h3 h4 => HP.out v L _ 0 w' h1 (OrA.ok h0 h2 h3) h4
    have HOB : Hid (∀ W, Keeps (fun _ => False) w W → Calls Try.prog 31 #[.int .i64 (m : Int), .slice a g.length cap] W (OnP g m W)) := fun W k => oneByOne_any (hl.keep k) hbl hm (by rw [List.length_map] at hlen; exact hlen)
    rw [h0] at hfa
    clear HP h0 hl
    rw [List.length_map] at hfa hlen ⊢
    generalize g.length = N at *
    go_enter Try.func14, Try.ntmps14
    go_wp2_with (first | (go_at_call 26; refine hfa.mono ?_; clear hfa; rintro e w1 ⟨rfl, k1⟩; have hob := HOB.out w1 k1) | (go_at_call 31; refine hob.mono ?_; clear hob; rintro e w2 ⟨v, L, rfl, hr, ho, hf, k2⟩; obtain ⟨va, vc, rfl, -⟩ := own_slice hr; have HX : Hid (OrP (m : Int) (g.map Eg.ed) w (.returned (.tuple #[.slice va L.length vc, .bool (decide (L.length = m)), .int .i64 0])) w2) := HPX.out _ L w2 (owns_low hr k1.size) ho hf (k1.trans k2); clear HPX HOB hr ho hf; obtain ⟨M, hM⟩ : ∃ M, M = L.length := ⟨_, rfl⟩; rw [← hM] at HX; rw [← hM]; clear hM; have s1 : ((M : Int) == (m : Int)) = decide (M = m) := (by rw [Bool.eq_iff_iff, beq_iff_eq, decide_eq_true_iff]; omega); have s2 : (M == m) = decide (M = m) := (by rw [Bool.eq_iff_iff]; simp)))
    generalize decide (M = m) = bb at *
    go_ret3
    exact HX.out
  · have s1 : (fltG n l == 0) = false := by rw [beq_eq_false_iff_ne]; exact h0
    have s2 : (fltG n l != 0) = true := by rw [bne_iff_ne]; exact h0
    have HPX : Hid (∀ w', Keeps (fun _ => False) w w' → OrP n l w (.returned (.tuple #[.slice none 0 0, .bool false, .int .i64 (fltG n l)])) w') := fun w' k => HP.out _ [] _ _ w' (World.ownsRow_nil _ _ _ _) (.inl ⟨h0, rfl, rfl, rfl⟩) k
    clear HP h0
    generalize fltG n l = R at *
    generalize l.length = N at *
    go_enter Try.func14, Try.ntmps14
    go_wp2_with (go_at_call 26; refine hfa.mono ?_; clear hfa; rintro e w1 ⟨rfl, k1⟩)
    go_ret3
    exact HPX.out _ k1
/-- What first answers. -/
def FiR (g : List Eg) (n : Nat) (L : List Nat) (r : Int) : Prop := (∃ v : Nat, r = (v : Int) ∧ Fre g n L v ∧ ∀ u, Fre g n L u → v ≤ u) ∨ (r = -1 ∧ ∀ u, ¬ Fre g n L u)
def FiP (g : List Eg) (n : Nat) (L : List Nat) (w : World) (e : Ending) (w' : World) : Prop := ∃ r, e = .returned (.int .i64 r) ∧ FiR g n L r ∧ Keeps (fun _ => False) w w'
/-- Who is held, after so many edges. -/
def HeI (g : List Eg) (n : Nat) (L : List Nat) (i : Nat) (H : Nat → Bool) : Prop := ∀ v, v < n → (H v = true ↔ ∃ e ∈ g.take i, e.t = v ∧ e.f ∉ L)
theorem HeI.no {g : List Eg} {n : Nat} {L : List Nat} {i : Nat} {H : Nat → Bool} (h : HeI g n L i H) (hi : i < g.length) (hf : (g.getD i eg0).f ∈ L) : HeI g n L (i + 1) H := fun v hv => by
  rw [h v hv, take_eg hi]
  constructor
  · rintro ⟨e, he, h1, h2⟩; exact ⟨e, List.mem_append_left _ he, h1, h2⟩
  · rintro ⟨e, he, h1, h2⟩
    rcases List.mem_append.1 he with he | he
    · exact ⟨e, he, h1, h2⟩
    · simp only [List.mem_singleton] at he
      subst he
      exact absurd hf h2
theorem HeI.yes {g : List Eg} {n : Nat} {L : List Nat} {i : Nat} {H : Nat → Bool} (h : HeI g n L i H) (hi : i < g.length) (hf : (g.getD i eg0).f ∉ L) : HeI g n L (i + 1) (upB H (g.getD i eg0).t) := fun v hv => by
  rw [take_eg hi]
  unfold upB
  by_cases e : v = (g.getD i eg0).t
  · rw [if_pos e]
    exact ⟨fun _ => ⟨_, List.mem_append_right _ (by simp), e.symm, hf⟩, fun _ => rfl⟩
  · rw [if_neg e, h v hv]
    constructor
    · rintro ⟨c, he, h1, h2⟩; exact ⟨c, List.mem_append_left _ he, h1, h2⟩
    · rintro ⟨c, he, h1, h2⟩
      rcases List.mem_append.1 he with he | he
      · exact ⟨c, he, h1, h2⟩
      · simp only [List.mem_singleton] at he
        subst he
        exact absurd h1.symm e
theorem mks_up {M : Nat → Bool} {x : Nat} : ∀ i, upV (mks M) x (.bool true) i = mks (upB M x) i := fun i => by unfold upV mks upB; split <;> rfl
set_option maxHeartbeats 1500000 in
set_option maxRecDepth 100000 in
theorem first_any {w : World} {a : Option Addr} {cap n C : Nat} {g : List Eg} {L : List Nat} {M : Nat → Bool} (hl : EL w a (g.map Eg.ed)) (hb : Bln g n) (hn : n ≤ 4096) (hlen : g.length ≤ 4398046511104) (hC : FB w C n (mks M)) (hML : ∀ v, v < n → (M v = true ↔ v ∈ L)) : Calls Try.prog 30 #[.int .i64 (n : Int), .slice a g.length cap, .slice (some ⟨C, 0, none⟩) n n] w (FiP g n L w) := by
  have HL : Hid (EL w a (g.map Eg.ed)) := hl
  have HB : Hid (Bln g n) := hb
  have HC : Hid (FB w C n (mks M)) := hC
  have HML : Hid (∀ v, v < n → (M v = true ↔ v ∈ L)) := hML
  have HP : Hid (∀ r w', FiR g n L r → Keeps (fun _ => False) w w' → FiP g n L w (.returned (.int .i64 r)) w') := fun r w' h1 h2 => ⟨r, rfl, h1, h2⟩
  clear hl hb hC hML
  obtain ⟨W1, hW1⟩ : ∃ W1, W1 = w.alloc (.cells (madeCells #[.bool false] n) 4) := ⟨_, rfl⟩
  have hmk : (Instr.makeSlice 70 (.int .i64 (n : Int)) (.int .i64 (n : Int))).run Try.prog w = .ok (.slice (some ⟨w.heap.size, 0, none⟩) n n) W1 := by
    rw [hW1]
    exact run_make_row' (P := Try.prog) 70 4 (.bool false) 1 Try.underlying70 bInfo rfl .i64 .i64 n (by omega) (by omega) w
  have k1 : Keeps (fun _ => False) w W1 := by rw [hW1]; exact (Keeps.refl _ w).alloc _
  have HF1 : Hid (FB W1 w.heap.size n (mks (fun _ => false))) := by rw [hW1]; exact FB.made w n (.bool false) 4
  have HI0 : Hid (HeI g n L 0 (fun _ => false)) := fun v _ => by simp
  clear hW1
  generalize hN : g.length = N at *
  have HN : Hid (g.length = N) := hN
  clear hN
  go_enter Try.func30, Try.ntmps30
  go_wp2_with fail
  go_loopw [8] (fun iv Wr => ∃ (i : Nat) (H : Nat → Bool), iv = .int .i64 (i : Int) ∧ i ≤ N ∧ FB Wr w.heap.size n (mks H) ∧ HeI g n L i H ∧ Keeps (fun _ => False) w Wr) (fun iv _ => N - (intOf iv).toNat)
  case atStart => exact ⟨0, _, rfl, Nat.zero_le _, HF1.out, HI0.out, k1⟩
  case round =>
    obtain ⟨i, H, rfl, hi, hF, hI, kr⟩ := hrel
    have HI : Hid (HeI g n L i H) := hI
    have HF : Hid (FB wr w.heap.size n (mks H)) := hF
    clear hI hF HF1 HI0 k1
    by_cases hlt : i < N
    · have j1 : decide ((i : Int) < (N : Int)) = true := decide_eq_true (by omega)
      have j2 : decide (i < N) = true := decide_eq_true hlt
      have j3 : (i : Int) < (N : Int) := by omega
      have j4 : (0 : Int) ≤ (i : Int) := by omega
      have hwi : IntKind.i64.wrap ((i : Int) + 1) = (i : Int) + 1 := by rw [IntKind.wrap_i64]; omega
      have hil : i < g.length := by rw [HN.out]; exact hlt
      obtain ⟨b, off, rfl, hc⟩ := HL.out i (by rw [List.length_map]; exact hil)
      rw [(eg_at hil).1] at hc
      have hin := HB.out _ (eg_at hil).2
      have q0 : wr.cell? ⟨b, off + i * 4, none⟩ = some (.int .i64 ((g.getD i eg0).f : Int)) := kr.cell (hc 0 _ rfl) (fun e => e)
      have q1 : wr.cell? ⟨b, off + i * 4 + 1, none⟩ = some (.int .i64 ((g.getD i eg0).t : Int)) := kr.cell (hc 1 _ rfl) (fun e => e)
      have HNO : Hid ((g.getD i eg0).f ∈ L → HeI g n L (i + 1) H) := fun q => HI.out.no hil q
      have HYES : Hid ((g.getD i eg0).f ∉ L → HeI g n L (i + 1) (upB H (g.getD i eg0).t)) := fun q => HI.out.yes hil q
      clear hc hil
      generalize g.getD i eg0 = c at *
      obtain ⟨cu, ct, ck, co⟩ := c
      dsimp only at hin q0 q1 HNO HYES
      obtain ⟨hcu, hct⟩ := hin
      have n1 : (0 : Int) ≤ (cu : Int) := by omega
      have n2 : (cu : Int) < (n : Int) := by omega
      have n3 : (0 : Int) ≤ (ct : Int) := by omega
      have n4 : (ct : Int) < (n : Int) := by omega
      have y0 : wr.cell? ⟨C, cu, none⟩ = some (.bool (M cu)) := kr.cell (HC.out.c cu hcu) (fun e => e)
      have hml := HML.out cu hcu
      have hFB := HF.out
      cases hm : M cu with
      | true =>
        rw [hm] at y0
        have HXX : Hid (HeI g n L (i + 1) H) := HNO.out (hml.1 hm)
        clear hml hm HNO HYES hFB
        go_wp2_with fail
        go_roundw
        case rel => exact ⟨i + 1, H, by go_num, by omega, HF.out, HXX.out, kr⟩
        case measure => simp [intOf]; omega
      | false =>
        rw [hm] at y0
        have HXX : Hid (HeI g n L (i + 1) (upB H ct)) := HYES.out (fun e => by rw [hml.2 e] at hm; cases hm)
        clear hml hm HNO HYES
        go_wp2_with (refine wpList_store_fb rfl rfl _ _ rfl w.heap.size ct rfl true rfl hFB hct ?_; intro w2 hf2 k2 hz2; clear hz2 hFB y0)
        go_roundw
        case rel => exact ⟨i + 1, upB H ct, by go_num, by omega, hf2.congr (fun p _ => mks_up p), HXX.out, kr.trans' k2 (fun _ _ e => e) (fun j hj e => by have e : j = w.heap.size := e; omega)⟩
        case measure => simp [intOf]; omega
    · have j1 : decide ((i : Int) < (N : Int)) = false := decide_eq_false (by omega)
      have j2 : decide (i < N) = false := decide_eq_false hlt
      have HFR : Hid (∀ v, v < n → (Fre g n L v ↔ M v = false ∧ H v = false)) := fun v hv => by
        have h1 := HI.out v hv
        rw [List.take_of_length_le (by rw [HN.out]; omega)] at h1
        have h2 := HML.out v hv
        unfold Fre
        constructor
        · rintro ⟨_, a, b⟩
          refine ⟨?_, ?_⟩
          · cases h : M v with
            | false => rfl
            | true => exact absurd (h2.1 h) a
          · cases h : H v with
            | false => rfl
            | true =>
              obtain ⟨e, he, q1, q2⟩ := h1.1 h
              exact absurd (b e he q1) q2
        · rintro ⟨a, b⟩
          refine ⟨hv, (fun e => by rw [h2.2 e] at a; cases a), fun e he q => ?_⟩
          by_cases hq : e.f ∈ L
          · exact hq
          · rw [h1.2 ⟨e, he, q, hq⟩] at b
            cases b
      clear hlt hi
      go_wp2_with fail
      go_loopw [9] (fun iv Wr => ∃ (v : Nat), iv = .int .i64 (v : Int) ∧ v ≤ n ∧ (∀ u, u < v → ¬ Fre g n L u) ∧ FB Wr w.heap.size n (mks H) ∧ Keeps (fun _ => False) w Wr) (fun iv _ => n - (intOf iv).toNat)
      case atStart => exact ⟨0, rfl, Nat.zero_le _, fun u hu => absurd hu (by omega), HF.out, kr⟩
      case round =>
        obtain ⟨v, rfl, hv, hno, hF2, kr2⟩ := hrel
        have HNO : Hid (∀ u, u < v → ¬ Fre g n L u) := hno
        clear hno HF kr
        by_cases hlv : v < n
        · have m1 : decide ((v : Int) < (n : Int)) = true := decide_eq_true (by omega)
          have m2 : decide (v < n) = true := decide_eq_true hlv
          have m3 : (v : Int) < (n : Int) := by omega
          have m4 : (0 : Int) ≤ (v : Int) := by omega
          have hwi : IntKind.i64.wrap ((v : Int) + 1) = (v : Int) + 1 := by rw [IntKind.wrap_i64]; omega
          have y0 : wr.cell? ⟨C, v, none⟩ = some (.bool (M v)) := kr2.cell (HC.out.c v hlv) (fun e => e)
          have y1 : wr.cell? ⟨w.heap.size, v, none⟩ = some (.bool (H v)) := hF2.c v hlv
          have hfr := HFR.out v hlv
          have HNXT : Hid (¬ Fre g n L v → ∀ u, u < v + 1 → ¬ Fre g n L u) := fun q u hu => by
            by_cases e : u = v
            · rw [e]; exact q
            · exact HNO.out u (by omega)
          cases hm : M v with
          | true =>
            rw [hm] at y0
            have HXX : Hid (∀ u, u < v + 1 → ¬ Fre g n L u) := HNXT.out (fun q => by rw [(hfr.1 q).1] at hm; cases hm)
            clear hfr hm
            generalize H v = hvv at *
            go_wp2_with fail
            go_roundw
            case rel => exact ⟨v + 1, by go_num, by omega, HXX.out, hF2, kr2⟩
            case measure => simp [intOf]; omega
          | false =>
            rw [hm] at y0
            cases hh : H v with
            | true =>
              rw [hh] at y1
              have HXX : Hid (∀ u, u < v + 1 → ¬ Fre g n L u) := HNXT.out (fun q => by rw [(hfr.1 q).2] at hh; cases hh)
              clear hfr hm hh
              go_wp2_with fail
              go_roundw
              case rel => exact ⟨v + 1, by go_num, by omega, HXX.out, hF2, kr2⟩
              case measure => simp [intOf]; omega
            | false =>
              rw [hh] at y1
              have HPX : Hid (FiP g n L w (.returned (.int .i64 (v : Int))) wr) := HP.out _ _ (.inl ⟨v, rfl, hfr.2 ⟨hm, hh⟩, fun u hu => Nat.le_of_not_lt (fun q => HNO.out u q hu)⟩) kr2
              clear hfr hm hh
              go_wp2_with fail
              go_ret
              exact HPX.out
        · have m1 : decide ((v : Int) < (n : Int)) = false := decide_eq_false (by omega)
          have m2 : decide (v < n) = false := decide_eq_false hlv
          have HPX : Hid (FiP g n L w (.returned (.int .i64 (-1))) wr) := HP.out _ _ (.inr ⟨rfl, fun u hu => HNO.out u (by have := hu.1; omega) hu⟩) kr2
          go_wp2_with fail
          go_ret
          exact HPX.out
end Go.Proofs.Ytfbbllokpikbiaa
