import Derived.Test.YtfbbllokpikbiabCyD
namespace Go.Proofs.Ytfbbllokpikbiab
open Go.RowKit Go.Deep
attribute [local go_sem] Oper.semAt_some run_store_nf run_store_f
/-- The least node to which an edge leads from u, at that distance; 0: none yet, else one more. -/
def Bst (g : List Eg) (d : Nat → Nat) (u k : Nat) (best : Int) : Prop := (best = -1 ∧ ∀ e ∈ g, e.f = u → d e.t ≠ k) ∨ ∃ v : Nat, best = (v : Int) ∧ (∃ e ∈ g, e.f = u ∧ e.t = v ∧ d v = k) ∧ ∀ e ∈ g, e.f = u → d e.t = k → v ≤ e.t
theorem Bst.start (d : Nat → Nat) (u k : Nat) : Bst [] d u k (-1) := .inl ⟨rfl, fun e he => by cases he⟩
theorem Bst.skip {g : List Eg} {d : Nat → Nat} {u k : Nat} {best : Int} (h : Bst g d u k best) {c : Eg} (hc : ¬ (c.f = u ∧ d c.t = k)) : Bst (g ++ [c]) d u k best := by
  rcases h with ⟨h1, h2⟩ | ⟨v, h1, ⟨e, he, h2⟩, h3⟩
  · refine .inl ⟨h1, fun e he q1 q2 => ?_⟩
    rcases List.mem_append.1 he with he | he
    · exact h2 e he q1 q2
    · simp at he; subst he; exact hc ⟨q1, q2⟩
  · refine .inr ⟨v, h1, ⟨e, List.mem_append_left _ he, h2⟩, fun e he q1 q2 => ?_⟩
    rcases List.mem_append.1 he with he | he
    · exact h3 e he q1 q2
    · simp at he; subst he; exact absurd ⟨q1, q2⟩ hc
theorem Bst.take {g : List Eg} {d : Nat → Nat} {u k : Nat} {best : Int} (h : Bst g d u k best) {c : Eg} (hf : c.f = u) (hd : d c.t = k) (hb : best < 0 ∨ (c.t : Int) < best) : Bst (g ++ [c]) d u k (c.t : Int) := by
  refine .inr ⟨c.t, rfl, ⟨c, by simp, hf, rfl, hd⟩, fun e he q1 q2 => ?_⟩
  rcases List.mem_append.1 he with he | he
  · rcases h with ⟨h1, h2⟩ | ⟨v, h1, -, h3⟩
    · exact absurd q2 (h2 e he q1)
    · have := h3 e he q1 q2
      omega
  · simp at he; subst he; exact Nat.le_refl _
theorem Bst.stay {g : List Eg} {d : Nat → Nat} {u k : Nat} {best : Int} (h : Bst g d u k best) {c : Eg} (h0 : ¬ best < 0) (hb : ¬ (c.t : Int) < best) : Bst (g ++ [c]) d u k best := by
  rcases h with ⟨h1, -⟩ | ⟨v, h1, ⟨e, he, h2⟩, h3⟩
  · omega
  · refine .inr ⟨v, h1, ⟨e, List.mem_append_left _ he, h2⟩, fun e he q1 q2 => ?_⟩
    rcases List.mem_append.1 he with he | he
    · exact h3 e he q1 q2
    · simp at he; subst he; omega
set_option maxHeartbeats 1500000 in
set_option maxRecDepth 100000 in
theorem least_any {w : World} {ea : Option Addr} {cap n db u a k : Nat} {g : List Eg} {d : Nat → Nat} (hl : EL w ea (g.map Eg.ed)) (hb : Bln g n) (hlen : g.length ≤ 4398046511104) (hF : FB w db n (nms d)) (hk : 0 < k) : Calls Try.prog 27 #[.slice ea g.length cap, .slice (some ⟨db, 0, none⟩) n n, .int .i64 (u : Int), .int .i64 (a : Int), .int .i64 (k : Int)] w fun e w' => ∃ best : Int, e = .returned (.int .i64 best) ∧ Bst g d u k best ∧ Keeps (fun _ => False) w w' := by
  have HL : Hid (EL w ea (g.map Eg.ed)) := hl
  have HB : Hid (Bln g n) := hb
  have HF : Hid (FB w db n (nms d)) := hF
  clear hl hb hF
  generalize hN : g.length = N at *
  have HN : Hid (g.length = N) := hN
  clear hN
  have z1 : ((k : Int) == 0) = false := by rw [beq_eq_false_iff_ne]; omega
  have z2 : (k == 0) = false := by rw [beq_eq_false_iff_ne]; omega
  go_enter Try.func27, Try.ntmps27
  go_wp2_with fail
  go_loopw [11, 12] (fun bv iv Wr => ∃ (i : Nat) (best : Int), iv = .int .i64 (i : Int) ∧ bv = .int .i64 best ∧ i ≤ N ∧ Bst (g.take i) d u k best ∧ Keeps (fun _ => False) w Wr) (fun _ iv _ => N - (intOf iv).toNat)
  case atStart => exact ⟨0, -1, rfl, rfl, Nat.zero_le _, Bst.start d u k, Keeps.refl _ _⟩
  case round =>
    obtain ⟨i, best, rfl, rfl, hi, hbs, kr⟩ := hrel
    have HBS : Hid (Bst (g.take i) d u k best) := hbs
    clear hbs
    by_cases hlt : i < N
    · have j1 : decide ((i : Int) < (N : Int)) = true := decide_eq_true (by omega)
      have j2 : decide (i < N) = true := decide_eq_true hlt
      have j3 : (i : Int) < (N : Int) := by omega
      have j4 : (0 : Int) ≤ (i : Int) := by omega
      have hwi : IntKind.i64.wrap ((i : Int) + 1) = (i : Int) + 1 := by rw [IntKind.wrap_i64]; omega
      have hil : i < g.length := by rw [HN.out]; exact hlt
      obtain ⟨b, off, rfl, hc⟩ := HL.out i (by rw [List.length_map]; exact hil)
      rw [(eg_at hil).1] at hc
      have p0 := kr.cell (hc 0 _ rfl) (fun e => e)
      have p1 := kr.cell (hc 1 _ rfl) (fun e => e)
      rw [Nat.add_zero] at p0
      have hin := HB.out _ (eg_at hil).2
      have HTK : Hid (g.take (i + 1) = g.take i ++ [g.getD i eg0]) := take_eg hil
      clear hc hil
      generalize g.getD i eg0 = c at *
      have q0 : wr.cell? ⟨b, off + i * 4, none⟩ = some (.int .i64 (c.f : Int)) := p0
      have q1 : wr.cell? ⟨b, off + i * 4 + 1, none⟩ = some (.int .i64 (c.t : Int)) := p1
      have q2 : wr.cell? ⟨db, c.t, none⟩ = some (.int .i64 (d c.t : Int)) := kr.cell (HF.out.c c.t hin.2) (fun e => e)
      have n1 : (0 : Int) ≤ (c.t : Int) := by omega
      have n2 : (c.t : Int) < (n : Int) := by omega
      have HSK : Hid (¬ (c.f = u ∧ d c.t = k) → Bst (g.take (i + 1)) d u k best) := fun h => by rw [HTK.out]; exact HBS.out.skip h
      have HTA : Hid (c.f = u → d c.t = k → (best < 0 ∨ (c.t : Int) < best) → Bst (g.take (i + 1)) d u k (c.t : Int)) := fun h1 h2 h3 => by rw [HTK.out]; exact HBS.out.take h1 h2 h3
      have HSY : Hid (¬ best < 0 → ¬ (c.t : Int) < best → Bst (g.take (i + 1)) d u k best) := fun h1 h2 => by rw [HTK.out]; exact HBS.out.stay h1 h2
      clear p0 p1 HBS HTK hin
      generalize hcf : c.f = cf at *
      generalize hct : c.t = ct at *
      generalize hdc : d ct = dc at *
      clear hcf hct hdc
      by_cases h1 : cf = u
      · have s1 : ((cf : Int) == (u : Int)) = true := by simp [h1]
        have s2 : (cf == u) = true := by simp [h1]
        by_cases h2 : dc = k
        · have t1 : ((dc : Int) == (k : Int)) = true := by simp [h2]
          have t2 : (dc == k) = true := by simp [h2]
          by_cases h3 : best < 0
          · have r1 : decide (best < 0) = true := decide_eq_true h3
            have HNX := HTA.out h1 h2 (.inl h3)
            have HNX2 : Hid (Bst (g.take (i + 1)) d u k (ct : Int)) := HNX
            clear h1 h2 h3 HNX HTA HSK HSY
            go_wp2_with fail
            go_roundw
            case rel => exact ⟨i + 1, (ct : Int), by go_num, rfl, by omega, HNX2.out, kr⟩
            case measure => simp [intOf]; omega
          · have r1 : decide (best < 0) = false := decide_eq_false h3
            by_cases h4 : (ct : Int) < best
            · have r2 : decide ((ct : Int) < best) = true := decide_eq_true h4
              have HNX2 : Hid (Bst (g.take (i + 1)) d u k (ct : Int)) := HTA.out h1 h2 (.inr h4)
              clear h1 h2 h3 h4 HTA HSK HSY
              go_wp2_with fail
              go_roundw
              case rel => exact ⟨i + 1, (ct : Int), by go_num, rfl, by omega, HNX2.out, kr⟩
              case measure => simp [intOf]; omega
            · have r2 : decide ((ct : Int) < best) = false := decide_eq_false h4
              have HNX2 : Hid (Bst (g.take (i + 1)) d u k best) := HSY.out h3 h4
              clear h1 h2 h3 h4 HTA HSK HSY
              go_wp2_with fail
              go_roundw
              case rel => exact ⟨i + 1, best, by go_num, rfl, by omega, HNX2.out, kr⟩
              case measure => simp [intOf]; omega
        · have t1 : ((dc : Int) == (k : Int)) = false := by rw [beq_eq_false_iff_ne]; omega
          have t2 : (dc == k) = false := by rw [beq_eq_false_iff_ne]; exact h2
          have HNX2 : Hid (Bst (g.take (i + 1)) d u k best) := HSK.out (fun q => h2 q.2)
          clear h1 h2 HTA HSK HSY
          go_wp2_with fail
          go_roundw
          case rel => exact ⟨i + 1, best, by go_num, rfl, by omega, HNX2.out, kr⟩
          case measure => simp [intOf]; omega
      · have s1 : ((cf : Int) == (u : Int)) = false := by rw [beq_eq_false_iff_ne]; omega
        have s2 : (cf == u) = false := by rw [beq_eq_false_iff_ne]; exact h1
        have HNX2 : Hid (Bst (g.take (i + 1)) d u k best) := HSK.out (fun q => h1 q.1)
        clear h1 HTA HSK HSY
        obtain ⟨tb, htb⟩ : ∃ tb, tb = ((dc : Int) == (k : Int)) := ⟨_, rfl⟩
        by_cases h2 : dc = k
        · have t1 : ((dc : Int) == (k : Int)) = true := by simp [h2]
          have t2 : (dc == k) = true := by simp [h2]
          clear htb tb h2
          go_wp2_with fail
          go_roundw
          case rel => exact ⟨i + 1, best, by go_num, rfl, by omega, HNX2.out, kr⟩
          case measure => simp [intOf]; omega
        · have t1 : ((dc : Int) == (k : Int)) = false := by rw [beq_eq_false_iff_ne]; omega
          have t2 : (dc == k) = false := by rw [beq_eq_false_iff_ne]; exact h2
          clear htb tb h2
          go_wp2_with fail
          go_roundw
          case rel => exact ⟨i + 1, best, by go_num, rfl, by omega, HNX2.out, kr⟩
          case measure => simp [intOf]; omega
    · have j1 : decide ((i : Int) < (N : Int)) = false := decide_eq_false (by omega)
      have j2 : decide (i < N) = false := decide_eq_false hlt
      have HX : Hid (Bst g d u k best) := by
        have h := HBS.out
        rw [List.take_of_length_le (by rw [HN.out]; omega)] at h
        exact h
      go_wp2_with fail
      go_ret
      exact ⟨best, rfl, HX.out, kr⟩
theorem Bst.some {g : List Eg} {n a K u k : Nat} {d : Nat → Nat} {best : Int} (hs : Bst g d u k best) (h : Aw g n a d) (hf : AwF g a d) (hn : Bln g n) (hK : d a = K) (hKl : K < 1073741824) (hu : u < n) (hk : 0 < k) (hkK : k < K) (hd : d u = k + 1) : ∃ v : Nat, best = (v : Int) ∧ v < n ∧ d v = k ∧ NxN g a u k v := by
  obtain ⟨e, he, q1, q2⟩ := aw_step h hf hKl hu hk hkK hd
  rcases hs with ⟨-, h2⟩ | ⟨v, h1, ⟨e', he', q3, q4, q5⟩, h3⟩
  · exact absurd q2 (h2 e he q1)
  · have hv : v < n := by rw [← q4]; exact (hn e' he').2
    exact ⟨v, h1, hv, q5, ⟨e', he', q3, q4⟩, (aw_dst h hf hK hKl hv hk hkK).2 q5, fun e2 he2 q6 q7 => h3 e2 he2 q6 ((aw_dst h hf hK hKl (hn e2 he2).2 hk hkK).1 q7)⟩
set_option maxHeartbeats 1500000 in
set_option maxRecDepth 100000 in
theorem rCycle_any {w : World} {a : Option Addr} {cap : Nat} {l : List Ed} (n : Int) (hl : EL w a l) (hlen : l.length ≤ 4398046510976) : Calls Try.prog 11 #[.int .i64 n, .slice a l.length cap] w (CcP n l w) := by
  have hfa := refused_any (cap := cap) n hl (by omega)
  by_cases h0 : fltG n l = 0
  · obtain ⟨m, g, rfl, hm, rfl, hbl⟩ := good_eg h0
    have HPX : Hid (∀ va vc L w', w'.ownsRow w.heap.size 3 1 (.slice va L.length vc) L.length (pvs L) → CycA g m L → Keeps (fun _ => False) w w' → CcP (m : Int) (g.map Eg.ed) w (.returned (.tuple #[.slice va L.length vc, .int .i64 0])) w') := fun va vc L w' h1 h2 h3 => ⟨va, vc, L, 0, rfl, h1, CcA.ok h0 h2, h3⟩
    rw [List.length_map] at hlen
    have HAW : Hid (∀ W (x : Nat), Keeps (fun _ => False) w W → Calls Try.prog 26 #[.int .i64 (m : Int), .slice a g.length cap, .int .i64 (x : Int)] W (AwP g m x W)) := fun W x k => away_any (hl.keep k) hbl hm (by omega)
    have HLE : Hid (∀ W db (d : Nat → Nat) (u x k : Nat), Keeps (fun _ => False) w W → FB W db m (nms d) → 0 < k → Calls Try.prog 27 #[.slice a g.length cap, .slice (some ⟨db, 0, none⟩) m m, .int .i64 (u : Int), .int .i64 (x : Int), .int .i64 (k : Int)] W fun e w' => ∃ best : Int, e = .returned (.int .i64 best) ∧ Bst g d u k best ∧ Keeps (fun _ => False) W w') := fun W db d u x k kw hF hk => least_any (hl.keep kw) hbl (by omega) hF hk
    have HBL : Hid (Bln g m) := hbl
    rw [h0] at hfa
    clear h0 hl hbl
    rw [List.length_map] at hfa ⊢
    generalize g.length = N at *
    go_enter Try.func11, Try.ntmps11
    go_wp2_with (go_at_call 25; refine hfa.mono ?_; clear hfa; rintro e w1 ⟨rfl, k1⟩)
    have HK1 : Hid (Keeps (fun _ => False) w w1) := k1
    clear k1
    go_loopw [7] (fun av Wr => ∃ (x : Nat), av = .int .i64 (x : Int) ∧ x ≤ m ∧ (∀ v, v < x → ¬ Rch g v v) ∧ Keeps (fun _ => False) w Wr) (fun av _ => m - (intOf av).toNat)
    case atStart => exact ⟨0, rfl, Nat.zero_le _, (fun v hv => absurd hv (Nat.not_lt_zero v)), HK1.out⟩
    case round =>
      obtain ⟨x, rfl, hxm, hno, kr⟩ := hrel
      have HNO : Hid (∀ v, v < x → ¬ Rch g v v) := hno
      clear hno HK1
      by_cases hlt : x < m
      · have j1 : decide ((x : Int) < (m : Int)) = true := decide_eq_true (by omega)
        have j2 : decide (x < m) = true := decide_eq_true hlt
        have j3 : (x : Int) < (m : Int) := by omega
        have j4 : (0 : Int) ≤ (x : Int) := by omega
        have hwi : IntKind.i64.wrap ((x : Int) + 1) = (x : Int) + 1 := by rw [IntKind.wrap_i64]; omega
        have haw := HAW.out wr x kr
        by_cases hr : Rch g x x
        · have HRR : Hid (Rch g x x) := hr
          obtain ⟨db, hdb⟩ : ∃ db, db = wr.heap.size := ⟨_, rfl⟩
          have HAP : Hid (∀ e w', AwP g m x wr e w' → ∃ (d : Nat → Nat) (K k : Nat), e = .returned (.slice (some ⟨db, 0, none⟩) m m) ∧ FB w' db m (nms d) ∧ (Aw g m x d ∧ AwF g x d) ∧ Keeps (fun _ => False) wr w' ∧ K = d x ∧ K = k + 1 ∧ K < 1073741824 ∧ w'.cell? ⟨db, x, none⟩ = some (.int .i64 (K : Int)) ∧ ((K : Int) == 1073741824) = false ∧ (K == 1073741824) = false ∧ IntKind.i64.wrap ((K : Int) - 1) = (k : Int)) := fun e w' h => by
            obtain ⟨d, h1, h2, h3, h4, h5⟩ := h
            rw [← hdb] at h1 h2
            have hKl := (aw_rch h3 HBL.out h4 hm hlt).2 HRR.out
            have hKp := (h3.s x hlt hKl).pos
            refine ⟨d, d x, d x - 1, h1, h2, ⟨h3, h4⟩, h5, rfl, by omega, hKl, h2.c x hlt, by rw [beq_eq_false_iff_ne]; omega, by rw [beq_eq_false_iff_ne]; omega, by rw [IntKind.wrap_i64]; omega⟩
          clear hr hdb
          go_wp2_with (go_at_call 26; refine haw.mono ?_; clear haw; intro e w2 hap; obtain ⟨d, K, k, rfl, hF2, hA2, k2, hKd, hKk, hKl, y2, t1, t2, hwk⟩ := HAP.out e w2 hap; clear hap HAP; have HF2 : Hid (FB w2 db m (nms d)) := hF2; have HA2 : Hid (Aw g m x d ∧ AwF g x d) := hA2; have HKd : Hid (K = d x) := hKd; have HKk : Hid (K = k + 1) := hKk; have hKp : 0 < K := Nat.lt_of_lt_of_eq (Nat.succ_pos k) hKk.symm; clear hF2 hA2 hKd hKk; have ya := ((Keeps.refl (fun _ => False) w2).alloc (.cells #[.int .i64 (x : Int)] 3)).cell y2 (fun e => e))
          obtain ⟨W3, hW3⟩ : ∃ W3, W3 = w2.alloc (.cells #[.int .i64 (x : Int)] 3) := ⟨_, rfl⟩
          have k3 : Keeps (fun _ => False) w2 W3 := by rw [hW3]; exact (Keeps.refl _ w2).alloc _
          have HO3 : Hid (W3.ownsRow w2.heap.size 3 1 (.slice (some ⟨w2.heap.size, 0, none⟩) 1 1) 1 (pvs [x])) := by
            rw [hW3]
            exact World.ownsRow_lit w2 #[.int .i64 (x : Int)] 1 (Nat.le_refl _) (by unfold maxLen; omega) rfl
          have HMN : Hid (Mn g x x K) := by rw [HKd.out]; exact aw_mn HA2.out.1 HA2.out.2 hlt (by rw [← HKd.out]; exact hKl)
          have HST : Hid (CyI g x K [x]) := CyI.start g x K hKp
          have hKn : K ≤ 4096 := Nat.le_trans (HMN.out.le HBL.out) hm
          have HKW : Hid (Keeps (fun _ => False) w w2) := kr.trans k2
          have HK3 : Hid (Keeps (fun _ => False) w2 W3) := k3
          have HLS : Hid (∀ W, Keeps (fun _ => False) w2 W → ∀ (u k : Nat), 0 < k → Calls Try.prog 27 #[.slice a N cap, .slice (some ⟨db, 0, none⟩) m m, .int .i64 (u : Int), .int .i64 (x : Int), .int .i64 (k : Int)] W fun e w' => ∃ best : Int, e = .returned (.int .i64 best) ∧ Bst g d u k best ∧ Keeps (fun _ => False) W w') := fun W kw u k hk => HLE.out W db d u x k (HKW.out.trans kw) (HF2.out.keep kw (fun e => e)) hk
          have HDX : Hid (d x = k + 1) := by rw [← HKd.out]; exact HKk.out
          have hkK : k + 1 = K := HKk.out.symm
          rw [← hW3]
          obtain ⟨lb, hlb⟩ : ∃ lb, lb = w2.heap.size := ⟨_, rfl⟩
          have HLB : Hid (lb = w2.heap.size) := hlb
          rw [← hlb] at HO3 ⊢
          have HK1k : Hid (k + 1 = K) := hkK
          clear hW3 k3 HLE HAW kr k2 y2 ya hlb t1 t2 hwk hkK
          go_loopg [9, 10] k (fun gh lv kv Wr => ∃ (L : List Nat) (ln kk : Nat) (la : Option Addr) (lc : Nat), gh = kk ∧ lv = .slice la ln lc ∧ kv = .int .i64 (kk : Int) ∧ ln = L.length ∧ CyI g x K L ∧ ln + kk = K ∧ L.getD (ln - 1) 0 < m ∧ d (L.getD (ln - 1) 0) = kk + 1 ∧ Wr.ownsRow lb 3 1 (.slice la ln lc) ln (pvs L) ∧ Keeps (fun _ => False) w2 Wr)
          case atStart => exact ⟨[x], 1, k, _, _, rfl, rfl, rfl, rfl, HST.out, by have := HK1k.out; omega, hlt, HDX.out, HO3.out, HK3.out⟩
          case round =>
            obtain ⟨L, ln, kk, la, lc, hgh, rfl, rfl, hln, hCy, hsum, hum, hdu, hO, kq⟩ := hrel
            clear HST HO3 HK3 HDX HK1k
            have hpos := hCy.pos
            have HLN : Hid (ln = L.length) := hln
            have HCY : Hid (CyI g x K L) := hCy
            have HO : Hid (wr.ownsRow lb 3 1 (.slice la ln lc) ln (pvs L)) := hO
            have HKQ : Hid (Keeps (fun _ => False) w2 wr) := kq
            have hlp : 0 < ln := by omega
            clear hln hCy
            by_cases hk0 : kk = 0
            · have g1 : decide ((kk : Int) > 0) = false := decide_eq_false (by omega)
              have g2 : decide ((0 : Int) < (kk : Int)) = false := decide_eq_false (by omega)
              have g3 : decide (0 < kk) = false := decide_eq_false (by omega)
              have HX : Hid (CcP (m : Int) (g.map Eg.ed) w (.returned (.tuple #[.slice la ln lc, .int .i64 0])) wr) := by
                rw [HLN.out] at hO ⊢
                exact HPX.out la lc L wr (owns_low hO (by have := HKW.out.size; have := HLB.out; omega)) (.inr ⟨x, K, hlt, HNO.out, HMN.out, HCY.out, by have := HLN.out; omega⟩) (HKW.out.trans kq)
              clear hO kq hk0 hum hdu hgh
              go_wp2_with fail
              go_ret2
              exact HX.out
            · have g1 : decide ((kk : Int) > 0) = true := decide_eq_true (by omega)
              have g2 : decide ((0 : Int) < (kk : Int)) = true := decide_eq_true (by omega)
              have g3 : decide (0 < kk) = true := decide_eq_true (by omega)
              obtain ⟨p, hp⟩ : ∃ p, ln = p + 1 := ⟨ln - 1, by omega⟩
              obtain ⟨b, off, rfl, hcl⟩ := (PM.of hO) p (by have := HLN.out; omega)
              have ep : ln - 1 = p := by omega
              rw [ep] at hum hdu
              have hwp : IntKind.i64.wrap ((ln : Int) - 1) = (p : Int) := by rw [IntKind.wrap_i64]; omega
              have p1 : (0 : Int) ≤ (p : Int) := by omega
              have p2 : (p : Int) < (ln : Int) := by omega
              obtain ⟨k', hk'⟩ : ∃ k', kk = k' + 1 := ⟨kk - 1, by omega⟩
              have hwk : IntKind.i64.wrap ((kk : Int) - 1) = (k' : Int) := by rw [IntKind.wrap_i64]; omega
              have HUE : Hid (L.getD (L.length - 1) 0 = L.getD p 0) := by show L.getD (L.length - 1) 0 = L.getD p 0; rw [← HLN.out, ep]
              generalize L.getD p 0 = u at *
              have hle := HLS.out wr kq u kk (by omega)
              have HBS : Hid (∀ best, Bst g d u kk best → ∃ v : Nat, best = (v : Int) ∧ v < m ∧ d v = kk ∧ NxN g x u kk v) := fun best h => h.some HA2.out.1 HA2.out.2 HBL.out HKd.out.symm hKl hum (by omega) (by omega) hdu
              have HNA : Hid (∀ v, NxN g x u kk v → CyI g x K (L ++ [v])) := fun v h => HCY.out.add (by have := HLN.out; omega) (by rw [HUE.out, show K - L.length = kk by have := HLN.out; omega]; exact h)
              have HAP : Hid (∀ w4 (v : Nat), Keeps (fun _ => False) wr w4 → ∃ a3 c3 W4, (Builtin.append_ #[23, 23] 23 #[.slice (some ⟨b, off, none⟩) ln lc, .slice (some ⟨w4.heap.size, 0, none⟩) 1 1]).run Try.prog (w4.alloc (.cells #[.int .i64 (v : Int)] 3)) = .ok (.slice a3 (ln + 1) c3) W4 ∧ W4.ownsRow lb 3 1 (.slice a3 (ln + 1) c3) (ln + 1) (pvs (L ++ [v])) ∧ Keeps (fun _ => False) w2 W4) := fun w4 v k4 => by
                obtain ⟨a3, c3, W4, h1, h2, h3, -⟩ := append_n (k4.owns HO.out (fun _ _ e => e)) (by have := HKQ.out.size; have := k4.size; have := HLB.out; omega) (by omega) v
                exact ⟨a3, c3, W4, h1, h2, (HKQ.out.trans k4).trans' h3 (fun _ _ e => e) (fun i hi e => by have := owns_baseT (k4.owns HO.out (fun _ _ e => e)) i e; have := HLB.out; omega)⟩
              have HGH : Hid (gk = kk ∧ kk = k' + 1) := ⟨hgh, hk'⟩
              have HLA : Hid (∀ v : Nat, ln + 1 = (L ++ [v]).length ∧ (L ++ [v]).getD (ln + 1 - 1) 0 = v) := fun v => by
                have h := HLN.out
                have h2 : (L ++ [v]).length = L.length + 1 := by simp
                refine ⟨by omega, ?_⟩
                rw [show ln + 1 - 1 = (L ++ [v]).length - 1 by omega]
                exact last_app L v
              clear hO kq hk0 hp ep hum hdu hgh hk'
              go_wp2_with (first | (go_at_call 27; refine hle.mono ?_; clear hle; rintro e w4 ⟨best, rfl, hbs, k4⟩; obtain ⟨v, rfl, hvm, hdv, hnx⟩ := HBS.out best hbs; obtain ⟨a3, c3, W4, hr3, hO4, k5⟩ := HAP.out w4 v k4; clear hbs HBS HAP) | (at_builtin; refine wpList_append_tL rfl _ _ _ rfl _ _ _ W4 rfl rfl hr3 ?_; clear hr3))
              go_roundg k'
              case measure => have := HGH.out; omega
              case rel => exact ⟨L ++ [v], ln + 1, k', a3, c3, rfl, rfl, rfl, (HLA.out v).1, HNA.out v hnx, by have := HGH.out; omega, by rw [(HLA.out v).2]; exact hvm, by rw [(HLA.out v).2, hdv]; exact HGH.out.2, hO4, k5⟩
        · have HNR : Hid (¬ Rch g x x) := hr
          obtain ⟨db, hdb⟩ : ∃ db, db = wr.heap.size := ⟨_, rfl⟩
          have HAP : Hid (∀ e w', AwP g m x wr e w' → e = .returned (.slice (some ⟨db, 0, none⟩) m m) ∧ w'.cell? ⟨db, x, none⟩ = some (.int .i64 1073741824) ∧ Keeps (fun _ => False) wr w') := fun e w' h => by
            obtain ⟨d, h1, h2, h3, h4, h5⟩ := h
            rw [← hdb] at h1 h2
            refine ⟨h1, ?_, h5⟩
            have hc := h2.c x hlt
            have hd : d x = 1073741824 := by
              have q : ¬ d x < 1073741824 := fun q => HNR.out ((aw_rch h3 HBL.out h4 hm hlt).1 q)
              have q2 := h3.u x hlt
              omega
            unfold nms at hc
            rw [hd] at hc
            exact hc
          have HNX : Hid (∀ v, v < x + 1 → ¬ Rch g v v) := fun v hv => by
            by_cases e : v = x
            · rw [e]; exact HNR.out
            · exact HNO.out v (by omega)
          have HKR : Hid (Keeps (fun _ => False) w wr) := kr
          clear hr hdb kr
          go_wp2_with (go_at_call 26; refine haw.mono ?_; clear haw; intro e w2 hap; obtain ⟨rfl, hy, k2⟩ := HAP.out e w2 hap; clear hap HAP)
          go_roundw
          case rel => exact ⟨x + 1, by go_num, by omega, HNX.out, HKR.out.trans k2⟩
          case measure => simp [intOf]; omega
      · have j1 : decide ((x : Int) < (m : Int)) = false := decide_eq_false (by omega)
        have j2 : decide (x < m) = false := decide_eq_false hlt
        have HX : Hid (CcP (m : Int) (g.map Eg.ed) w (.returned (.tuple #[.slice none 0 0, .int .i64 0])) wr) := HPX.out none 0 [] wr (World.ownsRow_nil _ _ _ _) (.inl ⟨rfl, fun v hv => HNO.out v (by omega)⟩) kr
        clear HPX HAW HLE
        go_wp2_with fail
        go_ret2
        exact HX.out
  · have s1 : (fltG n l == 0) = false := by rw [beq_eq_false_iff_ne]; exact h0
    have s2 : (fltG n l != 0) = true := by rw [bne_iff_ne]; exact h0
    have HPX : Hid (∀ w', Keeps (fun _ => False) w w' → CcP n l w (.returned (.tuple #[.slice none 0 0, .int .i64 (fltG n l)])) w') := fun w' k => ⟨none, 0, [], _, rfl, World.ownsRow_nil _ _ _ _, .inl ⟨h0, rfl, rfl⟩, k⟩
    clear h0
    generalize fltG n l = R at *
    generalize l.length = N at *
    go_enter Try.func11, Try.ntmps11
    go_wp2_with (go_at_call 25; refine hfa.mono ?_; clear hfa; rintro e w1 ⟨rfl, k1⟩)
    go_ret2
    exact HPX.out _ k1
end Go.Proofs.Ytfbbllokpikbiab
