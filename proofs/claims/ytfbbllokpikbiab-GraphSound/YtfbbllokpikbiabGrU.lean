import Derived.Test.YtfbbllokpikbiabGrT
namespace Go.Proofs.Ytfbbllokpikbiab
open Go.RowKit Go.Deep
attribute [local go_sem] Oper.semAt_some run_store_nf run_store_f
theorem min_run (w : World) (a b : Nat) : (Builtin.min_ #[3, 3] 3 #[.int .i64 (a : Int), .int .i64 (b : Int)]).run Try.prog w = .ok (.int .i64 ((min a b : Nat) : Int)) w := by
  by_cases h : a ≤ b
  · rw [Nat.min_eq_left h]
    simp [Builtin.min_, Builtin.min2]
    omega
  · rw [Nat.min_eq_right (by omega)]
    simp [Builtin.min_, Builtin.min2]
    omega
theorem run_load_i {W : World} {b o : Nat} {v : Int} (h : W.cell? ⟨b, o, none⟩ = some (.int .i64 v)) : (loadVar 3 ⟨b, o, none⟩).run Try.prog W = .ok (.int .i64 v) W := by go_simp
/-- slices.Sort, as it is wanted here. -/
def SoI : Prop := ∀ (w : World) (base gb cap : Nat) (L : List Nat), w.ownsRow base 3 1 (.slice (some ⟨gb, 0, none⟩) L.length cap) L.length (pvs L) → 0 < L.length → L.length ≤ 4096 → Calls Try.prog 31 #[.slice (some ⟨gb, 0, none⟩) L.length cap] w fun e w' => e = .returned (.tuple #[]) ∧ ∃ L', L'.Perm L ∧ L'.Pairwise (· ≤ ·) ∧ w'.ownsRow base 3 1 (.slice (some ⟨gb, 0, none⟩) L.length cap) L.length (pvs L') ∧ Keeps (fun i => i = gb) w w'
theorem row_some {W : World} {base n : Nat} {v : Value} {L : List Value} (h : W.ownsRow base 3 1 v n L) (h0 : 0 < n) : ∃ pb pc, v = .slice (some ⟨pb, 0, none⟩) n pc ∧ base ≤ pb ∧ pb < W.heap.size := by
  rcases h.2 with ⟨rfl, h1⟩ | ⟨g, cap, cur, rfl, hb, _⟩
  · omega
  · exact ⟨g, cap, rfl, hb, owns_lt' h g rfl⟩
theorem pw_strict {L L' : List Nat} (hp : L'.Perm L) (hs : L'.Pairwise (· ≤ ·)) (hn : L.Nodup) : L'.Pairwise (· < ·) := by
  have hn' : L'.Pairwise (· ≠ ·) := (hp.nodup_iff).2 hn
  exact List.Pairwise.imp₂ (fun a b h1 h2 => Nat.lt_of_le_of_ne h1 h2) hs hn'
theorem uQ : Try.prog.underlying 41 = some (.slice 23) := by kernel_rfl
theorem iQ : (Try.prog.info? 23).map (fun i => (i.zero, i.size, i.bytes)) = some (some (.slice none 0 0), 1, 24) := by kernel_rfl
/-- A list behind a list of lists. -/
theorem append_q {W : World} {base m : Nat} {v : Value} {xs : List Value} (hO : W.ownsRow base 23 1 v m xs) (hb : base ≤ W.heap.size) (hm : (m + 1) * 24 ≤ 140737488355328) (x : Option Addr) (n c : Nat) :
    ∃ a' c' W', (Builtin.append_ #[41, 41] 41 #[v, .slice (some ⟨W.heap.size, 0, none⟩) 1 1]).run Try.prog (W.alloc (.cells #[.slice x n c] 23)) = .ok (.slice a' (m + 1) c') W' ∧ W'.ownsRow base 23 1 (.slice a' (m + 1) c') (m + 1) (xs ++ [.slice x n c]) ∧ Keeps (fun i => v.ownBlock = some i) W W' := by
  obtain ⟨v', W', q1, q2, q3, -⟩ := append_sz uQ iQ rfl (by decide) hO hb (by decide) hm [.slice x n c] rfl (fun u hu => by simp at hu; subst hu; rfl)
  obtain ⟨a', c', rfl, -⟩ := own_slice q2
  exact ⟨a', c', W', q1, q2, q3⟩
theorem PX.other {bc lo hi mb n : Nat} {g : List Eg} {w w' : World} {T : List Nat} {bk : Nat → Nat} {tv : Value} {qs : List Pq} {av : Value} (h : PX bc lo hi mb n g w T bk tv qs av) {b : Nat} (k : Keeps (fun i => i = b) w w') (hb : bc + 7 ≤ b) (ht : tv.ownBlock ≠ some b) (ha : av.ownBlock ≠ some b) (hq : ∀ q ∈ qs, q.val.ownBlock ≠ some b) : PX bc lo hi mb n g w' T bk tv qs av := by
  have ne : ∀ {i : Nat}, i < bc + 7 → ¬ (fun i => i = b) i := fun h e => by have e : _ = b := e; omega
  exact ⟨k.cell h.c0 (ne (i := bc) (by omega)), k.cell h.c1 (ne (i := bc + 1) (by omega)), h.c2.stays k (ne (by omega)), h.c3.stays k (ne (by omega)), h.f4.keep k (ne (by omega)), k.cell h.c5 (ne (i := bc + 5) (by omega)), k.cell h.c6 (ne (i := bc + 6) (by omega)), h.l.keep k (fun c _ hc e => by have e : c = b := e; have := h.h; omega), h.h, Nat.le_trans h.z k.size, k.owns h.rt (fun c hc e => ht (by have e : c = b := e; rw [hc, e])), k.owns h.ra (fun c hc e => ha (by have e : c = b := e; rw [hc, e])), fun q hq' => k.owns (h.rq q hq') (fun c hc e => hq q hq' (by have e : c = b := e; rw [hc, e])), h.dq, h.dt⟩
/-- Who was met. -/
def metB (bk : Nat → Nat) : Nat → Bool := fun u => decide (bk u ≠ 0)
/-- What the closure leaves. -/
def PwP (bc lo hi mb n : Nat) (g : List Eg) (T : List Nat) (bk : Nat → Nat) (x : Nat) (w : World) (e : Ending) (w' : World) : Prop := ∃ (T1 : List Nat) (bk' : Nat → Nat) (tv : Value) (qs : List Pq) (av : Value), e = .returned (.tuple #[]) ∧ WP g n T bk x T1 bk' (qs.map Pq.l) ∧ PX bc lo hi mb n g w' (T ++ T1) bk' tv qs av ∧ Keeps (fun i => bc ≤ i) w w'
/-- The closure's promise, so many calls deep. -/
def PWd (bc lo hi mb n : Nat) (g : List Eg) (d : Nat) : Prop := ∀ (w : World) (T : List Nat) (bk : Nat → Nat) (tv : Value) (qs : List Pq) (av : Value) (x : Nat), PX bc lo hi mb n g w T bk tv qs av → TS g n T bk (qs.map Pq.l) → x < n → bk x = 0 → um (metB bk) n ≤ d → Calls Try.prog 29 #[.int .i64 (x : Int), .pointer (some ⟨bc + 3, 0, none⟩), .pointer (some ⟨bc + 5, 0, none⟩), .pointer (some ⟨bc, 0, none⟩), .pointer (some ⟨bc + 6, 0, none⟩), .pointer (some ⟨bc + 1, 0, none⟩), .pointer (some ⟨bc + 2, 0, none⟩)] w (PwP bc lo hi mb n g T bk x w)
theorem met_le {n : Nat} {bk bk' : Nat → Nat} {x d : Nat} (hx : x < n) (h0 : bk x = 0) (hd : um (metB bk) n ≤ d) (hx' : bk' x ≠ 0) (hk : ∀ u, u < n → bk u ≠ 0 → bk' u = bk u) : ∃ d', d = d' + 1 ∧ um (metB bk') n ≤ d' := by
  have hm : metB bk x = false := by unfold metB; simp [h0]
  have h1 := (um_up hm n).1 hx
  have h2 : um (fun u => if u < n then metB bk' u else true) n ≤ um (upB (metB bk) x) n := um_mono (fun v hv => by
    by_cases hvn : v < n
    · rw [if_pos hvn]
      unfold upB at hv
      split at hv
      · next e => rw [e]; unfold metB; simp [hx']
      · unfold metB at hv ⊢
        simp only [decide_eq_true_eq] at hv ⊢
        rw [hk v hvn hv]
        exact hv
    · rw [if_neg hvn]) n
  have h3 : ∀ m, m ≤ n → um (fun u => if u < n then metB bk' u else true) m = um (metB bk') m := by
    intro m
    induction m with
    | zero => intro _; rfl
    | succ m ih =>
      intro hm
      have e : (if m < n then metB bk' m else true) = metB bk' m := if_pos (by omega)
      simp only [um, ih (by omega : m ≤ n), e]
  rw [h3 n (Nat.le_refl _)] at h2
  exact ⟨d - 1, by omega, by omega⟩
set_option maxHeartbeats 2000000 in
set_option maxRecDepth 100000 in
theorem pw_any {bc lo hi mb n : Nat} {g : List Eg} {d : Nat} (hso : SoI) (hb : Bln g n) (hn : n ≤ 4096) (hlen : g.length ≤ 4398046511104) (ih : ∀ d', d = d' + 1 → PWd bc lo hi mb n g d') : PWd bc lo hi mb n g d := by
  intro w T bk tv qs av x hPX hTS hxn hx0 hd
  obtain ⟨ta, tc, rfl, -⟩ := own_slice hPX.rt
  have c3 := hPX.c3.c 0 _ rfl
  have hTl := hTS.len
  have HSO : Hid SoI := hso
  have HB : Hid (Bln g n) := hb
  have HIH : Hid (∀ d', d = d' + 1 → PWd bc lo hi mb n g d') := ih
  have HTS : Hid (TS g n T bk (qs.map Pq.l)) := hTS
  have HP : Hid (∀ T1 bk' tv qs av w', WP g n T bk x T1 bk' (qs.map Pq.l) → PX bc lo hi mb n g w' (T ++ T1) bk' tv qs av → Keeps (fun i => bc ≤ i) w w' → PwP bc lo hi mb n g T bk x w (.returned (.tuple #[])) w') := fun T1 bk' tv qs av w' h1 h2 h3 => ⟨T1, bk', tv, qs, av, rfl, h1, h2, h3⟩
  obtain ⟨a1, c1, W1, hr1, ho1, k1, hb1⟩ := append_n hPX.rt hPX.z (by omega) x
  have hC1 : CL W1 (bc + 3) [.slice ta T.length tc] := hPX.c3.stays k1 (fun e => by have := owns_baseT hPX.rt _ e; omega)
  have HX2 : Hid (∀ w2, CL w2 (bc + 3) [.slice a1 (T.length + 1) c1] → Keeps (fun i => i = bc + 3) W1 w2 → PX bc lo hi mb n g w2 (T ++ [x]) bk (.slice a1 (T.length + 1) c1) qs av ∧ Keeps (fun i => bc ≤ i) w w2) := fun w2 hc k2 => ⟨hPX.trail k1 (by rw [List.length_append]; exact ho1) (hb1.imp id (fun e => ⟨_, e, by omega⟩)) k2 hc, (k1.trans' k2 (U := fun i => bc ≤ i) (fun i _ e => by have := owns_baseT hPX.rt i e; show bc ≤ i; omega) (fun i _ e => by have e : i = bc + 3 := e; show bc ≤ i; omega))⟩
  have HWJ0 : Hid (WJ g n T bk x 0 [] (upD bk x (T.length + 1)) (qs.map Pq.l) (upD bk x (T.length + 1) x)) := WJ.start hTS hxn hx0
  have HX3 : Hid (∀ w2 w3, PX bc lo hi mb n g w2 (T ++ [x]) bk (.slice a1 (T.length + 1) c1) qs av → FB w3 (bc + 4) n (upV (nms bk) x (.int .i64 ((T.length : Int) + 1))) → Keeps (fun k => k = bc + 4) w2 w3 → PX bc lo hi mb n g w3 (T ++ [x]) (upD bk x (T.length + 1)) (.slice a1 (T.length + 1) c1) qs av) := fun w2 w3 h hf k => h.put (hf.congr (fun p _ => by have := nms_up (d := bk) (x := x) (k := T.length + 1) p; exact this)) k
  have n1 : (0 : Int) ≤ (x : Int) := by omega
  have n2 : (x : Int) < (n : Int) := by omega
  clear hPX hTS ih hb ho1 hb1 k1
  obtain ⟨P, hP⟩ : ∃ P, P = T.length := ⟨_, rfl⟩
  rw [← hP] at hr1 c3 hC1 HX2 HWJ0 HX3 hTl
  have HPT : Hid (P = T.length) := hP
  clear hP
  go_enter Try.func29, Try.ntmps29
  go_wp2_with (first | (at_builtin; refine wpList_append_tL rfl _ _ _ rfl _ _ _ W1 rfl rfl hr1 ?_; clear hr1) | (refine wpList_store_slc 23 st35 rfl rfl _ _ rfl (bc + 3) rfl a1 (P + 1) c1 rfl hC1 ?_; intro w2 hc2 k2 hz2; clear hz2 hC1 c3; obtain ⟨hPX2, K2⟩ := HX2.out w2 hc2 k2; clear HX2 hc2 k2; have e3 := hPX2.c3.c 0 _ rfl; have e5 := hPX2.c5; have hF2 := hPX2.f4) | (refine wpList_store_fi rfl rfl _ _ rfl (bc + 4) x rfl ((P : Int) + 1) rfl hF2 hxn ?_; intro w3 hf3 k3 hz3; clear hz3 hF2 e3 e5; have hPX3 := HX3.out w2 w3 hPX2 hf3 k3; clear HX3 hPX2 hf3; have e0 := hPX3.c0; obtain ⟨ga, gc, hlk, hPM, hgb⟩ := hPX3.l.q w3 (fun _ _ _ => rfl) x (by omega)))
  have HK3 : Hid (Keeps (fun i => bc ≤ i) w w3) := K2.trans' k3 (fun _ _ e => e) (fun i _ e => by have e : i = bc + 4 := e; show bc ≤ i; omega)
  have hLM := ldN_len g x
  obtain ⟨M, hM⟩ : ∃ M, M = (ldN g x).length := ⟨_, rfl⟩
  rw [← hM] at hLM
  rw [← hM]
  have HM : Hid (M = (ldN g x).length) := hM
  have HPM : Hid (PM w3 ga (ldN g x) ∧ ∀ b off, ga = some ⟨b, off, none⟩ → b < bc) := ⟨hPM, fun b off e => by have := (hgb b off e).2; have := hPX3.h; omega⟩
  have HPX3 : Hid (PX bc lo hi mb n g w3 (T ++ x :: []) (upD bk x (P + 1)) (.slice a1 (P + 1) c1) qs av) := hPX3
  clear hM hPM hgb hPX3 e0 hlk K2 k3
  go_loopw [28] (fun iv Wr => ∃ (i : Nat) (R : List Nat) (bk' : Nat → Nat) (tv' : Value) (qs' : List Pq) (av' : Value), iv = .int .i64 (i : Int) ∧ i ≤ M ∧ PX bc lo hi mb n g Wr (T ++ x :: R) bk' tv' qs' av' ∧ WJ g n T bk x i R bk' (qs'.map Pq.l) (bk' x) ∧ Keeps (fun i => bc ≤ i) w3 Wr) (fun iv _ => M - (intOf iv).toNat)
  case atStart => exact ⟨0, [], _, _, _, _, rfl, Nat.zero_le _, HPX3.out, HWJ0.out, Keeps.refl _ _⟩
  case round =>
    obtain ⟨i, R, bk', tv', qs', av', rfl, hiM, hPXA, hWJ, hKA⟩ := hrel
    clear HPX3 HWJ0
    by_cases hlt : i < M
    · have j1 : decide ((i : Int) < (M : Int)) = true := decide_eq_true (by omega)
      have j2 : decide (i < M) = true := decide_eq_true hlt
      have j3 : (i : Int) < (M : Int) := by omega
      have j4 : (0 : Int) ≤ (i : Int) := by omega
      have hwi : IntKind.i64.wrap ((i : Int) + 1) = (i : Int) + 1 := by rw [IntKind.wrap_i64]; omega
      have hiL : i < (ldN g x).length := by rw [← HM.out]; exact hlt
      obtain ⟨b, off, rfl, hc⟩ := HPM.out.1 i hiL
      have x0 := hKA.cell hc (fun e => by have := HPM.out.2 b off rfl; have e : bc ≤ b := e; omega)
      have hzl := getD_memN hiL
      have hzn : (ldN g x).getD i 0 < n := by
        obtain ⟨e, he, -, h2⟩ := mem_ldN.1 hzl
        rw [← h2]
        exact (HB.out e he).2
      have HMET : Hid (∀ Rq (bq : Nat → Nat) pq, WJ g n T bk x i Rq bq pq (min (bq x) (bq ((ldN g x).getD i 0))) → bq ((ldN g x).getD i 0) ≠ 0 → WJ g n T bk x (i + 1) Rq (upD bq x (min (bq x) (bq ((ldN g x).getD i 0)))) pq (upD bq x (min (bq x) (bq ((ldN g x).getD i 0))) x)) := fun Rq bq pq h h2 => h.met hiL hzn h2 hx0
      clear hc hiL
      generalize (ldN g x).getD i 0 = z at *
      have m1 : (0 : Int) ≤ (z : Int) := by omega
      have m2 : (z : Int) < (n : Int) := by omega
      have e5 := hPXA.c5
      have yz : wr.cell? ⟨bc + 4, z, none⟩ = some (.int .i64 (bk' z : Int)) := hPXA.f4.c z hzn
      have HWZ : Hid (WJ g n T bk x i R bk' (qs'.map Pq.l) (bk' x)) := hWJ
      by_cases hz0 : bk' z = 0
      · have s1 : ((bk' z : Int) == 0) = true := by simp [hz0]
        have s2 : (bk' z == 0) = true := by simp [hz0]
        obtain ⟨d', hd', hum⟩ := met_le hxn hx0 hd (bk' := bk') (by have := hWJ.bx.1; omega) hWJ.k0
        have hrc := HIH.out d' hd' wr (T ++ x :: R) bk' tv' qs' av' z hPXA hWJ.s hzn hz0 hum
        have e6 := hPXA.c6
        clear hPXA hd' hum hWJ hz0
        generalize bk' z = bz0 at *
        go_wp2_with (go_at_call 29; refine hrc.mono ?_; clear hrc; rintro e w4 ⟨T1, bkB, tvB, qsB, avB, rfl, hWP, hPXB, kB⟩)
        have HWJ2 := HWZ.out.walk HB.out hzl hWP
        have hzB : bkB z ≠ 0 := hWP.m
        have HWJ : Hid (WJ g n T bk x (i + 1) (R ++ T1) (upD bkB x (min (bkB x) (bkB z))) (qsB.map Pq.l) (upD bkB x (min (bkB x) (bkB z)) x)) := HMET.out _ _ _ HWJ2 hzB
        have hPXA : PX bc lo hi mb n g w4 (T ++ x :: (R ++ T1)) bkB tvB qsB avB := by
          have e : T ++ x :: R ++ T1 = T ++ x :: (R ++ T1) := by simp
          rw [e] at hPXB
          exact hPXB
        have hKA := hKA.trans kB
        clear hWP hPXB HWJ2 HMET hzB kB x0 yz e5 e6
        have kd : Keeps (fun _ => False) w4 w4.drew := (Keeps.refl _ w4).drew
        have b5d := kd.cell hPXA.c5 (fun e => e)
        have hFd := hPXA.f4.keep kd (fun e => e)
        have yxd : w4.drew.cell? ⟨bc + 4, x, none⟩ = some (.int .i64 (bkB x : Int)) := hFd.c x hxn
        have zxd := hFd.z x hxn
        have ytd : w4.drew.cell? ⟨bc + 4, z, none⟩ = some (.int .i64 (bkB z : Int)) := hFd.c z hzn
        have hmn := fun w => min_run w (bkB x) (bkB z)
        obtain ⟨X9, hX9⟩ : ∃ X9, X9 = w4.drew.setCell ⟨bc + 4, x, none⟩ (.int .i64 ((min (bkB x) (bkB z) : Nat) : Int)) := ⟨_, rfl⟩
        have k9 : Keeps (fun i => i = bc + 4) w4.drew X9 := by rw [hX9]; exact (Keeps.refl (fun i => i = bc + 4) w4.drew).setCell (p := ⟨bc + 4, x, none⟩) (fun _ => rfl) _
        have f9 : FB X9 (bc + 4) n (nms (upD bkB x (min (bkB x) (bkB z)))) := (show FB X9 (bc + 4) n (upV (nms bkB) x (.int .i64 ((min (bkB x) (bkB z) : Nat) : Int))) by rw [hX9]; exact hFd.set hxn _).congr (fun p _ => nms_up p)
        have hS12 : (w4.drew.setCell ⟨bc + 4, x, none⟩ (.int .i64 ((min (bkB x) (bkB z) : Nat) : Int))).cell? ⟨bc + 5, 0, none⟩ = some (.slice (some ⟨bc + 4, 0, none⟩) n n) := by rw [← hX9]; exact k9.cell b5d (fun e => by have e : bc + 5 = bc + 4 := e; omega)
        have HPX9 := (hPXA.keep kd).put f9 k9
        have HEND : Hid (PX bc lo hi mb n g X9 (T ++ x :: (R ++ T1)) (upD bkB x (min (bkB x) (bkB z))) tvB qsB avB ∧ Keeps (fun i => bc ≤ i) w3 X9) := ⟨HPX9, (hKA.trans' kd (fun _ _ e => e) (fun _ _ e => e.elim)).trans' k9 (fun _ _ e => e) (fun i _ e => by have e : i = bc + 4 := e; show bc ≤ i; omega)⟩
        clear HPX9 f9 k9 hFd hPXA kd hKA
        generalize bkB x = bx at *
        generalize bkB z = bz at *
        generalize min bx bz = mn at *
        refine wp_region_held_drew (S := fun W => W.cell? ⟨bc + 5, 0, none⟩ = some (.slice (some ⟨bc + 4, 0, none⟩) n n)) (by kernel_rfl) b5d (fun hHeld => ?_)
        refine wpAnyH_take (i := 0) (v := ?_) rfl (by kernel_rfl) (by kernel_rfl) (by kernel_rfl) (fun _ _ _ h => h) (Or.inl ⟨by rfl, ?_⟩) (by assumption) ?_
        rotate_left
        · intro wx hSw; have q5 := hSw; clear hSw; go_simp <;> with_reducible rfl
        (try simp only [List.getElem_toArray]); (try simp only [List.getElem_cons_succ]); (try simp only [List.getElem_cons_zero]); (try simp only [Act.put]); (try simp only [List.setIfInBounds_toArray]); (repeat first | simp only [List.set_cons_succ] | simp only [List.set_cons_zero])
        refine wpAnyH_take (i := 1) (v := ?_) rfl (by kernel_rfl) (by kernel_rfl) (by kernel_rfl) (fun _ _ _ h => h) (Or.inl ⟨by rfl, ?_⟩) (by assumption) ?_
        rotate_left
        · intro wx hSw; clear hSw; go_simp <;> with_reducible rfl
        (try simp only [List.getElem_toArray]); (try simp only [List.getElem_cons_succ]); (try simp only [List.getElem_cons_zero]); (try simp only [Act.put]); (try simp only [List.setIfInBounds_toArray]); (repeat first | simp only [List.set_cons_succ] | simp only [List.set_cons_zero])
        refine wpAnyH_take (i := 2) (v := ?_) rfl (by kernel_rfl) (by kernel_rfl) (by kernel_rfl) (fun _ _ _ h => h) (Or.inl ⟨by rfl, ?_⟩) (by assumption) ?_
        rotate_left
        · intro wx hSw; have q5 := hSw; clear hSw; go_simp <;> with_reducible rfl
        (try simp only [List.getElem_toArray]); (try simp only [List.getElem_cons_succ]); (try simp only [List.getElem_cons_zero]); (try simp only [Act.put]); (try simp only [List.setIfInBounds_toArray]); (repeat first | simp only [List.set_cons_succ] | simp only [List.set_cons_zero])
        refine wpAnyH_take (i := 3) (v := ?_) rfl (by kernel_rfl) (by kernel_rfl) (by kernel_rfl) (fun _ _ _ h => h) (Or.inl ⟨by rfl, ?_⟩) (by assumption) ?_
        rotate_left
        · intro wx hSw; clear hSw; go_simp <;> with_reducible rfl
        (try simp only [List.getElem_toArray]); (try simp only [List.getElem_cons_succ]); (try simp only [List.getElem_cons_zero]); (try simp only [Act.put]); (try simp only [List.setIfInBounds_toArray]); (repeat first | simp only [List.set_cons_succ] | simp only [List.set_cons_zero])
        refine wpAnyH_take (i := 4) (v := ?_) rfl (by kernel_rfl) (by kernel_rfl) (by kernel_rfl) (fun _ _ _ h => h) (Or.inl ⟨by rfl, ?_⟩) (by assumption) ?_
        rotate_left
        · intro wx hSw; clear hSw; go_simp <;> with_reducible rfl
        (try simp only [List.getElem_toArray]); (try simp only [List.getElem_cons_succ]); (try simp only [List.getElem_cons_zero]); (try simp only [Act.put]); (try simp only [List.setIfInBounds_toArray]); (repeat first | simp only [List.set_cons_succ] | simp only [List.set_cons_zero])
        refine wpAnyH_take (i := 6) (v := ?_) rfl (by kernel_rfl) (by kernel_rfl) (by kernel_rfl) (fun _ _ _ h => h) (Or.inl ⟨by rfl, ?_⟩) (by assumption) ?_
        rotate_left
        · intro wx hSw; have q5 := hSw; clear hSw; go_simp <;> with_reducible rfl
        (try simp only [List.getElem_toArray]); (try simp only [List.getElem_cons_succ]); (try simp only [List.getElem_cons_zero]); (try simp only [Act.put]); (try simp only [List.setIfInBounds_toArray]); (repeat first | simp only [List.set_cons_succ] | simp only [List.set_cons_zero])
        refine wpAnyH_take (i := 7) (v := ?_) rfl (by kernel_rfl) (by kernel_rfl) (by kernel_rfl) (fun _ _ _ h => h) (Or.inl ⟨by rfl, ?_⟩) (by assumption) ?_
        rotate_left
        · intro wx hSw; clear hSw; go_simp <;> with_reducible rfl
        (try simp only [List.getElem_toArray]); (try simp only [List.getElem_cons_succ]); (try simp only [List.getElem_cons_zero]); (try simp only [Act.put]); (try simp only [List.setIfInBounds_toArray]); (repeat first | simp only [List.set_cons_succ] | simp only [List.set_cons_zero])
        refine wpAnyH_take (i := 8) (v := ?_) rfl (by kernel_rfl) (by kernel_rfl) (by kernel_rfl) (fun _ _ _ h => h) (Or.inl ⟨by rfl, ?_⟩) (by assumption) ?_
        rotate_left
        · intro wx hSw; clear hSw; go_simp <;> with_reducible rfl
        (try simp only [List.getElem_toArray]); (try simp only [List.getElem_cons_succ]); (try simp only [List.getElem_cons_zero]); (try simp only [Act.put]); (try simp only [List.setIfInBounds_toArray]); (repeat first | simp only [List.set_cons_succ] | simp only [List.set_cons_zero])
        refine wpAnyH_two' 5 9 (by kernel_rfl) rfl rfl (by kernel_rfl) (by kernel_rfl) ?_ ?_
        · refine wp_loadK 3 _ rfl ⟨bc + 4, x, none⟩ rfl _ (run_load_i yxd) ?_
          refine ⟨hHeld, fun _ => ?_⟩
          (try simp only [List.getElem_toArray]); (try simp only [List.getElem_cons_succ]); (try simp only [List.getElem_cons_zero]); (try simp only [Act.put]); (try simp only [List.setIfInBounds_toArray]); (repeat first | simp only [List.set_cons_succ] | simp only [List.set_cons_zero])
          refine wpAnyH_one 9 (by kernel_rfl) rfl rfl ?_
          refine wp_loadK 3 _ rfl ⟨bc + 4, z, none⟩ rfl _ (run_load_i ytd) ?_
          refine ⟨hHeld, fun _ => ?_⟩
          (try simp only [List.getElem_toArray]); (try simp only [List.getElem_cons_succ]); (try simp only [List.getElem_cons_zero]); (try simp only [Act.put]); (try simp only [List.setIfInBounds_toArray]); (repeat first | simp only [List.set_cons_succ] | simp only [List.set_cons_zero])
          refine wpAnyH_take (i := 10) (v := ?_) rfl (by kernel_rfl) (by kernel_rfl) (by kernel_rfl) (fun _ _ _ h => h) (Or.inl ⟨by rfl, ?_⟩) (by assumption) ?_
          rotate_left
          · intro wx hSw; clear hSw; have hmm := hmn wx; go_simp <;> with_reducible rfl
          (try simp only [List.getElem_toArray]); (try simp only [List.getElem_cons_succ]); (try simp only [List.getElem_cons_zero]); (try simp only [Act.put]); (try simp only [List.setIfInBounds_toArray]); (repeat first | simp only [List.set_cons_succ] | simp only [List.set_cons_zero])
          refine wpAnyH_take (i := 11) (v := ?_) rfl (by kernel_rfl) (by kernel_rfl) (by kernel_rfl) (fun _ _ _ h => h) (Or.inl ⟨by rfl, ?_⟩) (by assumption) ?_
          rotate_left
          · intro wx hSw; clear hSw; go_simp <;> with_reducible rfl
          (try simp only [List.getElem_toArray]); (try simp only [List.getElem_cons_succ]); (try simp only [List.getElem_cons_zero]); (try simp only [Act.put]); (try simp only [List.setIfInBounds_toArray]); (repeat first | simp only [List.set_cons_succ] | simp only [List.set_cons_zero])
          refine wpAnyH_one 12 (by kernel_rfl) rfl rfl ?_
          refine wp_storeK 3 _ _ rfl ⟨bc + 4, x, none⟩ rfl _ rfl (run_store_fi (by rw [yxd]; rfl) zxd _) ?_
          refine ⟨hS12, fun _ => ?_⟩
          (try simp only [List.getElem_toArray]); (try simp only [List.getElem_cons_succ]); (try simp only [List.getElem_cons_zero]); (try simp only [Act.put]); (try simp only [List.setIfInBounds_toArray]); (repeat first | simp only [List.set_cons_succ] | simp only [List.set_cons_zero])
          refine wpAnyH_done (by kernel_rfl) ?_ _
          rw [← hX9]
          clear hX9 hS12 hmn yxd ytd zxd b5d hHeld
          go_wp2_with fail
          go_roundw
          case rel => exact ⟨i + 1, R ++ T1, _, _, _, _, by go_num, by omega, HEND.out.1, HWJ.out, HEND.out.2⟩
          case measure => simp [intOf]; omega
        · refine wp_loadK 3 _ rfl ⟨bc + 4, z, none⟩ rfl _ (run_load_i ytd) ?_
          refine ⟨hHeld, fun _ => ?_⟩
          (try simp only [List.getElem_toArray]); (try simp only [List.getElem_cons_succ]); (try simp only [List.getElem_cons_zero]); (try simp only [Act.put]); (try simp only [List.setIfInBounds_toArray]); (repeat first | simp only [List.set_cons_succ] | simp only [List.set_cons_zero])
          refine wpAnyH_one 5 (by kernel_rfl) rfl rfl ?_
          refine wp_loadK 3 _ rfl ⟨bc + 4, x, none⟩ rfl _ (run_load_i yxd) ?_
          refine ⟨hHeld, fun _ => ?_⟩
          (try simp only [List.getElem_toArray]); (try simp only [List.getElem_cons_succ]); (try simp only [List.getElem_cons_zero]); (try simp only [Act.put]); (try simp only [List.setIfInBounds_toArray]); (repeat first | simp only [List.set_cons_succ] | simp only [List.set_cons_zero])
          refine wpAnyH_take (i := 10) (v := ?_) rfl (by kernel_rfl) (by kernel_rfl) (by kernel_rfl) (fun _ _ _ h => h) (Or.inl ⟨by rfl, ?_⟩) (by assumption) ?_
          rotate_left
          · intro wx hSw; clear hSw; have hmm := hmn wx; go_simp <;> with_reducible rfl
          (try simp only [List.getElem_toArray]); (try simp only [List.getElem_cons_succ]); (try simp only [List.getElem_cons_zero]); (try simp only [Act.put]); (try simp only [List.setIfInBounds_toArray]); (repeat first | simp only [List.set_cons_succ] | simp only [List.set_cons_zero])
          refine wpAnyH_take (i := 11) (v := ?_) rfl (by kernel_rfl) (by kernel_rfl) (by kernel_rfl) (fun _ _ _ h => h) (Or.inl ⟨by rfl, ?_⟩) (by assumption) ?_
          rotate_left
          · intro wx hSw; clear hSw; go_simp <;> with_reducible rfl
          (try simp only [List.getElem_toArray]); (try simp only [List.getElem_cons_succ]); (try simp only [List.getElem_cons_zero]); (try simp only [Act.put]); (try simp only [List.setIfInBounds_toArray]); (repeat first | simp only [List.set_cons_succ] | simp only [List.set_cons_zero])
          refine wpAnyH_one 12 (by kernel_rfl) rfl rfl ?_
          refine wp_storeK 3 _ _ rfl ⟨bc + 4, x, none⟩ rfl _ rfl (run_store_fi (by rw [yxd]; rfl) zxd _) ?_
          refine ⟨hS12, fun _ => ?_⟩
          (try simp only [List.getElem_toArray]); (try simp only [List.getElem_cons_succ]); (try simp only [List.getElem_cons_zero]); (try simp only [Act.put]); (try simp only [List.setIfInBounds_toArray]); (repeat first | simp only [List.set_cons_succ] | simp only [List.set_cons_zero])
          refine wpAnyH_done (by kernel_rfl) ?_ _
          rw [← hX9]
          clear hX9 hS12 hmn yxd ytd zxd b5d hHeld
          go_wp2_with fail
          go_roundw
          case rel => exact ⟨i + 1, R ++ T1, _, _, _, _, by go_num, by omega, HEND.out.1, HWJ.out, HEND.out.2⟩
          case measure => simp [intOf]; omega
      · have s1 : ((bk' z : Int) == 0) = false := by rw [beq_eq_false_iff_ne]; omega
        have s2 : (bk' z == 0) = false := by rw [beq_eq_false_iff_ne]; exact hz0
        have HWJ : Hid (WJ g n T bk x (i + 1) R (upD bk' x (min (bk' x) (bk' z))) (qs'.map Pq.l) (upD bk' x (min (bk' x) (bk' z)) x)) := HMET.out _ _ _ (HWZ.out.mono (Nat.min_le_left _ _)) hz0
        clear hWJ HMET hz0
        go_wp2_with fail
        clear x0 yz e5 s1 s2
        have kd : Keeps (fun _ => False) wr wr.drew := (Keeps.refl _ wr).drew
        have b5d := kd.cell hPXA.c5 (fun e => e)
        have hFd := hPXA.f4.keep kd (fun e => e)
        have yxd : wr.drew.cell? ⟨bc + 4, x, none⟩ = some (.int .i64 (bk' x : Int)) := hFd.c x hxn
        have zxd := hFd.z x hxn
        have ytd : wr.drew.cell? ⟨bc + 4, z, none⟩ = some (.int .i64 (bk' z : Int)) := hFd.c z hzn
        have hmn := fun w => min_run w (bk' x) (bk' z)
        obtain ⟨X9, hX9⟩ : ∃ X9, X9 = wr.drew.setCell ⟨bc + 4, x, none⟩ (.int .i64 ((min (bk' x) (bk' z) : Nat) : Int)) := ⟨_, rfl⟩
        have k9 : Keeps (fun i => i = bc + 4) wr.drew X9 := by rw [hX9]; exact (Keeps.refl (fun i => i = bc + 4) wr.drew).setCell (p := ⟨bc + 4, x, none⟩) (fun _ => rfl) _
        have f9 : FB X9 (bc + 4) n (nms (upD bk' x (min (bk' x) (bk' z)))) := (show FB X9 (bc + 4) n (upV (nms bk') x (.int .i64 ((min (bk' x) (bk' z) : Nat) : Int))) by rw [hX9]; exact hFd.set hxn _).congr (fun p _ => nms_up p)
        have hS12 : (wr.drew.setCell ⟨bc + 4, x, none⟩ (.int .i64 ((min (bk' x) (bk' z) : Nat) : Int))).cell? ⟨bc + 5, 0, none⟩ = some (.slice (some ⟨bc + 4, 0, none⟩) n n) := by rw [← hX9]; exact k9.cell b5d (fun e => by have e : bc + 5 = bc + 4 := e; omega)
        have HPX9 := (hPXA.keep kd).put f9 k9
        have HEND : Hid (PX bc lo hi mb n g X9 (T ++ x :: R) (upD bk' x (min (bk' x) (bk' z))) tv' qs' av' ∧ Keeps (fun i => bc ≤ i) w3 X9) := ⟨HPX9, (hKA.trans' kd (fun _ _ e => e) (fun _ _ e => e.elim)).trans' k9 (fun _ _ e => e) (fun i _ e => by have e : i = bc + 4 := e; show bc ≤ i; omega)⟩
        clear HPX9 f9 k9 hFd hPXA kd hKA
        generalize bk' x = bx at *
        generalize bk' z = bz at *
        generalize min bx bz = mn at *
        refine wp_region_held_drew (S := fun W => W.cell? ⟨bc + 5, 0, none⟩ = some (.slice (some ⟨bc + 4, 0, none⟩) n n)) (by kernel_rfl) b5d (fun hHeld => ?_)
        refine wpAnyH_take (i := 0) (v := ?_) rfl (by kernel_rfl) (by kernel_rfl) (by kernel_rfl) (fun _ _ _ h => h) (Or.inl ⟨by rfl, ?_⟩) (by assumption) ?_
        rotate_left
        · intro wx hSw; have q5 := hSw; clear hSw; go_simp <;> with_reducible rfl
        (try simp only [List.getElem_toArray]); (try simp only [List.getElem_cons_succ]); (try simp only [List.getElem_cons_zero]); (try simp only [Act.put]); (try simp only [List.setIfInBounds_toArray]); (repeat first | simp only [List.set_cons_succ] | simp only [List.set_cons_zero])
        refine wpAnyH_take (i := 1) (v := ?_) rfl (by kernel_rfl) (by kernel_rfl) (by kernel_rfl) (fun _ _ _ h => h) (Or.inl ⟨by rfl, ?_⟩) (by assumption) ?_
        rotate_left
        · intro wx hSw; clear hSw; go_simp <;> with_reducible rfl
        (try simp only [List.getElem_toArray]); (try simp only [List.getElem_cons_succ]); (try simp only [List.getElem_cons_zero]); (try simp only [Act.put]); (try simp only [List.setIfInBounds_toArray]); (repeat first | simp only [List.set_cons_succ] | simp only [List.set_cons_zero])
        refine wpAnyH_take (i := 2) (v := ?_) rfl (by kernel_rfl) (by kernel_rfl) (by kernel_rfl) (fun _ _ _ h => h) (Or.inl ⟨by rfl, ?_⟩) (by assumption) ?_
        rotate_left
        · intro wx hSw; have q5 := hSw; clear hSw; go_simp <;> with_reducible rfl
        (try simp only [List.getElem_toArray]); (try simp only [List.getElem_cons_succ]); (try simp only [List.getElem_cons_zero]); (try simp only [Act.put]); (try simp only [List.setIfInBounds_toArray]); (repeat first | simp only [List.set_cons_succ] | simp only [List.set_cons_zero])
        refine wpAnyH_take (i := 3) (v := ?_) rfl (by kernel_rfl) (by kernel_rfl) (by kernel_rfl) (fun _ _ _ h => h) (Or.inl ⟨by rfl, ?_⟩) (by assumption) ?_
        rotate_left
        · intro wx hSw; clear hSw; go_simp <;> with_reducible rfl
        (try simp only [List.getElem_toArray]); (try simp only [List.getElem_cons_succ]); (try simp only [List.getElem_cons_zero]); (try simp only [Act.put]); (try simp only [List.setIfInBounds_toArray]); (repeat first | simp only [List.set_cons_succ] | simp only [List.set_cons_zero])
        refine wpAnyH_take (i := 4) (v := ?_) rfl (by kernel_rfl) (by kernel_rfl) (by kernel_rfl) (fun _ _ _ h => h) (Or.inl ⟨by rfl, ?_⟩) (by assumption) ?_
        rotate_left
        · intro wx hSw; clear hSw; go_simp <;> with_reducible rfl
        (try simp only [List.getElem_toArray]); (try simp only [List.getElem_cons_succ]); (try simp only [List.getElem_cons_zero]); (try simp only [Act.put]); (try simp only [List.setIfInBounds_toArray]); (repeat first | simp only [List.set_cons_succ] | simp only [List.set_cons_zero])
        refine wpAnyH_take (i := 6) (v := ?_) rfl (by kernel_rfl) (by kernel_rfl) (by kernel_rfl) (fun _ _ _ h => h) (Or.inl ⟨by rfl, ?_⟩) (by assumption) ?_
        rotate_left
        · intro wx hSw; have q5 := hSw; clear hSw; go_simp <;> with_reducible rfl
        (try simp only [List.getElem_toArray]); (try simp only [List.getElem_cons_succ]); (try simp only [List.getElem_cons_zero]); (try simp only [Act.put]); (try simp only [List.setIfInBounds_toArray]); (repeat first | simp only [List.set_cons_succ] | simp only [List.set_cons_zero])
        refine wpAnyH_take (i := 7) (v := ?_) rfl (by kernel_rfl) (by kernel_rfl) (by kernel_rfl) (fun _ _ _ h => h) (Or.inl ⟨by rfl, ?_⟩) (by assumption) ?_
        rotate_left
        · intro wx hSw; clear hSw; go_simp <;> with_reducible rfl
        (try simp only [List.getElem_toArray]); (try simp only [List.getElem_cons_succ]); (try simp only [List.getElem_cons_zero]); (try simp only [Act.put]); (try simp only [List.setIfInBounds_toArray]); (repeat first | simp only [List.set_cons_succ] | simp only [List.set_cons_zero])
        refine wpAnyH_take (i := 8) (v := ?_) rfl (by kernel_rfl) (by kernel_rfl) (by kernel_rfl) (fun _ _ _ h => h) (Or.inl ⟨by rfl, ?_⟩) (by assumption) ?_
        rotate_left
        · intro wx hSw; clear hSw; go_simp <;> with_reducible rfl
        (try simp only [List.getElem_toArray]); (try simp only [List.getElem_cons_succ]); (try simp only [List.getElem_cons_zero]); (try simp only [Act.put]); (try simp only [List.setIfInBounds_toArray]); (repeat first | simp only [List.set_cons_succ] | simp only [List.set_cons_zero])
        refine wpAnyH_two' 5 9 (by kernel_rfl) rfl rfl (by kernel_rfl) (by kernel_rfl) ?_ ?_
        · refine wp_loadK 3 _ rfl ⟨bc + 4, x, none⟩ rfl _ (run_load_i yxd) ?_
          refine ⟨hHeld, fun _ => ?_⟩
          (try simp only [List.getElem_toArray]); (try simp only [List.getElem_cons_succ]); (try simp only [List.getElem_cons_zero]); (try simp only [Act.put]); (try simp only [List.setIfInBounds_toArray]); (repeat first | simp only [List.set_cons_succ] | simp only [List.set_cons_zero])
          refine wpAnyH_one 9 (by kernel_rfl) rfl rfl ?_
          refine wp_loadK 3 _ rfl ⟨bc + 4, z, none⟩ rfl _ (run_load_i ytd) ?_
          refine ⟨hHeld, fun _ => ?_⟩
          (try simp only [List.getElem_toArray]); (try simp only [List.getElem_cons_succ]); (try simp only [List.getElem_cons_zero]); (try simp only [Act.put]); (try simp only [List.setIfInBounds_toArray]); (repeat first | simp only [List.set_cons_succ] | simp only [List.set_cons_zero])
          refine wpAnyH_take (i := 10) (v := ?_) rfl (by kernel_rfl) (by kernel_rfl) (by kernel_rfl) (fun _ _ _ h => h) (Or.inl ⟨by rfl, ?_⟩) (by assumption) ?_
          rotate_left
          · intro wx hSw; clear hSw; have hmm := hmn wx; go_simp <;> with_reducible rfl
          (try simp only [List.getElem_toArray]); (try simp only [List.getElem_cons_succ]); (try simp only [List.getElem_cons_zero]); (try simp only [Act.put]); (try simp only [List.setIfInBounds_toArray]); (repeat first | simp only [List.set_cons_succ] | simp only [List.set_cons_zero])
          refine wpAnyH_take (i := 11) (v := ?_) rfl (by kernel_rfl) (by kernel_rfl) (by kernel_rfl) (fun _ _ _ h => h) (Or.inl ⟨by rfl, ?_⟩) (by assumption) ?_
          rotate_left
          · intro wx hSw; clear hSw; go_simp <;> with_reducible rfl
          (try simp only [List.getElem_toArray]); (try simp only [List.getElem_cons_succ]); (try simp only [List.getElem_cons_zero]); (try simp only [Act.put]); (try simp only [List.setIfInBounds_toArray]); (repeat first | simp only [List.set_cons_succ] | simp only [List.set_cons_zero])
          refine wpAnyH_one 12 (by kernel_rfl) rfl rfl ?_
          refine wp_storeK 3 _ _ rfl ⟨bc + 4, x, none⟩ rfl _ rfl (run_store_fi (by rw [yxd]; rfl) zxd _) ?_
          refine ⟨hS12, fun _ => ?_⟩
          (try simp only [List.getElem_toArray]); (try simp only [List.getElem_cons_succ]); (try simp only [List.getElem_cons_zero]); (try simp only [Act.put]); (try simp only [List.setIfInBounds_toArray]); (repeat first | simp only [List.set_cons_succ] | simp only [List.set_cons_zero])
          refine wpAnyH_done (by kernel_rfl) ?_ _
          rw [← hX9]
          clear hX9 hS12 hmn yxd ytd zxd b5d hHeld
          go_wp2_with fail
          go_roundw
          case rel => exact ⟨i + 1, R, _, _, _, _, by go_num, by omega, HEND.out.1, HWJ.out, HEND.out.2⟩
          case measure => simp [intOf]; omega
        · refine wp_loadK 3 _ rfl ⟨bc + 4, z, none⟩ rfl _ (run_load_i ytd) ?_
          refine ⟨hHeld, fun _ => ?_⟩
          (try simp only [List.getElem_toArray]); (try simp only [List.getElem_cons_succ]); (try simp only [List.getElem_cons_zero]); (try simp only [Act.put]); (try simp only [List.setIfInBounds_toArray]); (repeat first | simp only [List.set_cons_succ] | simp only [List.set_cons_zero])
          refine wpAnyH_one 5 (by kernel_rfl) rfl rfl ?_
          refine wp_loadK 3 _ rfl ⟨bc + 4, x, none⟩ rfl _ (run_load_i yxd) ?_
          refine ⟨hHeld, fun _ => ?_⟩
          (try simp only [List.getElem_toArray]); (try simp only [List.getElem_cons_succ]); (try simp only [List.getElem_cons_zero]); (try simp only [Act.put]); (try simp only [List.setIfInBounds_toArray]); (repeat first | simp only [List.set_cons_succ] | simp only [List.set_cons_zero])
          refine wpAnyH_take (i := 10) (v := ?_) rfl (by kernel_rfl) (by kernel_rfl) (by kernel_rfl) (fun _ _ _ h => h) (Or.inl ⟨by rfl, ?_⟩) (by assumption) ?_
          rotate_left
          · intro wx hSw; clear hSw; have hmm := hmn wx; go_simp <;> with_reducible rfl
          (try simp only [List.getElem_toArray]); (try simp only [List.getElem_cons_succ]); (try simp only [List.getElem_cons_zero]); (try simp only [Act.put]); (try simp only [List.setIfInBounds_toArray]); (repeat first | simp only [List.set_cons_succ] | simp only [List.set_cons_zero])
          refine wpAnyH_take (i := 11) (v := ?_) rfl (by kernel_rfl) (by kernel_rfl) (by kernel_rfl) (fun _ _ _ h => h) (Or.inl ⟨by rfl, ?_⟩) (by assumption) ?_
          rotate_left
          · intro wx hSw; clear hSw; go_simp <;> with_reducible rfl
          (try simp only [List.getElem_toArray]); (try simp only [List.getElem_cons_succ]); (try simp only [List.getElem_cons_zero]); (try simp only [Act.put]); (try simp only [List.setIfInBounds_toArray]); (repeat first | simp only [List.set_cons_succ] | simp only [List.set_cons_zero])
          refine wpAnyH_one 12 (by kernel_rfl) rfl rfl ?_
          refine wp_storeK 3 _ _ rfl ⟨bc + 4, x, none⟩ rfl _ rfl (run_store_fi (by rw [yxd]; rfl) zxd _) ?_
          refine ⟨hS12, fun _ => ?_⟩
          (try simp only [List.getElem_toArray]); (try simp only [List.getElem_cons_succ]); (try simp only [List.getElem_cons_zero]); (try simp only [Act.put]); (try simp only [List.setIfInBounds_toArray]); (repeat first | simp only [List.set_cons_succ] | simp only [List.set_cons_zero])
          refine wpAnyH_done (by kernel_rfl) ?_ _
          rw [← hX9]
          clear hX9 hS12 hmn yxd ytd zxd b5d hHeld
          go_wp2_with fail
          go_roundw
          case rel => exact ⟨i + 1, R, _, _, _, _, by go_num, by omega, HEND.out.1, HWJ.out, HEND.out.2⟩
          case measure => simp [intOf]; omega
    · have j1 : decide ((i : Int) < (M : Int)) = false := decide_eq_false (by omega)
      have j2 : decide (i < M) = false := decide_eq_false hlt
      have hi2 : (ldN g x).length ≤ i := by rw [← HM.out]; omega
      have e5 := hPXA.c5
      have yx : wr.cell? ⟨bc + 4, x, none⟩ = some (.int .i64 (bk' x : Int)) := hPXA.f4.c x hxn
      have hbx := hWJ.bx
      by_cases hlow : bk' x ≤ T.length
      · have s1 : decide ((bk' x : Int) < (P : Int) + 1) = true := decide_eq_true (by have := HPT.out; omega)
        have s2 : decide (bk' x < P + 1) = true := decide_eq_true (by have := HPT.out; omega)
        have HPZ : Hid (PwP bc lo hi mb n g T bk x w (.returned (.tuple #[])) wr) := HP.out (x :: R) bk' tv' qs' av' wr (hWJ.stay hi2 hlow) hPXA (HK3.out.trans hKA)
        clear hPXA hWJ hbx hlow hi2
        generalize bk' x = bx at *
        go_wp2_with fail
        exact bodyPost_ret (v := .tuple #[]) (results_none rfl _ _ _) rfl HPZ.out
      · have s1 : decide ((bk' x : Int) < (P : Int) + 1) = false := decide_eq_false (by have := HPT.out; omega)
        have s2 : decide (bk' x < P + 1) = false := decide_eq_false (by have := HPT.out; omega)
        have hpl : bk' x = T.length + 1 := by omega
        obtain ⟨ta2, tc2, htv, -⟩ := own_slice hPXA.rt
        subst htv
        have hlen2 := hWJ.s.len
        have eln : (T ++ x :: R).length = T.length + (R.length + 1) := by rw [List.length_append, List.length_cons]
        have hrt := hPXA.rt
        rw [eln] at hrt hlen2
        obtain ⟨hcut, hcap, tb, htb⟩ := own_cutN hrt rfl (by omega)
        have hPMt := PM.of hPXA.rt
        rw [eln] at hPXA
        subst htb
        have hdr := pm_drop (b := tb) hPMt rfl
        obtain ⟨Q, hQ⟩ : ∃ Q, Q = R.length + 1 := ⟨_, rfl⟩
        rw [← hQ] at hPXA hcap hrt hlen2
        rw [← HPT.out] at hPXA hcap hrt hlen2 hdr hcut
        have HQ : Hid (Q = (x :: R).length) := by rw [hQ]; rfl
        have hQ0 : 0 < Q := by omega
        clear hQ
        have t3 := hPXA.c3.c 0 _ rfl
        have hcl := clone_n (fc := tc2 - P) hdr (by rw [← HQ.out]; omega)
        rw [← HQ.out] at hcl
        have HTELL : Hid (∀ (p : List Nat) (bq : Nat → Nat), p.Perm (x :: R) → p.Pairwise (· < ·) → (∀ u ∈ x :: R, bq u = n + 1) → (∀ u, u ∉ x :: R → bq u = bk' u) → WP g n T bk x [] bq (qs'.map Pq.l ++ [p])) := fun p bq h1 h2 h3 h4 => hWJ.tell HB.out hi2 hpl HTS.out.met h1 h2 h3 h4
        have HNUM : Hid (qs'.length ≤ n) := by have := hWJ.s.num; rwa [List.length_map] at this
        have HND : Hid ((x :: R).Nodup ∧ ∀ u ∈ x :: R, u < n) := ⟨(List.nodup_append.1 hWJ.s.td).2.1, fun u hu => hWJ.s.tn u (List.mem_append_right _ hu)⟩
        have HCUT : Hid (∀ w5, Keeps (fun _ => False) wr w5 → ∀ w6, CL w6 (bc + 3) [.slice (some ⟨tb, 0, none⟩) P tc2] → Keeps (fun i => i = bc + 3) w5 w6 → PX bc lo hi mb n g w6 T bk' (.slice (some ⟨tb, 0, none⟩) P tc2) qs' av') := fun w5 k5 w6 hc6 k6 => (hPXA.keep k5).trail ((Keeps.refl (fun i => (Value.slice (some ⟨tb, 0, none⟩) (P + Q) tc2).ownBlock = some i) w5)) (by rw [← HPT.out]; exact k5.owns hcut (fun _ _ e => e)) (.inl rfl) k6 hc6
        have HC3 : Hid (CL wr (bc + 3) [.slice (some ⟨tb, 0, none⟩) (P + Q) tc2]) := hPXA.c3
        have HAVB : Hid (∀ b, (av'.ownBlock = some b → b < wr.heap.size) ∧ (∀ q ∈ qs', q.val.ownBlock = some b → b < wr.heap.size) ∧ (∀ c, (Value.slice (some ⟨tb, 0, none⟩) c tc2).ownBlock = some b → b < wr.heap.size)) := fun b => ⟨owns_lt' hPXA.ra b, fun q hq => owns_lt' (hPXA.rq q hq) b, fun c e => owns_lt' hPXA.rt b e⟩
        have hwp : IntKind.i64.wrap ((P : Int) + 1 - 1) = (P : Int) := by rw [IntKind.wrap_i64]; omega
        have g1 : (0 : Int) ≤ (P : Int) := by omega
        have g2 : (P : Int) ≤ (P : Int) + (Q : Int) := by omega
        have g3 : (P : Int) ≤ (tc2 : Int) := by omega
        have g4 : P ≤ tc2 := by omega
        have g5 : P ≤ P + Q := by omega
        have HZ7 : Hid (bc + 7 ≤ wr.heap.size) := hPXA.z
        clear hPXA hWJ hbx hlow hi2 hdr hPMt hcut hrt eln hpl
        generalize bk' x = bx at *
        obtain ⟨wo, hwo⟩ : ∃ wo, wo = wr := ⟨_, rfl⟩
        subst hwo
        go_wp2_with (first | (go_at_call 30; refine hcl.mono ?_; clear hcl; rintro e w5 ⟨pv, rfl, hpr, k5⟩; obtain ⟨pb, pc, rfl, hpb1, hpb2⟩ := row_some hpr hQ0; have t5 := k5.cell t3 (fun e => e); have hC5 := HC3.out.stays k5 (fun e => e)) | (refine wpList_store_slc 23 st35 rfl rfl _ _ rfl (bc + 3) rfl (some ⟨tb, 0, none⟩) P tc2 rfl hC5 ?_; intro w6 hc6 k6 hz6; clear hz6 hC5 t5 t3; have hPX6 := HCUT.out w5 k5 w6 hc6 k6; clear HCUT hc6))
        have HK6 : Hid (Keeps (fun i => bc ≤ i) wo w6) := (k5.trans' k6 (fun _ _ e => e.elim) (fun i _ e => by have e : i = bc + 3 := e; show bc ≤ i; omega))
        have HPX6 : Hid (PX bc lo hi mb n g w6 T bk' (.slice (some ⟨tb, 0, none⟩) P tc2) qs' av') := hPX6
        have HPR6 : Hid (w6.ownsRow wo.heap.size 3 1 (.slice (some ⟨pb, 0, none⟩) Q pc) Q (pvs (x :: R))) := k6.owns hpr (fun b hb e => by have := owns_baseT hpr b hb; have e : b = bc + 3 := e; have := HZ7.out; omega)
        have HPB : Hid (wo.heap.size ≤ pb) := hpb1
        clear hPX6 hpr k5 k6 hpb1 hpb2
        go_loopw [70] (fun iv Wr => ∃ (i : Nat) (bq : Nat → Nat), iv = .int .i64 (i : Int) ∧ i ≤ Q ∧ PX bc lo hi mb n g Wr T bq (.slice (some ⟨tb, 0, none⟩) P tc2) qs' av' ∧ (∀ u ∈ (x :: R).take i, bq u = n + 1) ∧ (∀ u, u ∉ (x :: R).take i → bq u = bk' u) ∧ Wr.ownsRow wo.heap.size 3 1 (.slice (some ⟨pb, 0, none⟩) Q pc) Q (pvs (x :: R)) ∧ Keeps (fun i => bc ≤ i) wo Wr) (fun iv _ => Q - (intOf iv).toNat)
        case atStart => exact ⟨0, bk', rfl, Nat.zero_le _, HPX6.out, fun u hu => by simp at hu, fun u _ => rfl, HPR6.out, HK6.out⟩
        case round =>
          obtain ⟨k, bq, rfl, hkQ, hPX7, hb1, hb2, hrow, hK7⟩ := hrel
          clear HPX6 HPR6 HK6
          by_cases hlk : k < Q
          · have o1 : decide ((k : Int) < (Q : Int)) = true := decide_eq_true (by omega)
            have o2 : decide (k < Q) = true := decide_eq_true hlk
            have o3 : (k : Int) < (Q : Int) := by omega
            have o4 : (0 : Int) ≤ (k : Int) := by omega
            have hwk : IntKind.i64.wrap ((k : Int) + 1) = (k : Int) + 1 := by rw [IntKind.wrap_i64]; omega
            have hkL : k < (x :: R).length := by rw [← HQ.out]; exact hlk
            obtain ⟨pb', off', e', hcm⟩ := PM.of hrow k hkL
            injection e' with e'
            injection e' with e1' e2' _
            subst e1' e2'
            rw [Nat.zero_add] at hcm
            have hmn := HND.out.2 _ (getD_memN hkL)
            have HNX : Hid (∀ w7, PX bc lo hi mb n g w7 T (upD bq ((x :: R).getD k 0) (n + 1)) (.slice (some ⟨tb, 0, none⟩) P tc2) qs' av' → (∀ u ∈ (x :: R).take (k + 1), upD bq ((x :: R).getD k 0) (n + 1) u = n + 1) ∧ ∀ u, u ∉ (x :: R).take (k + 1) → upD bq ((x :: R).getD k 0) (n + 1) u = bk' u) := fun w7 _ => by
              rw [take_nextN hkL]
              constructor
              · intro u hu
                unfold upD
                split
                · rfl
                · next e =>
                  rcases List.mem_append.1 hu with hu | hu
                  · exact hb1 u hu
                  · simp at hu; exact absurd hu e
              · intro u hu
                rw [List.mem_append, not_or] at hu
                unfold upD
                rw [if_neg (fun e => hu.2 (by rw [e]; simp))]
                exact hb2 u hu.1
            have e5 := hPX7.c5
            have e1 := hPX7.c1
            have hF7 := hPX7.f4
            have HST : Hid (∀ w7, FB w7 (bc + 4) n (upV (nms bq) ((x :: R).getD k 0) (.int .i64 ((n : Int) + 1))) → Keeps (fun i => i = bc + 4) wr w7 → PX bc lo hi mb n g w7 T (upD bq ((x :: R).getD k 0) (n + 1)) (.slice (some ⟨tb, 0, none⟩) P tc2) qs' av' ∧ w7.ownsRow wo.heap.size 3 1 (.slice (some ⟨pb, 0, none⟩) Q pc) Q (pvs (x :: R)) ∧ Keeps (fun i => bc ≤ i) wo w7) := fun w7 hf k7 => ⟨hPX7.put (hf.congr (fun p _ => by have := nms_up (d := bq) (x := (x :: R).getD k 0) (k := n + 1) p; exact this)) k7, k7.owns hrow (fun b hb e => by have := owns_baseT hrow b hb; have e : b = bc + 4 := e; have := HZ7.out; omega), hK7.trans' k7 (fun _ _ e => e) (fun i _ e => by have e : i = bc + 4 := e; show bc ≤ i; omega)⟩
            clear hPX7 hb1 hb2 hrow hK7 hkL
            obtain ⟨m, hm⟩ : ∃ m, m = (x :: R).getD k 0 := ⟨_, rfl⟩
            rw [← hm] at hcm hmn HNX HST
            clear hm
            have m1 : (0 : Int) ≤ (m : Int) := by omega
            have m2 : (m : Int) < (n : Int) := by omega
            go_wp2_with (refine wpList_store_fi rfl rfl _ _ rfl (bc + 4) m rfl ((n : Int) + 1) rfl hF7 hmn ?_; intro w7 hf7 k7 hz7; clear hz7 hF7; obtain ⟨hPX8, hrow8, hK8⟩ := HST.out w7 hf7 k7; clear HST)
            have hNX := HNX.out w7 hPX8
            have HNX2 : Hid _ := hNX
            clear hNX HNX
            go_roundw
            case rel => exact ⟨k + 1, _, by go_num, by omega, hPX8, HNX2.out.1, HNX2.out.2, hrow8, hK8⟩
            case measure => simp [intOf]; omega
          · have o1 : decide ((k : Int) < (Q : Int)) = false := decide_eq_false (by omega)
            have o2 : decide (k < Q) = false := decide_eq_false hlk
            have etk : (x :: R).take k = x :: R := List.take_of_length_le (by rw [← HQ.out]; omega)
            rw [etk] at hb1 hb2
            have hso2 : Calls Try.prog 31 #[.slice (some ⟨pb, 0, none⟩) Q pc] wr fun e w' => e = .returned (.tuple #[]) ∧ ∃ L', L'.Perm (x :: R) ∧ L'.Pairwise (· ≤ ·) ∧ w'.ownsRow wo.heap.size 3 1 (.slice (some ⟨pb, 0, none⟩) Q pc) Q (pvs L') ∧ Keeps (fun i => i = pb) wr w' := by
              have h := HSO.out wr wo.heap.size pb pc (x :: R) (by rw [← HQ.out]; exact hrow) (by rw [← HQ.out]; exact hQ0) (by rw [← HQ.out]; omega)
              rw [← HQ.out] at h
              exact h
            have HNE : Hid (∀ b, b = pb → (av'.ownBlock ≠ some b) ∧ (∀ q ∈ qs', q.val.ownBlock ≠ some b) ∧ (∀ c, (Value.slice (some ⟨tb, 0, none⟩) c tc2).ownBlock ≠ some b)) := fun b e => by
              have h := HAVB.out b
              have hp := HPB.out
              exact ⟨fun q => by have := h.1 q; omega, fun r hr q => by have := h.2.1 r hr q; omega, fun c q => by have := h.2.2 c q; omega⟩
            have HSX : Hid (∀ w8 L', L'.Perm (x :: R) → L'.Pairwise (· ≤ ·) → w8.ownsRow wo.heap.size 3 1 (.slice (some ⟨pb, 0, none⟩) Q pc) Q (pvs L') → Keeps (fun i => i = pb) wr w8 → ∃ aa ac a9 c9 W9, w8.cell? ⟨bc + 2, 0, none⟩ = some (.slice aa qs'.length ac) ∧ CL W9 (bc + 2) [.slice aa qs'.length ac] ∧ (Builtin.append_ #[41, 41] 41 #[.slice aa qs'.length ac, .slice (some ⟨w8.heap.size, 0, none⟩) 1 1]).run Try.prog (w8.alloc (.cells #[.slice (some ⟨pb, 0, none⟩) Q pc] 23)) = .ok (.slice a9 (qs'.length + 1) c9) W9 ∧ ∀ w10, CL w10 (bc + 2) [.slice a9 (qs'.length + 1) c9] → Keeps (fun i => i = bc + 2) W9 w10 → PwP bc lo hi mb n g T bk x w (.returned (.tuple #[])) w10) := fun w8 L' hp hs hr8 k8 => by
              have hpb := HPB.out
              have hz7 := HZ7.out
              obtain ⟨q1, q2, q3⟩ := HNE.out pb rfl
              have hPX8 := hPX7.other k8 (by omega) (q3 P) q1 q2
              have hl' : L'.length = Q := by rw [hp.length_eq, ← HQ.out]
              obtain ⟨aa, ac, rfl, -⟩ := own_slice hPX8.ra
              obtain ⟨a9, c9, W9, r1, r2, r3⟩ := append_q hPX8.ra hPX8.z (by have := HNUM.out; omega) (some ⟨pb, 0, none⟩) Q pc
              refine ⟨aa, ac, a9, c9, W9, hPX8.c2.c 0 _ rfl, hPX8.c2.stays r3 (fun e => by have := owns_baseT hPX8.ra _ e; omega), r1, fun w10 h10 k10 => ?_⟩
              have hpt := hPX8.part (q := ⟨some ⟨pb, 0, none⟩, pc, L'⟩) (av' := .slice a9 (qs'.length + 1) c9) (by show w8.ownsRow (bc + 7) 3 1 (.slice (some ⟨pb, 0, none⟩) L'.length pc) L'.length (pvs L'); rw [hl']; exact owns_low hr8 (by omega)) (fun p hp' b hb e => by
                have e : (Value.slice (some ⟨pb, 0, none⟩) L'.length pc).ownBlock = some b := e
                injection e with e
                have e : pb = b := e
                exact q2 p hp' (by rw [e]; exact hb)) (fun b e hb => by
                have e : (Value.slice (some ⟨pb, 0, none⟩) L'.length pc).ownBlock = some b := e
                injection e with e
                have e : pb = b := e
                exact q3 P (by rw [e]; exact hb)) r3 (by show W9.ownsRow _ _ _ _ _ (_ ++ [.slice (some ⟨pb, 0, none⟩) L'.length pc]); rw [hl']; exact r2) k10 h10
              refine HP.out [] bq _ (qs' ++ [⟨some ⟨pb, 0, none⟩, pc, L'⟩]) _ w10 ?_ (by rw [List.append_nil]; exact hpt) ?_
              · rw [List.map_append]
                exact HTELL.out L' bq hp (pw_strict hp hs HND.out.1) hb1 hb2
              · exact (((HK3.out.trans hKA).trans hK7).trans' k8 (fun _ _ e => e) (fun i _ e => by have e : i = pb := e; show bc ≤ i; omega)).trans' (r3.trans' k10 (U := fun i => bc ≤ i) (fun i _ e => by have := owns_baseT hPX8.ra i e; show bc ≤ i; omega) (fun i _ e => by have e : i = bc + 2 := e; show bc ≤ i; omega)) (fun _ _ e => e) (fun _ _ e => e)
            clear hPX7 hb1 hb2 hrow hK7 etk
            go_wp2_with (first | (go_at_call 31; refine hso2.mono ?_; clear hso2; rintro e w8 ⟨rfl, L', hp8, hs8, hr8, k8⟩; obtain ⟨aa, ac, a9, c9, W9, e9, hC9, hr9, hend9⟩ := HSX.out w8 L' hp8 hs8 hr8 k8; have HE9 : Hid (∀ w10, CL w10 (bc + 2) [.slice a9 (qs'.length + 1) c9] → Keeps (fun i => i = bc + 2) W9 w10 → PwP bc lo hi mb n g T bk x w (.returned (.tuple #[])) w10) := hend9; clear hend9 HSX hp8 hs8 hr8 k8) | (at_builtin; refine wpList_append_tL rfl _ _ _ rfl _ _ _ W9 rfl rfl hr9 ?_; clear hr9) | (refine wpList_store_slc 41 st57 rfl rfl _ _ rfl (bc + 2) rfl a9 (qs'.length + 1) c9 rfl hC9 ?_; intro w10 hc10 k10 hz10; clear hz10 hC9))
            go_end0
            exact HE9.out w10 hc10 k10
end Go.Proofs.Ytfbbllokpikbiab
