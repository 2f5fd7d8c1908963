import Derived.Test.YtgcfckbmmdajhaaLiP
namespace Go.Proofs.Ytgcfckbmmdajhaa
open Go.RowKit
/-! The set behind the first calls of an order: without memory. -/
def setK (l : List Cl) (L : List Nat) : Nat → List Int
  | 0 => []
  | k + 1 => (doesL (setK l L k) (l.getD (L.getD k 0) cl0)).2.2
/-- Goes the k-th call of an order on? -/
def goK (l : List Cl) (L : List Nat) (k : Nat) : Bool := goesP (l.getD (L.getD k 0) cl0) (doesL (setK l L k) (l.getD (L.getD k 0) cl0)).1 (doesL (setK l L k) (l.getD (L.getD k 0) cl0)).2.1
theorem wout_len (S : List Int) (k : Int) : (woutL S k).length ≤ S.length := List.length_filter_le _ _
theorem with_len : ∀ (S : List Int) (k : Int), (withL S k).length ≤ S.length + 1
  | [], k => by simp [withL]
  | x :: S, k => by
    have := with_len S k
    unfold withL
    split
    · simp only [List.length_cons]
      omega
    · split <;> simp only [List.length_cons] <;> omega
theorem does_len (S : List Int) (c : Cl) : (doesL S c).2.2.length ≤ S.length + 1 := by
  unfold doesL
  split
  · exact with_len _ _
  split
  · have := wout_len S c.key
    show (woutL S c.key).length ≤ _
    omega
  split
  · exact Nat.le_succ _
  split
  · cases S with
    | nil => simp
    | cons x T =>
      have := wout_len (x :: T) x
      show (woutL (x :: T) x).length ≤ _
      omega
  split
  · exact Nat.le_succ _
  split
  · exact Nat.le_succ _
  · have h1 := with_len (woutL S c.key) c.other
    have h2 := wout_len S c.key
    show (withL (woutL S c.key) c.other).length ≤ _
    omega
theorem setK_len (l : List Cl) (L : List Nat) : ∀ k, (setK l L k).length ≤ k
  | 0 => Nat.le_refl _
  | k + 1 => Nat.le_trans (does_len _ _) (Nat.succ_le_succ (setK_len l L k))
/-- The numbers of a call lie in int64. -/
structure C64 (c : Cl) : Prop where
  k : I64 c.key
  o : I64 c.other
theorem c64_at {l : List Cl} (h : ∀ c ∈ l, C64 c) (i : Nat) : C64 (l.getD i cl0) := by
  rw [List.getD_eq_getElem?_getD]
  cases e : l[i]? with
  | none => exact ⟨⟨by decide, by decide⟩, ⟨by decide, by decide⟩⟩
  | some c => exact h c (List.mem_of_getElem? e)
theorem fs_nil : FS [] 0 (fun _ => false) := ⟨List.Pairwise.nil, (fun _ h => by cases h), rfl, fun _ _ => rfl⟩
/-- What ByPoints finds. -/
def BpP (l : List Cl) (L : List Nat) (r : Int) : Prop := (∃ k, k < L.length ∧ (∀ j, j < k → goK l L j = true) ∧ goK l L k = false ∧ r = (L.getD k 0 : Nat)) ∨ ((∀ j, j < L.length → goK l L j = true) ∧ r = -1)
theorem BpP.one {l : List Cl} {L : List Nat} {r s : Int} (h : BpP l L r) (g : BpP l L s) : r = s := by
  rcases h with ⟨k, hk, h1, h2, rfl⟩ | ⟨h1, rfl⟩ <;> rcases g with ⟨j, hj, g1, g2, rfl⟩ | ⟨g1, rfl⟩
  · rcases Nat.lt_trichotomy k j with h | h | h
    · rw [g1 k h] at h2
      cases h2
    · rw [h]
    · rw [h1 j h] at g2
      cases g2
  · rw [g1 k hk] at h2
    cases h2
  · rw [h1 j hj] at g2
    cases g2
  · rfl
def BpA (l : List Cl) (r ec : Int) : Prop := (ec = 0 ∧ MayL l ∧ BpP l (byP l l.length) r) ∨ (ec = 171 ∧ ¬ MayL l ∧ r = 0)
def keyL (l : List Cl) : List Int := setK l (byP l l.length) (byP l l.length).length
def KeA (l : List Cl) (w w' : World) (v : Value) (ec : Int) : Prop := (ec = 0 ∧ MayL l ∧ w'.ownsRow w.heap.size 2 1 v (keyL l).length (kvs (keyL l))) ∨ (ec = 171 ∧ ¬ MayL l ∧ v = .slice none 0 0)
theorem byP_len (l : List Cl) : ∀ k, (byP l k).length ≤ k
  | 0 => Nat.le_refl _
  | k + 1 => by
    have ih := byP_len l k
    have hi : ∀ (f : Nat → Int) (L : List Nat) (i : Nat), (insP f L i).length = L.length + 1 := by
      intro f L i
      induction L with
      | nil => rfl
      | cons a L ih =>
        unfold insP
        split
        · rfl
        · simp [ih]
    unfold byP
    split
    · omega
    · rw [hi]
      omega
set_option maxHeartbeats 600000 in
set_option maxRecDepth 100000 in
theorem byPoints_any {w : World} {a : Option Addr} {cap : Nat} {l : List Cl} (hl : CSL w a l) (hc64 : ∀ c ∈ l, C64 c) (hn : l.length ≤ 2199023255552) : Calls Try.prog 6 #[.slice a l.length cap] w fun e w' => ∃ r ec, e = .returned (.tuple #[.int .i64 r, .int .i64 ec]) ∧ BpA l r ec ∧ Keeps (fun _ => False) w w' := by
  have hor := ordered_any (cap := cap) soP hl hn
  have HL : Hid (CSL w a l) := hl
  have HC : Hid (∀ c ∈ l, C64 c) := hc64
  clear hl hc64
  generalize hN : l.length = N at *
  have HN : Hid (l.length = N) := hN
  clear hN
  go_enter Try.func6, Try.ntmps6
  refine wp_seq_k (fun KK hKK => ?_)
  have hKH : Hid _ := hKK
  clear hKK
  go_wp2_with fail
  refine hKH.out _ _ ?_
  clear hKH KK
  refine wp_seq_k (fun KK hKK => ?_)
  have hKH : Hid _ := hKK
  clear hKK
  go_wp2_with (go_at_call 15; refine hor.mono ?_; clear hor; rintro e w1 ⟨v, ec, rfl, hP, k1⟩; have HP : Hid (OrdP l w w1 v ec) := hP; clear hP)
  refine hKH.out _ _ ?_
  clear hKH KK
  rcases HP.out with ⟨he, hM, hO⟩ | ⟨he, hM, hv⟩
  · have s1 : (ec != 0) = false := by simp [he]
    have HE : Hid (ec = 0) := he
    have HM : Hid (MayL l) := hM
    have HB : Hid ((byP l l.length).length ≤ N) := by show _ ≤ _; rw [HN.out]; exact byP_len l N
    have HMB : Hid (∀ i ∈ byP l l.length, i < N) := fun i hi => by rw [← HN.out]; exact ((mem_byP l _ i).1 hi).1
    have HR : Hid (∀ W' r, BpP l (byP l l.length) r → Keeps (fun _ => False) w W' → ∃ r' ec, Ending.returned (.tuple #[.int .i64 r, .int .i64 0]) = Ending.returned (.tuple #[.int .i64 r', .int .i64 ec]) ∧ BpA l r' ec ∧ Keeps (fun _ => False) w W') := fun W' r h k => ⟨r, 0, rfl, .inl ⟨rfl, hM, h⟩, k⟩
    clear he hM HP
    generalize byP l l.length = L at *
    obtain ⟨al, cl, rfl, hcell, -, -⟩ := own_slice hO
    have HO : Hid (w1.ownsRow w.heap.size 3 1 (.slice al L.length cl) L.length (pvs L)) := hO
    have HCE : Hid (∀ j, j < L.length → ∃ g, al = some ⟨g, 0, none⟩ ∧ w1.cell? ⟨g, j, none⟩ = some (.int .i64 ((L.getD j 0 : Nat) : Int))) := fun j hj => hcell j _ (pvs_get hj)
    clear hO hcell
    have hBN := HB.out
    generalize hM : L.length = M at *
    have HML : Hid (L.length = M) := hM
    clear hM
    have hz1 := k1.size
    obtain ⟨W2, hW2⟩ : ∃ W2, W2 = w1.alloc (.map #[] 0) := ⟨_, rfl⟩
    have k2 : Keeps (fun _ => False) w1 W2 := by rw [hW2]; exact (Keeps.refl _ w1).alloc _
    have hS2 : SV W2 w1.heap.size 0 (fun _ => false) := by rw [hW2]; exact SV.made w1
    have z2 : W2.heap.size = w1.heap.size + 1 := by rw [hW2]; simp
    have hmm : (Instr.makeMap 53 none).run Try.prog w1 = .ok (.map (some w1.heap.size)) W2 := by rw [hW2]; exact run_makeMap _ _
    clear hW2
    refine wp_seq_k (fun KK hKK => ?_)
    have hKH : Hid _ := hKK
    clear hKK
    go_wp2_with fail
    refine hKH.out _ _ ?_
    clear hKH KK
    refine wp_seq_k (fun KK hKK => ?_)
    have hKH : Hid _ := hKK
    clear hKK
    go_wp2_with fail
    refine hKH.out _ _ ?_
    clear hKH KK
    clear hmm
    go_wp2_with fail
    go_loopw [20] (fun iv Wr => ∃ (k : Nat), iv = .int .i64 (k : Int) ∧ k ≤ M ∧ (∀ j, j < k → goK l L j = true) ∧ (∃ n f, SV Wr w1.heap.size n f ∧ FS (setK l L k) n f) ∧ Keeps (fun i => i = w1.heap.size) W2 Wr) (fun iv _ => M - (intOf iv).toNat)
    case atStart => exact ⟨0, rfl, Nat.zero_le _, fun j hj => absurd hj (by omega), ⟨0, _, hS2, fs_nil⟩, Keeps.refl _ _⟩
    case round =>
      obtain ⟨k, rfl, hk, hal, ⟨n, f, hS, hF⟩, kr⟩ := hrel
      have HAL : Hid (∀ j, j < k → goK l L j = true) := hal
      clear hal
      have HF : Hid (FS (setK l L k) n f) := hF
      have hn2 : n ≤ M := by rw [hF.n]; exact Nat.le_trans (setK_len l L k) hk
      clear hF
      have K2r : Keeps (fun i => i = w1.heap.size) w1 wr := k2.trans' kr (fun _ _ e => e.elim) (fun _ _ e => e)
      by_cases hlt : k < M
      · have j1 : decide ((k : Int) < (M : Int)) = true := decide_eq_true (by omega)
        have j2 : decide (k < M) = true := decide_eq_true hlt
        have j3 : (k : Int) < (M : Int) := by omega
        have j4 : (0 : Int) ≤ (k : Int) := by omega
        have hwi : IntKind.i64.wrap ((k : Int) + 1) = (k : Int) + 1 := by rw [IntKind.wrap_i64]; omega
        obtain ⟨g, rfl, hg⟩ := HCE.out k hlt
        have hg1 := World.block_lt_of_cell? _ _ hg
        have c0 := K2r.cell hg (fun e => by have e : g = w1.heap.size := e; have hg1 : g < w1.heap.size := hg1; omega)
        have hpN : L.getD k 0 < N := HMB.out _ (by rw [List.getD_eq_getElem?_getD, List.getElem?_eq_getElem (by rw [HML.out]; exact hlt)]; exact List.getElem_mem _)
        obtain ⟨b, off, rfl, hc⟩ := HL.out (L.getD k 0) (by rw [HN.out]; exact hpN)
        have hR := run_cl (W := wr) (fun j v e => K2r.cell (k1.cell (hc j v e) (fun e => e)) (fun e' => by have e' : b = w1.heap.size := e'; have := World.block_lt_of_cell? _ _ (hc j v e); have : b < w.heap.size := this; omega))
        have hp1 : ((L.getD k 0 : Nat) : Int) < (N : Int) := by omega
        have hgo := goesOn_any hS (l.getD (L.getD k 0) cl0) (c64_at HC.out _).k (c64_at HC.out _).o (by omega)
        have HD : Hid (∀ y r n' f', Did (l.getD (L.getD k 0) cl0) n f y r n' f' → goesP (l.getD (L.getD k 0) cl0) y r = goK l L k ∧ FS (setK l L (k + 1)) n' f') := fun y r n' f' hd => by
          obtain ⟨q1, q2, q3⟩ := did_does HF.out (c64_at HC.out _).k (c64_at HC.out _).o hd
          exact ⟨by rw [q1, q2]; rfl, q3⟩
        have HALN : Hid (goK l L k = true → ∀ j, j < k + 1 → goK l L j = true) := fun h j hj => by
          by_cases e : j = k
          · rw [e]; exact h
          · exact HAL.out j (by omega)
        clear hc hg hg1 hS
        generalize hp : L.getD k 0 = p at *
        have HPP : Hid (L.getD k 0 = p) := hp
        clear hp
        generalize l.getD p cl0 = c at *
        have HGF : Hid (goK l L k = false → BpP l L (p : Int)) := fun h => .inl ⟨k, by rw [HML.out]; exact hlt, HAL.out, h, by rw [HPP.out]⟩
        obtain ⟨G, hG⟩ : ∃ G, G = goK l L k := ⟨_, rfl⟩
        rw [← hG] at HALN HGF HD
        clear hG
        cases G with
        | true =>
          go_wp2_with (first | (refine wpList_load_runL rfl 33 _ rfl ⟨b, off + p * 8, none⟩ rfl _ hR ?_; clear hR) | (go_at_call 16; refine hgo.mono ?_; clear hgo; rintro e w5 ⟨y, r, n', f', rfl, hd, hS5, k5⟩; obtain ⟨d1, d2⟩ := HD.out y r n' f' hd; rw [d1]; have HF5 : Hid (FS (setK l L (k + 1)) n' f') := d2; clear d1 d2 hd HD))
          go_roundw
          case rel => exact ⟨k + 1, by go_num, by omega, HALN.out trivial, ⟨n', f', hS5, HF5.out⟩, kr.trans' k5 (fun _ _ e => e) (fun _ _ e => e)⟩
          case measure => simp [intOf]; omega
        | false =>
          have HB : Hid (BpP l L (p : Int)) := HGF.out rfl
          go_wp2_with (first | (refine wpList_load_runL rfl 33 _ rfl ⟨b, off + p * 8, none⟩ rfl _ hR ?_; clear hR) | (go_at_call 16; refine hgo.mono ?_; clear hgo; rintro e w5 ⟨y, r, n', f', rfl, hd, hS5, k5⟩; obtain ⟨d1, d2⟩ := HD.out y r n' f' hd; rw [d1]; clear d1 d2 hd HD))
          go_ret2
          exact HR.out _ _ HB.out ((k1.trans' K2r (U := fun _ => False) (fun _ _ e => e) (fun i hi e => by have e : i = w1.heap.size := e; omega)).trans' k5 (fun _ _ e => e) (fun i hi e => by have e : i = w1.heap.size := e; omega))
      · have j1 : decide ((k : Int) < (M : Int)) = false := decide_eq_false (by omega)
        have j2 : decide (k < M) = false := decide_eq_false hlt
        have HB : Hid (BpP l L (-1)) := .inr ⟨fun j hj => HAL.out j (by rw [HML.out] at hj; omega), rfl⟩
        go_wp2_with fail
        go_ret2
        exact HR.out _ _ HB.out (k1.trans' K2r (fun _ _ e => e) (fun i hi e => by have e : i = w1.heap.size := e; omega))
  · have s1 : (ec != 0) = true := by simp [he]
    have HE : Hid (ec = 171) := he
    have HM : Hid (¬ MayL l) := hM
    clear he hM HP hv
    go_wp2_with fail
    go_ret2
    exact ⟨_, _, rfl, .inr ⟨HE.out, HM.out, rfl⟩, k1⟩
set_option maxHeartbeats 600000 in
set_option maxRecDepth 100000 in
theorem keys_any {w : World} {a : Option Addr} {cap : Nat} {l : List Cl} (hl : CSL w a l) (hc64 : ∀ c ∈ l, C64 c) (hn : l.length ≤ 2199023255552) : Calls Try.prog 7 #[.slice a l.length cap] w fun e w' => ∃ v ec, e = .returned (.tuple #[v, .int .i64 ec]) ∧ KeA l w w' v ec ∧ Keeps (fun _ => False) w w' := by
  have hor := ordered_any (cap := cap) soP hl hn
  have HL : Hid (CSL w a l) := hl
  have HC : Hid (∀ c ∈ l, C64 c) := hc64
  clear hl hc64
  generalize hN : l.length = N at *
  have HN : Hid (l.length = N) := hN
  clear hN
  go_enter Try.func7, Try.ntmps7
  refine wp_seq_k (fun KK hKK => ?_)
  have hKH : Hid _ := hKK
  clear hKK
  go_wp2_with fail
  refine hKH.out _ _ ?_
  clear hKH KK
  refine wp_seq_k (fun KK hKK => ?_)
  have hKH : Hid _ := hKK
  clear hKK
  go_wp2_with (go_at_call 15; refine hor.mono ?_; clear hor; rintro e w1 ⟨v, ec, rfl, hP, k1⟩; have HP : Hid (OrdP l w w1 v ec) := hP; clear hP)
  refine hKH.out _ _ ?_
  clear hKH KK
  rcases HP.out with ⟨he, hM, hO⟩ | ⟨he, hM, hv⟩
  · have s1 : (ec != 0) = false := by simp [he]
    have HE : Hid (ec = 0) := he
    have HM : Hid (MayL l) := hM
    have HB : Hid ((byP l l.length).length ≤ N) := by show _ ≤ _; rw [HN.out]; exact byP_len l N
    have HMB : Hid (∀ i ∈ byP l l.length, i < N) := fun i hi => by rw [← HN.out]; exact ((mem_byP l _ i).1 hi).1
    have HR : Hid (∀ W' v, W'.ownsRow w.heap.size 2 1 v (setK l (byP l l.length) (byP l l.length).length).length (kvs (setK l (byP l l.length) (byP l l.length).length)) → Keeps (fun _ => False) w W' → ∃ v' ec, Ending.returned (.tuple #[v, .int .i64 0]) = Ending.returned (.tuple #[v', .int .i64 ec]) ∧ KeA l w W' v' ec ∧ Keeps (fun _ => False) w W') := fun W' v h k => ⟨v, 0, rfl, .inl ⟨rfl, hM, h⟩, k⟩
    clear he hM HP
    generalize byP l l.length = L at *
    obtain ⟨al, cl, rfl, hcell, -, -⟩ := own_slice hO
    have HO : Hid (w1.ownsRow w.heap.size 3 1 (.slice al L.length cl) L.length (pvs L)) := hO
    have HCE : Hid (∀ j, j < L.length → ∃ g, al = some ⟨g, 0, none⟩ ∧ w1.cell? ⟨g, j, none⟩ = some (.int .i64 ((L.getD j 0 : Nat) : Int))) := fun j hj => hcell j _ (pvs_get hj)
    clear hO hcell
    have hBN := HB.out
    generalize hM : L.length = M at *
    have HML : Hid (L.length = M) := hM
    clear hM
    have hz1 := k1.size
    obtain ⟨W2, hW2⟩ : ∃ W2, W2 = w1.alloc (.map #[] 0) := ⟨_, rfl⟩
    have k2 : Keeps (fun _ => False) w1 W2 := by rw [hW2]; exact (Keeps.refl _ w1).alloc _
    have hS2 : SV W2 w1.heap.size 0 (fun _ => false) := by rw [hW2]; exact SV.made w1
    have z2 : W2.heap.size = w1.heap.size + 1 := by rw [hW2]; simp
    have hmm : (Instr.makeMap 53 none).run Try.prog w1 = .ok (.map (some w1.heap.size)) W2 := by rw [hW2]; exact run_makeMap _ _
    clear hW2
    refine wp_seq_k (fun KK hKK => ?_)
    have hKH : Hid _ := hKK
    clear hKK
    go_wp2_with fail
    refine hKH.out _ _ ?_
    clear hKH KK
    refine wp_seq_k (fun KK hKK => ?_)
    have hKH : Hid _ := hKK
    clear hKK
    go_wp2_with fail
    refine hKH.out _ _ ?_
    clear hKH KK
    clear hmm
    go_wp2_with fail
    go_loopw [20] (fun iv Wr => ∃ (k : Nat), iv = .int .i64 (k : Int) ∧ k ≤ M ∧ (∃ n f, SV Wr w1.heap.size n f ∧ FS (setK l L k) n f) ∧ Keeps (fun i => i = w1.heap.size) W2 Wr) (fun iv _ => M - (intOf iv).toNat)
    case atStart => exact ⟨0, rfl, Nat.zero_le _, ⟨0, _, hS2, fs_nil⟩, Keeps.refl _ _⟩
    case round =>
      obtain ⟨k, rfl, hk, ⟨n, f, hS, hF⟩, kr⟩ := hrel
      have HF : Hid (FS (setK l L k) n f) := hF
      have hn2 : n ≤ M := by rw [hF.n]; exact Nat.le_trans (setK_len l L k) hk
      clear hF
      have K2r : Keeps (fun i => i = w1.heap.size) w1 wr := k2.trans' kr (fun _ _ e => e.elim) (fun _ _ e => e)
      by_cases hlt : k < M
      · have j1 : decide ((k : Int) < (M : Int)) = true := decide_eq_true (by omega)
        have j2 : decide (k < M) = true := decide_eq_true hlt
        have j3 : (k : Int) < (M : Int) := by omega
        have j4 : (0 : Int) ≤ (k : Int) := by omega
        have hwi : IntKind.i64.wrap ((k : Int) + 1) = (k : Int) + 1 := by rw [IntKind.wrap_i64]; omega
        obtain ⟨g, rfl, hg⟩ := HCE.out k hlt
        have hg1 := World.block_lt_of_cell? _ _ hg
        have c0 := K2r.cell hg (fun e => by have e : g = w1.heap.size := e; have hg1 : g < w1.heap.size := hg1; omega)
        have hpN : L.getD k 0 < N := HMB.out _ (by rw [List.getD_eq_getElem?_getD, List.getElem?_eq_getElem (by rw [HML.out]; exact hlt)]; exact List.getElem_mem _)
        obtain ⟨b, off, rfl, hc⟩ := HL.out (L.getD k 0) (by rw [HN.out]; exact hpN)
        have hR := run_cl (W := wr) (fun j v e => K2r.cell (k1.cell (hc j v e) (fun e => e)) (fun e' => by have e' : b = w1.heap.size := e'; have := World.block_lt_of_cell? _ _ (hc j v e); have : b < w.heap.size := this; omega))
        have hp1 : ((L.getD k 0 : Nat) : Int) < (N : Int) := by omega
        have hgo := goesOn_any hS (l.getD (L.getD k 0) cl0) (c64_at HC.out _).k (c64_at HC.out _).o (by omega)
        have HD : Hid (∀ y r n' f', Did (l.getD (L.getD k 0) cl0) n f y r n' f' → goesP (l.getD (L.getD k 0) cl0) y r = goK l L k ∧ FS (setK l L (k + 1)) n' f') := fun y r n' f' hd => by
          obtain ⟨q1, q2, q3⟩ := did_does HF.out (c64_at HC.out _).k (c64_at HC.out _).o hd
          exact ⟨by rw [q1, q2]; rfl, q3⟩
        clear hc hg hg1 hS
        generalize hp : L.getD k 0 = p at *
        have HPP : Hid (L.getD k 0 = p) := hp
        clear hp
        generalize l.getD p cl0 = c at *
        go_wp2_with (first | (refine wpList_load_runL rfl 33 _ rfl ⟨b, off + p * 8, none⟩ rfl _ hR ?_; clear hR) | (go_at_call 16; refine hgo.mono ?_; clear hgo; rintro e w5 ⟨y, r, n', f', rfl, hd, hS5, k5⟩; obtain ⟨d1, d2⟩ := HD.out y r n' f' hd; rw [d1]; have HF5 : Hid (FS (setK l L (k + 1)) n' f') := d2; clear d1 d2 hd HD))
        go_roundw
        case rel => exact ⟨k + 1, by go_num, by omega, ⟨n', f', hS5, HF5.out⟩, kr.trans' k5 (fun _ _ e => e) (fun _ _ e => e)⟩
        case measure => simp [intOf]; omega
      · have j1 : decide ((k : Int) < (M : Int)) = false := decide_eq_false (by omega)
        have j2 : decide (k < M) = false := decide_eq_false hlt
        obtain rfl : k = M := by omega
        have hnu := numbers_any hS HF.out (by omega)
        go_wp2_with (go_at_call 17; refine hnu.mono ?_; clear hnu; rintro e w5 ⟨v, rfl, hv, k5⟩)
        go_ret2
        have hz := K2r.size
        exact HR.out _ _ (owns_low hv (by omega)) ((k1.trans' K2r (U := fun _ => False) (fun _ _ e => e) (fun i hi e => by have e : i = w1.heap.size := e; omega)).trans k5)
  · have s1 : (ec != 0) = true := by simp [he]
    have HE : Hid (ec = 171) := he
    have HM : Hid (¬ MayL l) := hM
    clear he hM HP hv
    go_wp2_with fail
    go_ret2
    exact ⟨_, _, rfl, .inr ⟨HE.out, HM.out, rfl⟩, k1⟩
end Go.Proofs.Ytgcfckbmmdajhaa
