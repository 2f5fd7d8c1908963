import Derived.Test.YtdmfkepnopppaaaGreatDoorPhG
import Derived.ScopeJumps
namespace Go.Proofs.YtdmfkepnopppaaaGreatDoor
open Go.RowKit Go.Deep Go.ChangeShapes Go.WideShapes Go.ChangeAt
attribute [local go_sem] Oper.semAt_some run_store_nf run_store_f
/-- The lines of a text. -/
def lns (s : ByteArray) : List ByteArray := Lib.splitB ⟨#[10]⟩ 0 (Lib.countB s ⟨#[10]⟩) s
/-- A text of lines with an instruction each, or none. -/
def rd : List ByteArray → Nat → List Ins → Option (List Ins)
  | [], _, acc => some acc
  | l :: ls, i, acc => match wds l ((i : Int) + 1) with
    | [] => rd ls (i + 1) acc
    | p :: r => if Lib.hasSuffix p.t.data.toList [58] = true then none else if acc.length < 64 then (inst (p :: r)).bind (fun q => rd ls (i + 1) (acc ++ [q])) else none
/-- Lines in memory. -/
structure LNs (w : World) (X : Nat) (l : List ByteArray) : Prop where
  c : ∀ j s, l[j]? = some s → w.cell? ⟨X, j, none⟩ = some (.string s)
  t : ∃ cur x, w.heap[X]? = some (.cells cur 9 x)
theorem LNs.keep {w w' : World} {X : Nat} {l : List ByteArray} {S : Nat → Prop} (h : LNs w X l) (k : Keeps S w w') (hS : ¬ S X) : LNs w' X l := by
  obtain ⟨cur, x, ht⟩ := h.t
  refine ⟨fun j s e => k.cell (h.c j s e) hS, cur, x, ?_⟩
  rw [k.block X ?_ hS]; exact ht
  rcases Nat.lt_or_ge X w.heap.size with hl | hg
  · exact hl
  · rw [Array.getElem?_eq_none hg] at ht; cases ht
theorem LNs.made (w : World) (l : List ByteArray) : LNs (w.alloc (.cells (l.map Value.string).toArray 9)) w.heap.size l := by
  exact ⟨fun j s e => (CL.made w (l.map Value.string) 9).c j _ (by rw [List.getElem?_map, e]; rfl), (l.map Value.string).toArray, (0, 0), heap_alloc_new _ _⟩
theorem pcl_of_owns2 {W : World} {base n : Nat} {v : Value} {l : List Pc} (h : W.ownsRow base 76 3 v n (pcl l)) (hn : l.length = n) : ∃ a cap, v = .slice a n cap ∧ PCL W a l ∧ n ≤ cap ∧ cap ≤ 9223372036854775807 := by
  have h2 := h
  rcases h2.2 with ⟨rfl, h0⟩ | ⟨g, cap, cur, rfl, _, _, h3, h4, _⟩
  · obtain ⟨a, cap, e, hp⟩ := pcl_of_owns h hn
    injection e with e1 e2 e3
    subst e1 e3
    exact ⟨none, 0, by rw [e2], hp, by omega, by omega⟩
  · obtain ⟨a, cap', e, hp⟩ := pcl_of_owns h hn
    injection e with e1 e2 e3
    subst e1 e3
    exact ⟨_, cap, rfl, hp, h3, by unfold maxLen at h4; omega⟩
set_option maxHeartbeats 1000000 in
set_option maxRecDepth 1000000 in
theorem read_ok {w0 w : World} {R : Nat} {mv jv : Value} {l : List Ins} (s : ByteArray) (hs : s.size ≤ 4096) (hT : PT w0) (hNT : NT w0) (k0 : Keeps (fun _ => False) w0 w) (hI : RI w w0.heap.size R mv jv []) (hm : rd (lns s) 0 [] = some l) (hsz : ∀ x ∈ lns s, x.size ≤ 4096) : Calls Tryz.prog 14 #[.pointer (some ⟨R, 0, none⟩), .string s] w fun e w' => e = .returned (.tuple #[]) ∧ RI w' w0.heap.size R mv jv l ∧ Keeps (fun _ => False) w0 w' := by
  obtain ⟨mx, hmx⟩ := (hT.keep k0).mx
  have hlen : (lns s).length = Lib.countB s ⟨#[10]⟩ + 1 := Lib.splitB_all ⟨#[10]⟩ (by decide) 0 _ s rfl
  have hSp : Calls Tryz.prog 23 #[.string s, .string ⟨#[10]⟩] w fun e w' => e = .returned (.slice (some ⟨w.heap.size, 0, none⟩) (lns s).length (lns s).length) ∧ w' = w.alloc (.cells ((lns s).map Value.string).toArray 9) := by
    rw [hlen]
    exact Tryz.strings_Split s ⟨#[10]⟩ mx w (by omega) hmx (by decide)
  have hcl := Lib.countB_le ⟨#[10]⟩ (by decide) s.size s (Nat.le_refl _)
  have hl5 : (lns s).length ≤ 5000 := by omega
  clear hlen hcl
  generalize lns s = L at *
  have hLM := LNs.made w L
  have k1 : Keeps (fun _ => False) w0 (w.alloc (.cells (L.map Value.string).toArray 9)) := k0.alloc _
  have hI1 := hI.keep ((Keeps.refl _ w).alloc (.cells (L.map Value.string).toArray 9))
  obtain ⟨⟨cv, hCR, _⟩, _⟩ := hI
  have hRX : w.heap.size ≠ R := fun e => by have := hCR.lt (by show 0 < 3; decide); omega
  clear hCR
  generalize hX : w.heap.size = X at *
  clear hX
  go_enter Tryz.func14, Tryz.ntmps14
  go_wp2_with fail
  go_step3
  go_wp2_with fail
  go_step3
  go_wp2_with (go_at_call 23; refine hSp.mono ?_; clear hSp; rintro e w1 ⟨rfl, e1⟩; subst w1)
  generalize w.alloc (.cells (L.map Value.string).toArray 9) = wa at *
  go_loopg [14] L.length (fun g iv Wr => ∃ (k : Nat) (acc : List Ins), k + g = L.length ∧ iv = .int .i64 (k : Int) ∧ Hid (rd (L.drop k) k acc = some l) ∧ RI Wr w0.heap.size R mv jv acc ∧ LNs Wr X L ∧ Keeps (fun _ => False) w0 Wr)
  case atStart => exact ⟨0, [], by omega, rfl, hm, hI1, hLM, k1⟩
  case round =>
    obtain ⟨k, acc, hkg, rfl, HM, hR, hLn, kr⟩ := hrel
    clear hI1 hLM k1
    cases gk with
    | zero =>
      have hltI : decide ((k : Int) < (L.length : Int)) = false := by simp; omega
      have hl : ¬ (k : Int) < (L.length : Int) := by omega
      have hacc : acc = l := by
        have := HM.out
        rw [List.drop_eq_nil_of_le (by omega)] at this
        exact Option.some.inj this
      subst hacc
      go_wp2_with fail
      go_end0
      exact ⟨rfl, hR, kr⟩
    | succ g =>
      have hlt : k < L.length := by omega
      have hltI : decide ((k : Int) < (L.length : Int)) = true := by simp; omega
      have hltJ : (k : Int) < (L.length : Int) := by omega
      have hk0 : (0 : Int) ≤ (k : Int) := by omega
      obtain ⟨z, hz⟩ : ∃ z, L[k]? = some z := ⟨_, List.getElem?_eq_getElem hlt⟩
      have hzc := hLn.c k z hz
      have hzs := hsz z (List.mem_of_getElem? hz)
      have hdr : L.drop k = z :: L.drop (k + 1) := by
        obtain ⟨hk, e⟩ := List.getElem?_eq_some_iff.1 hz
        rw [List.drop_eq_getElem_cons hk, e]
      have hC := cut_any (w := wr) z ((k : Int) + 1) hzs (hT.keep kr)
      rw [hdr] at HM
      have HM2 : Hid ((match wds z ((k : Int) + 1) with | [] => rd (L.drop (k + 1)) (k + 1) acc | p :: r => if Lib.hasSuffix p.t.data.toList [58] = true then none else if acc.length < 64 then (inst (p :: r)).bind (fun q => rd (L.drop (k + 1)) (k + 1 + 0) (acc ++ [q])) else none) = some l) := HM
      clear HM hdr
      have hps := wdf_sz (bare z) ((k : Int) + 1) ((bare z).size + 1) 0
      have hps' : ∀ p ∈ wds z ((k : Int) + 1), p.t.size ≤ 4096 := fun p hp => by have := hps p hp; have := bare_size z; omega
      clear hps
      have hwl : (wds z ((k : Int) + 1)).length ≤ 5000 := by have := wdf_len (bare z) ((k : Int) + 1) ((bare z).size + 1) 0; have := bare_size z; unfold wds; omega
      generalize wds z ((k : Int) + 1) = ws at *
      go_wp2_with (go_at_call 24; refine hC.mono ?_; clear hC; rintro e w3 ⟨v, rfl, hown, k3⟩; obtain ⟨wa', wc, rfl, hpc, hwc⟩ := pcl_of_owns2 hown rfl)
      have hR3 := hR.keep k3
      have hLn3 := hLn.keep k3 (fun e => e)
      have K3 := kr.trans k3
      clear hR hLn hown hzc
      go_loopw [25] (fun iv Wr => iv = .int .i64 0 ∧ Wr = w3) (fun _ _ => 1)
      case atStart => exact ⟨rfl, rfl⟩
      case round =>
        obtain ⟨rfl, ew⟩ := hrel
        subst wr
        cases ws with
        | nil =>
          have HM3 : Hid (rd (L.drop (k + 1)) (k + 1) acc = some l) := HM2
          clear HM2
          go_wp2_with fail
          go_roundg g
          case measure => omega
          case rel => exact ⟨k + 1, acc, by omega, by go_num, HM3, hR3, hLn3, K3⟩
        | cons p r =>
          obtain ⟨pt, pl, pcol⟩ := p
          obtain ⟨b, off, rfl, hp0⟩ := hpc 0 _ rfl
          have hR0 : (loadVar 76 ⟨b, off, none⟩).run Tryz.prog w3 = .ok (.agg #[.string pt, .int .i64 pl, .int .i64 pcol]) w3 := run_pcAt (W := w3) (b := b) (o := off) (p := ⟨pt, pl, pcol⟩) (fun j v e => by have := hp0 j v e; rw [Nat.zero_mul, Nat.add_zero] at this; exact this)
          have hpsz : pt.size ≤ 4096 := hps' ⟨pt, pl, pcol⟩ (List.mem_cons_self ..)
          have hrsz : ∀ p ∈ r, p.t.size ≤ 4096 := fun p hp => hps' p (List.mem_cons_of_mem _ hp)
          have HM3 := HM2.out
          by_cases hsf : Lib.hasSuffix pt.data.toList [58] = true
          · exfalso
            have HM4 : (if Lib.hasSuffix pt.data.toList [58] = true then none else (if acc.length < 64 then (inst (⟨pt, pl, pcol⟩ :: r)).bind (fun q => rd (L.drop (k + 1)) (k + 1 + 0) (acc ++ [q])) else none : Option (List Ins))) = some l := HM3
            rw [if_pos hsf] at HM4; cases HM4
          · have HM4 : (if Lib.hasSuffix pt.data.toList [58] = true then none else (if acc.length < 64 then (inst (⟨pt, pl, pcol⟩ :: r)).bind (fun q => rd (L.drop (k + 1)) (k + 1 + 0) (acc ++ [q])) else none : Option (List Ins))) = some l := HM3
            rw [if_neg hsf] at HM4
            by_cases ha : acc.length < 64
            · rw [if_pos ha] at HM4
              obtain ⟨q, hq, hrd⟩ := Option.bind_eq_some_iff.1 HM4
              have HRD : Hid (rd (L.drop (k + 1)) (k + 1) (acc ++ [q]) = some l) := hrd
              clear HM4 HM3 HM2 hrd
              have hsf' : Lib.hasSuffix pt.data.toList [58] = false := by simpa using hsf
              have hCS : ∀ W, Calls Tryz.prog 25 #[.string pt, .string ⟨#[58]⟩] W fun e w' => e = .returned (.tuple #[.string ⟨(Lib.trimSuffix pt.data.toList [58]).toArray⟩, .bool false]) ∧ w' = W := fun W => by
                have h := Tryz.strings_CutSuffix pt ⟨#[58]⟩ W (by omega)
                have e1 : (⟨#[58]⟩ : ByteArray).data.toList = [58] := rfl
                rw [e1, hsf'] at h
                exact h
              generalize (⟨(Lib.trimSuffix pt.data.toList [58]).toArray⟩ : ByteArray) = tsx at *
              obtain ⟨W4, hW4⟩ : ∃ W4, W4 = w3.alloc (.cells #[.string pt, .int .i64 pl, .int .i64 pcol] 76) := ⟨_, rfl⟩
              have k4 : Keeps (fun _ => False) w3 W4 := by rw [hW4]; exact (Keeps.refl _ w3).alloc _
              have c4 : CL W4 w3.heap.size [.string pt, .int .i64 pl, .int .i64 pcol] := by rw [hW4]; exact CL.made w3 _ _
              have x0 := c4.c 0 _ rfl
              have K4 := K3.trans k4
              have hIns := instr_ok (w := W4) (cap := wc) (hT.keep K4) (hNT.keep K4) (hR3.keep k4) (K4.size) (hpc.keep k4) hrsz hq ha
              have hLn4 := hLn3.keep k4 (fun e => e)
              have h0l : decide ((0 : Int) < (r.length : Int) + 1) = true := by simp <;> omega
              have h0m : (0 : Int) < (r.length : Int) + 1 := by omega
              have hll : ((⟨pt, pl, pcol⟩ : Pc) :: r).length = r.length + 1 := rfl
              rw [hll] at hwc hwl ⊢
              have hcz : ¬ wc = 0 := by omega
              have HW4 : Hid (_ = _) := hW4
              clear hW4 hp0 hpc hps' hsf hq hsf' hwl
              go_wp2_with (first | (refine wpList_load_run rfl 76 _ rfl ⟨b, off, none⟩ rfl _ hR0 ?_; clear hR0) | (go_at_call 25; rw [← HW4.out]; refine (hCS _).mono ?_; clear hCS; rintro e w5 ⟨rfl, e5⟩; subst w5))
              refine hIns.mono ?_
              rintro e w5 ⟨rfl, hR5, k5⟩
              have hLn5 := hLn4.keep k5 (fun h => by
                rcases h.2 with h2 | ⟨cur, x, h2⟩
                · exact hRX h2
                · obtain ⟨cur', x', h3⟩ := hLn4.t
                  rw [h3] at h2
                  injection h2 with h2
                  injection h2 with _ h2 _
                  exact absurd h2 (by decide))
              have K5 : Keeps (fun _ => False) w0 w5 := K4.trans' k5 (fun _ _ e => e) (fun i hi h => by have := h.1; omega)
              clear hIns k5 hLn4
              go_wp2_with fail
              go_roundg g
              case measure => omega
              case rel => exact ⟨k + 1, acc ++ [q], by omega, by go_num, HRD, hR5, hLn5, K5⟩
            · rw [if_neg ha] at HM4; cases HM4
end Go.Proofs.YtdmfkepnopppaaaGreatDoor
