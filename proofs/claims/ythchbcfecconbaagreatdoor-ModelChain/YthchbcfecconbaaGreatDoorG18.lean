import Derived.Test.YthchbcfecconbaaGreatDoorG17
import Derived.ScopeJumps
import Derived.Defers
import Derived.Recover
import Derived.Test.YthchbcfecconbaaGreatDoorG15
import Derived.Test.YthchbcfecconbaaGreatDoorG09
import Derived.Maps.AppendAt
namespace Go.Proofs.YthchbcfecconbaaGreatDoor
open Go.RowKit Go.Deep Go.ChangeShapes Go.WideShapes Go.ChangeAt
attribute [local go_sem] Oper.semAt_some run_store_nf run_store_f
def lns (s : ByteArray) : List ByteArray := Lib.splitB ⟨#[10]⟩ 0 (Lib.countB s ⟨#[10]⟩) s
def rd : List ByteArray → Nat → List Ins → Option (List Ins)
  | [], _, acc => some acc
  | l :: ls, i, acc => match wds l ((i : Int) + 1) with
    | [] => rd ls (i + 1) acc
    | p :: r => if Lib.hasSuffix p.t.data.toList [58] = true then none else if acc.length < 64 then (inst (p :: r)).bind (fun q => rd ls (i + 1) (acc ++ [q])) else none
structure LNs (w : World) (X : Nat) (l : List ByteArray) : Prop where
  c : ∀ j s, l[j]? = some s → w.cell? ⟨X, j, none⟩ = some (.string s)
  t : ∃ cur x, w.heap[X]? = some (.cells cur 9 x)
theorem LNs.keep {w w' : World} {X : Nat} {l : List ByteArray} {S : Nat → Prop} (h : LNs w X l) (k : Keeps S w w') (hS : ¬ S X) : LNs w' X l := by
  obtain ⟨cur, x, ht⟩ := h.t
  refine ⟨fun j s e => k.cell (h.c j s e) hS, cur, x, ?_⟩
  rw [k.block X ?_ hS]; exact ht
  rcases Nat.lt_or_ge X w.heap.size with hl | hg
  · exact hl
  · rw [Array.getElem?_eq_none hg] at ht; cases ht
theorem LNs.made (w : World) (l : List ByteArray) : LNs (w.alloc (.cells (l.map Value.string).toArray 9)) w.heap.size l := by
  exact ⟨fun j s e => (CL.made w (l.map Value.string) 9).c j _ (by rw [List.getElem?_map, e]; rfl), (l.map Value.string).toArray, (0, 0), heap_alloc_new _ _⟩
theorem pcl_of_owns2 {W : World} {base n : Nat} {v : Value} {l : List Pc} (h : W.ownsRow base 124 3 v n (pcl l)) (hn : l.length = n) : ∃ a cap, v = .slice a n cap ∧ PCL W a l ∧ n ≤ cap ∧ cap ≤ 9223372036854775807 := by
  have h2 := h
  rcases h2.2 with ⟨rfl, h0⟩ | ⟨g, cap, cur, rfl, _, _, h3, h4, _⟩
  · obtain ⟨a, cap, e, hp⟩ := pcl_of_owns h hn
    injection e with e1 e2 e3
    subst e1 e3
    exact ⟨none, 0, by rw [e2], hp, by omega, by omega⟩
  · obtain ⟨a, cap', e, hp⟩ := pcl_of_owns h hn
    injection e with e1 e2 e3
    subst e1 e3
    exact ⟨_, cap, rfl, hp, h3, by unfold maxLen at h4; omega⟩
set_option maxHeartbeats 1000000 in
set_option maxRecDepth 1000000 in
theorem read_ok {w0 w : World} {R : Nat} {mv jv : Value} {l : List Ins} (s : ByteArray) (hs : s.size ≤ 4096) (hT : PT w0) (hNT : NT w0) (k0 : Keeps (fun _ => False) w0 w) (hI : RI w w0.heap.size R mv jv []) (hm : rd (lns s) 0 [] = some l) (hsz : ∀ x ∈ lns s, x.size ≤ 4096) : Calls Tryz.prog 31 #[.pointer (some ⟨R, 0, none⟩), .string s] w fun e w' => e = .returned (.tuple #[]) ∧ RI w' w0.heap.size R mv jv l ∧ Keeps (fun _ => False) w0 w' := by
  obtain ⟨mx, hmx⟩ := (hT.keep k0).mx
  have hlen : (lns s).length = Lib.countB s ⟨#[10]⟩ + 1 := Lib.splitB_all ⟨#[10]⟩ (by decide) 0 _ s rfl
  have hSp : Calls Tryz.prog 44 #[.string s, .string ⟨#[10]⟩] w fun e w' => e = .returned (.slice (some ⟨w.heap.size, 0, none⟩) (lns s).length (lns s).length) ∧ w' = w.alloc (.cells ((lns s).map Value.string).toArray 9) := by
    rw [hlen]
    exact Tryz.strings_Split s ⟨#[10]⟩ mx w (by omega) hmx (by decide)
  have hcl := Lib.countB_le ⟨#[10]⟩ (by decide) s.size s (Nat.le_refl _)
  have hl5 : (lns s).length ≤ 5000 := by omega
  clear hlen hcl
  generalize lns s = L at *
  have hLM := LNs.made w L
  have k1 : Keeps (fun _ => False) w0 (w.alloc (.cells (L.map Value.string).toArray 9)) := k0.alloc _
  have hI1 := hI.keep ((Keeps.refl _ w).alloc (.cells (L.map Value.string).toArray 9))
  obtain ⟨⟨cv, hCR, _⟩, _⟩ := hI
  have hRX : w.heap.size ≠ R := fun e => by have := hCR.lt (by show 0 < 3; decide); omega
  clear hCR
  generalize hX : w.heap.size = X at *
  clear hX
  go_enter Tryz.func31, Tryz.ntmps31
  go_wp2_with fail
  go_step3
  go_wp2_with fail
  go_step3
  go_wp2_with (go_at_call 44; refine hSp.mono ?_; clear hSp; rintro e w1 ⟨rfl, e1⟩; subst w1)
  generalize w.alloc (.cells (L.map Value.string).toArray 9) = wa at *
  go_loopg [14] L.length (fun g iv Wr => ∃ (k : Nat) (acc : List Ins), k + g = L.length ∧ iv = .int .i64 (k : Int) ∧ Hid (rd (L.drop k) k acc = some l) ∧ RI Wr w0.heap.size R mv jv acc ∧ LNs Wr X L ∧ Keeps (fun _ => False) w0 Wr)
  case atStart => exact ⟨0, [], by omega, rfl, hm, hI1, hLM, k1⟩
  case round =>
    obtain ⟨k, acc, hkg, rfl, HM, hR, hLn, kr⟩ := hrel
    clear hI1 hLM k1
    cases gk with
    | zero =>
      have hltI : decide ((k : Int) < (L.length : Int)) = false := by simp; omega
      have hl : ¬ (k : Int) < (L.length : Int) := by omega
      have hacc : acc = l := by
        have := HM.out
        rw [List.drop_eq_nil_of_le (by omega)] at this
        exact Option.some.inj this
      subst hacc
      go_wp2_with fail
      go_end0
      exact ⟨rfl, hR, kr⟩
    | succ g =>
      have hlt : k < L.length := by omega
      have hltI : decide ((k : Int) < (L.length : Int)) = true := by simp; omega
      have hltJ : (k : Int) < (L.length : Int) := by omega
      have hk0 : (0 : Int) ≤ (k : Int) := by omega
      obtain ⟨z, hz⟩ : ∃ z, L[k]? = some z := ⟨_, List.getElem?_eq_getElem hlt⟩
      have hzc := hLn.c k z hz
      have hzs := hsz z (List.mem_of_getElem? hz)
      have hdr : L.drop k = z :: L.drop (k + 1) := by
        obtain ⟨hk, e⟩ := List.getElem?_eq_some_iff.1 hz
        rw [List.drop_eq_getElem_cons hk, e]
      have hC := cut_any (w := wr) z ((k : Int) + 1) hzs (hT.keep kr)
      rw [hdr] at HM
      have HM2 : Hid ((match wds z ((k : Int) + 1) with | [] => rd (L.drop (k + 1)) (k + 1) acc | p :: r => if Lib.hasSuffix p.t.data.toList [58] = true then none else if acc.length < 64 then (inst (p :: r)).bind (fun q => rd (L.drop (k + 1)) (k + 1 + 0) (acc ++ [q])) else none) = some l) := HM
      clear HM hdr
      have hps := wdf_sz (bare z) ((k : Int) + 1) ((bare z).size + 1) 0
      have hps' : ∀ p ∈ wds z ((k : Int) + 1), p.t.size ≤ 4096 := fun p hp => by have := hps p hp; have := bare_size z; omega
      clear hps
      have hwl : (wds z ((k : Int) + 1)).length ≤ 5000 := by have := wdf_len (bare z) ((k : Int) + 1) ((bare z).size + 1) 0; have := bare_size z; unfold wds; omega
      generalize wds z ((k : Int) + 1) = ws at *
      go_wp2_with (go_at_call 45; refine hC.mono ?_; clear hC; rintro e w3 ⟨v, rfl, hown, k3⟩; obtain ⟨wa', wc, rfl, hpc, hwc⟩ := pcl_of_owns2 hown rfl)
      have hR3 := hR.keep k3
      have hLn3 := hLn.keep k3 (fun e => e)
      have K3 := kr.trans k3
      clear hR hLn hown hzc
      go_loopw [25] (fun iv Wr => iv = .int .i64 0 ∧ Wr = w3) (fun _ _ => 1)
      case atStart => exact ⟨rfl, rfl⟩
      case round =>
        obtain ⟨rfl, ew⟩ := hrel
        subst wr
        cases ws with
        | nil =>
          have HM3 : Hid (rd (L.drop (k + 1)) (k + 1) acc = some l) := HM2
          clear HM2
          go_wp2_with fail
          go_roundg g
          case measure => omega
          case rel => exact ⟨k + 1, acc, by omega, by go_num, HM3, hR3, hLn3, K3⟩
        | cons p r =>
          obtain ⟨pt, pl, pcol⟩ := p
          obtain ⟨b, off, rfl, hp0⟩ := hpc 0 _ rfl
          have hR0 : (loadVar 124 ⟨b, off, none⟩).run Tryz.prog w3 = .ok (.agg #[.string pt, .int .i64 pl, .int .i64 pcol]) w3 := run_pcAt (W := w3) (b := b) (o := off) (p := ⟨pt, pl, pcol⟩) (fun j v e => by have := hp0 j v e; rw [Nat.zero_mul, Nat.add_zero] at this; exact this)
          have hpsz : pt.size ≤ 4096 := hps' ⟨pt, pl, pcol⟩ (List.mem_cons_self ..)
          have hrsz : ∀ p ∈ r, p.t.size ≤ 4096 := fun p hp => hps' p (List.mem_cons_of_mem _ hp)
          have HM3 := HM2.out
          by_cases hsf : Lib.hasSuffix pt.data.toList [58] = true
          · exfalso
            have HM4 : (if Lib.hasSuffix pt.data.toList [58] = true then none else (if acc.length < 64 then (inst (⟨pt, pl, pcol⟩ :: r)).bind (fun q => rd (L.drop (k + 1)) (k + 1 + 0) (acc ++ [q])) else none : Option (List Ins))) = some l := HM3
            rw [if_pos hsf] at HM4; cases HM4
          · have HM4 : (if Lib.hasSuffix pt.data.toList [58] = true then none else (if acc.length < 64 then (inst (⟨pt, pl, pcol⟩ :: r)).bind (fun q => rd (L.drop (k + 1)) (k + 1 + 0) (acc ++ [q])) else none : Option (List Ins))) = some l := HM3
            rw [if_neg hsf] at HM4
            by_cases ha : acc.length < 64
            · rw [if_pos ha] at HM4
              obtain ⟨q, hq, hrd⟩ := Option.bind_eq_some_iff.1 HM4
              have HRD : Hid (rd (L.drop (k + 1)) (k + 1) (acc ++ [q]) = some l) := hrd
              clear HM4 HM3 HM2 hrd
              have hsf' : Lib.hasSuffix pt.data.toList [58] = false := by simpa using hsf
              have hCS : ∀ W, Calls Tryz.prog 46 #[.string pt, .string ⟨#[58]⟩] W fun e w' => e = .returned (.tuple #[.string ⟨(Lib.trimSuffix pt.data.toList [58]).toArray⟩, .bool false]) ∧ w' = W := fun W => by
                have h := Tryz.strings_CutSuffix pt ⟨#[58]⟩ W (by omega)
                have e1 : (⟨#[58]⟩ : ByteArray).data.toList = [58] := rfl
                rw [e1, hsf'] at h
                exact h
              generalize (⟨(Lib.trimSuffix pt.data.toList [58]).toArray⟩ : ByteArray) = tsx at *
              obtain ⟨W4, hW4⟩ : ∃ W4, W4 = w3.alloc (.cells #[.string pt, .int .i64 pl, .int .i64 pcol] 124) := ⟨_, rfl⟩
              have k4 : Keeps (fun _ => False) w3 W4 := by rw [hW4]; exact (Keeps.refl _ w3).alloc _
              have c4 : CL W4 w3.heap.size [.string pt, .int .i64 pl, .int .i64 pcol] := by rw [hW4]; exact CL.made w3 _ _
              have x0 := c4.c 0 _ rfl
              have K4 := K3.trans k4
              have hIns := instr_ok (w := W4) (cap := wc) (hT.keep K4) (hNT.keep K4) (hR3.keep k4) (K4.size) (hpc.keep k4) hrsz hq ha
              have hLn4 := hLn3.keep k4 (fun e => e)
              have h0l : decide ((0 : Int) < (r.length : Int) + 1) = true := by simp <;> omega
              have h0m : (0 : Int) < (r.length : Int) + 1 := by omega
              have hll : ((⟨pt, pl, pcol⟩ : Pc) :: r).length = r.length + 1 := rfl
              rw [hll] at hwc hwl ⊢
              have hcz : ¬ wc = 0 := by omega
              have HW4 : Hid (_ = _) := hW4
              clear hW4 hp0 hpc hps' hsf hq hsf' hwl
              go_wp2_with (first | (refine wpList_load_run rfl 124 _ rfl ⟨b, off, none⟩ rfl _ hR0 ?_; clear hR0) | (go_at_call 46; rw [← HW4.out]; refine (hCS _).mono ?_; clear hCS; rintro e w5 ⟨rfl, e5⟩; subst w5))
              refine hIns.mono ?_
              rintro e w5 ⟨rfl, hR5, k5⟩
              have hLn5 := hLn4.keep k5 (fun h => by
                rcases h.2 with h2 | ⟨cur, x, h2⟩
                · exact hRX h2
                · obtain ⟨cur', x', h3⟩ := hLn4.t
                  rw [h3] at h2
                  injection h2 with h2
                  injection h2 with _ h2 _
                  exact absurd h2 (by decide))
              have K5 : Keeps (fun _ => False) w0 w5 := K4.trans' k5 (fun _ _ e => e) (fun i hi h => by have := h.1; omega)
              clear hIns k5 hLn4
              go_wp2_with fail
              go_roundg g
              case measure => omega
              case rel => exact ⟨k + 1, acc ++ [q], by omega, by go_num, HRD, hR5, hLn5, K5⟩
            · rw [if_neg ha] at HM4; cases HM4
end Go.Proofs.YthchbcfecconbaaGreatDoor

namespace Go.Proofs.YthchbcfecconbaaGreatDoor
open Go.RowKit Go.Deep Go.ChangeShapes Go.WideShapes Go.ChangeAt
attribute [local go_sem] Oper.semAt_some run_store_nf run_store_f
theorem results_cell2y {fn : Func} {p q : Tmp} {ty ty2 : TypeId} (h : fn.results = #[.cell p ty, .cell q ty2]) (tmps : Array Value) (P : Program) (w : World) {a b : Addr} {v1 v2 : Value}
    (ha : tmps[p]?.getD undef = .pointer (some a)) (hb : tmps[q]?.getD undef = .pointer (some b)) (h1 : (loadVar ty a).run P w = .ok v1 w) (h2 : (loadVar ty2 b).run P w = .ok v2 w) : (results fn tmps).run P w = .ok (.tuple #[v1, v2]) w := by
  simp only [results, h]
  simp [Sem.run_bind, Result.andThen, asAddr, ha, hb, h1, h2]
set_option maxHeartbeats 800000 in
set_option maxRecDepth 1000000 in
theorem pcatch_idle (p q : Addr) (w : World) :
    CallsD Tryz.prog 29 #[.pointer (some p), .pointer (some q)] .returning w fun e u' w' => e = .returned (.tuple #[]) ∧ u' = .returning ∧ w' = w := by
  refine callsD_of_wpS Tryz.func29 rfl fun c₀ cs hu => ?_
  apply wpS_seq
  apply wpS_region
  simp [wpOpsS, go_sem, recoverD, hu, Tryz.ntmps29, Exit.thenS]
  apply wpS_seq
  apply wpS_region
  simp [wpOpsS, go_sem, Exit.thenS]
  refine wpS_cond (t := false) (by simp [Act.eval, Array.replicate]) ?_
  simp only [Bool.false_eq_true, if_false]
  refine wpS_of_wp (wp_skip ?_)
  cases c₀
  simp_all [bodyPostS, results, Tryz.results29]
theorem join_nil {w : World} {R : Nat} {cv mv : Value} (h : CL w R [cv, mv, .slice none 0 0]) : Calls Tryz.prog 32 #[.pointer (some ⟨R, 0, none⟩)] w fun e w' => e = .returned (.tuple #[]) ∧ w' = w := by
  have c2 := h.c 2 _ rfl
  clear h
  go_enter Tryz.func32, Tryz.ntmps32
  go_wp2
  go_loop [11] (fun iv => iv = .int .i64 0) (fun _ => 1)
  case atStart => rfl
  case round =>
    subst hrel
    go_wp2
    go_end0
    exact ⟨rfl, rfl⟩
set_option maxHeartbeats 800000 in
set_option maxRecDepth 1000000 in
theorem parse_ok {w : World} {l : List Ins} (s : ByteArray) (hs : s.size ≤ 4096) (hT : PT w) (hNT : NT w) (hm : rd (lns s) 0 [] = some l) (hsz : ∀ x ∈ lns s, x.size ≤ 4096) : Calls Tryz.prog 20 #[.string s] w fun e w' => ∃ v, e = .returned (.tuple #[v, .agg #[.int .i64 0, .int .i64 0, .int .i64 0]]) ∧ w'.ownsRow w.heap.size 69 11 v l.length (icl l) ∧ Keeps (fun _ => False) w w' := by
  have hmf : ∀ (fn : Fn) (first cap : Array Value) (w : World), (Instr.makeFunc fn first cap).run Tryz.prog w = .ok (.func fn first cap) w := fun _ _ _ _ => rfl
  have hmm := @run_makeMap Tryz.prog
  have hle : decide ((4096 : Int) < (s.size : Int)) = false := by simp; omega
  have hle' : ¬ (4096 : Int) < (s.size : Int) := by omega
  obtain ⟨w0, hw0⟩ : ∃ w0, w0 = (w.alloc (.cells #[.slice none 0 0] 26)).alloc (.cells #[.int .i64 0, .int .i64 0, .int .i64 0] 56) := ⟨_, rfl⟩
  have k0 : Keeps (fun _ => False) w w0 := by rw [hw0]; exact ks2 w _ _
  have c0 : CL w0 w.heap.size [.slice none 0 0] := by rw [hw0]; exact made1 w [.slice none 0 0] 26 _ (by show 0 < 1; decide)
  have c1 : CL w0 (w.heap.size + 1) [.int .i64 0, .int .i64 0, .int .i64 0] := by rw [hw0]; exact made2 w [.int .i64 0, .int .i64 0, .int .i64 0] 56 _
  have hz0 : w0.heap.size = w.heap.size + 1 + 1 := by rw [hw0]; simp
  obtain ⟨W4, hW4⟩ : ∃ W4, W4 = (w0.alloc (.map #[] 0)).alloc (.cells #[.slice none 0 0, .map (some (w.heap.size + 1 + 1)), .slice none 0 0] 88) := ⟨_, rfl⟩
  have k4 : Keeps (fun _ => False) w0 W4 := by rw [hW4]; exact ks2 w0 _ _
  have c4 : CL W4 (w.heap.size + 1 + 1 + 1) [.slice none 0 0, .map (some (w.heap.size + 1 + 1)), .slice none 0 0] := by
    rw [hW4, ← hz0]; exact made2 w0 [.slice none 0 0, .map (some w0.heap.size), .slice none 0 0] 88 _
  have hI : RI W4 w0.heap.size (w.heap.size + 1 + 1 + 1) (.map (some (w.heap.size + 1 + 1))) (.slice none 0 0) [] := ⟨⟨.slice none 0 0, c4, World.ownsRow_nil _ _ _ _, by intro e; cases e⟩, by omega⟩
  have hRd := read_ok (w0 := w0) (w := W4) s hs (hT.keep k0) (hNT.keep k0) k4 hI hm hsz
  rw [hw0] at hW4
  have HW4 : Hid (_ = _) := hW4
  clear hW4 hw0 hI hm hsz hT hNT c4 k4
  go_enter_defers Tryz.func20, Tryz.ntmps20
  go_wp2_with fail
  rw [← HW4.out]
  clear HW4
  refine hRd.mono ?_
  clear hRd
  rintro e w5 ⟨rfl, hI5, k5⟩
  obtain ⟨⟨cv, cR, hown, hnR⟩, hbR⟩ := hI5
  obtain ⟨a, cap, rfl, _⟩ := isl_of_owns hown rfl
  have hJ := join_nil cR
  have d0 := c0.keep (by show 0 < 1; decide) k5 (fun e => e)
  have d1 := c1.keep (by show 0 < 3; decide) k5 (fun e => e)
  have K5 := k0.trans k5
  clear c0 c1 k0 k5
  have hown' : w5.ownsRow w.heap.size 69 11 (.slice a l.length cap) l.length (icl l) := by
    refine ⟨hown.1, ?_⟩
    rcases hown.2 with h | ⟨g, cp, cur, h1, h2, h3⟩
    · exact .inl h
    · exact .inr ⟨g, cp, cur, h1, by omega, h3⟩
  have ob0 : Value.ownBlock (.slice a l.length cap) ≠ some w.heap.size := fun e => by have := owns_base hown _ e; omega
  have ob1 : Value.ownBlock (.slice a l.length cap) ≠ some (w.heap.size + 1) := fun e => by have := owns_base hown _ e; omega
  have r0 := cR.c 0 _ rfl
  have y0 := d0.c 0 _ rfl
  have yz := d0.z 0 (by show 0 < 1; decide)
  have f0 := d1.c 0 _ rfl
  have f1 := d1.c 1 _ rfl
  have f2 := d1.c 2 _ rfl
  have g0 := d1.z 0 (by show 0 < 3; decide)
  have g1 := d1.z 1 (by show 1 < 3; decide)
  have g2 := d1.z 2 (by show 2 < 3; decide)
  clear hz0 hown hbR hnR
  go_wp2_with (go_at_call 32; refine hJ.mono ?_; clear hJ; rintro e w6 ⟨rfl, e6⟩; subst w6)
  have n01 : w.heap.size + 1 ≠ w.heap.size := by omega
  have n10 : w.heap.size ≠ w.heap.size + 1 := by omega
  have e0 : CL ((((w5.setCell ⟨w.heap.size, 0, none⟩ (.slice a l.length cap)).setCell ⟨w.heap.size + 1, 0, none⟩ (.int .i64 0)).setCell ⟨w.heap.size + 1, 1, none⟩ (.int .i64 0)).setCell ⟨w.heap.size + 1, 2, none⟩ (.int .i64 0)) w.heap.size [.slice a l.length cap] := (((d0.set (o := 0) (by show 0 < 1; decide) (.slice a l.length cap)).other (p := ⟨w.heap.size + 1, 0, none⟩) n01 _).other (p := ⟨w.heap.size + 1, 1, none⟩) n01 _).other (p := ⟨w.heap.size + 1, 2, none⟩) n01 _
  have e1 : CL ((((w5.setCell ⟨w.heap.size, 0, none⟩ (.slice a l.length cap)).setCell ⟨w.heap.size + 1, 0, none⟩ (.int .i64 0)).setCell ⟨w.heap.size + 1, 1, none⟩ (.int .i64 0)).setCell ⟨w.heap.size + 1, 2, none⟩ (.int .i64 0)) (w.heap.size + 1) [.int .i64 0, .int .i64 0, .int .i64 0] := (((d1.other (p := ⟨w.heap.size, 0, none⟩) n10 (.slice a l.length cap)).set (o := 0) (by show 0 < 3; decide) (.int .i64 0)).set (o := 1) (by show 1 < 3; decide) (.int .i64 0)).set (o := 2) (by show 2 < 3; decide) (.int .i64 0)
  have kk : Keeps (fun k => k = w.heap.size ∨ k = w.heap.size + 1) w5 ((((w5.setCell ⟨w.heap.size, 0, none⟩ (.slice a l.length cap)).setCell ⟨w.heap.size + 1, 0, none⟩ (.int .i64 0)).setCell ⟨w.heap.size + 1, 1, none⟩ (.int .i64 0)).setCell ⟨w.heap.size + 1, 2, none⟩ (.int .i64 0)) := ((((Keeps.refl _ w5).setCell (p := ⟨w.heap.size, 0, none⟩) (fun _ => .inl rfl) _).setCell (p := ⟨w.heap.size + 1, 0, none⟩) (fun _ => .inr rfl) _).setCell (p := ⟨w.heap.size + 1, 1, none⟩) (fun _ => .inr rfl) _).setCell (p := ⟨w.heap.size + 1, 2, none⟩) (fun _ => .inr rfl) _
  generalize ((((w5.setCell ⟨w.heap.size, 0, none⟩ (.slice a l.length cap)).setCell ⟨w.heap.size + 1, 0, none⟩ (.int .i64 0)).setCell ⟨w.heap.size + 1, 1, none⟩ (.int .i64 0)).setCell ⟨w.heap.size + 1, 2, none⟩ (.int .i64 0)) = W6 at *
  have hown6 := kk.owns hown' (fun g hg e => e.elim (fun e => ob0 (e ▸ hg)) (fun e => ob1 (e ▸ hg)))
  have K6 : Keeps (fun _ => False) w W6 := K5.trans' kk (fun _ _ e => e) (fun i hi e => by omega)
  have x0 := e0.c 0 _ rfl
  have u0 := e1.c 0 _ rfl
  have u1 := e1.c 1 _ rfl
  have u2 := e1.c 2 _ rfl
  refine leaves_cons (f := 29) (args := #[.pointer (some ⟨w.heap.size, 0, none⟩), .pointer (some ⟨w.heap.size + 1, 0, none⟩)]) (by simp) (by simp [go_sem]) ?_
  refine (pcatch_idle _ _ _).mono ?_
  rintro e u' w'' ⟨rfl, rfl, e2⟩
  subst w''
  refine ⟨.tuple #[.slice a l.length cap, .agg #[.int .i64 0, .int .i64 0, .int .i64 0]], ?_, _, rfl, hown6, K6⟩
  refine results_cell2y Tryz.results20 _ _ _ (a := ⟨w.heap.size, 0, none⟩) (b := ⟨w.heap.size + 1, 0, none⟩) rfl rfl ?_ ?_
  · go_simp
  · go_simp
end Go.Proofs.YthchbcfecconbaaGreatDoor

namespace Go.Proofs.YthchbcfecconbaaGreatDoor
open Go.RowKit Go.Deep Go.ChangeShapes Go.WideShapes Go.ChangeAt
attribute [local go_sem] Oper.semAt_some run_store_nf run_store_f
def txt2 : ByteArray := ⟨#[103, 101, 116, 32, 114, 49, 32, 64, 48, 10, 97, 100, 100, 32, 114, 49, 32, 114, 49, 32, 49, 10, 112, 117, 116, 32, 64, 48, 32, 114, 49, 10, 100, 111, 110, 101, 32, 114, 49]⟩
def prg2 : List Ins := [⟨1, 1, false, 0, false, 0, false, 0, 0, 0, 0⟩, ⟨6, 1, false, 0, true, 1, false, 1, 1, 0, 0⟩, ⟨3, 0, false, 0, true, 1, false, 0, 0, 0, 0⟩, ⟨10, 0, false, 0, true, 1, false, 0, 0, 0, 0⟩]
theorem rd2 : rd (lns txt2) 0 [] = some prg2 := by kernel_rfl
theorem ln2 : ∀ x ∈ lns txt2, x.size ≤ 4096 := by
  have h : lns txt2 = [⟨#[103, 101, 116, 32, 114, 49, 32, 64, 48]⟩, ⟨#[97, 100, 100, 32, 114, 49, 32, 114, 49, 32, 49]⟩, ⟨#[112, 117, 116, 32, 64, 48, 32, 114, 49]⟩, ⟨#[100, 111, 110, 101, 32, 114, 49]⟩] := by kernel_rfl
  rw [h]
  intro x hx
  rcases (by simpa using hx : x = _ ∨ x = _ ∨ x = _ ∨ x = _) with rfl | rfl | rfl | rfl <;> decide
theorem chk2 : (chk prg2).1 = 0 := by kernel_rfl
theorem rfs2 : rfs 2 0 100 = 0 := by kernel_rfl
theorem gor2 : (gor prg2 [5, 7] [] 100 0 rs0).1.oc = 1 ∧ (gor prg2 [5, 7] [] 100 0 rs0).1.rs = 6 ∧ (gor prg2 [5, 7] [] 100 0 rs0).2 = 4 ∧ lft [5, 7] (gor prg2 [5, 7] [] 100 0 rs0).1 2 = [6, 7] := by
  refine ⟨?_, ?_, ?_, ?_⟩ <;> kernel_rfl
theorem run2 {w : World} {a ao : Option Addr} {cap co : Nat} (hT : LT w) (hl : ISL w a prg2) (hO : NUM w ao [5, 7]) : Calls Tryz.prog 8 #[.slice a 4 cap, .slice ao 2 co, .slice none 0 0, .int .i64 100] w fun e w' => ∃ b, e = .returned (.tuple #[.agg #[.int .i64 1, .int .i64 6, .slice (some ⟨b, 0, none⟩) 2 2, .int .i64 4], .int .i64 0]) ∧ CL w' b (nvs [6, 7]) ∧ Keeps (fun _ => False) w w' := by
  have h := run_any (cap := cap) (co := co) (ag := none) (cg := 0) (gs := []) hT hl (by decide) hO (fun i x hx => by simp at hx) 100
  refine Calls.mono h ?_
  rintro e w' ⟨v, x, rfl, hP, k⟩
  rcases hP with ⟨h0, _⟩ | ⟨_, h1, _⟩ | ⟨_, _, rfl, b, _, rfl, hC, _⟩
  · exact (h0 chk2).elim
  · exact (h1 rfs2).elim
  · obtain ⟨e1, e2, e3, e4⟩ := gor2
    have t100 : Int.toNat 100 = 100 := rfl
    rw [t100] at hC ⊢
    have l2 : ([5, 7] : List Int).length = 2 := rfl
    rw [l2] at hC ⊢
    rw [e4] at hC
    rw [e1, e2, e3]
    exact ⟨b, rfl, hC, k⟩
theorem two_num (w : World) (o : Obj) (x y : Int) : NUM ((w.alloc o).alloc (.cells #[.int .i64 x, .int .i64 y] 2)) (some ⟨w.heap.size + 1, 0, none⟩) [x, y] := NUM.ofCL (by
  have := CL.made (w.alloc o) [.int .i64 x, .int .i64 y] 2
  rw [show (w.alloc o).heap.size = w.heap.size + 1 by simp] at this
  exact this)
set_option maxHeartbeats 800000 in
set_option maxRecDepth 1000000 in
theorem head11 {w : World} (hT : PT w) (hNT : NT w) : Calls Tryz.prog 6 #[] w fun e w' => e = .returned (.bool true) ∧ Keeps (fun _ => False) w w' := by
  have hP := parse_ok txt2 (by decide) hT hNT rd2 ln2
  have hLT := hT.lt
  clear hT hNT
  go_enter Tryz.func6, Tryz.ntmps6
  go_wp2_with fail
  refine (show Calls Tryz.prog 20 #[.string txt2] w _ from hP).mono ?_
  clear hP
  rintro e w1 ⟨v, rfl, hown, k1⟩
  obtain ⟨a, cap, rfl, hI⟩ := isl_of_owns hown rfl
  clear hown
  have l4 : prg2.length = 4 := rfl
  rw [l4]
  clear l4
  obtain ⟨W2, hW2⟩ : ∃ W2, W2 = (w1.alloc (.cells #[.int .i64 0, .int .i64 0, .int .i64 0] 56)).alloc (.cells #[.int .i64 5, .int .i64 7] 2) := ⟨_, rfl⟩
  have k2 : Keeps (fun _ => False) w1 W2 := by rw [hW2]; exact ((Keeps.refl _ w1).alloc _).alloc _
  have s2 : W2.heap.size = w1.heap.size + 2 := by rw [hW2]; simp
  have hN : NUM W2 (some ⟨w1.heap.size + 1, 0, none⟩) [5, 7] := by rw [hW2]; exact two_num w1 _ 5 7
  have hR := run2 (cap := cap) (co := 2) (hLT.keep (k1.trans k2)) (hI.keep k2) hN
  have HW2 : Hid (_ = _) := hW2
  clear hW2 hI hN hLT
  have K2 := k1.trans k2
  clear k1 k2
  go_wp2_with (first | (go_at_call 10; refine (num11 _ _).mono ?_; rintro e wn ⟨rfl, en⟩; subst wn) | (go_at_call 8; rw [← HW2.out]; clear HW2; refine hR.mono ?_; clear hR; rintro e w3 ⟨b, rfl, C3, k3⟩; obtain ⟨W4, hW4⟩ : ∃ W4, W4 = (w3.alloc (.cells #[.int .i64 1, .int .i64 6, .slice (some ⟨b, 0, none⟩) 2 2, .int .i64 4] 31)).alloc (.cells #[.int .i64 6, .int .i64 7] 2) := ⟨_, rfl⟩; have HW4 : Hid (_ = _) := hW4; clear hW4) | (go_at_call 11; rw [← HW4.out]; have K4 : Keeps (fun _ => False) w3 W4 := (by rw [HW4.out]; exact ((Keeps.refl _ w3).alloc _).alloc _); have hB : NUM W4 (some ⟨w3.heap.size + 1, 0, none⟩) [6, 7] := (by rw [HW4.out]; exact two_num w3 _ 6 7); refine (same_ok (xs := [6, 7]) 2 2 1 6 4 ((NUM.ofCL C3).keep K4) hB (by decide)).mono ?_; rintro e w5 ⟨rfl, k5⟩))
  go_ret
  exact ⟨rfl, ((K2.trans k3).trans K4).trans k5⟩
end Go.Proofs.YthchbcfecconbaaGreatDoor

namespace Go.Proofs.YthchbcfecconbaaGreatDoor
open Go.RowKit Go.Deep Go.ChangeShapes Go.WideShapes Go.ChangeAt
theorem copy_nd {W0 : World} {ao : Option Addr} {os : List Int} (co : Nat) (hO : NUM W0 ao os) (hz : ao = none → co = 0) (hn : os.length * 8 ≤ 140737488355328) :
    ∃ v' W', (Builtin.append_ #[23, 23] 23 #[.slice (some ⟨W0.heap.size, 0, none⟩) 0 0, .slice ao os.length co]).run Tryz.prog (W0.alloc (.cells #[] 2)) = .ok v' W' ∧ W'.ownsRow W0.heap.size 2 1 v' os.length (nvs os) ∧ Keeps (fun _ => False) W0 W' := by
  obtain ⟨i0, hi0, hz0, hz1, hz2⟩ := iNumD
  have k0 : Keeps (fun _ => False) W0 (W0.alloc (.cells #[] 2)) := (Keeps.refl _ W0).alloc _
  have o0 : (W0.alloc (.cells #[] 2)).ownsRow W0.heap.size 2 1 (.slice (some ⟨W0.heap.size, 0, none⟩) 0 0) 0 [] := ⟨rfl, .inr ⟨W0.heap.size, 0, #[], rfl, Nat.le_refl _, heap_alloc_new W0 _, Nat.le_refl _, by unfold maxLen; omega, rfl, rfl⟩⟩
  cases ao with
  | none =>
    have hl : os = [] := by
      cases os with
      | nil => rfl
      | cons x r => obtain ⟨b, off, e, _⟩ := hO 0 x rfl; cases e
    subst hl
    rw [hz rfl]
    exact ⟨_, _, run_append_owned_none (P := Tryz.prog) (w := W0.alloc (.cells #[] 2)) W0.heap.size 23 23 2 i0 1 uNumsD hi0 _ 0 [] o0, o0, k0⟩
  | some a =>
    have hsrc : ∀ j u, (nvs os)[j]? = some u → (W0.alloc (.cells #[] 2)).cell? (a.add j) = some u := fun j u e => by
      unfold nvs at e
      rw [List.getElem?_map] at e
      cases hx : os[j]? with
      | none => rw [hx] at e; cases e
      | some x =>
        rw [hx] at e
        cases e
        obtain ⟨b, off, e', hc⟩ := hO j x hx
        cases e'
        rw [add_at]
        exact k0.cell hc (fun e => e)
    obtain ⟨v', w', hr, ho, hgr, _, _⟩ := run_append_own_at (P := Tryz.prog) (w := W0.alloc (.cells #[] 2)) W0.heap.size 23 23 2 i0 _ 1 8 uNumsD hi0 hz0 hz1 hz2 rfl (by decide) _ 0 [] o0 a os.length co (nvs os) (by simp [nvs]) hsrc (fun u hu => by
      unfold nvs at hu
      obtain ⟨x, _, rfl⟩ := List.mem_map.1 hu
      rfl) (by unfold maxLen; omega) (by omega) k0.size
    rw [Nat.zero_add, List.nil_append] at ho
    exact ⟨v', w', hr, ho, k0.trans' ((Keeps.refl _ _).grown hgr (S := fun i => i = W0.heap.size) (fun i _ e => by simp [Value.ownBlock] at e; exact e.symm)) (fun _ _ e => e) (fun i hi e => by omega)⟩
theorem giv0d : (Tryz.prog.info? 29).map (fun i => (i.zero, i.size, i.bytes)) = some (some (.agg #[.bool false, .int .i64 0]), 2, 16) := by kernel_rfl
theorem givid : ∃ i, Tryz.prog.info? 29 = some i ∧ i.zero = some (.agg #[.bool false, .int .i64 0]) ∧ i.size = 2 ∧ i.bytes = 16 := by
  have h := giv0d
  cases hq : Tryz.prog.info? 29 with
  | none => rw [hq] at h; cases h
  | some i =>
    rw [hq] at h
    injection h with h
    injection h with h1 h2
    injection h2 with h2 h3
    exact ⟨i, rfl, h1, h2, h3⟩
theorem gId : Tryz.prog.underlying 24 = some (.slice 29) := by kernel_rfl
def gvsd (l : List (Bool × Int)) : List Value := l.flatMap fun g => [.bool g.1, .int .i64 g.2]
theorem gvsd_len : ∀ l : List (Bool × Int), (gvsd l).length = l.length * 2
  | [] => rfl
  | q :: l => by
    have h := gvsd_len l
    show (gvsd l).length + 1 + 1 = (l.length + 1) * 2
    omega
theorem gvsd_get : ∀ (l : List (Bool × Int)) (i : Nat) (g : Bool × Int), l[i]? = some g → (gvsd l)[i * 2]? = some (.bool g.1) ∧ (gvsd l)[i * 2 + 1]? = some (.int .i64 g.2)
  | [], _, _, h => by simp at h
  | q :: l, 0, g, h => by
    have h : q = g := by simpa using h
    subst h
    exact ⟨rfl, rfl⟩
  | q :: l, i + 1, g, h => by
    have := gvsd_get l i g (by simpa using h)
    rw [show (i + 1) * 2 = i * 2 + 1 + 1 by omega]
    exact this
theorem gvsd_back : ∀ (l : List (Bool × Int)) (j : Nat) (u : Value), (gvsd l)[j]? = some u → ∃ i g, l[i]? = some g ∧ ((j = i * 2 ∧ u = .bool g.1) ∨ (j = i * 2 + 1 ∧ u = .int .i64 g.2))
  | [], j, u, h => by simp [gvsd] at h
  | q :: l, 0, u, h => by
    have h : some (Value.bool q.1) = some u := h
    cases h
    exact ⟨0, q, rfl, .inl ⟨rfl, rfl⟩⟩
  | q :: l, 1, u, h => by
    have h : some (Value.int .i64 q.2) = some u := h
    cases h
    exact ⟨0, q, rfl, .inr ⟨rfl, rfl⟩⟩
  | q :: l, j + 2, u, h => by
    have h : (gvsd l)[j]? = some u := h
    obtain ⟨i, g, hg, hh⟩ := gvsd_back l j u h
    refine ⟨i + 1, g, by simpa using hg, ?_⟩
    rcases hh with ⟨e, f⟩ | ⟨e, f⟩
    · exact .inl ⟨by omega, f⟩
    · exact .inr ⟨by omega, f⟩
theorem gvsd_one {l : List (Bool × Int)} {u : Value} (h : u ∈ gvsd l) : u.oneCell' = true := by
  obtain ⟨j, hj⟩ := List.mem_iff_getElem?.1 h
  obtain ⟨i, g, _, ⟨_, rfl⟩ | ⟨_, rfl⟩⟩ := gvsd_back l j u hj <;> rfl
theorem copy_gd {W0 : World} {ao : Option Addr} {gs : List (Bool × Int)} (co : Nat) (hG : GVN W0 ao gs) (hz : ao = none → co = 0) (hn : gs.length * 16 ≤ 140737488355328) :
    ∃ v' W', (Builtin.append_ #[24, 24] 24 #[.slice (some ⟨W0.heap.size, 0, none⟩) 0 0, .slice ao gs.length co]).run Tryz.prog (W0.alloc (.cells #[] 29)) = .ok v' W' ∧ W'.ownsRow W0.heap.size 29 2 v' gs.length (gvsd gs) ∧ Keeps (fun _ => False) W0 W' := by
  obtain ⟨i0, hi0, hz0, hz1, hz2⟩ := givid
  have k0 : Keeps (fun _ => False) W0 (W0.alloc (.cells #[] 29)) := (Keeps.refl _ W0).alloc _
  have o0 : (W0.alloc (.cells #[] 29)).ownsRow W0.heap.size 29 2 (.slice (some ⟨W0.heap.size, 0, none⟩) 0 0) 0 [] := ⟨rfl, .inr ⟨W0.heap.size, 0, #[], rfl, Nat.le_refl _, heap_alloc_new W0 _, Nat.le_refl _, by unfold maxLen; omega, rfl, rfl⟩⟩
  cases ao with
  | none =>
    have hl : gs = [] := by
      cases gs with
      | nil => rfl
      | cons x r => obtain ⟨b, off, e, _⟩ := hG 0 x rfl; cases e
    subst hl
    rw [hz rfl]
    exact ⟨_, _, run_append_owned_none (P := Tryz.prog) (w := W0.alloc (.cells #[] 29)) W0.heap.size 24 24 29 i0 2 gId hi0 _ 0 [] o0, o0, k0⟩
  | some a =>
    have hsrc : ∀ j u, (gvsd gs)[j]? = some u → (W0.alloc (.cells #[] 29)).cell? (a.add j) = some u := fun j u e => by
      obtain ⟨i, g, hg, hh⟩ := gvsd_back gs j u e
      obtain ⟨b, off, e', hc, hd⟩ := hG i g hg
      cases e'
      rw [add_at]
      rcases hh with ⟨rfl, rfl⟩ | ⟨rfl, rfl⟩
      · exact k0.cell hc (fun e => e)
      · rw [← Nat.add_assoc]; exact k0.cell hd (fun e => e)
    obtain ⟨v', w', hr, ho, hgr, _, _⟩ := run_append_own_at (P := Tryz.prog) (w := W0.alloc (.cells #[] 29)) W0.heap.size 24 24 29 i0 _ 2 16 gId hi0 hz0 hz1 hz2 rfl (by decide) _ 0 [] o0 a gs.length co (gvsd gs) (gvsd_len gs) hsrc (fun u hu => gvsd_one hu) (by unfold maxLen; omega) (by omega) k0.size
    rw [Nat.zero_add, List.nil_append] at ho
    exact ⟨v', w', hr, ho, k0.trans' ((Keeps.refl _ _).grown hgr (S := fun i => i = W0.heap.size) (fun i _ e => by simp [Value.ownBlock] at e; exact e.symm)) (fun _ _ e => e) (fun i hi e => by omega)⟩
theorem append_two {W : World} {base k : Nat} {v : Value} {xs : List Int} (hown : W.ownsRow base 2 1 v k (nvs xs)) (hb : base ≤ W.heap.size) (hk : (k + 2) * 8 ≤ 140737488355328) (x y : Int) :
    ∃ v' w', (Builtin.append_ #[23, 23] 23 #[v, .slice (some ⟨W.heap.size, 0, none⟩) 2 2]).run Tryz.prog (W.alloc (.cells #[.int .i64 x, .int .i64 y] 2)) = .ok v' w' ∧ w'.ownsRow base 2 1 v' (k + 2) (nvs (xs ++ [x, y])) ∧ Keeps (fun i => v.ownBlock = some i) W w' := by
  obtain ⟨i0, hi0, hz0, hz1, hz2⟩ := iNumD
  obtain ⟨v', w', hr, ho, hg, _, hbl⟩ := run_append_own_at (P := Tryz.prog) (w := W.alloc (.cells (nvs [x, y]).toArray 2)) base 23 23 2 i0 _ 1 8 uNumsD hi0 hz0 hz1 hz2 rfl (by decide) v k (nvs xs) (((Keeps.refl (fun _ => False) W).alloc _).owns hown (fun _ _ e => e)) ⟨W.heap.size, 0, none⟩ 2 2 (nvs [x, y]) rfl (fun j u hu => by
      rw [add_at]
      have := (CL.made W (nvs [x, y]) 2).c j u hu
      simpa using this) (fun u hu => by
      simp [nvs] at hu
      rcases hu with rfl | rfl <;> rfl) (by unfold maxLen; omega) (by omega) (Nat.le_trans hb (by simp))
  refine ⟨v', w', hr, ?_, ((Keeps.refl _ W).alloc _).grown hg (fun i _ e => e)⟩
  rw [nvs_app]
  exact ho
theorem append_gd {W : World} {base k : Nat} {v : Value} {xs : List (Bool × Int)} (hown : W.ownsRow base 29 2 v k (gvsd xs)) (hb : base ≤ W.heap.size) (hk : (k + 1) * 16 ≤ 140737488355328) (u : Bool) (x : Int) :
    ∃ v' w', (Builtin.append_ #[24, 24] 24 #[v, .slice (some ⟨W.heap.size, 0, none⟩) 1 1]).run Tryz.prog (W.alloc (.cells #[.bool u, .int .i64 x] 29)) = .ok v' w' ∧ w'.ownsRow base 29 2 v' (k + 1) (gvsd (xs ++ [(u, x)])) ∧ Keeps (fun i => v.ownBlock = some i) W w' := by
  obtain ⟨i0, hi0, hz0, hz1, hz2⟩ := givid
  obtain ⟨v', w', hr, ho, hg, _, hbl⟩ := run_append_own_at (P := Tryz.prog) (w := W.alloc (.cells (gvsd [(u, x)]).toArray 29)) base 24 24 29 i0 _ 2 16 gId hi0 hz0 hz1 hz2 rfl (by decide) v k (gvsd xs) (((Keeps.refl (fun _ => False) W).alloc _).owns hown (fun _ _ e => e)) ⟨W.heap.size, 0, none⟩ 1 1 (gvsd [(u, x)]) rfl (fun j y hy => by
      rw [add_at]
      have := (CL.made W (gvsd [(u, x)]) 29).c j y hy
      simpa using this) (fun y hy => gvsd_one hy) (by unfold maxLen; omega) (by omega) (Nat.le_trans hb (by simp))
  refine ⟨v', w', hr, ?_, ((Keeps.refl _ W).alloc _).grown hg (fun i _ e => e)⟩
  unfold gvsd
  rw [List.flatMap_append]
  exact ho
theorem own_some {W : World} {base n size : Nat} {e : TypeId} {v : Value} {l : List Value} (h : W.ownsRow base e size v n l) (hn : 0 < n) : ∃ g cap, v = .slice (some ⟨g, 0, none⟩) n cap ∧ n ≤ cap ∧ base ≤ g ∧ g < W.heap.size ∧ ∀ j u, l[j]? = some u → W.cell? ⟨g, j, none⟩ = some u := by
  have hb := owns_lt' h
  rcases h.2 with ⟨rfl, h0⟩ | ⟨g, cap, cur, rfl, hbg, hgg, hnc, rest⟩
  · have hz : n = 0 := by first | exact h0.1 | omega
    omega
  · refine ⟨g, cap, rfl, hnc, hbg, hb g rfl, fun j u e => ?_⟩
    have := h.cells (g := g) rfl j u e
    rw [add_at, Nat.zero_add] at this
    exact this
theorem num_pre {W : World} {g : Nat} {os ps : List Int} (h : ∀ j u, (nvs (os ++ ps))[j]? = some u → W.cell? ⟨g, j, none⟩ = some u) : NUM W (some ⟨g, 0, none⟩) os := fun i x hx => ⟨g, 0, rfl, by
  rw [Nat.zero_add]
  refine h i _ ?_
  unfold nvs
  rw [List.getElem?_map, List.getElem?_append_left (List.getElem?_eq_some_iff.1 hx).1, hx]
  rfl⟩
theorem gvn_pre {W : World} {g : Nat} {gs ps : List (Bool × Int)} (h : ∀ j u, (gvsd (gs ++ ps))[j]? = some u → W.cell? ⟨g, j, none⟩ = some u) : GVN W (some ⟨g, 0, none⟩) gs := fun i x hx => by
  have e := gvsd_get (gs ++ ps) i x (by rw [List.getElem?_append_left (List.getElem?_eq_some_iff.1 hx).1, hx])
  exact ⟨g, 0, rfl, by rw [Nat.zero_add]; exact h _ _ e.1, by rw [Nat.zero_add]; exact h _ _ e.2⟩
theorem gvn_of_ownsd {W : World} {base n : Nat} {v : Value} {l : List (Bool × Int)} (h : W.ownsRow base 29 2 v n (gvsd l)) (hn : l.length = n) : ∃ a cap, v = .slice a n cap ∧ GVN W a l := by
  by_cases h0 : n = 0
  · subst h0
    have hl : l = [] := List.eq_nil_of_length_eq_zero hn
    subst hl
    rcases h.2 with ⟨rfl, h0⟩ | ⟨g, cap, cur, rfl, _⟩
    · exact ⟨none, 0, rfl, fun i x hi => by simp at hi⟩
    · exact ⟨_, cap, rfl, fun i x hi => by simp at hi⟩
  · obtain ⟨g, cap, rfl, _, _, _, hc⟩ := own_some h (by omega)
    exact ⟨_, cap, rfl, gvn_pre (ps := []) (by rw [List.append_nil]; exact hc)⟩
theorem isl_of_ownsd {W : World} {base n : Nat} {v : Value} {l : List Ins} (h : W.ownsRow base 62 11 v n (icl l)) (hn : l.length = n) : ∃ a cap, v = .slice a n cap ∧ ISL W a l := by
  rcases h.2 with ⟨rfl, h0⟩ | ⟨g, cap, cur, rfl, _⟩
  · have hz : n = 0 := by first | exact h0.1 | omega
    subst hz
    exact ⟨none, 0, rfl, fun i hi => by omega⟩
  · refine ⟨_, cap, rfl, fun i hi => ⟨g, 0, rfl, fun j v hv => ?_⟩⟩
    have e := icl_get l i j v hi hv
    have hc := h.cells (g := g) rfl (i * 11 + j) v e
    rw [add_at] at hc
    rw [Nat.zero_add] at hc ⊢
    exact hc
structure PP (w2 w8 : World) (os : List Int) (gs : List (Bool × Int)) (N M : Nat) (ak aj : Option Addr) (g6 c6 g8 c8 : Nat) : Prop where
  k : Keeps (fun _ => False) w2 w8
  nk : NUM w8 ak os
  gk : GVN w8 aj gs
  nr : NUM w8 (some ⟨g6, 0, none⟩) os
  gr : GVN w8 (some ⟨g8, 0, none⟩) gs
  e7 : w8.cell? ⟨g6, N, none⟩ = some (.int .i64 77)
  e8 : w8.cell? ⟨g6, N + 1, none⟩ = some (.int .i64 78)
  d0 : w8.cell? ⟨g8, M * 2, none⟩ = some (.bool false)
  d1 : w8.cell? ⟨g8, M * 2 + 1, none⟩ = some (.int .i64 77)
  h6 : N + 2 ≤ c6
  h8 : M + 1 ≤ c8
  bk : ∀ b off, ak = some ⟨b, off, none⟩ → b < w8.heap.size
  bj : ∀ b off, aj = some ⟨b, off, none⟩ → b < w8.heap.size
theorem preps {w2 : World} {ao ag : Option Addr} {os : List Int} {gs : List (Bool × Int)} {N M co cg : Nat} (hN : os.length = N) (hM : gs.length = M) (hO : NUM w2 ao os) (hG : GVN w2 ag gs) (hob : (N + 2) * 8 ≤ 140737488355328) (hoz : ao = none → co = 0) (hgb : (M + 1) * 16 ≤ 140737488355328) (hgz : ag = none → cg = 0) :
    ∃ ak ck w3 aj cj w4 a5 c5 w5 g6 c6 w6 a7 c7 w7 g8 c8 w8,
      (Builtin.append_ #[23, 23] 23 #[.slice (some ⟨w2.heap.size, 0, none⟩) 0 0, .slice ao N co]).run Tryz.prog (w2.alloc (.cells #[] 2)) = .ok (.slice ak N ck) w3 ∧
      (Builtin.append_ #[24, 24] 24 #[.slice (some ⟨w3.heap.size, 0, none⟩) 0 0, .slice ag M cg]).run Tryz.prog (w3.alloc (.cells #[] 29)) = .ok (.slice aj M cj) w4 ∧
      (Builtin.append_ #[23, 23] 23 #[.slice (some ⟨w4.heap.size, 0, none⟩) 0 0, .slice ao N co]).run Tryz.prog (w4.alloc (.cells #[] 2)) = .ok (.slice a5 N c5) w5 ∧
      (Builtin.append_ #[23, 23] 23 #[.slice a5 N c5, .slice (some ⟨w5.heap.size, 0, none⟩) 2 2]).run Tryz.prog (w5.alloc (.cells #[.int .i64 77, .int .i64 78] 2)) = .ok (.slice (some ⟨g6, 0, none⟩) (N + 2) c6) w6 ∧
      (Builtin.append_ #[24, 24] 24 #[.slice (some ⟨w6.heap.size, 0, none⟩) 0 0, .slice ag M cg]).run Tryz.prog (w6.alloc (.cells #[] 29)) = .ok (.slice a7 M c7) w7 ∧
      (Builtin.append_ #[24, 24] 24 #[.slice a7 M c7, .slice (some ⟨w7.heap.size, 0, none⟩) 1 1]).run Tryz.prog (w7.alloc (.cells #[.bool false, .int .i64 77] 29)) = .ok (.slice (some ⟨g8, 0, none⟩) (M + 1) c8) w8 ∧
      PP w2 w8 os gs N M ak aj g6 c6 g8 c8 := by
  obtain ⟨v3, w3, r3, o3, k3⟩ := copy_nd co hO hoz (by omega)
  obtain ⟨v4, w4, r4, o4, k4⟩ := copy_gd cg (hG.keep k3) hgz (by omega)
  have k24 := k3.trans k4
  obtain ⟨v5, w5, r5, o5, k5⟩ := copy_nd co (hO.keep k24) hoz (by omega)
  have k25 := k24.trans k5
  rw [hN] at r3 o3 r5 o5
  rw [hM] at r4 o4
  obtain ⟨v6, w6, r6, o6, k6⟩ := append_two o5 k5.size (by omega) 77 78
  have k46 : Keeps (fun _ => False) w4 w6 := k5.trans' k6 (fun _ _ e => e) (fun i hi e => by have := owns_baseD o5 i e; omega)
  have k26 := k24.trans k46
  obtain ⟨v7, w7, r7, o7, k7⟩ := copy_gd cg (hG.keep k26) hgz (by omega)
  rw [hM] at r7 o7
  obtain ⟨v8, w8, r8, o8, k8⟩ := append_gd o7 k7.size (by omega) false 77
  have k68 : Keeps (fun _ => False) w6 w8 := k7.trans' k8 (fun _ _ e => e) (fun i hi e => by have := owns_baseD o7 i e; omega)
  obtain ⟨ak, ck, rfl, nk, bk, _⟩ := num_of_owns o3
  obtain ⟨a5, c5, rfl, _⟩ := num_of_owns o5
  obtain ⟨aj, cj, rfl, gk⟩ := gvn_of_ownsd o4 hM
  obtain ⟨a7, c7, rfl, _⟩ := gvn_of_ownsd o7 hM
  have k38 := (k4.trans k46).trans k68
  have k48 := k46.trans k68
  obtain ⟨g6, c6, rfl, h6, b6, l6, e6⟩ := own_some o6 (by omega)
  obtain ⟨g8, c8, rfl, h8, b8, l8, e8⟩ := own_some o8 (by omega)
  have f6 : ∀ j u, (nvs (os ++ [77, 78]))[j]? = some u → w8.cell? ⟨g6, j, none⟩ = some u := fun j u e => k68.cell (e6 j u e) (fun e => e)
  have q8 := gvsd_get (gs ++ [(false, 77)]) M (false, 77) (by rw [List.getElem?_append_right (by omega), hM, Nat.sub_self]; rfl)
  refine ⟨ak, ck, w3, aj, cj, w4, a5, c5, w5, g6, c6, w6, a7, c7, w7, g8, c8, w8, r3, r4, r5, r6, r7, r8, ⟨k26.trans k68, nk.keep k38, gk.keep k48, num_pre f6, gvn_pre e8, f6 _ _ ?_, f6 _ _ ?_, e8 _ _ q8.1, e8 _ _ q8.2, h6, h8, ?_, ?_⟩⟩
  · rw [nvs_app, List.getElem?_append_right (by unfold nvs; rw [List.length_map]; omega)]
    unfold nvs
    rw [List.length_map, hN, Nat.sub_self]
    rfl
  · rw [nvs_app, List.getElem?_append_right (by unfold nvs; rw [List.length_map]; omega)]
    unfold nvs
    rw [List.length_map, hN, show N + 1 - N = 1 by omega]
    rfl
  · intro b off e
    have := owns_lt' o3 b (bk b off e)
    have := k38.size
    omega
  · intro b off e
    subst e
    have := owns_lt' o4 b rfl
    have := k48.size
    omega
end Go.Proofs.YthchbcfecconbaaGreatDoor

