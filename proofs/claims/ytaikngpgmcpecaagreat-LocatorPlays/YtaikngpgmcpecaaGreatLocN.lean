import Derived.Test.YtaikngpgmcpecaaGreatLocL
namespace Go.Proofs.YtaikngpgmcpecaaGreat
open Go.RowKit

/-- Values in memory. -/
def VL (w : World) (ρ : Nat → Nat) (a : Option Addr) (vs : List Vl) : Prop :=
  vs.length = 0 ∨ ∃ b off, a = some ⟨b, off, none⟩ ∧ ρ b = 0 ∧ ∀ i v, vs[i]? = some v → w.cell? ⟨b, off + i * 3, none⟩ = some (.int .i64 v.num) ∧ w.cell? ⟨b, off + i * 3 + 1, none⟩ = some (.int .i64 v.next) ∧ w.cell? ⟨b, off + i * 3 + 2, none⟩ = some (.bool v.dead)
theorem VL.ext {S : Nat → Prop} {w w' : World} {ρ ρ' : Nat → Nat} {a : Option Addr} {vs : List Vl} (h : VL w ρ a vs) (x : Ext S w w' ρ ρ') (hS : ¬ S 0) : VL w' ρ' a vs := by
  rcases h with h | ⟨b, off, rfl, hb, h⟩
  · exact .inl h
  · rcases Nat.eq_zero_or_pos vs.length with h0 | h0
    · exact .inl h0
    · have n : ¬ S (ρ b) := by rw [hb]; exact hS
      have lb : b < w.heap.size := World.block_lt_of_cell? _ _ (h 0 (vs.getD 0 vl0) (getD_get h0)).1
      exact .inr ⟨b, off, rfl, (x.old b lb).trans hb, fun i v hi => ⟨x.cell (h i v hi).1 n, x.cell (h i v hi).2.1 n, x.cell (h i v hi).2.2 n⟩⟩

/-- The world that New makes, and its memory, with k objects. -/
def nw (vs : List Vl) (c k : Nat) : Ws := ⟨(List.range k).map fun i => c + 2 + i, [⟨-1, -1, -1, c, c + 1⟩], (List.range k).map fun i => ⟨0, i, i, true⟩, vs.take k⟩
def nm (m : Mm) (k : Nat) : Mm := { m with cells := m.cells ++ [(2, 2), (0, 0)] ++ (List.range k).map fun (i : Nat) => ((i : Int), (i : Int)) }
theorem nw_zero (vs : List Vl) (c : Nat) : nw vs c 0 = Ws.beg ⟨[], [], [], []⟩ (-1) (-1) (-1) c := by simp [nw, Ws.beg]
theorem nm_zero (m : Mm) : nm m 0 = (m.make 2).make 0 := by simp [nm, Mm.make]
theorem nm_succ (m : Mm) (k : Nat) : (nm m k).make (k : Int) = nm m (k + 1) := by simp [nm, Mm.make, List.range_succ]
theorem nm_len (m : Mm) (k : Nat) : (nm m k).cells.length = m.cells.length + 2 + k := by simp [nm]; omega
theorem nw_succ (vs : List Vl) (c k : Nat) {v : Vl} (hv : vs[k]? = some v) : { ((nw vs c k).lay 0 k v).use k true with objs := (nw vs c k).objs ++ [c + 2 + k] } = nw vs c (k + 1) := by
  have hk : k < vs.length := by rcases Nat.lt_or_ge k vs.length with h | h; exact h; rw [List.getElem?_eq_none h] at hv; cases hv
  have e : min k vs.length = k := by omega
  simp only [nw, Ws.lay, Ws.use, Ws.lo, List.length_take, e, List.range_succ, List.map_append, List.map_cons, List.map_nil, List.take_add_one, hv, Option.toList_some]
  congr 1
  rw [List.set_append_right _ _ (by simp)]
  simp [List.getD_eq_getElem?_getD]
section
variable {w w' : World} {ρ ρ' : Nat → Nat} {u j wb mb : Nat} {s s' : Ws} {m m' : Mm} {vo va vl vn : Value}
theorem St.start (hm : MJ w ρ u mb m) (hu : u ≠ 0) (hj : j ≠ 0) (hap : ¬ (j ≤ u ∧ u < j + 5)) {w0 : World}
    (h0 : w0 = w.alloc (.cells #[.pointer (some ⟨mb, 0, none⟩), .slice none 0 0, .slice none 0 0, .slice none 0 0, .slice none 0 0] 79)) :
    ∃ ρ', St w0 ρ' u j w.heap.size mb ⟨[], [], [], []⟩ m ∧ Ext (Sr u j) w w0 ρ ρ' := by
  have K : Keeps (fun _ => False) w w0 := by rw [h0]; exact (Keeps.refl _ w).alloc _
  have z : w0.heap.size = w.heap.size + 1 := by rw [h0]; simp
  have x : Ext (fun r => r = j) w w0 ρ (ro ρ w w0 (fun k => k = w.heap.size) j) := ro_ext (K.mono (fun _ _ e => e.elim)) rfl
  refine ⟨ro ρ w w0 (fun k => k = w.heap.size) j, ⟨ro_bnd K.size, hm.ext x (fun e => hap (by omega)), ⟨.slice none 0 0, .slice none 0 0, .slice none 0 0, .slice none 0 0, ?_⟩, hu, hj, hap⟩, x.mono (fun _ e => .inr (by omega))⟩
  refine ⟨ro_new (Nat.le_refl _) rfl (by omega), by rw [h0]; simp, fun o _ => by rw [h0]; simp, ?_, ?_, ?_, ?_⟩ <;> exact ⟨by rw [h0]; simp, World.ownsRow_nil _ _ _ _, by simp [Value.ownBlock]⟩

set_option maxHeartbeats 3200000 in
set_option maxRecDepth 1000000 in
theorem New_ok (hm : MJ w ρ u mb m) (hu : u ≠ 0) (hj : j ≠ 0) (hap : ¬ (j ≤ u ∧ u < j + 5)) {a : Option Addr} {vs : List Vl} (hv : VL w ρ a vs) (cap : Nat) (h1 : 1 ≤ vs.length) (h80 : vs.length ≤ 80) (hr : m.cells.length + 2 + vs.length ≤ 65536) :
    Calls Tryz.prog 14 #[.pointer (some ⟨mb, 0, none⟩), .slice a vs.length cap] w fun e w' => e = .returned (.tuple #[.pointer (some ⟨w.heap.size, 0, none⟩), .int .i64 0]) ∧
      ∃ ρ', St w' ρ' u j w.heap.size mb (nw vs m.cells.length vs.length) (nm m vs.length) ∧ Ext (Sr u j) w w' ρ ρ' := by
  obtain ⟨w0, hw0⟩ : ∃ w0, w0 = w.alloc (.cells #[.pointer (some ⟨mb, 0, none⟩), .slice none 0 0, .slice none 0 0, .slice none 0 0, .slice none 0 0] 79) := ⟨_, rfl⟩
  obtain ⟨ρ0, h0, x0⟩ := St.start hm hu hj hap hw0
  have nS := Sr.not0 h0
  have hro := room_any h0 (c := 2 + (vs.length : Int)) (by omega)
  have d1 : decide ((m.cells.length : Int) ≤ 65536 - (2 + (vs.length : Int))) = true := by simp; omega
  rw [d1] at hro
  have d2 : decide ((vs.length : Int) < 1) = false := by simp; omega
  have d3 : decide ((80 : Int) < (vs.length : Int)) = false := by simp; omega
  have d4 : decide (80 < vs.length) = false := by simp; omega
  have d5 : decide (vs.length < 1) = false := decide_eq_false (by omega)
  obtain ⟨w1, hw1⟩ : ∃ w1, w1 = w0.alloc (.cells #[.int .i64 (-1), .int .i64 (-1), .int .i64 (-1), .int .i64 0, .int .i64 0] 99) := ⟨_, rfl⟩
  have K1 : Keeps (fun _ => False) w0 w1 := by rw [hw1]; exact (Keeps.refl _ w0).alloc _
  obtain ⟨h1', x1⟩ := h0.new K1
  have hbe := begin_att h1' (by simp) (by omega) (-1) (-1) (-1) 0 0 2
  rw [← nw_zero vs, ← nm_zero] at hbe
  have x01 := x0.trans x1
  have V1 : Hid (VL w1 ρ0 a vs) := hv.ext x01 nS
  clear hv h1' hm K1 d1 h0
  generalize hWB : w.heap.size = WB at *
  go_enter Tryz.func14, Tryz.ntmps14
  go_wp2_with fail
  rw [← hw0]
  refine hro.mono ?_
  clear hro hw0
  rintro e w' ⟨rfl, rfl⟩
  go_wp2_with fail
  rw [← hw1]
  refine hbe.mono ?_
  clear hbe hw1
  rintro e w2 ⟨rfl, ρ2, h2, x2⟩
  have V2 : Hid (VL w2 ρ2 a vs) := V1.out.ext x2 nS
  have X2 : Ext (Sr u j) w w2 ρ ρ2 := x01.trans x2
  clear x0 x1 x01 x2 V1 d2 d3 d4 d5
  go_wp2_with fail
  go_loopw [41] (fun iv wr => ∃ (k : Nat) (ρk : Nat → Nat), k ≤ vs.length ∧ iv = .int .i64 (k : Int) ∧ St wr ρk u j WB mb (nw vs m.cells.length k) (nm m k) ∧ Ext (Sr u j) w wr ρ ρk ∧ VL wr ρk a vs) (fun iv _ => vs.length - (intOf iv).toNat)
  case atStart => exact ⟨0, ρ2, Nat.zero_le _, rfl, h2, X2, V2.out⟩
  case round =>
    clear V2 X2 h2
    obtain ⟨k, ρk, hk, rfl, hS, hX, hV⟩ := hrel
    by_cases hlt : k < vs.length
    · have hltI : (k : Int) < (vs.length : Int) := by omega
      have hvk : vs[k]? = some (vs.getD k vl0) := getD_get hlt
      have HV : Hid (VL wr ρk a vs) := hV
      obtain ⟨b, off, rfl, hb0, hcs⟩ := hV.resolve_left (by omega)
      obtain ⟨c0, c1, c2⟩ := hcs k _ hvk
      generalize vs.getD k vl0 = v at *
      obtain ⟨wb_, hwb⟩ : ∃ wb_, wb_ = wr.alloc (.cells #[.int .i64 v.num, .int .i64 v.next, .bool v.dead] 37) := ⟨_, rfl⟩
      have KB : Keeps (fun _ => False) wr wb_ := by rw [hwb]; exact (Keeps.refl _ wr).alloc _
      obtain ⟨hS1, x1⟩ := hS.new KB
      have el : (nw vs m.cells.length k).locs.length = k := by simp [nw]
      have ev : (nw vs m.cells.length k).vals.length = k := by simp [nw]; omega
      have hla := lay_any hS1 (by rw [el]; omega) (by rw [ev]; omega) 0 k v
      rw [el] at hla
      have HS : Hid (St wr ρk u j WB mb (nw vs m.cells.length k) (nm m k)) := hS
      have HX : Hid (Ext (Sr u j) w wr ρ ρk) := hX
      clear hS hX hcs hS1
      go_wp2_with fail
      rw [← hwb]
      refine hla.mono ?_
      clear hla hwb
      rintro e w3 ⟨rfl, ρ3, h3, x3⟩
      obtain ⟨vo, va, vl, vn, hw3⟩ := h3.wj
      have hk3 : k < ((nw vs m.cells.length k).lay 0 k v).locs.length := by simp [Ws.lay, nw]
      obtain ⟨gl, hgl, rl, ll, _, _, _, l3⟩ := hw3.loc hk3
      have hat := atL hw3.pl hk3 hgl
      have zl : w3.frozen? ⟨gl, k * 4 + 3, none⟩ = false := by
        have row := hw3.pl.row
        obtain ⟨aa, cp, e0, hs⟩ := hw3.pl.slice
        obtain ⟨g', e1, e2, _⟩ := hs (by omega)
        rw [hgl] at e2
        cases e2
        rw [e0, e1] at row
        exact row.frozenAt _
      obtain ⟨h4, x4⟩ := h3.setU hw3 hgl hk3 true
      obtain ⟨w4, hw4⟩ : ∃ w4, w4 = w3.setCell ⟨gl, k * 4 + 3, none⟩ (.bool true) := ⟨_, rfl⟩
      rw [← hw4] at h4 x4
      generalize ((nw vs m.cells.length k).lay 0 k v).lo k = L at *
      clear h3 hw3 c0 c1 c2 hk3
      go_wp2_with (go_at_call 40; refine hat.mono ?_; clear hat; rintro e w' ⟨rfl, rfl⟩)
      rw [← hw4]
      clear hw4 l3 zl
      have KD : Keeps (fun _ => False) w4 w4.drew := (Keeps.refl _ w4).drew
      obtain ⟨h5, x5⟩ := h4.new KD
      have hce := cell_any h5 (k : Int) (by rw [nm_len]; omega)
      rw [nm_len, nm_succ] at hce
      clear h4 h5
      go_region_with (first | (go_at_call 42; refine hce.mono ?_; clear hce; rintro e w6 ⟨rfl, ρ6, h6, x6⟩; have hao := saddo h6 (x := m.cells.length + 2 + k) (by simp [Ws.use, Ws.lay, nw]; omega)) | (go_at_call 41; refine hao.mono ?_; clear hao; rintro e w7 ⟨rfl, ρ7, h7, x7⟩))
      all_goals
        (try simp only [Exit.then])
        have xx := ((((x1.trans x3).trans x4).trans x5).trans x6).trans x7
        clear x1 x3 x4 x5 x6 x7 KD h6
        (try go_wp2_with fail)
        go_roundw
        case rel =>
          refine ⟨k + 1, ρ7, by omega, by go_num, ?_, HX.out.trans xx, HV.out.ext xx nS⟩
          rw [← nw_succ vs m.cells.length k hvk]
          exact h7
        case measure => simp [intOf]; omega
    · have hltI : ¬ (k : Int) < (vs.length : Int) := by omega
      obtain rfl : k = vs.length := by omega
      go_wp2_with fail
      go_ret2
      exact ⟨rfl, ρk, hS, hX⟩
end
end Go.Proofs.YtaikngpgmcpecaaGreat
