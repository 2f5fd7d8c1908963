import Derived.Test.YtanmpioplckgbaaDoorShelf
import Derived.Test.YtanmpioplckgbaaDoorTxSt
import Derived.Test.YtanmpioplckgbaaDoorPrY
import Derived.Test.YtanmpioplckgbaaDoorLgN
import Derived.Sort.OwnSortedInts
import Derived.Test.YtanmpioplckgbaaDoorLgS
import Derived.Test.YtanmpioplckgbaaDoorLgP
namespace Go.Proofs.YtanmpioplckgbaaDoor
open Go.RowKit Go.Deep Go.ChangeShapes Go.WideShapes Go.ChangeAt
theorem write_k (B b : Nat) (bs : List Value) (s : ByteArray) (w : World) (h : Lib.IsBuilderF 49 5 B b bs w) (hlen : bs.length + s.size ≤ 140737488355328) (hBw : B ≤ w.heap.size) :
    Calls Tryd.prog 12 #[.pointer (some ⟨b, 0, none⟩), .string s] w fun e w' => e = .returned (.tuple #[.int .i64 s.size, .nilIface]) ∧ (Lib.BuilderAtF 49 5 B b (.pointer (some ⟨b, 0, none⟩)) (bs ++ Lib.strCells s) w' ∧ Below B w w' ∧ Lib.OthersKept 5 (some b) w w') :=
  Any.Builder_WriteString_k { Tryd.lays156 with } Tryd.Builder_Extra_156 B b bs s w h hlen hBw
/-- A builder, in whatever world keeps its blocks. -/
theorem IsB.keep {T e : TypeId} {B b : Nat} {bs : List Value} {w w' : World} (h : Lib.IsBuilderF T e B b bs w) (k : Keeps (fun _ => False) w w') : Lib.IsBuilderF T e B b bs w' := by
  have key : ∀ p, Lib.BuilderAtF T e B b p bs w → Lib.BuilderAtF T e B b p bs w' := fun p ⟨hB, v, hb, hown, hne⟩ => by
    have hlt := (Array.getElem?_eq_some_iff.1 hb).1
    refine ⟨hB, v, by rw [k.block b hlt (fun e => e)]; exact hb, ?_, hne⟩
    refine ⟨hown.1, ?_⟩
    rcases hown.2 with hn | ⟨g, cap, cur, fz, rfl, hb2, hgg, rest⟩
    · exact .inl hn
    · refine .inr ⟨g, cap, cur, fz, rfl, hb2, ?_, rest⟩
      rw [k.block g (Array.getElem?_eq_some_iff.1 hgg).1 (fun e => e)]
      exact hgg
  exact h.elim (fun x => .inl (key _ x)) (fun x => .inr (key _ x))
/-- A new builder. -/
theorem IsB.made (w : World) (T e : TypeId) : Lib.IsBuilderF T e w.heap.size w.heap.size [] (w.alloc (.cells #[.pointer none, .slice none 0 0] T)) :=
  .inl ⟨Nat.le_refl _, .slice none 0 0, Array.getElem?_push_size, World.ownsRowF_nil _ _ _ _, by simp [Value.ownBlock]⟩
/-- What a write leaves alone: all below the builder, and all rows but rows of bytes. -/
theorem keeps_of_others {B : Nat} {w w' : World} (hb : Below B w w') : Keeps (fun k => B ≤ k) w w' :=
  ⟨hb.os, hb.tape, hb.output, hb.size, fun k _ hS => hb.block k (Nat.lt_of_not_le hS)⟩
end Go.Proofs.YtanmpioplckgbaaDoor
namespace Go.Proofs.YtanmpioplckgbaaDoor
open Go.RowKit Go.Deep Go.ChangeShapes Go.WideShapes Go.ChangeAt
/-- The table of the powers of ten. -/
def PW (w : World) : Prop := Lib.TabIs Tryd.prog w "internal/strconv.uint64pow10" .u64 Lib.pow10Tab
theorem gPw : Tryd.prog.globalNamed "internal/strconv.uint64pow10" = some 3 := by kernel_rfl
theorem PW.keep {w w' : World} (h : PW w) (k : Keeps (fun _ => False) w w') : PW w' := Go.Joins.var_stays gPw h (k.below (Nat.le_refl _) (fun _ _ e => e)) (Nat.le_refl _)
theorem cat_cons (c : UInt8) (l : List UInt8) : (⟨#[c]⟩ ++ ⟨l.toArray⟩ : ByteArray) = ⟨(c :: l).toArray⟩ := ba_ext (by rw [ByteArray.data_append, Array.toList_append]; rfl)
theorem cat_app (a b : List UInt8) : (⟨a.toArray⟩ ++ ⟨b.toArray⟩ : ByteArray) = ⟨(a ++ b).toArray⟩ := ba_ext (by rw [ByteArray.data_append, Array.toList_append])
set_option maxHeartbeats 500000 in
theorem source_T {w : World} (r : Bool) (n : Int) (hn : In64 n) (hp : PW w) : Calls Tryd.prog 42 #[.agg #[.bool r, .int .i64 n]] w fun e w' => e = .returned (.string ⟨(srcT r n).toArray⟩) ∧ Keeps (fun _ => False) w w' := by
  have HF : Hid (∀ W, Keeps (fun _ => False) w W → Calls Tryd.prog 24 #[.int .i64 n] W fun e w' => ∃ T : ByteArray, e = .returned (.string T) ∧ Hid (T = ⟨(Lib.itoa n).toArray⟩) ∧ T.size ≤ 20 ∧ Below W.heap.size W w') := fun W k => (format_any n hn W (hp.keep k)).mono (fun e w' h => ⟨_, h.1, rfl, (by have := (round_to n hn).2.2.2; show (Lib.itoa n).toArray.size ≤ 20; simpa using this), h.2⟩)
  obtain ⟨w0, hw0⟩ : ∃ w0, w0 = w.alloc (.cells #[.bool r, .int .i64 n] 27) := ⟨_, rfl⟩
  have k0 : Keeps (fun _ => False) w w0 := by rw [hw0]; exact (Keeps.refl _ w).alloc _
  have m0 : CL w0 w.heap.size [.bool r, .int .i64 n] := by rw [hw0]; exact CL.made w [.bool r, .int .i64 n] 27
  have c0 := m0.c 0 _ rfl
  have c1 := m0.c 1 _ rfl
  clear hp
  have H0 : Hid (_ = _) := hw0
  cases r with
  | true =>
    go_enter Tryd.func42, Tryd.ntmps42
    go_wp2_with (first | (rw [← hw0]; clear hw0) | (go_at_call 24; refine (HF.out _ k0).mono ?_; rintro e w1 ⟨T, rfl, hT, hTs, b1⟩))
    go_ret
    exact ⟨by rw [hT.out, cat_cons]; rfl, k0.trans (.ofBelow b1)⟩
  | false =>
    go_enter Tryd.func42, Tryd.ntmps42
    go_wp2_with (first | (rw [← hw0]; clear hw0) | (go_at_call 24; refine (HF.out _ k0).mono ?_; rintro e w1 ⟨T, rfl, hT, hTs, b1⟩))
    go_ret
    exact ⟨by rw [hT.out]; rfl, k0.trans (.ofBelow b1)⟩
/-- Labels in memory. -/
def LBM (w : World) (b m : Nat) (lb : Nat → List UInt8) : Prop := ∀ j, j < m → w.cell? ⟨b, j, none⟩ = some (.string ⟨(lb j).toArray⟩)
theorem LBM.keep {w w' : World} {b m : Nat} {lb : Nat → List UInt8} (h : LBM w b m lb) (k : Keeps (fun _ => False) w w') : LBM w' b m lb := fun j hj => k.cell (h j hj) (fun e => e)
set_option maxHeartbeats 500000 in
set_option maxRecDepth 100000 in
theorem told_T {w : World} {b m : Nat} {lb : Nat → List UInt8} (q : Ins) (s : Int) (hs : 1 ≤ s ∧ s ≤ 6) (hn : n64 q) {n : Int} (hok : q.oks n s = true) (hm : n < (m : Int)) (hP : PW w) (hR : RT w) (hL : LBM w b m lb) :
    Calls Tryd.prog 27 #[.agg q.cells.toArray, .int .i64 s, .slice (some ⟨b, 0, none⟩) m m] w fun e w' => e = .returned (.string ⟨(tldT q lb s).toArray⟩) ∧ Keeps (fun _ => False) w w' := by
  obtain ⟨cd, dst, oR, oN, xR, xN, yR, yN, op, rel, to⟩ := q
  show Calls Tryd.prog 27 #[.agg #[.int .i64 cd, .int .i64 dst, .bool oR, .int .i64 oN, .bool xR, .int .i64 xN, .bool yR, .int .i64 yN, .int .i64 op, .int .i64 rel, .int .i64 to], .int .i64 s, .slice (some ⟨b, 0, none⟩) m m] w _
  obtain ⟨w0, hw0⟩ : ∃ w0, w0 = w.alloc (.cells #[.int .i64 cd, .int .i64 dst, .bool oR, .int .i64 oN, .bool xR, .int .i64 xN, .bool yR, .int .i64 yN, .int .i64 op, .int .i64 rel, .int .i64 to] 31) := ⟨_, rfl⟩
  have k0 : Keeps (fun _ => False) w w0 := by rw [hw0]; exact (Keeps.refl _ w).alloc _
  have hI : CL w0 w.heap.size [.int .i64 cd, .int .i64 dst, .bool oR, .int .i64 oN, .bool xR, .int .i64 xN, .bool yR, .int .i64 yN, .int .i64 op, .int .i64 rel, .int .i64 to] := by rw [hw0]; exact CL.made w [.int .i64 cd, .int .i64 dst, .bool oR, .int .i64 oN, .bool xR, .int .i64 xN, .bool yR, .int .i64 yN, .int .i64 op, .int .i64 rel, .int .i64 to] _
  have HS : Hid (∀ r n, In64 n → Calls Tryd.prog 42 #[.agg #[.bool r, .int .i64 n]] w0 fun e w' => ∃ T : ByteArray, e = .returned (.string T) ∧ Hid (T = ⟨(srcT r n).toArray⟩) ∧ T.size ≤ 21 ∧ Keeps (fun _ => False) w0 w') := fun r n h => (source_T r n h (hP.keep k0)).mono (fun e w' g => ⟨_, g.1, rfl, (by have := src_len (r := r) h; show (srcT r n).toArray.size ≤ 21; simpa using this), g.2⟩)
  obtain ⟨n1, n2, n3⟩ := hn
  clear hP
  rcases (by omega : s = 1 ∨ s = 2 ∨ s = 3 ∨ s = 4 ∨ s = 5 ∨ s = 6) with rfl | rfl | rfl | rfl | rfl | rfl
  · have hd : rg dst = true := hok
    have hd' : In64 dst := by unfold rg at hd; simp at hd; exact ⟨by omega, by omega⟩
    have c1 := hI.c 1 _ rfl
    clear hI hok
    go_enter Tryd.func27, Tryd.ntmps27
    go_wp2_with (first | (rw [← hw0]; clear hw0) | (go_at_call 42; refine (HS.out _ _ hd').mono ?_; rintro e w1 ⟨T, rfl, hTT, hTs, k1⟩))
    go_ret
    exact ⟨by rw [hTT.out]; rfl, k0.trans k1⟩
  · have c1 := hI.c 2 _ rfl
    have c2 := hI.c 3 _ rfl
    clear hI hok
    go_enter Tryd.func27, Tryd.ntmps27
    go_wp2_with (first | (rw [← hw0]; clear hw0) | (go_at_call 42; refine (HS.out _ _ n1).mono ?_; rintro e w1 ⟨T, rfl, hTT, hTs, k1⟩))
    go_ret
    exact ⟨by rw [hTT.out, cat_cons]; rfl, k0.trans k1⟩
  · have c1 := hI.c 4 _ rfl
    have c2 := hI.c 5 _ rfl
    clear hI hok
    go_enter Tryd.func27, Tryd.ntmps27
    go_wp2_with (first | (rw [← hw0]; clear hw0) | (go_at_call 42; refine (HS.out _ _ n2).mono ?_; rintro e w1 ⟨T, rfl, hTT, hTs, k1⟩))
    go_ret
    exact ⟨by rw [hTT.out]; rfl, k0.trans k1⟩
  · have c1 := hI.c 6 _ rfl
    have c2 := hI.c 7 _ rfl
    clear hI hok
    go_enter Tryd.func27, Tryd.ntmps27
    go_wp2_with (first | (rw [← hw0]; clear hw0) | (go_at_call 42; refine (HS.out _ _ n3).mono ?_; rintro e w1 ⟨T, rfl, hTT, hTs, k1⟩))
    go_ret
    exact ⟨by rw [hTT.out]; rfl, k0.trans k1⟩
  · have hr : isRel rel = true := hok
    obtain ⟨i, rfl⟩ : ∃ i : Nat, rel = (i : Int) := ⟨rel.toNat, by unfold isRel at hr; simp at hr; omega⟩
    have hi : 1 ≤ i ∧ i ≤ 6 := by unfold isRel at hr; simp at hr; omega
    have hN := relName_in i hi.1 hi.2 w0 (k0.cell (hR i (by omega)) (fun e => e))
    have c1 := hI.c 9 _ rfl
    clear hI hok hr
    have e5 : (⟨(tldT ⟨cd, dst, oR, oN, xR, xN, yR, yN, op, (i : Int), to⟩ lb 5).toArray⟩ : ByteArray) = relT i := by
      show (⟨(relT ((i : Int).toNat)).data.toList.toArray⟩ : ByteArray) = relT i
      rw [Int.toNat_natCast]
    rw [e5]
    go_enter Tryd.func27, Tryd.ntmps27
    go_wp2_with (first | (rw [← hw0]; clear hw0) | (go_at_call 43; refine hN.mono ?_; rintro e w1 ⟨rfl, rfl⟩))
    go_ret
    exact ⟨rfl, k0⟩
  · have ht : 0 ≤ to ∧ to ≤ n := by
      have : (decide (0 ≤ to) && decide (to ≤ n)) = true := hok
      simpa using this
    obtain ⟨i, rfl⟩ : ∃ i : Nat, to = (i : Int) := ⟨to.toNat, by omega⟩
    have hc := k0.cell (hL i (by omega)) (fun e => e)
    have him : (i : Int) < (m : Int) := by omega
    have hi0 : (0 : Int) ≤ (i : Int) := by omega
    have c1 := hI.c 10 _ rfl
    clear hI hok ht hL
    go_enter Tryd.func27, Tryd.ntmps27
    go_wp2_with (first | (rw [← hw0]; clear hw0))
    go_ret
    exact ⟨rfl, k0⟩
end Go.Proofs.YtanmpioplckgbaaDoor
namespace Go.Proofs.YtanmpioplckgbaaDoor
open Go.RowKit Go.Deep Go.ChangeShapes Go.WideShapes Go.ChangeAt
theorem st0 : (Tryd.prog.info? 9).map (fun i => (i.zero, i.size, i.bytes)) = some (some (.string ⟨#[]⟩), 1, 16) := by kernel_rfl
theorem sti : ∃ i, Tryd.prog.info? 9 = some i ∧ i.zero = some (.string ⟨#[]⟩) ∧ i.size = 1 ∧ i.bytes = 16 := by
  have h := st0
  cases hq : Tryd.prog.info? 9 with
  | none => rw [hq] at h; cases h
  | some i =>
    rw [hq] at h
    injection h with h
    injection h with h1 h2
    injection h2 with h2 h3
    exact ⟨i, rfl, h1, h2, h3⟩
theorem stI : Tryd.prog.underlying 50 = some (.slice 9) := by kernel_rfl
def svs (l : List (List UInt8)) : List Value := l.map (fun w => .string ⟨w.toArray⟩)
theorem append_st {W : World} {base k : Nat} {v : Value} {xs : List (List UInt8)} (hown : W.ownsRow base 9 1 v k (svs xs)) (hb : base ≤ W.heap.size) (hk : (k + 1) * 16 ≤ 140737488355328) (x : List UInt8) :
    ∃ v' w', (Builtin.append_ #[50, 50] 50 #[v, .slice (some ⟨W.heap.size, 0, none⟩) 1 1]).run Tryd.prog (W.alloc (.cells #[.string ⟨x.toArray⟩] 9)) = .ok v' w' ∧ w'.ownsRow base 9 1 v' (k + 1) (svs (xs ++ [x])) ∧ Keeps (fun i => v.ownBlock = some i) W w' := by
  obtain ⟨i0, hi0, hz0, hz1, hz2⟩ := sti
  obtain ⟨v', w', hr, ho, hg, _, hbl⟩ := run_append_own_at (P := Tryd.prog) (w := W.alloc (.cells (svs [x]).toArray 9)) base 50 50 9 i0 _ 1 16 stI hi0 hz0 hz1 hz2 rfl (by decide) v k (svs xs) (((Keeps.refl (fun _ => False) W).alloc _).owns hown (fun _ _ e => e)) ⟨W.heap.size, 0, none⟩ 1 1 (svs [x]) rfl (fun j u hu => by
      rw [add_at]
      have := (CL.made W (svs [x]) 9).c j u hu
      simpa using this) (fun u hu => by
      simp [svs] at hu
      rcases hu with rfl
      rfl) (by unfold maxLen; omega) (by omega) (Nat.le_trans hb (by simp))
  refine ⟨v', w', hr, ?_, ((Keeps.refl _ W).alloc _).grown hg (fun i _ e => e)⟩
  unfold svs
  rw [List.map_append]
  simpa [svs] using ho
theorem own_one {w : World} {base g : Nat} {T : TypeId} {v : Value} (hb : base ≤ g) (hg : w.heap[g]? = some (.cells #[v] T (0, 0))) : w.ownsRow base T 1 (.slice (some ⟨g, 0, none⟩) 1 1) 1 [v] :=
  ⟨rfl, .inr ⟨g, 1, #[v], rfl, hb, hg, Nat.le_refl _, by unfold maxLen; omega, rfl, rfl⟩⟩
def lineT3 (f : Func) : Code := match f.body with | some (.seq _ (.seq _ (.seq _ t))) => t | _ => .skip
set_option maxHeartbeats 1000000 in
set_option maxRecDepth 100000 in
theorem line_tail {w00 w : World} {R : Ending → World → Prop} {n : Int} {ib b m c : Nat} {lb : Nat → List UInt8} {q : Ins} {nm : List UInt8} {v x0 x3 x4 x6 x7 x8 x9 x10 x11 x12 x13 x14 x15 x16 x17 x18 x19 x20 x21 x22 x23 x24 x25 x26 x27 x28 x29 x30 x31 x32 x33 x34 x35 x36 x37 x38 x39 x40 x41 : Value} (hc : q.code = (c : Int)) (h1 : 1 ≤ c ∧ c ≤ 10) (hok : ∀ s ∈ slo c, q.oks n s = true) (hn : n64 q) (hm : n < (m : Int)) (hT : LT w00) (hP : PW w00) (hL : LBM w00 b m lb) (k00 : Keeps (fun _ => False) w00 w) (hI : CL w00 ib q.cells)
    (hown : w.ownsRow w00.heap.size 9 1 v 1 (svs [nm]))
    (hlen : (Lib.join (nm :: (slo c).map (tldT q lb)) [32]).length ≤ 4096)
    (hR : ∀ w', Keeps (fun _ => False) w00 w' → R (.returned (.string ⟨(Lib.join (nm :: (slo c).map (tldT q lb)) [32]).toArray⟩)) w') :
    (lineT3 Tryd.f13).wp Tryd.prog (bodyPost Tryd.prog Tryd.f13 R) { tmps := #[x0, .slice (some ⟨b, 0, none⟩) m m, .pointer (some ⟨ib, 0, none⟩), x3, x4, v, x6, x7, x8, x9, x10, x11, x12, x13, x14, x15, x16, x17, x18, x19, x20, x21, x22, x23, x24, x25, x26, x27, x28, x29, x30, x31, x32, x33, x34, x35, x36, x37, x38, x39, x40, x41], defers := [] } w := by
  obtain ⟨sv, hv, a, cap, rfl, hl⟩ := hT.sh c h1.1 h1.2
  have hv0 := k00.cell hv (fun e => e)
  have c0 := (hI.keep (by show 0 < 11; decide) k00 (fun e => e)).c 0 _ rfl
  rw [hc] at c0
  have sl := slo_le c
  obtain ⟨sl1, sl2⟩ := sl
  have hSE : Hid ((slo c).length ≤ 4) := sl1
  have HLen : Hid (_ ≤ 4096) := hlen
  clear hlen
  have HR : Hid (∀ w', Keeps (fun _ => False) w00 w' → R (.returned (.string ⟨(Lib.join (nm :: (slo c).map (tldT q lb)) [32]).toArray⟩)) w') := hR
  clear hR
  generalize hN : (slo c).length = N at *
  dsimp only [lineT3, Tryd.f13]
  go_wp2_with fail
  go_loopw [5, 28] (fun vv iv Wr => ∃ (k : Nat) (u : Value), u = vv ∧ iv = .int .i64 (k : Int) ∧ k ≤ N ∧ Wr.ownsRow w00.heap.size 9 1 vv (k + 1) (svs (nm :: ((slo c).take k).map (tldT q lb))) ∧ Keeps (fun _ => False) w00 Wr) (fun _ iv _ => N - (intOf iv).toNat)
  case atStart => exact ⟨0, v, rfl, rfl, Nat.zero_le _, hown, k00⟩
  case round =>
    obtain ⟨k, v2, rfl, rfl, hk, hown', kr⟩ := hrel
    clear hown
    by_cases hlt : k < N
    · obtain ⟨x, hx⟩ : ∃ x, (slo c)[k]? = some x := ⟨_, List.getElem?_eq_getElem (by omega)⟩
      obtain ⟨gb, off, rfl, hcell⟩ := hl k x hx
      have hx6 := sl2 x (List.mem_of_getElem? hx)
      have hltI : decide ((k : Int) < (N : Int)) = true := by simp; omega
      have hltN : (k : Int) < (N : Int) := by omega
      have hcell := kr.cell hcell (fun e => e)
      have hI' := hI.keep (by show 0 < 11; decide) kr (fun e => e)
      have hRun := run_ins hI'
      have hto := told_T (w := wr) (b := b) (m := m) (lb := lb) q x hx6 hn (hok x (List.mem_of_getElem? hx)) hm (hP.keep kr) (hT.keep kr).rt (hL.keep kr)
      have HT : Hid ((slo c).take (k + 1) = (slo c).take k ++ [x]) := by show _ = _; rw [List.take_add_one, hx, Option.toList_some]
      generalize hz : tldT q lb x = z at *
      have HZ : Hid (_ = _) := hz
      clear hI' hI hl hv hv0 c0 hT hP hL hz hok
      have app := fun W (kk : Keeps (fun _ => False) wr W) => append_st (W := W) (kk.owns hown' (fun _ _ e => e)) (Nat.le_trans kr.size kk.size) (by have := hSE.out; omega) z
      have HA : Hid (∀ W, Keeps (fun _ => False) wr W → ∃ v' w', (Builtin.append_ #[50, 50] 50 #[v2, .slice (some ⟨W.heap.size, 0, none⟩) 1 1]).run Tryd.prog (W.alloc (.cells #[.string ⟨z.toArray⟩] 9)) = .ok v' w' ∧ w'.ownsRow w00.heap.size 9 1 v' (k + 1 + 1) (svs ((nm :: ((slo c).take k).map (tldT q lb)) ++ [z])) ∧ Keeps (fun i => v2.ownBlock = some i) W w') := app
      clear app
      go_wp2_with (first | (refine wpList_load_run rfl 31 _ rfl ⟨ib, 0, none⟩ rfl _ hRun ?_; clear hRun) | (go_at_call 27; refine hto.mono ?_; clear hto; rintro e wn ⟨rfl, kn⟩; obtain ⟨v', w', hr, ho, ka⟩ := HA.out wn kn) | (at_builtin; refine wpList_append_run' rfl _ _ _ rfl _ _ _ w' rfl rfl hr ?_; clear hr))
      go_roundw
      case rel => exact ⟨k + 1, v', rfl, by go_num, by omega, by rw [HT.out, List.map_append, List.map_cons, List.map_nil, HZ.out]; exact ho, (kr.trans kn).trans' ka (fun _ _ e => e) (fun i hi e => by have := owns_base hown' i e; omega)⟩
      case measure => simp [intOf]; omega
    · obtain rfl : k = N := by omega
      have hltI : decide ((k : Int) < (k : Int)) = false := by simp
      have eT : (slo c).take k = slo c := by rw [← hN]; exact List.take_length
      rw [eT] at hown'
      obtain ⟨g, cap', hg⟩ : ∃ g cap', v2 = .slice (some ⟨g, 0, none⟩) (k + 1) cap' ∧ k + 1 ≤ cap' ∧ g < wr.heap.size ∧ ∀ j x, (svs (nm :: (slo c).map (tldT q lb)))[j]? = some x → wr.cell? ⟨g, 0 + j, none⟩ = some x := by
        rcases hown'.2 with ⟨_, h0⟩ | ⟨g, cap', cur, rfl, hb, hgg, hle, rest⟩
        · omega
        · exact ⟨g, cap', rfl, hle, (Array.getElem?_eq_some_iff.1 hgg).1, fun j x hx => by have := hown'.cells (g := g) rfl j x hx; rwa [add_at] at this⟩
      obtain ⟨rfl, hcap, hglt, hcells⟩ := hg
      have hxl : ((nm :: (slo c).map (tldT q lb)).map (fun w => (⟨w.toArray⟩ : ByteArray))).length = k + 1 := by simp [hN]
      have hxm : ((nm :: (slo c).map (tldT q lb)).map (fun w => (⟨w.toArray⟩ : ByteArray))).map (·.data.toList) = nm :: (slo c).map (tldT q lb) := by
        rw [List.map_map]
        have : ((fun x : ByteArray => x.data.toList) ∘ fun w : List UInt8 => (⟨w.toArray⟩ : ByteArray)) = id := by funext w; simp
        rw [this, List.map_id]
      have hJ := Tryd.strings_Join g 0 cap' ((nm :: (slo c).map (tldT q lb)).map (fun w => (⟨w.toArray⟩ : ByteArray))) ⟨#[32]⟩ wr (fun j x hx => hcells j _ (by unfold svs; rw [List.getElem?_map] at hx ⊢; cases hq : (nm :: (slo c).map (tldT q lb))[j]? with | none => rw [hq] at hx; cases hx | some y => rw [hq] at hx; simp at hx ⊢; rw [← hx])) hglt (by rw [hxl]; have := hSE.out; omega) (by rw [hxl]; exact hcap) (by rw [hxm]; exact Nat.le_trans HLen.out (by decide))
      rw [hxl, hxm] at hJ
      have hJ : Calls Tryd.prog 28 #[.slice (some ⟨g, 0, none⟩) (k + 1) cap', .string ⟨#[32]⟩] wr fun e w' => e = .returned (.string ⟨(Lib.join (nm :: (slo c).map (tldT q lb)) [32]).toArray⟩) ∧ Below wr.heap.size wr w' := hJ
      generalize Lib.join (nm :: (slo c).map (tldT q lb)) [32] = J at *
      clear hcells hown' hl hv hv0 c0 hT hP hL hI hok eT hxl hxm
      go_wp2_with (go_at_call 28; refine hJ.mono ?_; clear hJ; rintro e wn ⟨rfl, bn⟩)
      exact HR.out _ (kr.trans (.ofBelow bn))
set_option maxHeartbeats 1000000 in
set_option maxRecDepth 100000 in
theorem line_T {w : World} {b m c : Nat} {lb : Nat → List UInt8} {n : Int} (q : Ins) (hc : q.code = (c : Int)) (h1 : 1 ≤ c ∧ c ≤ 10) (hq : q.cab n c = true) (hn : n64 q) (hm : n < (m : Int)) (hT : LT w) (hNT : NT w) (hP : PW w) (hL : LBM w b m lb) (hlen : (lineT q lb).length ≤ 4096) :
    Calls Tryd.prog 13 #[.agg q.cells.toArray, .slice (some ⟨b, 0, none⟩) m m] w fun e w' => e = .returned (.string ⟨(lineT q lb).toArray⟩) ∧ Keeps (fun _ => False) w w' := by
  have hok : ∀ s ∈ slo c, q.oks n s = true := by
    unfold Ins.cab at hq
    simp only [Bool.and_eq_true] at hq
    exact List.all_eq_true.1 hq.1.2
  have hop : c = 6 → isOp q.op = true := fun e => by
    unfold Ins.cab at hq
    simp only [Bool.and_eq_true] at hq
    have := hq.1.1
    rwa [if_pos e] at this
  have hln : lineT q lb = Lib.join (nmT q :: (slo c).map (tldT q lb)) [32] := by
    unfold lineT wrdsT
    rw [show q.code.toNat = c by omega]
  rw [hln] at hlen ⊢
  have hnmT : nmT q = if c = 6 then (opT q.op.toNat).data.toList else (shT c).data.toList := by
    unfold nmT
    rw [show q.code.toNat = c by omega]
    by_cases e : c = 6
    · rw [if_pos e, if_pos (by omega)]
    · rw [if_neg e, if_neg (by omega)]
  obtain ⟨cd, dst, oR, oN, xR, xN, yR, yN, op, rel, to⟩ := q
  have hc' : cd = (c : Int) := hc
  subst hc'
  show Calls Tryd.prog 13 #[.agg #[.int .i64 (c : Int), .int .i64 dst, .bool oR, .int .i64 oN, .bool xR, .int .i64 xN, .bool yR, .int .i64 yN, .int .i64 op, .int .i64 rel, .int .i64 to], .slice (some ⟨b, 0, none⟩) m m] w _
  obtain ⟨W1, hW1⟩ : ∃ W1, W1 = w.alloc (.cells #[.int .i64 (c : Int), .int .i64 dst, .bool oR, .int .i64 oN, .bool xR, .int .i64 xN, .bool yR, .int .i64 yN, .int .i64 op, .int .i64 rel, .int .i64 to] 31) := ⟨_, rfl⟩
  have k1 : Keeps (fun _ => False) w W1 := by rw [hW1]; exact (Keeps.refl _ w).alloc _
  have hI1 : CL W1 w.heap.size [.int .i64 (c : Int), .int .i64 dst, .bool oR, .int .i64 oN, .bool xR, .int .i64 xN, .bool yR, .int .i64 yN, .int .i64 op, .int .i64 rel, .int .i64 to] := by rw [hW1]; exact CL.made w [.int .i64 (c : Int), .int .i64 dst, .bool oR, .int .i64 oN, .bool xR, .int .i64 xN, .bool yR, .int .i64 yN, .int .i64 op, .int .i64 rel, .int .i64 to] _
  have e0 := hI1.c 0 _ rfl
  have e8 := hI1.c 8 _ rfl
  have hnm := k1.cell (hNT c h1.1 h1.2) (fun e => e)
  obtain ⟨W2, hW2⟩ : ∃ W2, W2 = W1.alloc (.cells #[.string (shT c)] 9) := ⟨_, rfl⟩
  have k2 : Keeps (fun _ => False) W1 W2 := by rw [hW2]; exact (Keeps.refl _ W1).alloc _
  have g2 : W2.heap[W1.heap.size]? = some (.cells #[.string (shT c)] 9 (0, 0)) := by rw [hW2]; exact Array.getElem?_push_size
  have hs1 := h1.1
  have hs2 := h1.2
  by_cases h6 : c = 6
  · have b3 : ((c : Int) == 6) = true := by simp; omega
    have ho := hop h6
    obtain ⟨i, hi⟩ : ∃ i : Nat, op = (i : Int) := ⟨op.toNat, by have : isOp op = true := ho; unfold isOp at this; simp at this; omega⟩
    subst hi
    have hi : 1 ≤ i ∧ i ≤ 12 := by have : isOp (i : Int) = true := ho; unfold isOp at this; simp at this; omega
    have hN := opName_in i hi.1 hi.2 W2 ((k1.trans k2).cell (hT.ot i (by omega)) (fun e => e))
    have m2 : CL W2 W1.heap.size [.string (shT c)] := by rw [hW2]; exact CL.made W1 [.string (shT c)] 9
    have e8' := (hI1.keep (by show 0 < 11; decide) k2 (fun e => e)).c 8 _ rfl
    have e0' := (hI1.keep (by show 0 < 11; decide) k2 (fun e => e)).c 0 _ rfl
    have z0 := m2.z 0 (by show 0 < 1; decide)
    have y0 := m2.c 0 _ rfl
    have h6H : Hid (c = 6) := h6
    clear h6 hop ho
    go_enter Tryd.func13, Tryd.ntmps13
    refine wp_seq_k (fun K hK => ?_)
    have hKH : Hid _ := hK
    clear hK
    go_wp2_with fail
    refine hKH.out _ _ ?_
    clear hKH K
    rw [← hW1]
    clear hW1
    refine wp_seq_k (fun K hK => ?_)
    have hKH : Hid _ := hK
    clear hK
    go_wp2_with fail
    refine hKH.out _ _ ?_
    clear hKH K
    rw [← hW2]
    clear hW2
    refine wp_seq_k (fun K hK => ?_)
    have hKH : Hid _ := hK
    clear hK
    go_wp2_with (go_at_call 26; refine hN.mono ?_; clear hN; rintro e wn ⟨rfl, rfl⟩)
    refine hKH.out _ _ ?_
    clear hKH K
    have kS : Keeps (fun _ => False) W1 (wn.setCell ⟨W1.heap.size, 0, none⟩ (.string (opT i))) := k2.setCell (fun h => absurd h (Nat.lt_irrefl _)) _
    have g3 : (wn.setCell ⟨W1.heap.size, 0, none⟩ (.string (opT i))).heap[W1.heap.size]? = some (.cells #[.string (opT i)] 9 (0, 0)) := by simp [World.setCell, Array.getElem?_modify, g2]
    have eo : svs [nmT ⟨(c : Int), dst, oR, oN, xR, xN, yR, yN, (i : Int), rel, to⟩] = [.string (opT i)] := by
      rw [hnmT, if_pos h6H.out]
      show [Value.string ⟨(opT ((i : Int).toNat)).data.toList.toArray⟩] = _
      rw [Int.toNat_natCast]
    exact line_tail (q := ⟨(c : Int), dst, oR, oN, xR, xN, yR, yN, (i : Int), rel, to⟩) rfl h1 hok hn hm (hT.keep k1) (hP.keep k1) (hL.keep k1) kS hI1 (by rw [eo]; exact own_one (Nat.le_refl _) g3) hlen (fun w' k => ⟨rfl, k1.trans k⟩)
  · have b3 : ((c : Int) == 6) = false := by simp; omega
    have h6H : Hid (¬ c = 6) := h6
    have e0' := (hI1.keep (by show 0 < 11; decide) k2 (fun e => e)).c 0 _ rfl
    clear h6 hop
    go_enter Tryd.func13, Tryd.ntmps13
    refine wp_seq_k (fun K hK => ?_)
    have hKH : Hid _ := hK
    clear hK
    go_wp2_with fail
    refine hKH.out _ _ ?_
    clear hKH K
    rw [← hW1]
    clear hW1
    refine wp_seq_k (fun K hK => ?_)
    have hKH : Hid _ := hK
    clear hK
    go_wp2_with fail
    refine hKH.out _ _ ?_
    clear hKH K
    rw [← hW2]
    clear hW2
    refine wp_seq_k (fun K hK => ?_)
    have hKH : Hid _ := hK
    clear hK
    go_wp2_with fail
    refine hKH.out _ _ ?_
    clear hKH K
    have eo : svs [nmT ⟨(c : Int), dst, oR, oN, xR, xN, yR, yN, op, rel, to⟩] = [.string (shT c)] := by
      rw [hnmT, if_neg h6H.out]
      show [Value.string ⟨(shT c).data.toList.toArray⟩] = _
      cases shT c; simp
    exact line_tail (q := ⟨(c : Int), dst, oR, oN, xR, xN, yR, yN, op, rel, to⟩) rfl h1 hok hn hm (hT.keep k1) (hP.keep k1) (hL.keep k1) k2 hI1 (by rw [eo]; exact own_one (Nat.le_refl _) g2) hlen (fun w' k => ⟨rfl, k1.trans k⟩)
end Go.Proofs.YtanmpioplckgbaaDoor
namespace Go.Proofs.YtanmpioplckgbaaDoor
open Go.RowKit Go.Deep Go.ChangeShapes Go.WideShapes Go.ChangeAt
/-! Numbers in a list of the call's own. -/
theorem in0 : (Tryd.prog.info? 3).map (fun i => (i.zero, i.size, i.bytes)) = some (some (.int .i64 0), 1, 8) := by kernel_rfl
theorem ini : ∃ i, Tryd.prog.info? 3 = some i ∧ i.zero = some (.int .i64 0) ∧ i.size = 1 ∧ i.bytes = 8 := by
  have h := in0
  cases hq : Tryd.prog.info? 3 with
  | none => rw [hq] at h; cases h
  | some i =>
    rw [hq] at h
    injection h with h
    injection h with h1 h2
    injection h2 with h2 h3
    exact ⟨i, rfl, h1, h2, h3⟩
theorem inI : Tryd.prog.underlying 65 = some (.slice 3) := by kernel_rfl
def ivs (l : List Int) : List Value := l.map (Value.int .i64)
theorem append_in {W : World} {base k : Nat} {v : Value} {xs : List Int} (hown : W.ownsRow base 3 1 v k (ivs xs)) (hb : base ≤ W.heap.size) (hk : (k + 1) * 8 ≤ 140737488355328) (x : Int) :
    ∃ v' w', (Builtin.append_ #[65, 65] 65 #[v, .slice (some ⟨W.heap.size, 0, none⟩) 1 1]).run Tryd.prog (W.alloc (.cells #[.int .i64 x] 3)) = .ok v' w' ∧ w'.ownsRow base 3 1 v' (k + 1) (ivs (xs ++ [x])) ∧ Keeps (fun i => v.ownBlock = some i) W w' := by
  obtain ⟨i0, hi0, hz0, hz1, hz2⟩ := ini
  obtain ⟨v', w', hr, ho, hg, _, hbl⟩ := run_append_own_at (P := Tryd.prog) (w := W.alloc (.cells (ivs [x]).toArray 3)) base 65 65 3 i0 _ 1 8 inI hi0 hz0 hz1 hz2 rfl (by decide) v k (ivs xs) (((Keeps.refl (fun _ => False) W).alloc _).owns hown (fun _ _ e => e)) ⟨W.heap.size, 0, none⟩ 1 1 (ivs [x]) rfl (fun j u hu => by
      rw [add_at]
      have := (CL.made W (ivs [x]) 3).c j u hu
      simpa using this) (fun u hu => by
      simp [ivs] at hu
      rcases hu with rfl
      rfl) (by unfold maxLen; omega) (by omega) (Nat.le_trans hb (by simp))
  refine ⟨v', w', hr, ?_, ((Keeps.refl _ W).alloc _).grown hg (fun i _ e => e)⟩
  unfold ivs
  rw [List.map_append]
  simpa [ivs] using ho
/-- slices.Sort on such a list. -/
theorem sort_own {w : World} {base : Nat} {v : Value} {zs : List Int} (hown : w.ownsRow base 3 1 v zs.length (ivs zs)) (hz : zs.length ≤ 64) :
    Calls Tryd.prog 22 #[v] w fun e w' => e = .returned (.tuple #[]) ∧ w'.ownsRow base 3 1 v zs.length (ivs (zs.mergeSort fun x y => decide (x ≤ y))) ∧ Keeps (fun k => v.ownBlock = some k) w w' := by
  rcases hown.2 with ⟨rfl, h0⟩ | ⟨g, cap, cur, rfl, hb, hgg, hle, hcap, hcur, htk⟩
  · have hz0 : zs = [] := List.eq_nil_of_length_eq_zero h0
    subst hz0
    refine (Tryd.slices_Sort_int_none none 0 w).mono ?_
    rintro e w' ⟨rfl, rfl⟩
    exact ⟨rfl, ⟨by simp [ivs], .inl ⟨rfl, rfl⟩⟩, Keeps.refl _ _⟩
  · rw [Nat.mul_one] at htk
    have hH := holds_of_blockI (ss := zs) hgg htk
    refine (Tryd.slices_Sort_int g 0 cap zs w hH (Array.getElem?_eq_some_iff.1 hgg).1 (by omega)).mono ?_
    rintro e w' ⟨rfl, n, os, rfl⟩
    refine ⟨rfl, ownsRow_sortedI (by rw [List.length_mergeSort]) hb hgg hle hcap hcur, (Keeps.refl _ w).grown (grownBy_sortedI _) (fun i _ e => by injection e with e; subst e; rfl)⟩
/-- slices.Compact. -/
theorem compact_own {w : World} {base : Nat} {v : Value} {zs : List Int} (hown : w.ownsRow base 3 1 v zs.length (ivs zs)) (hz : zs.length ≤ 64) :
    Calls Tryd.prog 23 #[v] w fun e w' => ∃ a cap, e = .returned (.slice a (Lib.compact zs).length cap) ∧ (∀ j x, (Lib.compact zs)[j]? = some x → ∃ g, a = some ⟨g, 0, none⟩ ∧ w'.cell? ⟨g, j, none⟩ = some (.int .i64 x) ∧ v.ownBlock = some g) ∧ Keeps (fun k => v.ownBlock = some k) w w' := by
  rcases hown.2 with ⟨rfl, h0⟩ | ⟨g, cap, cur, rfl, hb, hgg, hle, hcap, hcur, htk⟩
  · have hz0 : zs = [] := List.eq_nil_of_length_eq_zero h0
    subst hz0
    refine (Tryd.slices_Compact_int_empty none 0 w).mono ?_
    rintro e w' ⟨rfl, rfl⟩
    exact ⟨none, 0, rfl, fun j x hx => by simp [Lib.compact, Lib.compactUpTo] at hx, Keeps.refl _ _⟩
  · rw [Nat.mul_one] at htk
    have hH := holds_of_blockI (ss := zs) hgg htk
    have hlt := (Array.getElem?_eq_some_iff.1 hgg).1
    have hcl : (Lib.compact zs).length ≤ zs.length := by
      unfold Lib.compact Lib.compactUpTo
      rw [List.length_map]
      exact Nat.le_trans (List.length_filter_le _ _) (by simp)
    refine (Tryd.slices_Compact_int g 0 cap zs w hH (by omega) hle).mono ?_
    rintro e w' ⟨rfl, q, rfl⟩
    refine ⟨_, _, rfl, fun j x hx => ⟨g, rfl, ?_, rfl⟩, ?_⟩
    · have hj : j < (Lib.compact zs).length := (List.getElem?_eq_some_iff.1 hx).1
      have := Sort.cell?_putRow (Value.int .i64) (Sort.ahead w q) g 0 zs.toArray (Lib.compact zs ++ List.replicate (zs.length - (Lib.compact zs).length) 0).toArray hH (by simp; omega) j (by simp; omega)
      rw [Nat.zero_add] at this
      rw [this]
      have e2 : (Lib.compact zs ++ List.replicate (zs.length - (Lib.compact zs).length) (0 : Int)).toArray[j]! = x := by
        rw [getElem!_pos _ j (by simp; omega)]
        simp only [List.getElem_toArray]
        rw [List.getElem_append_left hj]
        exact (List.getElem?_eq_some_iff.1 hx).2
      rw [e2]
    · refine ⟨rfl, rfl, rfl, by simp [Sort.putRow, Sort.mapBlock, Sort.ahead], fun k _ hk => ?_⟩
      have : g ≠ k := fun e => hk (by rw [e]; rfl)
      simp [Sort.putRow, Sort.mapBlock, Sort.ahead, Array.getElem?_modify, this]
/-! The labels' list. -/
structure SLB (w : World) (B n : Nat) (f : Nat → List UInt8) : Prop where
  c : ∀ i, i < n → w.cell? ⟨B, i, none⟩ = some (.string ⟨(f i).toArray⟩)
  z : ∀ i, i < n → w.frozen? ⟨B, i, none⟩ = false
  t : ∃ cur x, w.heap[B]? = some (.cells cur 9 x)
theorem SLB.lt {w : World} {B n : Nat} {f : Nat → List UInt8} (h : SLB w B n f) : B < w.heap.size := by
  obtain ⟨cur, x, e⟩ := h.t
  exact (Array.getElem?_eq_some_iff.1 e).1
theorem SLB.keep {w w' : World} {B n : Nat} {f : Nat → List UInt8} {S : Nat → Prop} (h : SLB w B n f) (k : Keeps S w w') (hS : ¬ S B) : SLB w' B n f :=
  ⟨fun i hi => k.cell (h.c i hi) hS, fun i hi => (k.frozen (p := ⟨B, i, none⟩) h.lt hS).trans (h.z i hi), by obtain ⟨cur, x, e⟩ := h.t; exact ⟨cur, x, by rw [k.block B h.lt hS]; exact e⟩⟩
theorem SLB.set {w : World} {B n : Nat} {f : Nat → List UInt8} (h : SLB w B n f) {p : Nat} (hp : p < n) (x : List UInt8) : SLB (w.setCell ⟨B, p, none⟩ (.string ⟨x.toArray⟩)) B n (fun i => if i = p then x else f i) := by
  refine ⟨fun i hi => ?_, fun i hi => ?_, ?_⟩
  · by_cases e : i = p
    · subst e
      rw [if_pos rfl]
      exact World.cell?_setCell_same _ _ _ (h.c i hi)
    · rw [if_neg e, World.cell?_setCell_other _ _ _ _ (by intro e2; injection e2 with _ e3; omega)]
      exact h.c i hi
  · simp only [World.frozen?_setCell]
    exact h.z i hi
  · obtain ⟨cur, y, e⟩ := h.t
    exact ⟨_, y, by simp only [World.setCell, Array.getElem?_modify, e, Option.map_some, if_true]; rfl⟩
theorem SLB.made (w : World) (n : Nat) : SLB (w.alloc (.cells (madeCells #[.string ⟨#[]⟩] n) 9)) w.heap.size n (fun _ => []) := by
  have e : madeCells #[.string ⟨#[]⟩] n = (List.replicate n (.string ⟨#[]⟩ : Value)).toArray := by
    apply Array.ext'
    simp [madeCells]
    rw [List.eq_replicate_iff]
    refine ⟨by simp, fun b hb => ?_⟩
    obtain ⟨x, _, rfl⟩ := List.mem_map.1 hb
    rw [Nat.mod_one]; rfl
  rw [e]
  have m := CL.made w (List.replicate n (.string ⟨#[]⟩ : Value)) 9
  refine ⟨fun i hi => m.c i _ (by rw [List.getElem?_replicate, if_pos hi]), fun i hi => m.z i (by simpa using hi), ?_⟩
  exact ⟨_, _, Array.getElem?_push_size⟩
theorem tgs_take {l : List Ins} {k : Nat} (h : k < l.length) : tgs (l.take (k + 1)) = tgs (l.take k) ++ (if (l.getD k ins0).jmp = true then [(l.getD k ins0).to] else []) := by
  have e : l.getD k ins0 = l[k] := by rw [List.getD_eq_getElem?_getD, List.getElem?_eq_getElem h]; rfl
  unfold tgs
  rw [List.take_add_one, List.getElem?_eq_getElem h, Option.toList_some, List.filter_append, List.map_append, e]
  congr 1
  by_cases g : l[k].jmp = true
  · have hk : kdL l[k].code = true := g
    rw [if_pos g]; simp [hk]
  · have hk : ¬ kdL l[k].code = true := g
    rw [if_neg g]; simp [hk]
theorem sInfo : (Tryd.prog.info? 9).map (fun i => (i.zero, i.size, i.bytes)) = some (some (.string ⟨#[]⟩), 1, 16) := by kernel_rfl
end Go.Proofs.YtanmpioplckgbaaDoor
namespace Go.Proofs.YtanmpioplckgbaaDoor
open Go.RowKit Go.Deep Go.ChangeShapes Go.WideShapes Go.ChangeAt
theorem lbk_set (T : List Int) (k : Nat) {p : Nat} (hp : T.getD k 0 = (p : Int)) : (fun i => if i = p then 108 :: Lib.itoa (k : Int) else lbk T k i) = lbk T (k + 1) := by
  funext i
  show _ = if (i : Int) = T.getD k 0 then _ else _
  rw [hp]
  by_cases e : i = p
  · rw [if_pos e, if_pos (by omega)]
  · rw [if_neg e, if_neg (by omega)]
set_option maxHeartbeats 1000000 in
set_option maxRecDepth 100000 in
theorem labels_T {w : World} {a : Option Addr} {cap : Nat} {l : List Ins} (h64 : l.length ≤ 64) (hto : ∀ q ∈ l, kdL q.code = true → 0 ≤ q.to ∧ q.to ≤ (l.length : Int)) (hl : ISL w a l) (hP : PW w) :
    Calls Tryd.prog 11 #[.slice a l.length cap] w fun e w' => ∃ B, e = .returned (.slice (some ⟨B, 0, none⟩) (l.length + 1) (l.length + 1)) ∧ SLB w' B (l.length + 1) (lbT l) ∧ w.heap.size ≤ B ∧ Keeps (fun _ => False) w w' := by
  have hmk : ∀ W : World, (Instr.makeSlice 50 (.int .i64 ((l.length : Int) + 1)) (.int .i64 ((l.length : Int) + 1))).run Tryd.prog W = .ok (.slice (some ⟨W.heap.size, 0, none⟩) (l.length + 1) (l.length + 1)) (W.alloc (.cells (madeCells #[.string ⟨#[]⟩] (l.length + 1)) 9)) := fun W => run_make_row' (P := Tryd.prog) 50 9 (.string ⟨#[]⟩) 16 Tryd.underlying50 sInfo rfl .i64 .i64 (l.length + 1) (by omega) (by omega) W
  have hTG := tgS_ok l
  have hTB : ∀ x ∈ tgS l, 0 ≤ x ∧ x ≤ (l.length : Int) := fun x hx => by
    have := (hTG.2.1 x).1 hx
    unfold tgs at this
    obtain ⟨q, hq, rfl⟩ := List.mem_map.1 this
    obtain ⟨h1, h2⟩ := List.mem_filter.1 hq
    exact hto q h1 h2
  have HTB : Hid (∀ x ∈ tgS l, 0 ≤ x ∧ x ≤ (l.length : Int)) := hTB
  have HTL : Hid ((tgS l).length ≤ l.length) := hTG.2.2
  have HLB : Hid (lbk (tgS l) (tgS l).length = lbT l) := rfl
  have HTS : Hid (tgS l = Lib.compact ((tgs l).mergeSort fun x y => decide (x ≤ y))) := rfl
  clear hTG hTB hto
  generalize hN : l.length = N at *
  have HN : Hid (_ = _) := hN
  go_enter Tryd.func11, Tryd.ntmps11
  go_wp2_with fail
  go_loopw [3, 11] (fun vv iv Wr => ∃ (k : Nat) (u : Value), u = vv ∧ iv = .int .i64 (k : Int) ∧ k ≤ N ∧ Wr.ownsRow w.heap.size 3 1 u (tgs (l.take k)).length (ivs (tgs (l.take k))) ∧ Keeps (fun _ => False) w Wr) (fun _ iv _ => N - (intOf iv).toNat)
  case atStart => exact ⟨0, _, rfl, rfl, Nat.zero_le _, World.ownsRow_nil _ _ _ _, Keeps.refl _ w⟩
  case round =>
    obtain ⟨k, v2, rfl, rfl, hk, hown, kr⟩ := hrel
    by_cases hlt : k < N
    · have hltI : decide ((k : Int) < (N : Int)) = true := by simp; omega
      have hltJ : (k : Int) < (N : Int) := by omega
      obtain ⟨b, off, rfl, hc⟩ := hl k (by omega)
      have hc' : ∀ j v, (l.getD k ins0).cells[j]? = some v → wr.cell? ⟨b, off + k * 11 + j, none⟩ = some v := fun j v e => kr.cell (hc j v e) (fun e => e)
      have hR1 := run_insAt (t := 31) hc' ⟨_, Tryd.underlying31⟩ iIn
      have htk : Hid (_ = _) := tgs_take (l := l) (k := k) (by omega)
      have hl64 : (tgs (l.take k)).length ≤ 64 := by
        unfold tgs
        rw [List.length_map]
        refine Nat.le_trans (List.length_filter_le _ _) ?_
        rw [List.length_take]; omega
      have HL64 : Hid ((tgs (l.take k)).length ≤ 64) := hl64
      clear hl64
      generalize l.getD k ins0 = q at *
      have hj := fun W => jumps_any W q
      clear hc hc' hmk
      obtain ⟨W4, hW4⟩ : ∃ W4, W4 = wr.alloc (.cells #[.int .i64 0, .int .i64 0, .bool false, .int .i64 0, .bool false, .int .i64 0, .bool false, .int .i64 0, .int .i64 0, .int .i64 0, .int .i64 0] 31) := ⟨_, rfl⟩
      have k4 : Keeps (fun _ => False) wr W4 := by rw [hW4]; exact (Keeps.refl _ wr).alloc _
      have hU4 : CL W4 wr.heap.size ins0.cells := by rw [hW4]; exact CL.made wr ins0.cells _
      have hA := all_oneCell_ins q
      cases hb1 : q.jmp with
      | false =>
        rw [hb1] at hj htk
        have HT : Hid (tgs (l.take (k + 1)) = tgs (l.take k)) := by show _ = _; rw [htk.out]; simp
        clear htk
        go_wp2_with (first | (refine wpList_load_run rfl 31 _ rfl ⟨b, off + k * 11, none⟩ rfl _ hR1 ?_; clear hR1) | (rw [← hW4]; clear hW4; refine wpList_store_cl rfl 31 _ _ rfl wr.heap.size 0 11 _ rfl rfl rfl hU4 (by show 11 ≤ 11; decide) iIn hA ?_; intro w5 hc5 k5 hsz5; clear hsz5; have hI5 : CL w5 wr.heap.size q.cells := hc5; have hR2 := run_ins hI5; have K5 : Keeps (fun _ => False) wr w5 := k4.trans' k5 (fun _ _ e => e) (fun i hi e => by have e : i = wr.heap.size := e; omega)) | (refine wpList_load_run rfl 31 _ rfl ⟨wr.heap.size, 0, none⟩ rfl _ hR2 ?_; clear hR2) | (go_at_call 21; refine (hj _).mono ?_; rintro e w6 ⟨rfl, k6⟩))
        go_roundw
        case rel => exact ⟨k + 1, v2, rfl, by go_num, by omega, by rw [HT.out]; exact (K5.trans k6).owns hown (fun _ _ e => e), kr.trans (K5.trans k6)⟩
        case measure => simp [intOf]; omega
      | true =>
        rw [hb1] at hj htk
        have HT : Hid (tgs (l.take (k + 1)) = tgs (l.take k) ++ [q.to]) := by show _ = _; rw [htk.out]; simp
        clear htk
        have HA : Hid (∀ W, Keeps (fun _ => False) wr W → ∃ v' w', (Builtin.append_ #[65, 65] 65 #[v2, .slice (some ⟨W.heap.size, 0, none⟩) 1 1]).run Tryd.prog (W.alloc (.cells #[.int .i64 q.to] 3)) = .ok v' w' ∧ w'.ownsRow w.heap.size 3 1 v' ((tgs (l.take k)).length + 1) (ivs (tgs (l.take k) ++ [q.to])) ∧ Keeps (fun i => v2.ownBlock = some i) W w') := fun W kk => append_in (W := W) (kk.owns hown (fun _ _ e => e)) (Nat.le_trans kr.size kk.size) (by have := HL64.out; omega) q.to
        go_wp2_with (first | (refine wpList_load_run rfl 31 _ rfl ⟨b, off + k * 11, none⟩ rfl _ hR1 ?_; clear hR1) | (rw [← hW4]; clear hW4; refine wpList_store_cl rfl 31 _ _ rfl wr.heap.size 0 11 _ rfl rfl rfl hU4 (by show 11 ≤ 11; decide) iIn hA ?_; intro w5 hc5 k5 hsz5; clear hsz5; have hI5 : CL w5 wr.heap.size q.cells := hc5; have hR2 := run_ins hI5; have K5 : Keeps (fun _ => False) wr w5 := k4.trans' k5 (fun _ _ e => e) (fun i hi e => by have e : i = wr.heap.size := e; omega)) | (refine wpList_load_run rfl 31 _ rfl ⟨wr.heap.size, 0, none⟩ rfl _ hR2 ?_; clear hR2) | (go_at_call 21; refine (hj _).mono ?_; rintro e w6 ⟨rfl, k6⟩; have e10 := (hI5.keep (by show 0 < 11; decide) k6 (fun e => e)).c 10 _ rfl; obtain ⟨v', w', hr, ho, ka⟩ := HA.out w6 (K5.trans k6)) | (at_builtin; refine wpList_append_run' rfl _ _ _ rfl _ _ _ w' rfl rfl hr ?_; clear hr))
        go_roundw
        case rel => exact ⟨k + 1, v', rfl, by go_num, by omega, by rw [HT.out, List.length_append, List.length_singleton]; exact ho, (kr.trans (K5.trans k6)).trans' ka (fun _ _ e => e) (fun i hi e => by have := owns_base hown i e; omega)⟩
        case measure => simp [intOf]; omega
    · obtain rfl : k = N := by omega
      have hltI : decide ((k : Int) < (k : Int)) = false := by simp
      rw [List.take_of_length_le (by omega)] at hown
      have hl64 : (tgs l).length ≤ 64 := by
        unfold tgs
        rw [List.length_map]
        exact Nat.le_trans (List.length_filter_le _ _) (by omega)
      have hS := sort_own hown hl64
      have hlm : ((tgs l).mergeSort fun x y => decide (x ≤ y)).length = (tgs l).length := List.length_mergeSort _
      have HC : Hid (∀ W, W.ownsRow w.heap.size 3 1 v2 (tgs l).length (ivs ((tgs l).mergeSort fun x y => decide (x ≤ y))) → Calls Tryd.prog 23 #[v2] W fun e w' => ∃ a cap, e = .returned (.slice a (tgS l).length cap) ∧ (∀ j x, (tgS l)[j]? = some x → ∃ g, a = some ⟨g, 0, none⟩ ∧ w'.cell? ⟨g, j, none⟩ = some (.int .i64 x) ∧ v2.ownBlock = some g) ∧ Keeps (fun k => v2.ownBlock = some k) W w') := fun W h => by
        rw [HTS.out]
        exact compact_own (by rw [hlm]; exact h) (by rw [hlm]; exact hl64)
      have hob := fun g (e : v2.ownBlock = some g) => (⟨owns_base hown g e, owns_lt' hown g e⟩ : w.heap.size ≤ g ∧ g < wr.heap.size)
      have HOB : Hid (∀ g, v2.ownBlock = some g → w.heap.size ≤ g ∧ g < wr.heap.size) := hob
      have HFF : Hid (∀ W, Keeps (fun _ => False) w W → ∀ j : Nat, j ≤ 64 → Calls Tryd.prog 24 #[.int .i64 (j : Int)] W fun e w' => e = .returned (.string ⟨(Lib.itoa (j : Int)).toArray⟩) ∧ Below W.heap.size W w') := fun W k j hj => format_any _ ⟨by omega, by omega⟩ W (hP.keep k)
      clear hob hlm hl64 hown hP hl
      generalize hTT : tgS l = T at *
      clear hTT
      go_wp2_with (first | (go_at_call 22; refine hS.mono ?_; clear hS; rintro e w2 ⟨rfl, ho2, k2⟩) | (go_at_call 23; refine (HC.out _ (((Keeps.refl _ w2).alloc _).owns ho2 (fun _ _ e => e))).mono ?_; clear HC; rintro e w4 ⟨a4, cap4, rfl, hc4, k4⟩))
      have hs4 : SLB w4 w2.heap.size (k + 1) (lbk T 0) := (SLB.made w2 (k + 1)).keep k4 (fun e => by have := (HOB.out _ e).2; have := k2.size; omega)
      have K2 : Keeps (fun _ => False) w w2 := kr.trans' k2 (fun _ _ e => e) (fun i hi e => by have := (HOB.out i e).1; omega)
      have K4 : Keeps (fun _ => False) w w4 := (K2.alloc _).trans' k4 (fun _ _ e => e) (fun i hi e => by have := (HOB.out i e).1; omega)
      have HBw : Hid (w.heap.size ≤ w2.heap.size) := K2.size
      have hgB : ∀ g, v2.ownBlock = some g → g ≠ w2.heap.size := fun g e => by have := (HOB.out g e).2; have := k2.size; omega
      have HGB : Hid (∀ g, v2.ownBlock = some g → g ≠ w2.heap.size) := hgB
      have HC4 : Hid (∀ j x, T[j]? = some x → ∃ g, a4 = some ⟨g, 0, none⟩ ∧ w4.cell? ⟨g, j, none⟩ = some (.int .i64 x) ∧ v2.ownBlock = some g) := hc4
      clear hgB hc4 k4 ho2 K2 k2 hmk
      generalize w2.heap.size = B at *
      generalize hTl : T.length = M at *
      have HTl : Hid (_ = _) := hTl
      clear hTl
      go_loopw [32] (fun iv Wr => ∃ j : Nat, iv = .int .i64 (j : Int) ∧ j ≤ M ∧ SLB Wr B (k + 1) (lbk T j) ∧ Keeps (fun i => i = B) w4 Wr) (fun iv _ => M - (intOf iv).toNat)
      case atStart => exact ⟨0, rfl, Nat.zero_le _, hs4, Keeps.refl _ _⟩
      case round =>
        obtain ⟨j, rfl, hj, hs, kj⟩ := hrel
        have Kj : Keeps (fun _ => False) w wr := K4.trans' kj (fun _ _ e => e) (fun i hi e => by have e : i = B := e; have := HBw.out; omega)
        clear hs4
        by_cases hjt : j < M
        · have hMk : M ≤ k := HTL.out
          have hjI : decide ((j : Int) < (M : Int)) = true := by simp; omega
          have hjJ : (j : Int) < (M : Int) := by omega
          obtain ⟨x, hx⟩ : ∃ x, T[j]? = some x := ⟨_, List.getElem?_eq_getElem (by rw [HTl.out]; omega)⟩
          obtain ⟨g, rfl, hcell, hg⟩ := HC4.out j x hx
          have hxb := HTB.out x (List.mem_of_getElem? hx)
          obtain ⟨p, rfl⟩ : ∃ p : Nat, x = (p : Int) := ⟨x.toNat, by omega⟩
          have hcell' := kj.cell hcell (HGB.out g hg)
          have hpk : p < k + 1 := by omega
          have hpk' : (p : Int) < (k : Int) + 1 := by omega
          have hp0 : (0 : Int) ≤ (p : Int) := by omega
          have hTd : T.getD j 0 = (p : Int) := by rw [List.getD_eq_getElem?_getD, hx]; rfl
          have HSet : Hid (_ = _) := lbk_set T j hTd
          have hj64 : j ≤ 64 := by have := HTL.out; omega
          have HF5 : Hid (Calls Tryd.prog 24 #[.int .i64 (j : Int)] wr fun e w' => ∃ S : ByteArray, e = .returned (.string S) ∧ Hid (S = ⟨(Lib.itoa (j : Int)).toArray⟩) ∧ S.size ≤ 20 ∧ Below wr.heap.size wr w') := (HFF.out wr Kj j hj64).mono (fun e w' h => ⟨_, h.1, rfl, (by have := (round_to (j : Int) ⟨by omega, by omega⟩).2.2.2; show (Lib.itoa (j : Int)).toArray.size ≤ 20; simpa using this), h.2⟩)
          clear hx hxb hTd hg hcell hj64
          go_wp2_with (go_at_call 24; refine HF5.out.mono ?_; rintro e w5 ⟨S, rfl, hS5, hSs, b5⟩; have hs5 := hs.keep (S := fun _ => False) (.ofBelow b5) (fun e => e); have c5 := hs5.c p hpk; have z5 := hs5.z p hpk)
          go_roundw
          case rel => exact ⟨j + 1, by go_num, by omega, by rw [hS5.out, cat_cons, ← HSet.out]; exact hs5.set hpk _, (kj.trans' (T := fun _ => False) (U := fun i => i = B) (.ofBelow b5) (fun _ _ e => e) (fun _ _ e => e.elim)).setCell (fun _ => rfl) _⟩
          case measure => simp [intOf]; omega
        · obtain rfl : j = M := by omega
          have hjI : decide ((j : Int) < (j : Int)) = false := by simp
          have HEq : Hid (lbk T j = lbT l) := HLB
          go_wp2_with fail
          go_ret
          exact ⟨B, rfl, by rw [← HEq.out]; exact hs, HBw.out, Kj⟩
end Go.Proofs.YtanmpioplckgbaaDoor
namespace Go.Proofs.YtanmpioplckgbaaDoor
open Go.RowKit Go.Deep Go.ChangeShapes Go.WideShapes Go.ChangeAt
/-- What Print answers. -/
def prR (l : List Ins) : List UInt8 := if (chk l).1 = 0 then prn l else []
theorem chk_zero {l : List Ins} (h : (chk l).1 = 0) : l.length ≤ 64 ∧ ∀ q ∈ l, q.can (l.length : Int) = true := by
  obtain ⟨h64, hc⟩ := chk_ok h
  refine ⟨h64, fun q hq => ?_⟩
  obtain ⟨i, hi, rfl⟩ := List.mem_iff_getElem.1 hq
  have := hc i hi
  rw [List.getD_eq_getElem?_getD, List.getElem?_eq_getElem hi] at this
  exact this
theorem strc (s : ByteArray) : Lib.strCells s = Lib.byteCells s.data.toList := rfl
theorem byte_app (a b : List UInt8) : Lib.byteCells (a ++ b) = Lib.byteCells a ++ Lib.byteCells b := by unfold Lib.byteCells; rw [List.map_append]
theorem others_slb {w w' : World} {b B n : Nat} {f : Nat → List UInt8} (h : SLB w B n f) (hB : B ≠ b) (k : Lib.OthersKept 5 (some b) w w') : SLB w' B n f := by
  obtain ⟨cur, x, e⟩ := h.t
  have e' := k B _ e (by intro h; injection h with h; exact hB h) (fun c fz hh => by injection hh with _ h2 _; revert h2; decide)
  have eb : w'.heap[B]? = w.heap[B]? := e'.trans e.symm
  refine ⟨fun i hi => ?_, fun i hi => ?_, cur, x, e'⟩
  · rw [← h.c i hi]; unfold World.cell?; simp only [eb]
  · rw [← h.z i hi]; unfold World.frozen?; simp only [eb]
theorem app_len (X : List UInt8) (s : ByteArray) : (X ++ s.data.toList).length = X.length + s.size := by rw [List.length_append]; rfl
theorem prnK_succ (l : List Ins) (lb : Nat → List UInt8) (p : Nat) : prnK l lb (p + 1) = prnK l lb p ++ pcT l lb p := by
  unfold prnK
  rw [List.range_succ, List.flatMap_append]
  simp
theorem ld_app (a b : List UInt8) : ((⟨a.toArray⟩ ++ ⟨b.toArray⟩ : ByteArray)).data.toList = a ++ b := by rw [cat_app]
set_option maxHeartbeats 2000000 in
set_option maxRecDepth 100000 in
theorem print_T {w : World} {a : Option Addr} {cap : Nat} {l : List Ins} (hT : PT w) (hNT : NT w) (hP : PW w) (hl : ISL w a l) (hn : ∀ q ∈ l, n64 q) (hlen : l.length ≤ 9223372036854775807) :
    Calls Tryd.prog 5 #[.slice a l.length cap] w fun e w' => e = .returned (.tuple #[.string ⟨(prR l).toArray⟩, .int .i64 (chk l).1]) ∧ Keeps (fun _ => False) w w' := by
  have hC := check_any (cap := cap) hT.lt hl hlen
  unfold prR
  by_cases h0 : (chk l).1 = 0
  · obtain ⟨h64, hcan⟩ := chk_zero h0
    have hL := lb_ok l h64
    have hGI : ∀ q ∈ l, GI (l.length : Int) (lbT l) q := fun q hq => ⟨hcan q hq, hn q hq, fun hk => (lb_to hq hk (hcan q hq)).1⟩
    have hpl := prn_len hL hGI
    have HPL : Hid (∀ p, p ≤ l.length + 1 → (prnK l (lbT l) p).length ≤ 4100) := fun p hp => by have := hpl p; omega
    have HLab : Hid (∀ W, Keeps (fun _ => False) w W → Calls Tryd.prog 11 #[.slice a l.length cap] W fun e w' => ∃ B, e = .returned (.slice (some ⟨B, 0, none⟩) (l.length + 1) (l.length + 1)) ∧ SLB w' B (l.length + 1) (lbT l) ∧ W.heap.size ≤ B ∧ Keeps (fun _ => False) W w') := fun W k => labels_T h64 (fun q hq hk => (lb_to hq hk (hcan q hq)).2) (hl.keep k) (hP.keep k)
    have HLine : Hid (∀ W B p, p < l.length → Keeps (fun _ => False) w W → SLB W B (l.length + 1) (lbT l) → Calls Tryd.prog 13 #[.agg (l.getD p ins0).cells.toArray, .slice (some ⟨B, 0, none⟩) (l.length + 1) (l.length + 1)] W fun e w' => ∃ S : ByteArray, e = .returned (.string S) ∧ Hid (S = ⟨(lineT (l.getD p ins0) (lbT l)).toArray⟩) ∧ S.size ≤ 58 ∧ Keeps (fun _ => False) W w') := fun W B p hp k hs => by
      have hm : l.getD p ins0 ∈ l := by rw [List.getD_eq_getElem?_getD, List.getElem?_eq_getElem hp]; exact List.getElem_mem hp
      obtain ⟨c, e1, e2, e3⟩ := (hGI _ hm).c
      have hll := line_len (hGI _ hm) hL
      refine (line_T (m := l.length + 1) (n := (l.length : Int)) (l.getD p ins0) e1 e2 e3 (hn _ hm) (by omega) (hT.keep k).lt (hNT.keep k) (hP.keep k) (fun j hj => hs.c j hj) (by omega)).mono (fun e w' h => ⟨_, h.1, rfl, ?_, h.2⟩)
      show (lineT (l.getD p ins0) (lbT l)).toArray.size ≤ 58
      rw [List.size_toArray]; omega
    have HRun : Hid (∀ W p, p < l.length → Keeps (fun _ => False) w W → ∃ b off, a = some ⟨b, off, none⟩ ∧ (loadVar 31 ⟨b, off + p * 11, none⟩).run Tryd.prog W = .ok (.agg (l.getD p ins0).cells.toArray) W) := fun W p hp k => by
      obtain ⟨b, off, e, hc⟩ := hl p hp
      exact ⟨b, off, e, run_insAt (t := 31) (fun j v hv => k.cell (hc j v hv) (fun e => e)) ⟨_, Tryd.underlying31⟩ iIn⟩
    have HWr : Hid (∀ (W : World) (b : Nat) (X : List UInt8) (s : ByteArray), Lib.IsBuilderF 49 5 b b (Lib.byteCells X) W → X.length ≤ 5000 → s.size ≤ 100 → b ≤ W.heap.size → Calls Tryd.prog 12 #[.pointer (some ⟨b, 0, none⟩), .string s] W fun e w' => e = .returned (.tuple #[.int .i64 s.size, .nilIface]) ∧ Lib.IsBuilderF 49 5 b b (Lib.byteCells (X ++ s.data.toList)) w' ∧ Below b W w' ∧ Lib.OthersKept 5 (some b) W w') := fun W b X s h h1 h2 h3 => (write_k b b _ s W h (by rw [Lib.byteCells_length]; omega) h3).mono (fun e w' g => ⟨g.1, .inr (by rw [byte_app]; exact g.2.1), g.2.2.1, g.2.2.2⟩)
    have HSt : Hid (∀ (W : World) (b : Nat) (X : List UInt8), Lib.IsBuilderF 49 5 b b (Lib.byteCells X) W → b ≤ W.heap.size → Calls Tryd.prog 14 #[.pointer (some ⟨b, 0, none⟩)] W fun e w' => e = .returned (.string ⟨X.toArray⟩) ∧ Below b W w') := fun W b X h h1 => (Tryd.Builder_String_any_k b b X W h h1).mono (fun e w' g => ⟨g.1, g.2.2.1⟩)
    have HPr : Hid (prn l = prnK l (lbT l) (l.length + 1)) := rfl
    have HLn : Hid (∀ p, (lbT l p).length ≤ 3) := hL.ln
    rw [if_pos h0, h0]
    rw [h0] at hC
    clear hL hGI hpl hcan hn hP hNT hT hl h0 hlen
    generalize (chk l).2 = ci at *
    generalize lbT l = lb at *
    generalize hN : l.length = N at *
    generalize hPn : prn l = PR at *
    clear hPn
    go_enter Tryd.func5, Tryd.ntmps5
    go_wp2_with (first | (go_at_call 10; refine hC.mono ?_; clear hC; rintro e w1 ⟨rfl, k1⟩) | (go_at_call 11; refine (HLab.out _ (k1.alloc _)).mono ?_; clear HLab; rintro e w2 ⟨B, rfl, hs2, hB2, k2⟩))
    have hib2 := IsB.keep (IsB.made w1 49 5) k2
    have K2 : Keeps (fun _ => False) w1 w2 := ((Keeps.refl _ w1).alloc _).trans k2
    have hBb : B ≠ w1.heap.size := by
      have : (w1.alloc (.cells #[.pointer none, .slice none 0 0] 49)).heap.size = w1.heap.size + 1 := by simp
      omega
    generalize hb : w1.heap.size = b at *
    have HB : Hid (w1.heap.size = b) := hb
    clear hb k2 hB2
    go_loopw [22] (fun iv Wr => ∃ p : Nat, iv = .int .i64 (p : Int) ∧ p ≤ N + 1 ∧ Lib.IsBuilderF 49 5 b b (Lib.byteCells (prnK l lb p)) Wr ∧ SLB Wr B (N + 1) lb ∧ Keeps (fun _ => False) w1 Wr) (fun iv _ => N + 1 - (intOf iv).toNat)
    case atStart => exact ⟨0, rfl, Nat.zero_le _, hib2, hs2, K2⟩
    case round =>
      obtain ⟨p, rfl, hp, hib, hs, kr⟩ := hrel
      clear hib2 hs2 K2
      have Kw : Keeps (fun _ => False) w wr := k1.trans kr
      have hbs : b ≤ wr.heap.size := by have := kr.size; have := HB.out; omega
      by_cases hlt : p < N + 1
      · have hltI : decide ((p : Int) < (N : Int) + 1) = true := by simp; omega
        have hltJ : (p : Int) < (N : Int) + 1 := by omega
        have hp0 : (0 : Int) ≤ (p : Int) := by omega
        have HX : Hid ((prnK l lb p).length ≤ 4100) := HPL.out p (by omega)
        have HS : Hid (_ = _) := prnK_succ l lb p
        have hlc := hs.c p hlt
        obtain ⟨L, hL⟩ : ∃ L : ByteArray, L = ⟨(lb p).toArray⟩ := ⟨_, rfl⟩
        rw [← hL] at hlc
        have HLe : Hid (L = ⟨(lb p).toArray⟩) := hL
        have hLs : L.size ≤ 3 := by rw [hL]; show (lb p).toArray.size ≤ 3; rw [List.size_toArray]; exact HLn.out p
        clear hL
        have HLine1 : Hid (∀ W, p < N → Keeps (fun _ => False) w1 W → SLB W B (N + 1) lb → Calls Tryd.prog 13 #[.agg (l.getD p ins0).cells.toArray, .slice (some ⟨B, 0, none⟩) (N + 1) (N + 1)] W fun e w' => ∃ S : ByteArray, e = .returned (.string S) ∧ Hid (S = ⟨(lineT (l.getD p ins0) lb).toArray⟩) ∧ S.size ≤ 58 ∧ Keeps (fun _ => False) W w') := fun W h k hs => HLine.out W B p h (k1.trans k) hs
        have HPc : Hid (pcT l lb p = (if lb p = [] then [] else lb p ++ [58, 10]) ++ (if p < N then lineT (l.getD p ins0) lb ++ [10] else [])) := by show _ = _; unfold pcT; rw [hN]
        have HRun1 : Hid (∀ W, p < N → Keeps (fun _ => False) w1 W → ∃ b off, a = some ⟨b, off, none⟩ ∧ (loadVar 31 ⟨b, off + p * 11, none⟩).run Tryd.prog W = .ok (.agg (l.getD p ins0).cells.toArray) W) := fun W h k => HRun.out W p h (k1.trans k)
        have KB : Hid (∀ W W', Keeps (fun _ => False) w1 W → Below b W W' → Keeps (fun _ => False) w1 W') := fun W W' k h => k.trans' (keeps_of_others h) (fun _ _ e => e) (fun i hi e => by have e : b ≤ i := e; have := HB.out; omega)
        clear HLine HRun HPL
        generalize hq : l.getD p ins0 = q at *
        clear hq
        generalize hX : prnK l lb p = X at *
        clear hX
        generalize hll : lineT q lb = LN at *
        clear hll
        by_cases hlb : lb p = []
        · have hLe : L = ⟨#[]⟩ := by rw [HLe.out, hlb]
          subst hLe
          by_cases hpn : p < N
          · have hpI : decide ((p : Int) < (N : Int)) = true := by simp; omega
            have hpJ : (p : Int) < (N : Int) := by omega
            obtain ⟨ab, off, rfl, hR1⟩ := HRun1.out wr hpn kr
            have HW2 : Hid (pcT l lb p = LN ++ [10]) := by show _ = _; rw [HPc.out, if_pos hlb, if_pos hpn]; rfl
            have Hpn : Hid (p < N) := hpn
            clear HRun1 hlb HPc
            go_wp2_with (first | (refine wpList_load_run rfl 31 _ rfl ⟨ab, off + p * 11, none⟩ rfl _ hR1 ?_; clear hR1) | (go_at_call 13; refine (HLine1.out wr Hpn.out kr hs).mono ?_; clear HLine1; rintro e w4 ⟨S, rfl, hS, hSs, k4⟩) | (go_at_call 12; refine (HWr.out _ b X _ (IsB.keep hib k4) (by have := HX.out; omega) (by rw [ByteArray.size_append]; show S.size + 1 ≤ 100; omega) (Nat.le_trans hbs k4.size)).mono ?_; rintro e w5 ⟨rfl, hb5, b5, o5⟩))
            go_roundw
            case rel => exact ⟨p + 1, by go_num, by omega, by rw [HS.out, HW2.out]; rw [hS.out, ld_app LN [10]] at hb5; exact hb5, others_slb (hs.keep k4 (fun e => e)) hBb o5, KB.out _ _ (kr.trans k4) b5⟩
            case measure => simp [intOf]; omega
          · have hpI : decide ((p : Int) < (N : Int)) = false := by simp; omega
            have HW2 : Hid (pcT l lb p = []) := by show _ = _; rw [HPc.out, if_pos hlb, if_neg hpn]; rfl
            clear HLine1 HRun1 hlb HPc
            go_wp2_with fail
            go_roundw
            case rel => exact ⟨p + 1, by go_num, by omega, by rw [HS.out, HW2.out, List.append_nil]; exact hib, hs, kr⟩
            case measure => simp [intOf]; omega
        · have hLne : L.toList.isEmpty = false := by rw [HLe.out, ba_tl]; cases e : lb p with | nil => exact absurd e hlb | cons x y => rfl
          by_cases hpn : p < N
          · have hpI : decide ((p : Int) < (N : Int)) = true := by simp; omega
            have hpJ : (p : Int) < (N : Int) := by omega
            have HW2 : Hid (pcT l lb p = (lb p ++ [58, 10]) ++ (LN ++ [10])) := by show _ = _; rw [HPc.out, if_neg hlb, if_pos hpn]
            have Hpn : Hid (p < N) := hpn
            clear hlb HPc
            go_wp2_with (first | (go_at_call 12; refine (HWr.out _ b X _ hib (by have := HX.out; omega) (by rw [ByteArray.size_append]; show L.size + 2 ≤ 100; omega) hbs).mono ?_; clear hib; rintro e w3 ⟨rfl, hb3, b3, o3⟩; have K3 := KB.out _ _ kr b3; have hs3 := others_slb hs hBb o3; obtain ⟨ab, off, rfl, hR1⟩ := HRun1.out w3 Hpn.out K3; clear HRun1) | (refine wpList_load_run rfl 31 _ rfl ⟨ab, off + p * 11, none⟩ rfl _ hR1 ?_; clear hR1) | (go_at_call 13; refine (HLine1.out w3 Hpn.out K3 hs3).mono ?_; clear HLine1; rintro e w4 ⟨S, rfl, hS, hSs, k4⟩) | (go_at_call 12; refine (HWr.out _ b _ _ (IsB.keep hb3 k4) (by rw [app_len, ByteArray.size_append]; have := HX.out; show _ + (L.size + 2) ≤ 5000; omega) (by rw [ByteArray.size_append]; show S.size + 1 ≤ 100; omega) (by have := K3.size; have := k4.size; have := HB.out; omega)).mono ?_; rintro e w5 ⟨rfl, hb5, b5, o5⟩))
            go_roundw
            case rel => exact ⟨p + 1, by go_num, by omega, by rw [HS.out, HW2.out]; rw [hS.out, ld_app LN [10], HLe.out, ld_app (lb p) [58, 10], List.append_assoc] at hb5; exact hb5, others_slb (hs3.keep k4 (fun e => e)) hBb o5, KB.out _ _ (K3.trans k4) b5⟩
            case measure => simp [intOf]; omega
          · have hpI : decide ((p : Int) < (N : Int)) = false := by simp; omega
            have HW2 : Hid (pcT l lb p = lb p ++ [58, 10]) := by show _ = _; rw [HPc.out, if_neg hlb, if_neg hpn, List.append_nil]
            clear HLine1 HRun1 hlb HPc
            go_wp2_with (go_at_call 12; refine (HWr.out _ b X _ hib (by have := HX.out; omega) (by rw [ByteArray.size_append]; show L.size + 2 ≤ 100; omega) hbs).mono ?_; rintro e w3 ⟨rfl, hb3, b3, o3⟩)
            go_roundw
            case rel => exact ⟨p + 1, by go_num, by omega, by rw [HS.out, HW2.out]; rw [HLe.out, ld_app (lb p) [58, 10]] at hb3; exact hb3, others_slb hs hBb o3, KB.out _ _ kr b3⟩
            case measure => simp [intOf]; omega
      · obtain rfl : p = N + 1 := by omega
        have hltI : decide (((N : Int) + 1) < (N : Int) + 1) = false := by simp
        go_wp2_with (go_at_call 14; refine (HSt.out wr b _ hib hbs).mono ?_; rintro e w5 ⟨rfl, b5⟩)
        go_ret2
        exact ⟨by simp [HPr.out], Kw.trans' (keeps_of_others b5) (fun _ _ e => e) (fun i hi e => by have e : b ≤ i := e; have := k1.size; have := HB.out; omega)⟩
  · have hch : (chk l).1 = 106 ∨ (chk l).1 = 108 := by
      unfold chk at h0 ⊢
      split
      · exact .inl rfl
      · rename_i hx
        rw [if_neg hx] at h0
        cases e : firstBad l l.length l.length with
        | none => rw [e] at h0; exact absurd rfl h0
        | some i => exact .inr rfl
    rw [if_neg h0]
    generalize (chk l).1 = ce at *
    generalize (chk l).2 = ci at *
    have b0 : (ce != 0) = true := by rcases hch with e | e <;> rw [e] <;> rfl
    clear hch h0
    go_enter Tryd.func5, Tryd.ntmps5
    go_wp2_with (go_at_call 10; refine hC.mono ?_; clear hC; rintro e w1 ⟨rfl, k1⟩)
    go_ret2
    exact ⟨rfl, k1⟩
end Go.Proofs.YtanmpioplckgbaaDoor
namespace Go.Proofs.YtanmpioplckgbaaDoor
open Go.RowKit
theorem isl_of_owns_d {W : World} {base n : Nat} {v : Value} {l : List Ins} (h : W.ownsRow base 42 11 v n (icl l)) (hn : l.length = n) : ∃ a cap, v = .slice a n cap ∧ ISL W a l := by
  rcases h.2 with ⟨rfl, h0⟩ | ⟨g, cap, cur, rfl, _⟩
  · have hz : n = 0 := by first | exact h0.1 | omega
    subst hz
    exact ⟨none, 0, rfl, fun i hi => by omega⟩
  · refine ⟨_, cap, rfl, fun i hi => ⟨g, 0, rfl, fun j v hv => ?_⟩⟩
    have e := icl_get l i j v hi hv
    have hc := h.cells (g := g) rfl (i * 11 + j) v e
    rw [add_at] at hc
    rw [Nat.zero_add] at hc ⊢
    exact hc
theorem chk_two (l : List Ins) : (chk l).1 = 0 ∨ (chk l).1 = 106 ∨ (chk l).1 = 108 := by
  unfold chk
  split
  · exact .inr (.inl rfl)
  · cases firstBad l l.length l.length with
    | none => exact .inl rfl
    | some i => exact .inr (.inr rfl)
end Go.Proofs.YtanmpioplckgbaaDoor
