import Derived.Test.YtkebpelpjkgdkaaSortB
import Derived.Test.YtkebpelpjkgdkaaLists2
namespace Go.Proofs.Ytkebpelpjkgdkaa
open Go.RowKit Go.Maps

theorem owns_cap {w : World} {base : Nat} {e : TypeId} {size : Nat} {a : Option Addr} {n c : Nat} {xs : List Value} (h : w.ownsRow base e size (.slice a n c) n xs) : n ≤ c := by
  rcases h.2 with ⟨h', h0⟩ | ⟨g', cap', cur, h', _, _, hnc, _⟩
  · omega
  · simp only [Value.slice.injEq] at h'; omega
theorem cnt_perm {xs ys : List It} (h : xs.Perm ys) (x : It) : cnt xs x = cnt ys x := (h.filter _).length_eq
theorem sd_rise {xs : List It} (h : Sd xs) : Rise false xs := by
  intro i h0 h1
  refine ⟨?_, fun e => by cases e⟩
  rw [ia_get h1, ia_get (show i - 1 < xs.length by omega)]
  exact (List.pairwise_iff_getElem.1 h) (i - 1) i (by omega) h1 (by omega)

set_option maxHeartbeats 6400000 in
set_option maxRecDepth 1000000 in
theorem ordSorted_walk {w : World} {a : Option Addr} {items : List It} (hi : IL w a items) (hl : items.length * 16 ≤ 140737488351232) (hnum : ∀ x ∈ items, I64 x.1 ∧ I64 x.2) (cap : Nat) :
    Calls Try.prog 4 #[.slice a items.length cap] w fun e w' => e = .returned (.bool true) ∧ Below w.heap.size w w' := by
  have K0 : Keeps (fun _ => False) w (w.alloc (.cells #[.int .i64 3, .int .i64 3, .int .i64 3, .int .i64 2] 41)) := (Keeps.refl _ w).alloc _
  have own0 : (w.alloc (.cells #[.int .i64 3, .int .i64 3, .int .i64 3, .int .i64 2] 41)).ownsRow w.heap.size 41 2 (.slice (some ⟨w.heap.size, 0, none⟩) [((3 : Int), (3 : Int)), (3, 2)].length 2) [((3 : Int), (3 : Int)), (3, 2)].length (flat [(3, 3), (3, 2)]) :=
    World.ownsRow_lit (base := w.heap.size) (e := 41) (size := 2) w #[.int .i64 3, .int .i64 3, .int .i64 3, .int .i64 2] 2 (Nat.le_refl _) (by decide) rfl
  obtain ⟨v1, w1, happ, own1, k1, _⟩ := append_items own0 (hi.new K0) hi.nil cap (by simp; omega) (by simp) 39
  obtain ⟨more, hmore⟩ : ∃ more, Hid ([((3 : Int), (3 : Int)), (3, 2)] ++ items = more) := ⟨_, rfl⟩
  rw [hmore.out] at own1
  have HML : Hid (more.length = items.length + 2) := by show _ = _; rw [← hmore.out]; simp
  have mnum : ∀ x ∈ more, I64 x.1 ∧ I64 x.2 := fun x hx => by
    rw [← hmore.out] at hx
    rcases List.mem_append.1 hx with hx | hx
    · simp at hx
      rcases hx with rfl | rfl <;> (constructor <;> (unfold I64; omega))
    · exact hnum x hx
  obtain ⟨am, cm, rfl, ilm, _⟩ := owns_il own1 rfl
  have KW1 : Keeps (fun _ => False) w w1 := K0.trans' k1 (fun _ _ e => e) (fun i hi e => by omega)
  have hm16 : more.length * 16 ≤ 140737488355328 := by have := HML.out; omega
  have happ' : (Builtin.append_ #[39, 39] 39 #[.slice (some ⟨w.heap.size, 0, none⟩) 2 2, .slice a items.length cap]).run Try.prog (w.alloc (.cells #[.int .i64 3, .int .i64 3, .int .i64 3, .int .i64 2] 41)) = .ok (.slice am more.length cm) w1 := happ
  have HA : Hid ((Builtin.append_ #[39, 39] 39 #[.slice (some ⟨w.heap.size, 0, none⟩) 2 2, .slice a items.length cap]).run Try.prog (w.alloc (.cells #[.int .i64 3, .int .i64 3, .int .i64 3, .int .i64 2] 41)) = .ok (.slice am more.length cm) w1) := happ'
  clear happ happ' own0 k1 K0 own1 hi hnum
  go_enter Try.func4, Try.ntmps4
  go_wp2_with ((at_builtin; refine wpList_append_run rfl _ _ _ rfl _ _ _ _ rfl rfl HA.out ?_))
  refine (sort_any ilm hm16 mnum cm).mono ?_
  rintro e w2 ⟨v2, rfl, own2, k2⟩
  obtain ⟨al, cl, rfl, ill, _⟩ := owns_il own2 rfl
  have hcap := owns_cap own2
  obtain ⟨bl, ol, rfl, _, _⟩ := ill.some (by rw [srt_length]; have := HML.out; omega)
  have hll : (srt more).length = more.length := srt_length _
  have hri : Rise false (srt more) := sd_rise (srt_sd _)
  have hcnt : ∀ x, cnt (srt more) x = cnt more x := fun x => cnt_perm (srt_perm more) x
  have hsr : ∀ n, (srt more).take n = (srt more).take n := fun _ => rfl
  obtain ⟨sm, hsm⟩ : ∃ sm, Hid (srt more = sm) := ⟨_, rfl⟩
  rw [hsm.out] at own2 ill hll hri hcnt hcap
  rw [hll] at hcap
  have HLL : Hid (sm.length = more.length) := hll
  have ilm2 := ilm.new k2
  have KW2 := KW1.trans k2
  rw [hsm.out, hll]
  rw [hll] at own2
  clear hll hsr own2
  go_wp2_with fail
  have hrc := rising_any ill (by have := HLL.out; omega) cl false hri
  rw [HLL.out] at hrc
  refine hrc.mono ?_
  rintro e w3 ⟨rfl, k3⟩
  have KW3 := KW2.trans k3
  have ill3 := ill.new k3
  have ilm3 := ilm2.new k3
  clear hrc ill ilm ilm2 hri
  go_wp2_with fail
  go_loopw [5] (fun iv wr => ∃ i : Nat, i ≤ more.length ∧ iv = .int .i64 i ∧ Keeps (fun _ => False) w3 wr) (fun iv _ => more.length - (intOf iv).toNat)
  case atStart => exact ⟨0, Nat.zero_le _, rfl, Keeps.refl _ _⟩
  case round =>
    obtain ⟨i, hile, rfl, k⟩ := hrel
    by_cases hlt : i < more.length
    · have hiI : (i : Int) < (more.length : Int) := by omega
      obtain ⟨b, off, rfl, _, hc⟩ := ilm3.some (by omega)
      have c0 := k.cell (hc i hlt).1 (fun e => e)
      have c1 := k.cell (hc i hlt).2 (fun e => e)
      obtain ⟨x, hx⟩ : ∃ x, Hid (ia more i = x) := ⟨_, rfl⟩
      rw [hx.out] at c0 c1
      have C0 := ks_cell c0
      have C1 := ks_cell c1
      have hNE : Nonempty (KS wr) := ⟨⟨wr, Keeps.refl _ wr⟩⟩
      have hcl : ∀ u : World, Keeps (fun _ => False) wr u → Calls Try.prog 21 #[.slice (some ⟨bl, ol, none⟩) more.length cl, .agg #[.int .i64 x.1, .int .i64 x.2]] u fun e w' => e = .returned (.int .i64 (cnt more x)) ∧ Keeps (fun _ => False) u w' := fun u ku => by
        have := count_any ((ill3.new k).new ku) (by have := HLL.out; omega) cl x
        rw [HLL.out, hcnt x] at this
        exact this
      have hcm : ∀ u : World, Keeps (fun _ => False) wr u → Calls Try.prog 21 #[.slice (some ⟨b, off, none⟩) more.length cm, .agg #[.int .i64 x.1, .int .i64 x.2]] u fun e w' => e = .returned (.int .i64 (cnt more x)) ∧ Keeps (fun _ => False) u w' := fun u ku => count_any ((ilm3.new k).new ku) (by omega) cm x
      have HCL : Hid (∀ u : World, Keeps (fun _ => False) wr u → Calls Try.prog 21 #[.slice (some ⟨bl, ol, none⟩) more.length cl, .agg #[.int .i64 x.1, .int .i64 x.2]] u fun e w' => e = .returned (.int .i64 (cnt more x)) ∧ Keeps (fun _ => False) u w') := hcl
      have HCM : Hid (∀ u : World, Keeps (fun _ => False) wr u → Calls Try.prog 21 #[.slice (some ⟨b, off, none⟩) more.length cm, .agg #[.int .i64 x.1, .int .i64 x.2]] u fun e w' => e = .returned (.int .i64 (cnt more x)) ∧ Keeps (fun _ => False) u w') := hcm
      clear hcl hcm hc c0 c1 hcnt
      go_wp2_with fail
      refine wp_region_ks (by kernel_rfl) (by kernel_rfl) ?_
      repeat (go_big_quiet_step ((first | (go_at_call_of 21 (Value.slice (some ⟨bl, ol, none⟩) more.length cl); refine (HCL.out _ (KS.property _)).mono ?_; rintro e w2 ⟨rfl, k2⟩; exact ⟨rfl, ⟨_, Keeps.trans (KS.property _) k2⟩, rfl⟩) | (go_at_call_of 21 (Value.slice (some ⟨b, off, none⟩) more.length cm); refine (HCM.out _ (KS.property _)).mono ?_; rintro e w2 ⟨rfl, k2⟩; exact ⟨rfl, ⟨_, Keeps.trans (KS.property _) k2⟩, rfl⟩))))
      refine wpQuiet_nil ?_
      rintro _ ⟨u, rfl⟩
      go_wp2_with fail
      go_roundw
      case rel => exact ⟨i + 1, by omega, by go_num, k.trans u.property⟩
      case measure => simp [intOf]; omega
    · have hiI : ¬ (i : Int) < (more.length : Int) := by omega
      have KW4 := KW3.trans k
      have ill4 := ill3.new k
      have ilm4 := ilm3.new k
      clear ill3 ilm3 hcnt
      go_wp2_with fail
      go_loopw [6] (fun iv wq => ∃ n : Int, -1 ≤ n ∧ n ≤ more.length + 2 ∧ iv = .int .i64 n ∧ Keeps (fun _ => False) wr wq) (fun iv _ => ((more.length : Int) + 2 - intOf iv).toNat)
      case atStart => exact ⟨-1, by omega, by omega, rfl, Keeps.refl _ _⟩
      case round =>
        obtain ⟨n, hn1, hn2, rfl, kq⟩ := hrel
        by_cases hle : n ≤ (more.length : Int) + 1
        · go_wp2_with fail
          refine (firsts_any (ilm4.new kq) hm16 mnum cm n).mono ?_
          rintro e w5 ⟨v5, rfl, own5, k5⟩
          rw [hsm.out] at own5
          obtain ⟨af, cf, rfl, ilf, _⟩ := owns_il own5 rfl
          have hsl : ∀ k : Nat, k ≤ more.length → sm.take n.toNat = sm.take k → Calls Try.prog 23 #[.slice af (sm.take n.toNat).length cf, .slice (some ⟨bl, ol, none⟩) k cl] w5 fun e w' => e = .returned (.bool true) ∧ Keeps (fun _ => False) w5 w' := fun k hk e => by
            have h1 := same_any ilf (by rw [e]; exact ((ill4.new kq).new k5).take) (by rw [List.length_take]; have := HLL.out; omega) cf cl
            have h2 : (sm.take n.toNat).length = k := by rw [e, List.length_take]; have := HLL.out; omega
            rw [h2] at h1 ⊢
            exact h1
          obtain ⟨fl, hfl⟩ : ∃ fl, Hid ((sm.take n.toNat).length = fl) := ⟨_, rfl⟩
          rw [hfl.out] at hsl
          rw [hfl.out]
          have hcI : (more.length : Int) ≤ (cl : Int) := by omega
          by_cases hneg : n < 0
          · have hz := hsl 0 (by omega) (by rw [show n.toNat = 0 by omega])
            have hl0 : ¬ (more.length : Int) < 0 := by omega
            go_wp2_with fail
            refine hz.mono ?_
            rintro e w6 ⟨rfl, k6⟩
            go_wp2_with fail
            go_roundw
            case rel => exact ⟨n + 1, by omega, by omega, by go_num, ((kq.trans k5).trans k6)⟩
            case measure => simp [intOf]; omega
          · obtain ⟨m, rfl⟩ : ∃ m : Nat, n = m := ⟨n.toNat, by omega⟩
            by_cases hgt : (more.length : Int) < (m : Int)
            · have hz := hsl more.length (Nat.le_refl _) (by rw [List.take_of_length_le (by have := HLL.out; simp; omega), List.take_of_length_le (by have := HLL.out; omega)])
              go_wp2_with fail
              refine hz.mono ?_
              rintro e w6 ⟨rfl, k6⟩
              go_wp2_with fail
              go_roundw
              case rel => exact ⟨m + 1, by omega, by omega, by go_num, ((kq.trans k5).trans k6)⟩
              case measure => simp [intOf]; omega
            · have hz := hsl m (by omega) (by simp)
              have hmc : (m : Int) ≤ (cl : Int) := by omega
              go_wp2_with fail
              refine hz.mono ?_
              rintro e w6 ⟨rfl, k6⟩
              go_wp2_with fail
              go_roundw
              case rel => exact ⟨m + 1, by omega, by omega, by go_num, ((kq.trans k5).trans k6)⟩
              case measure => simp [intOf]; omega
        · have hle' : ¬ n ≤ (more.length : Int) + 1 := hle
          go_wp2
          go_ret
          exact ⟨rfl, (KW4.trans kq).below (Nat.le_refl _) (fun _ _ e => e)⟩

end Go.Proofs.Ytkebpelpjkgdkaa
