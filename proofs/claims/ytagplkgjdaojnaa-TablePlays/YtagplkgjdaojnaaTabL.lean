import Derived.Test.YtagplkgjdaojnaaTabR4
namespace Go.Proofs.Ytagplkgjdaojnaa
open Go.RowKit
attribute [local go_sem] Oper.semAt_some

theorem ownsRow_succ {w : World} {base e size n : Nat} {v : Value} {xs : List Value} (h : w.ownsRow base e size v (n + 1) xs) : ∃ g c, v = .slice (some ⟨g, 0, none⟩) (n + 1) c := by
  rcases h.2 with ⟨_, h0⟩ | ⟨g, cap, cur, rfl, _⟩
  · omega
  · exact ⟨g, cap, rfl⟩
/-- An entry behind a list; the list is as it was. -/
theorem mark_run {W : World} {n base : Nat} {v : Value} {xs : List Value} (own : W.ownsRow base 36 3 v n xs) (hb : base ≤ W.heap.size) (m : Int) (hn : n ≤ 4398046511200) :
    ∃ gg cap1 W', (Builtin.append_ #[42, 42] 42 #[v, .slice (some ⟨W.heap.size, 0, none⟩) 1 1]).run Try.prog (W.alloc (.cells #[.int .i64 m, .int .i64 0, .int .i64 0] 36)) = .ok (.slice (some ⟨gg, 0, none⟩) (n + 1) cap1) W' ∧ Keeps (fun k => v.ownBlock = some k) W W' ∧ W'.ownsRow base 36 3 v n xs := by
  obtain ⟨i0, hi0, hz0, hz1, hz2⟩ := info_parts infoE
  have own' : (W.alloc (.cells #[.int .i64 m, .int .i64 0, .int .i64 0] 36)).ownsRow base 36 3 v n xs := own.alloc _
  have hnews : ∀ (j : Nat) (u : Value), ([.int .i64 m, .int .i64 0, .int .i64 0] : List Value)[j]? = some u → (W.alloc (.cells #[.int .i64 m, .int .i64 0, .int .i64 0] 36)).cell? ((⟨W.heap.size, 0, none⟩ : Addr).add j) = some u := fun j u hu => by
    have hj : j < 3 := (List.getElem?_eq_some_iff.1 hu).1
    rw [show ((⟨W.heap.size, 0, none⟩ : Addr).add j) = ⟨W.heap.size, j, none⟩ by unfold Addr.add; split <;> simp_all]
    exact cell3 W _ _ _ _ _ _ (by simpa using hu)
  have h1 : ∀ u ∈ ([.int .i64 m, .int .i64 0, .int .i64 0] : List Value), u.oneCell' = true := fun u hu => by simp at hu; rcases hu with rfl | rfl <;> rfl
  obtain ⟨v', w', hr, ho, hgr, _, hat⟩ := run_append_own_at (P := Try.prog) (w := W.alloc (.cells #[.int .i64 m, .int .i64 0, .int .i64 0] 36)) base 42 42 36 i0 _ 3 24 underE hi0 hz0 hz1 hz2 rfl (by decide) v n xs own' ⟨W.heap.size, 0, none⟩ 1 1 [.int .i64 m, .int .i64 0, .int .i64 0] rfl hnews h1 (by unfold maxLen; omega) (by omega) (by simp; omega)
  obtain ⟨gg, cap1, rfl⟩ := ownsRow_succ ho
  refine ⟨gg, cap1, w', hr, ((Keeps.refl (fun k => v.ownBlock = some k) W).alloc _).grown hgr (fun _ _ e => e), ?_⟩
  rcases own.2 with ⟨rfl, h0⟩ | ⟨g, cap, cur, rfl, hbg, hg, hnc, hcm, hcs, htk⟩
  · exact ⟨own.1, .inl ⟨rfl, h0⟩⟩
  · by_cases hfit : n + 1 ≤ cap
    · obtain ⟨w2, hr2, ho2, _⟩ := run_append_fits (P := Try.prog) (W.alloc (.cells #[.int .i64 m, .int .i64 0, .int .i64 0] 36)) base 42 42 36 i0 3 underE hi0 hz1 g n cap xs own' ⟨W.heap.size, 0, none⟩ 1 1 [.int .i64 m, .int .i64 0, .int .i64 0] rfl hnews h1 hfit
      rw [hr] at hr2
      cases hr2
      refine ⟨own.1, .inr ?_⟩
      rcases ho2.2 with ⟨h, _⟩ | ⟨g', cap', cur', h, hb', hg', _, hcm', hcs', htk'⟩
      · cases h
      · cases h
        refine ⟨gg, cap1, cur', rfl, hbg, hg', hnc, hcm, hcs', ?_⟩
        have h3 : (xs ++ [Value.int .i64 m, Value.int .i64 0, Value.int .i64 0]).take (n * 3) = xs := by
          rw [List.take_append_of_le_length (by rw [own.1]; exact Nat.le_refl _)]
          exact List.take_of_length_le (by rw [own.1]; exact Nat.le_refl _)
        rw [← h3, ← htk', List.take_take, Nat.min_eq_left (by omega)]
    · have hr2 := run_append_grow (P := Try.prog) (w := W.alloc (.cells #[.int .i64 m, .int .i64 0, .int .i64 0] 36)) 42 42 36 i0 _ underE hi0 hz0 ⟨g, 0, none⟩ n cap xs (by rw [hz1]; exact own.1) (fun j u e => own'.cells rfl j u e) ⟨W.heap.size, 0, none⟩ 1 1 [.int .i64 m, .int .i64 0, .int .i64 0] (by rw [hz1]; rfl) hnews (by omega) (by omega) (by rw [hz2]; exact growslice_fits (by omega) (by omega))
      rw [hr] at hr2
      cases hr2
      exact (((Keeps.refl (fun _ => False) (W.alloc (.cells #[.int .i64 m, .int .i64 0, .int .i64 0] 36))).drew).alloc _).owns own' (fun _ _ e => e)

set_option maxHeartbeats 1600000 in
set_option maxRecDepth 1000000 in
theorem same_any (w : World) (a b c : Int) : Calls Try.prog 32 #[.agg #[.int .i64 a, .int .i64 b, .int .i64 c], .agg #[.int .i64 a, .int .i64 b, .int .i64 c]] w fun e w' => e = .returned (.bool true) ∧ Keeps (fun _ => False) w w' := by
  go_enter Try.func32, Try.ntmps32
  go_wp2
  go_ret
  exact ⟨rfl, ((Keeps.refl _ w).alloc _).alloc _⟩

/-- From an entry on, a list is the table's. -/
def From (xs : List Value) (rs : List Rd) (i : Nat) : Prop := ∀ p e, i ≤ p → (es rs)[p]? = some e → xs[p * 3]? = some (.int .i64 e.ob) ∧ xs[p * 3 + 1]? = some (.int .i64 e.ver) ∧ xs[p * 3 + 2]? = some (.int .i64 (e.ord : Int))
theorem From.start (rs : List Rd) : From (fl ecells (es rs)) rs 0 := fun p e _ he => by
  have q : ∀ j, j < 3 → (fl ecells (es rs))[p * 3 + j]? = (ecells e)[j]? := fun j hj => by have := fl_get ecells_len (es rs) p j hj; rw [he] at this; exact this
  exact ⟨q 0 (by omega), q 1 (by omega), q 2 (by omega)⟩
theorem From.next {xs : List Value} {rs : List Rd} {i : Nat} (h : From xs rs i) (a b c : Value) : From (((xs.set (i * 3) a).set (i * 3 + 1) b).set (i * 3 + 2) c) rs (i + 1) := fun p e hp he => by
  have := h p e (by omega) he
  refine ⟨?_, ?_, ?_⟩
  · rw [List.getElem?_set_ne (by omega), List.getElem?_set_ne (by omega), List.getElem?_set_ne (by omega)]; exact this.1
  · rw [List.getElem?_set_ne (by omega), List.getElem?_set_ne (by omega), List.getElem?_set_ne (by omega)]; exact this.2.1
  · rw [List.getElem?_set_ne (by omega), List.getElem?_set_ne (by omega), List.getElem?_set_ne (by omega)]; exact this.2.2

set_option maxHeartbeats 3200000 in
set_option maxRecDepth 1000000 in
theorem list_any {w : World} {T : Tk} {rb : Nat} {vr : Value} {rs : List Rd} (h : TV w T rs) (hr : RV w rb vr rs) (hn : rs.length ≤ 4398046511200) (mark : Int) : Calls Try.prog 23 #[.pointer (some ⟨T.tb, 0, none⟩), .pointer (some ⟨rb, 0, none⟩), .int .i64 mark] w fun e w' => e = .returned (.bool true) ∧ Keeps (fun _ => False) w w' := by
  have C1 := entries_any h hn
  have C2 := fun W (K : Keeps (fun _ => False) w W) => rentries_any (hr.new K) hn
  have hle := es_len rs
  obtain ⟨L, hL⟩ : ∃ L, Hid (L = (es rs).length) := ⟨_, rfl⟩
  rw [← hL.out] at C1 C2 hle
  have hL9 : L ≤ 4398046511200 := by omega
  clear h hr
  go_enter Try.func23, Try.ntmps23
  go_wp2_with fail
  refine C1.mono ?_
  rintro e w1 ⟨v1, rfl, o1, k1⟩
  obtain ⟨a, c, rfl, -⟩ := owns_form o1
  clear C1
  go_wp2_with fail
  refine (C2 _ k1).mono ?_
  rintro e w2 ⟨a2, c2, rfl, o2, k2⟩
  clear C2
  have hbl : ((L : Int) != (L : Int)) = false := by simp
  have o1' := k2.owns o1 (fun _ _ e => e)
  have l1 := owns_lt' o1
  have s1 := k1.size
  have s2 := k2.size
  have HK2 : Hid (Keeps (fun _ => False) w w2) := k1.trans k2
  go_wp2_with fail
  go_loopw [9] (fun iv W => ∃ (i : Nat) (xs : List Value), iv = .int .i64 (i : Int) ∧ i ≤ L ∧ W.ownsRow w.heap.size 36 3 (.slice a L c) L xs ∧ Hid (From xs rs i) ∧ Keeps (fun k => (Value.slice a L c).ownBlock = some k) w2 W) (fun iv _ => L - (intOf iv).toNat)
  case atStart => exact ⟨0, _, rfl, Nat.zero_le _, o1', From.start rs, Keeps.refl _ _⟩
  case round =>
    clear o1'
    obtain ⟨i, xs, rfl, hiL, ho, hFr, hK⟩ := hrel
    have hi0 : (0 : Int) ≤ (i : Int) := by omega
    by_cases hlt : i < L
    · have hltI : (i : Int) < (L : Int) := by omega
      obtain ⟨e, he⟩ : ∃ e, (es rs)[i]? = some e := ⟨(es rs)[i]'(by rw [← hL.out]; exact hlt), by simp⟩
      obtain ⟨g, rfl⟩ : ∃ g, a = some ⟨g, 0, none⟩ := by
        rcases ho.2 with ⟨_, e0⟩ | ⟨g, cp, cur, e0, _⟩
        · omega
        · cases e0; exact ⟨g, rfl⟩
      obtain ⟨g2, rfl⟩ : ∃ g, a2 = some ⟨g, 0, none⟩ := by
        rcases o2.2 with ⟨_, e0⟩ | ⟨g, cp, cur, e0, _⟩
        · omega
        · cases e0; exact ⟨g, rfl⟩
      have lg : g < w1.heap.size := l1 g rfl
      have lg2 := (o2.lt g2 rfl).1
      have ngg : ¬ g2 = g := by omega
      have og := hK.owns o2 (fun k e e' => by cases e; cases e'; exact ngg rfl)
      obtain ⟨d0, d1, d2⟩ := owns_en og rfl he
      simp only at d0 d1 d2
      obtain ⟨x0, x1, x2⟩ := hFr.out i e (Nat.le_refl _) he
      have c0 := owns_cell ho rfl x0
      have c1 := owns_cell ho rfl x1
      have c2 := owns_cell ho rfl x2
      simp only at c0 c1 c2
      have C0 := ks_cell c0
      have C1 := ks_cell c1
      have C2 := ks_cell c2
      have D0 := ks_cell d0
      have D1 := ks_cell d1
      have D2 := ks_cell d2
      have hNE : Nonempty (KS wr) := ⟨⟨wr, Keeps.refl _ wr⟩⟩
      obtain ⟨eo, heo⟩ : ∃ eo, Hid (eo = e.ob) := ⟨_, rfl⟩
      obtain ⟨ev', hev⟩ : ∃ ev', Hid (ev' = e.ver) := ⟨_, rfl⟩
      obtain ⟨en, hen⟩ : ∃ en : Int, Hid (en = (e.ord : Int)) := ⟨_, rfl⟩
      rw [← heo.out] at C0 D0
      rw [← hev.out] at C1 D1
      rw [← hen.out] at C2 D2
      clear c0 c1 c2 d0 d1 d2 x0 x1 x2 og he o1
      have HO : Hid (wr.ownsRow w.heap.size 36 3 (.slice (some ⟨g, 0, none⟩) L c) L xs) := ho
      have HK : Hid (Keeps (fun k => (Value.slice (some ⟨g, 0, none⟩) L c).ownBlock = some k) w2 wr) := hK
      clear ho hK
      go_wp2_with fail
      refine wp_region_ks (by kernel_rfl) (by kernel_rfl) ?_
      repeat (go_big_quiet_step ((go_at_call 32; refine (same_any _ _ _ _).mono ?_; rintro x w9 ⟨rfl, k9⟩; exact ⟨rfl, ⟨_, Keeps.trans (KS.property _) k9⟩, rfl⟩)))
      refine wpQuiet_nil ?_
      rintro _ ⟨U, rfl⟩
      have ho3 := U.property.owns HO.out (fun _ _ e => e)
      have hK3 := HK.out.trans (U.property.mono (fun _ _ e => e.elim))
      clear C0 C1 C2 D0 D1 D2 hNE HO HK
      generalize U.val = wu at *
      have hcap := owns_cap ho3
      have hso : ∀ j, j < 3 → (wu.cell? ⟨g, i * 3 + j, none⟩).isSome = true := fun j hj => by
        have hx : i * 3 + j < xs.length := by rw [ho3.1]; omega
        have := owns_cell ho3 (g := g) rfl (List.getElem?_eq_getElem hx)
        rw [this]; rfl
      obtain ⟨q0, hq0⟩ := Option.isSome_iff_exists.1 (hso 0 (by omega))
      obtain ⟨q1, hq1⟩ := Option.isSome_iff_exists.1 (hso 1 (by omega))
      obtain ⟨q2, hq2⟩ := Option.isSome_iff_exists.1 (hso 2 (by omega))
      rw [Nat.add_zero] at hq0
      have z0 := ho3.frozenAt (i * 3)
      have z1 := ho3.frozenAt (i * 3 + 1)
      have z2 := ho3.frozenAt (i * 3 + 2)
      have s1' := ho3.stored (i * 3) (.int .i64 mark)
      have s2' := s1'.1.stored (i * 3 + 1) (.int .i64 mark)
      have s3' := s2'.1.stored (i * 3 + 2) (.int .i64 mark)
      have hK4 := ((hK3.grown s1'.2 (fun _ _ e => e)).grown s2'.2 (fun _ _ e => e)).grown s3'.2 (fun _ _ e => e)
      have HO4 : Hid ((((wu.setCell ⟨g, i * 3, none⟩ (.int .i64 mark)).setCell ⟨g, i * 3 + 1, none⟩ (.int .i64 mark)).setCell ⟨g, i * 3 + 2, none⟩ (.int .i64 mark)).ownsRow w.heap.size 36 3 (.slice (some ⟨g, 0, none⟩) L c) L (((xs.set (i * 3) (.int .i64 mark)).set (i * 3 + 1) (.int .i64 mark)).set (i * 3 + 2) (.int .i64 mark))) := s3'.1
      have HK4 : Hid (Keeps (fun k => (Value.slice (some ⟨g, 0, none⟩) L c).ownBlock = some k) w2 (((wu.setCell ⟨g, i * 3, none⟩ (.int .i64 mark)).setCell ⟨g, i * 3 + 1, none⟩ (.int .i64 mark)).setCell ⟨g, i * 3 + 2, none⟩ (.int .i64 mark))) := hK4
      clear s1' s2' s3' hK4 hK3 ho3 hso
      go_wp2_with fail
      go_roundw
      case rel => exact ⟨i + 1, _, by go_num, by omega, HO4.out, hFr.out.next _ _ _, HK4.out⟩
      case measure => simp [intOf]; omega
    · have hI : ¬ (i : Int) < (L : Int) := by omega
      rw [show i = L by omega]
      have swr := hK.size
      obtain ⟨g3, p3, W3, r3, k3, o3⟩ := mark_run ho (by omega) (wrap64 (mark + 1)) hL9
      have sw3 := k3.size
      obtain ⟨g4, p4, W4, r4, k4, o4⟩ := mark_run o3 (by omega) (wrap64 (mark + 2)) hL9
      have lo1 : ∀ k, (Value.slice a L c).ownBlock = some k → w.heap.size ≤ k := fun k e => (ho.lt k e).1
      have HKE : Hid (Keeps (fun _ => False) w W4) := HK2.out.trans' ((hK.trans k3).trans k4) (fun _ _ e => e) (fun k hk e => by have := lo1 k e; omega)
      have hbL : (((L + 1 : Nat) : Int) == ((L + 1 : Nat) : Int)) = true := by simp
      clear ho hK k3 k4 o3 o4 hFr o1 o2 lo1
      go_wp2_with (first | (at_builtin; refine wpList_append_run rfl _ _ _ rfl _ _ (.slice (some ⟨g3, 0, none⟩) (L + 1) p3) W3 rfl rfl r3 ?_; clear r3) | (at_builtin; refine wpList_append_run rfl _ _ _ rfl _ _ (.slice (some ⟨g4, 0, none⟩) (L + 1) p4) W4 rfl rfl r4 ?_; clear r4))
      go_ret
      exact ⟨rfl, HKE.out⟩
end Go.Proofs.Ytagplkgjdaojnaa
