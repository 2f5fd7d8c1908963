import Derived.Test.YtgjndhbfjofkeaaGreatDoorG26
namespace Go.Proofs.YtgjndhbfjofkeaaGreatDoor
open Go.RowKit
section
variable {w w' : World} {ρ ρ' ρ'' : Nat → Nat} {u j : Nat} {c : Sc} {ab rb n n' : Nat} {x x' : Tx} {f f' : Int → Option Nat} {s s' : Ws} {m m' : Mm} {r r' : Ro} {g nd kr kd t : Nat} {xs : Nat → Int} {rs rs' : List Rd} {p : Int}
theorem grw_w {z : Nat} {y y' : Nat → Prop} (h : Grw z y s m s' m') (hy : ∀ q, y q → y' q) : Grw z y' s m s' m' := ⟨h.ob, h.al, h.at_, h.ll, h.lo, h.ce, h.st2, h.stn, fun q h1 h2 h3 => h.pr q h1 h2 (fun e => h3 (hy q e))⟩
theorem hld_add {ob ver o : Int} (h : hld (add rs ob ver) o) : hld rs o ∨ o = ob := by
  obtain ⟨j, r, h1, h2, h3⟩ := h
  unfold add at h1
  by_cases e : j < rs.length
  · rw [List.getElem?_append_left e] at h1
    exact .inl ⟨j, r, h1, h2, h3⟩
  · rw [List.getElem?_append_right (by omega)] at h1
    have : r = ⟨ob, ver, 1⟩ := by
      cases hj : j - rs.length with
      | zero => rw [hj] at h1; simpa using h1.symm
      | succ q => rw [hj] at h1; simp at h1
    exact .inr (by rw [← h3, this])
theorem op_gc {N : Nat} {th st pr K : Int} (hG : Gc N th st pr K rs f s) (hM : Mi x rs f s) : Gc N th st pr K (x.opRs rs) f s := by
  unfold Tx.opRs
  split
  · rename_i h1
    obtain ⟨_, h2, h3⟩ : x.phase = 1 ∧ f x.object = none ∧ ¬ hld rs x.object := hM.ph.elim id (fun e => by omega)
    refine ⟨hG.no1, hG.no, hG.at_, hG.rk, fun r hr => ?_, hG.fo, fun o e hh => ?_⟩
    · unfold add at hr
      rcases List.mem_append.1 hr with e | e
      · exact hG.rd r e
      · rw [List.mem_singleton.1 e]
        exact ⟨hM.ob, hM.ba⟩
    · rcases hld_add hh with e1 | e1
      · exact hG.sp o e e1
      · rw [e1, h2] at e; cases e
  · exact hG
theorem op_len : (x.opRs rs).length ≤ rs.length + 1 := by
  unfold Tx.opRs
  split
  · rw [add_len]; omega
  · omega
theorem thru_sr {k : Int} (h1 : r.thread = x.thread) (h2 : r.no = x.no) (hk : r.kind = k) (hk' : k ≠ 1 ∧ k ≠ 2 ∧ k ≠ 13 ∧ k ≠ 14) (hf : r.fin = 0) (ha : x.alive = true) : SR kd x f s m r x.thru f m' :=
  ⟨⟨rfl, rfl, rfl, rfl⟩, ⟨h1, h2⟩, by omega, .inr ⟨by omega, rfl⟩, .inl ⟨hf, ha⟩, .inr ⟨fun e => by omega, rfl⟩⟩
theorem Mi.ph12 (h : Mi x rs f s) : x.phase = 1 ∨ x.phase = 2 := h.ph.imp (·.1) id
theorem Mi.nh (h : Mi x rs f s) : x.phase = 1 → ¬ hld rs x.object := fun e => h.ph.elim (·.2.2) (fun e' => by omega)
set_option maxRecDepth 1000000 in
theorem step_mine (hA : AX w ρ u j c ab x n f s m) (hM : Fx w ρ c ab kd p) (hD : DX w ρ c ab g nd xs kr) (hP : Pv s m) (hG : Gx kd t x c.rs f s m) (ha : x.alive = true) (hk : x.nx = some 134) (hfr : m.free = true) (hlog : (m.log.length + 1) * 56 ≤ 140737488355328) (hrs : c.rs.length ≤ 1000000) (h : Mi x c.rs f s) :
    Calls Tryz.prog 77 #[.pointer (some ⟨ab, 0, none⟩)] w fun e w' => SO w ρ u j c ab g nd xs kd t x n f s m e w' := by
  obtain ⟨v, hv, hvl⟩ := h.ba
  have hvv : v < s.vals.length := by rw [hP.inv.vl]; exact hvl
  have hv2 : s.vals.length ≤ 1000000000 := by rw [hP.inv.vl]; have := hP.inv.nl; omega
  have ho := h.ob.i64 hP.inv
  have hlv : x.alive = true → (m.load (s.att x.no).status).val (s.att x.no).status ≠ 2 := fun h => by rw [m.val_load]; exact hG.lv h
  by_cases h1 : m.val (s.att x.no).status = 1
  · obtain ⟨p1, p2⟩ := hP.load (s.att x.no).status x.no (fun q => (7 : Int) = 14 ∧ x.prio = (q : Int))
    have hln := And.intro (show s.locs.length ≤ s.locs.length + 1 by omega) (And.intro (op_len (x := x) (rs := c.rs)) (And.intro (show n ≤ n + 1 by omega) (And.intro (show (m.load (s.att x.no).status).log.length ≤ m.log.length + 1 by rw [log_load]; exact Nat.le_refl _) (And.intro (m.len_load (s.att x.no).status) (rfl : s.atts.length = s.atts.length)))))
    cases hkp : kpT kd with
    | false => exact fin_k hA hD ha hk (fun _ _ => rfl) (mine_no hM hP.inv hG.gc.no hfr hlog h1 hkp h.ph12 ho h.nh (by omega) hv hvv hv2) ⟨p1, Gx.thru (op_gc hG.gc h) hlv, p2, thru_sr (k := 7) rfl rfl rfl (by decide) rfl ha, hln⟩
    | true =>
      by_cases hr : x.rank < 255
      · exact fin_k hA hD ha hk (fun _ _ => rfl) (mine_boost hM hP.inv hG.gc.no hfr hlog h1 hkp (decide_eq_true hr)) (po_load (k := 7) hP hG ha _ ⟨rfl, rfl, rfl, rfl, rfl, rfl, .inl rfl, .inl rfl⟩ ⟨_, rfl, .boost ⟨h.ob, h.ba, h.ph⟩ hkp hr⟩ rfl rfl rfl (by decide) rfl)
      · exact fin_k hA hD ha hk (fun _ _ => rfl) (mine_top hM hP.inv hG.gc.no hfr hlog h1 hkp (decide_eq_false hr) h.ph12 ho h.nh (by omega) hv hvv hv2) ⟨p1, Gx.thru (op_gc hG.gc h) hlv, p2, thru_sr (k := 7) rfl rfl rfl (by decide) rfl ha, hln⟩
  · exact fin_f hA hD ha hk (fun _ _ => rfl) (x' := x.over) ⟨.inr ⟨rfl, rfl, rfl⟩⟩ (mine_killed hP.inv hG.gc.no hfr hlog rfl (bne_t h1) w) (ends_load (k := 7) hP hG _ rfl rfl rfl (by decide) (show (1 : Int) ≤ 5 ∧ (5 : Int) ≤ 5 by decide))
set_option maxRecDepth 1000000 in
theorem step_boost (hA : AX w ρ u j c ab x n f s m) (hD : DX w ρ c ab g nd xs kr) (hP : Pv s m) (hG : Gx kd t x c.rs f s m) (ha : x.alive = true) (hk : x.nx = some 150) (hfr : m.free = true) (hbg : m.begun = true) (hlog : (m.log.length + 1) * 56 ≤ 140737488355328) (hrs : c.rs.length ≤ 1000000) (h : Mi x c.rs f s) (hkp : kpT kd = true) (hr : x.rank < 255) :
    Calls Tryz.prog 77 #[.pointer (some ⟨ab, 0, none⟩)] w fun e w' => SO w ρ u j c ab g nd xs kd t x n f s m e w' := by
  obtain ⟨v, hv, hvl⟩ := h.ba
  have hvv : v < s.vals.length := by rw [hP.inv.vl]; exact hvl
  have hv2 : s.vals.length ≤ 1000000000 := by rw [hP.inv.vl]; have := hP.inv.nl; omega
  have ho := h.ob.i64 hP.inv
  obtain ⟨q, hq, hqi, hqf⟩ := hP.pr x.no hG.gc.no1 hG.gc.no
  have hxq : x.prio = (q : Int) := hG.gc.at_.2.2.symm.trans hq
  obtain ⟨p1, p2⟩ := hP.bump hqf x.no
  have p2' : Grw x.no (fun c => (14 : Int) = 14 ∧ x.prio = (c : Int)) s m s (m.bump q) := grw_w p2 (fun c e => ⟨rfl, by rw [e]; exact hxq⟩)
  have hrk := hG.gc.rk
  have hgc := op_gc hG.gc h
  have hgc1 : Gc x.no x.thread x.stamp x.prio (x.rank + 1) (x.opRs c.rs) f s := ⟨hgc.no1, hgc.no, hgc.at_, by omega, hgc.rd, hgc.fo, hgc.sp⟩
  have hlv : x.alive = true → (m.bump q).val (s.att x.no).status ≠ 2 := fun h => by rw [m.val_bump, if_neg (fun e => (hqf.st _ hG.gc.no).1 e.1)]; exact hG.lv h
  exact fin_k hA hD ha hk (fun _ _ => rfl) (boost_goes hxq hqi ⟨hrk.1, hr⟩ hfr hlog h.ph12 ho h.nh (by omega) hv hvv hv2 w) ⟨p1, Gx.thru (x := { x with rank := x.rank + 1 }) hgc1 hlv, p2', ⟨⟨rfl, rfl, rfl, rfl⟩, ⟨rfl, rfl⟩, (show (14 : Int) ≠ 1 ∧ (14 : Int) ≠ 2 by decide), .inl ⟨rfl, hkp, hr, rfl, q, hxq, took_bump m hbg q, by rw [m.val_bump, if_pos ⟨rfl, hqi⟩]⟩, .inl ⟨rfl, ha⟩, .inr ⟨fun e => absurd (show (14 : Int) = 13 from e.1) (by decide), rfl⟩⟩, by omega, op_len, by omega, by rw [log_bump]; exact Nat.le_refl _, m.len_bump q, rfl⟩
set_option maxRecDepth 1000000 in
theorem step_local (hA : AX w ρ u j c ab x n f s m) (hD : DX w ρ c ab g nd xs kr) (hP : Pv s m) (hG : Gx kd t x c.rs f s m) (ha : x.alive = true) (hk : x.nx = some 84) (h : Ob x s) (hf : (∃ l, f x.object = some l) ∨ (f x.object = none ∧ ∃ e, TB.fnd c.rs x.object = some e)) :
    Calls Tryz.prog 77 #[.pointer (some ⟨ab, 0, none⟩)] w fun e w' => SO w ρ u j c ab g nd xs kd t x n f s m e w' := by
  have ho := h.i64 hP.inv
  obtain ⟨p1, p2⟩ := hP.same (m' := m) rfl (fun _ => rfl) x.no (fun q => (3 : Int) = 14 ∧ x.prio = (q : Int))
  rcases hf with ⟨l, hf⟩ | ⟨hf, e, he⟩
  · have hl := (hG.gc.fo _ l hf).1
    exact fin_k hA hD ha hk (fun _ _ => rfl) ((local_own ho hf hl (qo := (s.lo l).owner) (qd := (s.lo l).old) (qn := (s.lo l).new) (qu := (s.lo l).used) rfl (by rw [hP.inv.vl, (hP.inv.lo l hl).1]; exact hl)).k w) ⟨p1, Gx.thru hG.gc hG.lv, p2, thru_sr (k := 3) rfl rfl rfl (by decide) rfl ha, by omega, by omega, by omega, by omega, rfl, rfl⟩
  · have hm : e ∈ es c.rs := by
      unfold TB.fnd at he
      cases hp : pl (es c.rs) x.object with
      | none => rw [hp] at he; cases he
      | some q => rw [hp] at he; exact List.mem_of_getElem? he
    obtain ⟨r', h1, _, h3⟩ := es_get hm
    obtain ⟨v, hv, hvl⟩ := (hG.gc.rd r' (List.mem_of_getElem? h1)).2
    have hev : e.ver = (v : Int) := by rw [h3]; exact hv
    exact fin_k hA hD ha hk (fun _ _ => rfl) ((local_tab ho hf he hev (by rw [hP.inv.vl]; exact hvl)).k w) ⟨p1, Gx.thru hG.gc hG.lv, p2, thru_sr (k := 3) rfl rfl rfl (by decide) rfl ha, by omega, by omega, by omega, by omega, rfl, rfl⟩
theorem low_rng (n : Nat) (d : Int) : 0 ≤ CM.lowz n d := Int.emod_nonneg _ (by have : (0 : Int) < 2 ^ n := Int.pow_pos (by decide); omega)
theorem low4 (d : Int) : CM.lowz 4 d ≤ 15 := by unfold CM.lowz; omega
theorem cut_wait {p n wt : Int} (hp : p ≤ 4096) (hw : 0 ≤ wt) (hn : 1 ≤ n) (h : (CM.cutv p n wt).a = false) : 1 ≤ (CM.cutv p n wt).n ∧ (CM.cutv p n wt).n ≤ 4096 := by
  unfold CM.cutv at *
  split at h
  · cases h
  · rename_i h1
    rw [if_neg h1]
    show 1 ≤ min n (p - wt) ∧ min n (p - wt) ≤ 4096
    omega
theorem vd_wait {k : Nat} {p : Int} {cf : CM.Cf} (hp : 1 ≤ p ∧ p ≤ 4096) (hw : 0 ≤ cf.waited) (h : (CM.judgev k p cf).a = false) : 1 ≤ (CM.judgev k p cf).n ∧ (CM.judgev k p cf).n ≤ 4096 := by
  unfold CM.judgev at *
  split at h
  · split at h
    · cases h
    · rename_i h1; rw [if_neg h1]; exact cut_wait hp.2 hw (by have := low_rng cf.tries.toNat cf.draw; omega) h
  · split at h
    · cases h
    · rename_i h1; rw [if_neg h1]; exact cut_wait hp.2 hw (by omega) h
  · split at h
    · cases h
    · rename_i h1; rw [if_neg h1]; exact cut_wait hp.2 hw (by have := low_rng (min cf.tries 7).toNat cf.draw; omega) h
  · split at h
    · cases h
    · rename_i h1; rw [if_neg h1]; exact cut_wait hp.2 hw (by omega) h
  · split at h
    · cases h
    · rename_i h1
      rw [if_neg h1]
      have h2 := low_rng 4 cf.draw
      have h3 := low4 cf.draw
      show 1 ≤ (CM.lowz 4 cf.draw + 1) / 2 + (if cf.draw < 0 then 8 else 0) ∧ (CM.lowz 4 cf.draw + 1) / 2 + (if cf.draw < 0 then 8 else 0) ≤ 4096
      split <;> omega
end
end Go.Proofs.YtgjndhbfjofkeaaGreatDoor

namespace Go.Proofs.YtgjndhbfjofkeaaGreatDoor
open Go.RowKit
section
variable {w w' : World} {ρ ρ' ρ'' : Nat → Nat} {u j : Nat} {c : Sc} {ab rb n n' : Nat} {x x' : Tx} {f f' : Int → Option Nat} {s s' : Ws} {m m' : Mm} {r r' : Ro} {g nd kr kd t : Nat} {xs : Nat → Int} {rs rs' : List Rd} {p : Int}
theorem look_pv (hP : Pv s m) (k en q z : Nat) (y : Nat → Prop) : (Pv s (lookM s m k en q) ∧ Grw z y s m s (lookM s m k en q)) ∧ (∀ c, (lookM s m k en q).val c = m.val c) ∧ (lookM s m k en q).log.length ≤ m.log.length + 1 ∧ (lookM s m k en q).cells.length = m.cells.length := by
  unfold lookM
  split
  · exact ⟨hP.load _ z y, m.val_load _, by rw [log_load]; exact Nat.le_refl _, m.len_load _⟩
  · split
    · exact ⟨hP.load _ z y, m.val_load _, by rw [log_load]; exact Nat.le_refl _, m.len_load _⟩
    · exact ⟨hP.same (m' := m) rfl (fun _ => rfl) z y, fun _ => rfl, by omega, rfl⟩
theorem look_stp (s : Ws) (m : Mm) (k en q : Nat) : Stp m (lookM s m k en q) := by
  unfold lookM Stp
  split
  · exact ⟨rfl, rfl⟩
  · split <;> exact ⟨rfl, rfl⟩
theorem lookR_eq (r : Ro) (k en q : Nat) : (lookR s m k en q r).thread = r.thread ∧ (lookR s m k en q r).no = r.no ∧ (lookR s m k en q r).kind = r.kind ∧ (lookR s m k en q r).fin = r.fin := by
  unfold lookR
  split <;> exact ⟨rfl, rfl, rfl, rfl⟩
theorem IsDr.keepW {W W' : World} {b gg nn kk B : Nat} {xx : Nat → Int} (h : IsDr W b gg nn xx kk) (h1 : b < B) (h2 : gg < B) (k : Keeps (fun q => B ≤ q) W W') : IsDr W' b gg nn xx kk := h.keep k (fun e => by omega) (fun e => by omega)
set_option maxRecDepth 1000000 in
theorem step_judge (hA : AX w ρ u j c ab x n f s m) (hM : Fx w ρ c ab kd p) (hD : DX w ρ c ab g nd xs kr) (hng : ∀ z, z = 0 ∨ z = c.gb → z ≠ c.db) (hP : Pv s m) (hG : Gx kd t x c.rs f s m) (ha : x.alive = true) (hk : x.nx = some 149) (hfr : m.free = true) (hlog : (m.log.length + 1) * 56 ≤ 140737488355328) (ht : t ≤ 1000000) {d : Fd} (h : Lk x c.rs f s d) (he : En_ x s) :
    Calls Tryz.prog 77 #[.pointer (some ⟨ab, 0, none⟩)] w fun e w' => SO w ρ u j c ab g nd xs kd t x n f s m e w' := by
  obtain ⟨en, hen, h1, h2⟩ := he
  obtain ⟨q, hq, hqi, hqf⟩ := hP.pr en h1 h2
  have hn := hG.nm
  have hrk := hG.gc.rk
  have hok : (x.conf s m kd en q nd xs kr).ok := by
    refine ⟨?_, ?_, ?_, hP.sm en h2, ?_, ?_, ?_⟩
    · show In64 x.rank; unfold In64; omega
    · show In64 (lookT m kd q)
      unfold lookT
      split
      · exact hP.i64 q hqi
      · exact in01.1
    · show In64 x.stamp
      have := hP.sm x.no hG.gc.no
      rw [hG.gc.at_.2.1] at this
      exact this
    · show In64 x.tries; unfold In64; omega
    · show In64 x.waited; unfold In64; omega
    · show In64 (drv nd xs kr)
      unfold drv
      split
      · exact hD.i64 _
      · exact in01.1
  obtain ⟨v, hv⟩ : ∃ v, CM.judgev kd p (x.conf s m kd en q nd xs kr).norm = v := ⟨_, rfl⟩
  obtain ⟨⟨p1, p2⟩, hvl, hl1, hl2⟩ := look_pv hP kd en q x.no (fun c => (8 : Int) = 14 ∧ x.prio = (c : Int))
  have hg := judge_goes (u := u) (j := j) (n := n) (f := f) hM hD hP.inv.wf hen h2 hq hqi hfr hlog hok (by omega) hng hv
  have hwt : v.a = false → 1 ≤ v.n ∧ v.n ≤ 4096 := fun e => by
    rw [← hv] at e ⊢
    exact vd_wait hM.mg.2.1 (show 0 ≤ max x.waited 0 by omega) e
  have hLk : Lk (({ x with tries := x.tries + 1 } : Tx).obeys kd v) c.rs f s d := wLk h rfl rfl rfl rfl rfl rfl rfl
  have hEn : En_ (({ x with tries := x.tries + 1 } : Tx).obeys kd v) s := ⟨en, hen, h1, h2⟩
  have hN : Nx_ kd (({ x with tries := x.tries + 1 } : Tx).obeys kd v) c.rs f s m := by
    cases hva : v.a with
    | true => exact ⟨_, (show some (if v.a = true then _ else _) = _ by rw [if_pos hva]), .kill d hLk hEn⟩
    | false =>
      by_cases hff : flT kd = true ∧ ({ x with tries := x.tries + 1 } : Tx).flag = false
      · exact ⟨_, (show some (if v.a = true then _ else if flT kd = true ∧ ({ x with tries := x.tries + 1 } : Tx).flag = false then _ else _) = _ by rw [if_neg (by rw [hva]; simp), if_pos hff]), .up d hLk hEn (hwt hva)⟩
      · exact ⟨_, (show some (if v.a = true then _ else if flT kd = true ∧ ({ x with tries := x.tries + 1 } : Tx).flag = false then _ else _) = _ by rw [if_neg (by rw [hva]; simp), if_neg hff]), .wait d hLk hEn (hwt hva)⟩
  obtain ⟨e1, e2, e3, e4⟩ := lookR_eq (s := s) (m := m) (({ x.blank with kind := 8 } : Ro).vs x) kd en q
  have hs := step_goesX (X := fun z => z = c.db) (fun z e => e ▸ World.block_lt_of_cell? _ _ hD.dr.row) (fun W W' d k => IsDr.keepW d (World.block_lt_of_cell? _ _ hD.dr.row) hD.lt k) hA ha hk (fun _ _ => rfl) hg
  refine hs.mono (fun e w' ⟨h1', ⟨ρ', c', h2'⟩, h3'⟩ => ⟨_, _, c.rs, n, f, s, _, drk nd kr, ρ', c', h1', h2', h3', look_stp _ _ _ _ _, p1, ⟨hG.gc, fun _ => ?_, ?_, fun k' _ hk' => ?_⟩, ?_, ⟨⟨rfl, rfl, rfl, rfl⟩, ⟨e1, e2⟩, ?_, .inr ⟨?_, rfl⟩, .inl ⟨e4, ha⟩, .inr ⟨fun e => ?_, rfl⟩⟩, by omega, by omega, by omega, hl1, hl2, rfl⟩)
  · rw [hvl]; exact hG.lv ha
  · show 0 ≤ x.tries + 1 ∧ x.tries + 1 ≤ ((t + 1 : Nat) : Int) ∧ 0 ≤ x.waited ∧ x.waited ≤ ((t + 1 : Nat) : Int)
    omega
  · obtain ⟨k2, hk2, hb2⟩ := hN
    have e : some k2 = some k' := hk2.symm.trans hk'
    cases e
    exact hb2.grw hP.inv p2
  · have e5 : (x.judgeRow s m kd en q v).kind = 8 := e3
    rw [e5]
    exact p2
  · have e5 : (x.judgeRow s m kd en q v).kind = 8 := e3
    rw [e5]; decide
  · have e5 : (x.judgeRow s m kd en q v).kind = 8 := e3
    rw [e5]; decide
  · have e5 : (x.judgeRow s m kd en q v).kind = 8 := e3
    rw [e5] at e
    exact absurd e.1 (by decide)
theorem step_any (hA : AX w ρ u j c ab x n f s m) (hM : Fx w ρ c ab kd p) (hD : DX w ρ c ab g nd xs kr) (hng : ∀ z, z = 0 ∨ z = c.gb → z ≠ c.db) (hP : Pv s m) (hG : Gx kd t x c.rs f s m) (ha : x.alive = true) {k : Nat} (hk : x.nx = some k) (hfr : m.free = true) (hbg : m.begun = true) (hlog : (m.log.length + 1) * 56 ≤ 140737488355328) (hrs : c.rs.length ≤ 1000000) (hn : n ≤ 1000000) (ht : t ≤ 1000000) (hroom : s.locs.length < 16384) :
    Calls Tryz.prog 77 #[.pointer (some ⟨ab, 0, none⟩)] w fun e w' => SO w ρ u j c ab g nd xs kd t x n f s m e w' := by
  cases hG.bz k ha hk with
  | point d h he => exact step_point hA hD hP hG ha hk hfr hlog h he
  | see d h he hl => exact step_see hA hD hP hG ha hk hfr hlog hrs h he hl
  | stand d h he => exact step_stand hA hD hP hG ha hk hfr hlog h he
  | judge d h he => exact step_judge hA hM hD hng hP hG ha hk hfr hlog ht h he
  | kill d h he => exact step_kill hA hD hP hG ha hk hfr hlog h he
  | up d h he hl => exact step_up hA hD hP hG ha hk hfr hlog h he hl
  | wait d h he hl => exact step_wait hA hD hP hG ha hk ht h he hl
  | down d h hg => exact step_down hA hD hP hG ha hk hfr hlog hrs h hg
  | acquire h he hl hb => exact step_acquire hA hD hP hG ha hk hfr hbg hlog hrs hn hroom h he hl hb
  | mine h => exact step_mine hA hM hD hP hG ha hk hfr hlog hrs h
  | boost h hkp hr => exact step_boost hA hD hP hG ha hk hfr hbg hlog hrs h hkp hr
  | local_ h hp hf => exact step_local hA hD hP hG ha hk h hf
  | commit => exact step_commit hA hD hP hG ha hk hfr hlog
  | quit h => exact step_quit hA hD hP hG ha hk hfr hlog h
end
end Go.Proofs.YtgjndhbfjofkeaaGreatDoor

namespace Go.Proofs.YtgjndhbfjofkeaaGreatDoor
open Go.RowKit
structure AO (w w' : World) (ρ ρ' : Nat → Nat) (u j : Nat) (c c' : Sc) (ab kd t : Nat) (x x' : Tx) (n : Nat) (f : Int → Option Nat) (s s' : Ws) (m : Mm) : Prop where
  res : Res w w' ρ ρ' u j c c' ab x' c'.rs n f s' m (Own c ab)
  pv : Pv s' m
  gx : Gx kd t x' c'.rs f s' m
  gw : Grw x.no (fun _ => False) s m s' m
  sm : x'.no = x.no ∧ x'.thread = x.thread ∧ x'.stamp = x.stamp ∧ x'.prio = x.prio ∧ x'.rank = x.rank ∧ x'.alive = x.alive
  ln : c'.rs.length = c.rs.length ∧ s'.locs.length = s.locs.length ∧ s'.atts.length = s.atts.length
section
variable {w w' : World} {ρ ρ' ρ'' : Nat → Nat} {u j : Nat} {c : Sc} {ab rb n n' : Nat} {x x' : Tx} {f f' : Int → Option Nat} {s s' : Ws} {m m' : Mm} {r r' : Ro} {g nd kr kd t : Nat} {xs : Nat → Int} {rs rs' : List Rd} {p : Int}
theorem ao_self (hP : Pv s m) (h : AX w' ρ u j c ab x' n f s m) (k : Keeps (fun k => k = ab) w w') (hG : Gx kd t x' c.rs f s m) (hs : x'.no = x.no ∧ x'.thread = x.thread ∧ x'.stamp = x.stamp ∧ x'.prio = x.prio ∧ x'.rank = x.rank ∧ x'.alive = x.alive) : AO w w' ρ ρ u j c c ab kd t x x' n f s s m :=
  ⟨⟨Sam.refl c, h, Fr.of_keeps k (fun _ _ e => .inl e), fun _ e => .inl e⟩, hP, hG, (hP.same (m' := m) rfl (fun _ => rfl) x.no (fun _ => False)).2, hs, rfl, rfl, rfl⟩
theorem gx_op (hG : Gx kd t x rs f s m) (hx : x'.no = x.no ∧ x'.thread = x.thread ∧ x'.stamp = x.stamp ∧ x'.prio = x.prio ∧ x'.rank = x.rank ∧ x'.alive = x.alive) (ht : x'.tries = 0 ∧ x'.waited = 0) (hN : Nx_ kd x' rs f s m) : Gx kd t x' rs f s m := by
  refine ⟨by rw [hx.1, hx.2.1, hx.2.2.1, hx.2.2.2.1, hx.2.2.2.2.1]; exact hG.gc, by rw [hx.2.2.2.2.2, hx.1]; exact hG.lv, by omega, fun k _ hk => ?_⟩
  obtain ⟨k', e, h⟩ := hN
  rw [hk] at e
  cases e
  exact h
theorem fnd_of (hg : Gd rs) {o : Int} (h : hld rs o) : ∃ e, TB.fnd rs o = some e := by
  obtain ⟨q, hq⟩ := Option.isSome_iff_exists.1 ((hld_pl hg o).1 h)
  obtain ⟨e, he, _⟩ := pl_some hq
  exact ⟨e, by unfold TB.fnd; rw [hq]; exact he⟩
theorem fnd_not (hg : Gd rs) {o : Int} (h : ¬ hld rs o) : TB.fnd rs o = none := by
  unfold TB.fnd
  cases hq : pl (es rs) o with
  | none => rfl
  | some q => exact absurd ((hld_pl hg o).2 (by rw [hq]; rfl)) h
set_option maxRecDepth 1000000 in
theorem ask_read (hA : AX w ρ u j c ab x n f s m) (hP : Pv s m) (hG : Gx kd t x c.rs f s m) (ha : x.alive = true) (hn : x.nx = none) {o : Nat} (ho : o < s.objs.length) :
    Calls Tryz.prog 59 #[.pointer (some ⟨ab, 0, none⟩), .int .i64 (o : Int)] w fun e w' => e = .returned (.int .i64 0) ∧ ∃ x', AO w w' ρ ρ u j c c ab kd t x x' n f s s m := by
  have hio : I64 (o : Int) := by have := hP.inv.no; constructor <;> omega
  by_cases hh : hld c.rs (o : Int)
  · obtain ⟨e, he⟩ := fnd_of hA.tt.gd hh
    have hf : f (o : Int) = none := by
      cases hf : f (o : Int) with
      | none => rfl
      | some l => exact absurd hh (hG.gc.sp _ (by rw [hf]; rfl))
    exact (read_held hA ha hn ho hio he).mono (fun _ _ ⟨h1, h2, h3⟩ => ⟨h1, _, ao_self hP h2 h3 (gx_op hG ⟨rfl, rfl, rfl, rfl, rfl, rfl⟩ ⟨rfl, rfl⟩ ⟨_, rfl, .local_ ⟨o, rfl, ho⟩ (.inl rfl) (.inr ⟨hf, e, he⟩)⟩) ⟨rfl, rfl, rfl, rfl, rfl, rfl⟩⟩)
  · have he := fnd_not hA.tt.gd hh
    cases hf : f (o : Int) with
    | none => exact (read_free hA ha hn ho hio (by rw [hf]; rfl) he).mono (fun _ _ ⟨h1, h2, h3⟩ => ⟨h1, _, ao_self hP h2 h3 (gx_op hG ⟨rfl, rfl, rfl, rfl, rfl, rfl⟩ ⟨rfl, rfl⟩ ⟨_, rfl, .point .rd ⟨rfl, ⟨o, rfl, ho⟩, ⟨0, rfl, Nat.zero_le _⟩, ⟨rfl, ⟨o, rfl, ho⟩, hf, hh⟩⟩ (.inl rfl)⟩) ⟨rfl, rfl, rfl, rfl, rfl, rfl⟩⟩)
    | some l => exact (read_own hA ha hn ho hio (by rw [hf]; rfl) he).mono (fun _ _ ⟨h1, h2, h3⟩ => ⟨h1, _, ao_self hP h2 h3 (gx_op hG ⟨rfl, rfl, rfl, rfl, rfl, rfl⟩ ⟨rfl, rfl⟩ ⟨_, rfl, .local_ ⟨o, rfl, ho⟩ (.inl rfl) (.inl ⟨l, hf⟩)⟩) ⟨rfl, rfl, rfl, rfl, rfl, rfl⟩⟩)
set_option maxRecDepth 1000000 in
theorem ask_write (hA : AX w ρ u j c ab x n f s m) (hP : Pv s m) (hG : Gx kd t x c.rs f s m) (ha : x.alive = true) (hn : x.nx = none) {o : Nat} (ho : o < s.objs.length) :
    Calls Tryz.prog 87 #[.pointer (some ⟨ab, 0, none⟩), .int .i64 (o : Int)] w fun e w' => e = .returned (.int .i64 0) ∧ ∃ x', AO w w' ρ ρ u j c c ab kd t x x' n f s s m := by
  have hio : I64 (o : Int) := by have := hP.inv.no; constructor <;> omega
  cases hf : f (o : Int) with
  | none => exact (write_free hA ha hn ho hio (by rw [hf]; rfl)).mono (fun _ _ ⟨h1, h2, h3⟩ => ⟨h1, _, ao_self hP h2 h3 (gx_op hG ⟨rfl, rfl, rfl, rfl, rfl, rfl⟩ ⟨rfl, rfl⟩ ⟨_, rfl, .point .wr ⟨rfl, ⟨o, rfl, ho⟩, ⟨0, rfl, Nat.zero_le _⟩, ⟨rfl, ⟨o, rfl, ho⟩, hf, rfl⟩⟩ (.inl rfl)⟩) ⟨rfl, rfl, rfl, rfl, rfl, rfl⟩⟩)
  | some l => exact (write_own hA ha hn ho hio (by rw [hf]; rfl)).mono (fun _ _ ⟨h1, h2, h3⟩ => ⟨h1, _, ao_self hP h2 h3 (gx_op hG ⟨rfl, rfl, rfl, rfl, rfl, rfl⟩ ⟨rfl, rfl⟩ ⟨_, rfl, .local_ ⟨o, rfl, ho⟩ (.inr rfl) (.inl ⟨l, hf⟩)⟩) ⟨rfl, rfl, rfl, rfl, rfl, rfl⟩⟩)
set_option maxRecDepth 1000000 in
theorem ask_finish (hA : AX w ρ u j c ab x n f s m) (hP : Pv s m) (hG : Gx kd t x c.rs f s m) (ha : x.alive = true) (hn : x.nx = none) :
    Calls Tryz.prog 47 #[.pointer (some ⟨ab, 0, none⟩)] w fun e w' => e = .returned (.int .i64 0) ∧ ∃ x', AO w w' ρ ρ u j c c ab kd t x x' n f s s m := by
  obtain ⟨r1, r2⟩ := fi_nx (kd := kd) (m := m) (x := x.op 3 (-1)) hG.gc ⟨rfl, rfl⟩ (.inl rfl) 0
  have ht : ((x.op 3 (-1)).fi c.rs 0).tries = 0 ∧ ((x.op 3 (-1)).fi c.rs 0).waited = 0 := ⟨r2.tr.elim (fun e => e.trans rfl) id, r2.wa.elim (fun e => e.trans rfl) id⟩
  exact (finish_ask hA ha hn).mono (fun _ _ ⟨h1, h2, h3⟩ => ⟨h1, _, ao_self hP h2 h3 (gx_op hG ⟨r2.no, r2.th, r2.st, r2.pr, r2.rk, r2.al⟩ ht r1) ⟨r2.no, r2.th, r2.st, r2.pr, r2.rk, r2.al⟩⟩)
set_option maxRecDepth 1000000 in
theorem ask_quit (hA : AX w ρ u j c ab x n f s m) (hP : Pv s m) (hG : Gx kd t x c.rs f s m) (ha : x.alive = true) (hn : x.nx = none) :
    Calls Tryz.prog 90 #[.pointer (some ⟨ab, 0, none⟩), .int .i64 2] w fun e w' => e = .returned (.int .i64 0) ∧ ∃ x', AO w w' ρ ρ u j c c ab kd t x x' n f s s m :=
  (quit_ask hA ha hn).mono (fun _ _ ⟨h1, h2, h3⟩ => ⟨h1, _, ao_self hP h2 h3 (gx_op hG ⟨rfl, rfl, rfl, rfl, rfl, rfl⟩ ⟨rfl, rfl⟩ ⟨_, rfl, .quit (.inl rfl)⟩) ⟨rfl, rfl, rfl, rfl, rfl, rfl⟩⟩)
theorem gc_set {N q : Nat} {th st pr K : Int} {y : Rd} (hg : Gd rs) (hG : Gc N th st pr K rs f s) (hq : rs[q]? = some y) (hy : y.fate = 1) : Gc N th st pr K (rs.set q (y.to 2)) f s :=
  ⟨hG.no1, hG.no, hG.at_, hG.rk, rd_set hq hG.rd id, hG.fo, fun o e hh => hG.sp o e (hld_set hg hq hy (by decide) hh).1⟩
theorem ask_release (hA : AX w ρ u j c ab x n f s m) (hP : Pv s m) (hG : Gx kd t x c.rs f s m) (ha : x.alive = true) (hn : x.nx = none) {o : Nat} (ho : o < s.objs.length) (hrs : c.rs.length ≤ 1000000) :
    Calls Tryz.prog 88 #[.pointer (some ⟨ab, 0, none⟩), .int .i64 (o : Int)] w fun e w' => ∃ q : Int, e = .returned (.tuple #[.int .i64 q, .int .i64 0]) ∧ ∃ c', AO w w' ρ ρ u j c c' ab kd t x x n f s s m := by
  have hio : I64 (o : Int) := by have := hP.inv.no; constructor <;> omega
  have hgw := (hP.same (m' := m) rfl (fun _ => rfl) x.no (fun _ => False)).2
  have hbz : ∀ rs' k, x.alive = true → x.nx = some k → Bz kd x rs' f s m k := fun _ k _ h => by rw [hn] at h; cases h
  by_cases hh : hld c.rs (o : Int)
  · obtain ⟨q, y, hq, hy, hyo⟩ := hh
    refine (release_ok hA ha hn ho hq hy hyo (by omega)).mono (fun _ _ ⟨h1, c', h2⟩ => ⟨(q : Int), h1, c', ?_⟩)
    have er := h2.sam.rs
    refine ⟨⟨⟨h2.sam.mb, h2.sam.wb, h2.sam.gb, h2.sam.db, h2.sam.om, rfl⟩, h2.ax, h2.fr, h2.bk⟩, hP, ⟨?_, hG.lv, hG.nm, hbz c'.rs⟩, hgw, ⟨rfl, rfl, rfl, rfl, rfl, rfl⟩, by rw [er]; simp, rfl, rfl⟩
    rw [er]
    exact gc_set hA.tt.gd hG.gc hq hy
  · exact (release_no hA ha hn ho hio hh).mono (fun _ _ ⟨h1, h2, h3⟩ => ⟨-1, h1, c, ⟨⟨Sam.refl c, h2, Fr.of_keeps h3 (fun _ _ e => e.elim), fun _ e => .inl e⟩, hP, hG, hgw, ⟨rfl, rfl, rfl, rfl, rfl, rfl⟩, rfl, rfl, rfl⟩⟩)
theorem ask_put (hA : AX w ρ u j c ab x n f s m) (hP : Pv s m) (hG : Gx kd t x c.rs f s m) (ha : x.alive = true) (hn : x.nx = none) {o : Nat} (ho : o < s.objs.length) (v : Vl) :
    Calls Tryz.prog 89 #[.pointer (some ⟨ab, 0, none⟩), .int .i64 (o : Int), .agg #[.int .i64 v.num, .int .i64 v.next, .bool v.dead]] w fun e w' => ∃ s' ρ', e = .returned (.int .i64 (if (f (o : Int)).isSome = true then 0 else 83)) ∧ AO w w' ρ ρ' u j c c ab kd t x x n f s s' m := by
  have hio : I64 (o : Int) := by have := hP.inv.no; constructor <;> omega
  have hbz : ∀ s' k, x.alive = true → x.nx = some k → Bz kd x c.rs f s' m k := fun _ k _ h => by rw [hn] at h; cases h
  cases hf : f (o : Int) with
  | none =>
    refine (put_not hA ha hn ho hio hf v.num v.next v.dead).mono (fun _ _ ⟨h1, h2⟩ => ⟨s, ρ, by rw [h1]; rfl, ⟨⟨Sam.refl c, hA.new h2, Fr.of_keeps h2 (fun _ _ e => e.elim), fun _ e => .inl e⟩, hP, hG, (hP.same (m' := m) rfl (fun _ => rfl) x.no (fun _ => False)).2, ⟨rfl, rfl, rfl, rfl, rfl, rfl⟩, rfl, rfl, rfl⟩⟩)
  | some y =>
    have hy := hG.gc.fo _ y hf
    have h1 := hG.gc.no1
    obtain ⟨p1, p2⟩ := hP.put y v x.no (fun _ => False)
    refine (put_own hA hP.inv ha hn ho hio hf hy.1 (by rw [hy.2]; omega) (by rw [hy.2]; exact isC_not.2 (hG.lv ha)) v).mono (fun _ _ ⟨h1, ρ', h2, h3⟩ => ⟨s.put y v, ρ', by rw [h1]; rfl, ⟨⟨Sam.refl c, h2, Fr.of_ext h3, fun _ e => .inl e⟩, p1, ⟨hG.gc.grw p2, fun h => hG.lv h, hG.nm, hbz _⟩, p2, ⟨rfl, rfl, rfl, rfl, rfl, rfl⟩, rfl, rfl, rfl⟩⟩)
end
end Go.Proofs.YtgjndhbfjofkeaaGreatDoor

namespace Go.Proofs.YtgjndhbfjofkeaaGreatDoor
open Go.RowKit
attribute [local go_sem] Oper.semAt_some run_store_nf run_store_f
structure Tr where
  th : Int
  jb : Int
  st : Int
  pr : Int
  tr : Int
  oc : Int
  a : Option Nat
def apv : Option Nat → Value
  | none => .pointer none
  | some b => .pointer (some ⟨b, 0, none⟩)
def Tr.cells (T : Tr) (mb wb gb db : Nat) : List Value :=
  [apv T.a, .pointer (some ⟨mb, 0, none⟩), .pointer (some ⟨wb, 0, none⟩), .pointer (some ⟨gb, 0, none⟩), .pointer (some ⟨db, 0, none⟩), .int .i64 0, .int .i64 T.th, .int .i64 T.st, .int .i64 T.pr, .int .i64 T.jb, .int .i64 T.tr, .int .i64 T.oc, .bool true]
def Tr.state (T : Tr) (x : Tx) : Int := if T.oc = 0 then (match T.a with
  | none => 0
  | some _ => if x.state = 3 then 0 else x.state) else 3
section
variable {w w' : World} {ρ ρ' ρ'' : Nat → Nat} {u j : Nat} {c : Sc} {ab rb n n' : Nat} {x x' : Tx} {f f' : Int → Option Nat} {s s' : Ws} {m m' : Mm} {r r' : Ro} {g nd kr kd t tb mb wb gb db : Nat} {xs : Nat → Int} {rs rs' : List Rd} {p : Int} {T : Tr}
set_option maxHeartbeats 800000 in
set_option maxRecDepth 1000000 in
theorem t_isNone (h : CL w tb (T.cells mb wb gb db)) : Calls Tryz.prog 38 #[.pointer (some ⟨tb, 0, none⟩)] w fun e w' => e = .returned (.bool false) ∧ w' = w := by
  have f12 := h.c 12 _ rfl
  clear h
  have hp : ∀ w : World, (binOp .eql 40 (.pointer (some ⟨tb, 0, none⟩)) (.pointer none)).run Tryz.prog w = .ok (.bool false) w := fun _ => rfl
  go_enter Tryz.func38, Tryz.ntmps38
  go_wp2
  go_ret
  exact ⟨rfl, rfl⟩
set_option maxHeartbeats 800000 in
set_option maxRecDepth 1000000 in
theorem t_present (h : CL w tb (T.cells mb wb gb db)) : Calls Tryz.prog 36 #[.pointer (some ⟨tb, 0, none⟩)] w fun e w' => e = .returned (apv T.a) ∧ w' = w := by
  have f0 := h.c 0 _ rfl
  clear h
  obtain ⟨v, hv⟩ : ∃ v, apv T.a = v := ⟨_, rfl⟩
  have h1 : ∃ q, v = .pointer q := by rw [← hv]; cases T.a <;> exact ⟨_, rfl⟩
  obtain ⟨q, rfl⟩ := h1
  have HV : Hid (apv T.a = .pointer q) := hv
  rw [hv] at f0
  rw [HV.out]
  clear hv
  have hp : ∀ w : World, (binOp .eql 40 (.pointer (some ⟨tb, 0, none⟩)) (.pointer none)).run Tryz.prog w = .ok (.bool false) w := fun _ => rfl
  go_enter Tryz.func36, Tryz.ntmps36
  go_wp2
  go_ret
  exact ⟨rfl, rfl⟩
set_option maxHeartbeats 800000 in
set_option maxRecDepth 1000000 in
theorem t_tries (h : CL w tb (T.cells mb wb gb db)) : Calls Tryz.prog 15 #[.pointer (some ⟨tb, 0, none⟩)] w fun e w' => e = .returned (.int .i64 T.tr) ∧ w' = w := by
  have hi := t_isNone h
  have f10 := h.c 10 _ rfl
  clear h
  go_enter Tryz.func15, Tryz.ntmps15
  go_wp2_with (go_at_call 38; refine (hi).mono ?_; rintro e w1 ⟨rfl, rfl⟩)
  go_ret
  exact ⟨rfl, rfl⟩
set_option maxHeartbeats 800000 in
set_option maxRecDepth 1000000 in
theorem t_state_over (h : CL w tb (T.cells mb wb gb db)) (ho : T.oc ≠ 0) : Calls Tryz.prog 16 #[.pointer (some ⟨tb, 0, none⟩)] w fun e w' => e = .returned (.int .i64 3) ∧ w' = w := by
  have hi := t_isNone h
  have f11 := h.c 11 _ rfl
  have hb := bne_t ho
  clear h ho
  go_enter Tryz.func16, Tryz.ntmps16
  go_wp2_with (go_at_call 38; refine (hi).mono ?_; rintro e w1 ⟨rfl, rfl⟩)
  go_ret
  exact ⟨rfl, rfl⟩
set_option maxHeartbeats 800000 in
set_option maxRecDepth 1000000 in
theorem a_state_nil (w : World) : Calls Tryz.prog 39 #[.pointer none] w fun e w' => e = .returned (.int .i64 3) ∧ w' = w := by
  have hp : ∀ w : World, (binOp .eql 86 (.pointer none) (.pointer none)).run Tryz.prog w = .ok (.bool true) w := fun _ => rfl
  go_enter Tryz.func39, Tryz.ntmps39
  go_wp2
  go_ret
  exact ⟨rfl, rfl⟩
set_option maxHeartbeats 800000 in
set_option maxRecDepth 1000000 in
theorem t_state_of (h : CL w tb (T.cells mb wb gb db)) (ho : T.oc = 0) {q : Option Addr} (ha : apv T.a = .pointer q) {k : Int} (hs : Calls Tryz.prog 39 #[.pointer q] w fun e w' => e = .returned (.int .i64 k) ∧ w' = w) : Calls Tryz.prog 16 #[.pointer (some ⟨tb, 0, none⟩)] w fun e w' => e = .returned (.int .i64 (if k = 3 then 0 else k)) ∧ w' = w := by
  have hi := t_isNone h
  have f0 := h.c 0 _ rfl
  have f11 := h.c 11 _ rfl
  rw [ho] at f11
  rw [ha] at f0
  clear h ho ha
  by_cases hk : k = 3
  · subst hk
    rw [if_pos rfl]
    go_enter Tryz.func16, Tryz.ntmps16
    go_wp2_with (first | (go_at_call 38; refine (hi).mono ?_; rintro e w1 ⟨rfl, rfl⟩) | (go_at_call 39; refine (hs).mono ?_; rintro e w1 ⟨rfl, rfl⟩))
    go_ret
    exact ⟨rfl, rfl⟩
  · rw [if_neg hk]
    have hb := bne_t hk
    clear hk
    go_enter Tryz.func16, Tryz.ntmps16
    go_wp2_with (first | (go_at_call 38; refine (hi).mono ?_; rintro e w1 ⟨rfl, rfl⟩) | (go_at_call 39; refine (hs).mono ?_; rintro e w1 ⟨rfl, rfl⟩))
    go_ret
    exact ⟨rfl, rfl⟩
theorem t_state (h : CL w tb (T.cells mb wb gb db)) (hx : ∀ ab, T.a = some ab → CL w ab (x.cells c ab)) : Calls Tryz.prog 16 #[.pointer (some ⟨tb, 0, none⟩)] w fun e w' => e = .returned (.int .i64 (T.state x)) ∧ w' = w := by
  unfold Tr.state
  by_cases ho : T.oc = 0
  · rw [if_pos ho]
    cases ha : T.a with
    | none =>
      have := t_state_of h ho (q := none) (by rw [ha]; rfl) (a_state_nil w)
      rw [if_pos rfl] at this
      exact this
    | some ab => exact t_state_of h ho (q := some ⟨ab, 0, none⟩) (by rw [ha]; rfl) (state_any (hx ab ha))
  · rw [if_neg ho]
    exact t_state_over h ho
set_option maxHeartbeats 800000 in
set_option maxRecDepth 1000000 in
theorem t_isFresh {k : Int} (hs : Calls Tryz.prog 16 #[.pointer (some ⟨tb, 0, none⟩)] w fun e w' => e = .returned (.int .i64 k) ∧ w' = w) : Calls Tryz.prog 46 #[.pointer (some ⟨tb, 0, none⟩)] w fun e w' => e = .returned (.bool (k == 0)) ∧ w' = w := by
  go_enter Tryz.func46, Tryz.ntmps46
  go_wp2_with (go_at_call 16; refine (hs).mono ?_; rintro e w1 ⟨rfl, rfl⟩)
  go_ret
  exact ⟨rfl, rfl⟩
set_option maxHeartbeats 800000 in
set_option maxRecDepth 1000000 in
theorem t_rank_of (h : CL w tb (T.cells mb wb gb db)) {q : Option Addr} (ha : apv T.a = .pointer q) {k : Int} (hs : Calls Tryz.prog 42 #[.pointer q] w fun e w' => e = .returned (.int .i64 k) ∧ w' = w) : Calls Tryz.prog 19 #[.pointer (some ⟨tb, 0, none⟩)] w fun e w' => e = .returned (.int .i64 k) ∧ w' = w := by
  have hi := t_present h
  rw [ha] at hi
  clear h ha
  go_enter Tryz.func19, Tryz.ntmps19
  go_wp2_with (first | (go_at_call 36; refine (hi).mono ?_; rintro e w1 ⟨rfl, rfl⟩) | (go_at_call 42; refine (hs).mono ?_; rintro e w1 ⟨rfl, rfl⟩))
  go_ret
  exact ⟨rfl, rfl⟩
set_option maxHeartbeats 800000 in
set_option maxRecDepth 1000000 in
theorem t_read (h : CL w tb (T.cells mb wb gb db)) (hfr : Calls Tryz.prog 46 #[.pointer (some ⟨tb, 0, none⟩)] w fun e w' => e = .returned (.bool false) ∧ w' = w) {q : Option Addr} (ha : apv T.a = .pointer q) (ob : Int) {k : Int} {Q : World → Prop} (hs : Calls Tryz.prog 59 #[.pointer q, .int .i64 ob] w fun e w' => e = .returned (.int .i64 k) ∧ Q w') : Calls Tryz.prog 33 #[.pointer (some ⟨tb, 0, none⟩), .int .i64 ob] w fun e w' => e = .returned (.int .i64 k) ∧ Q w' := by
  have hi := t_present h
  rw [ha] at hi
  clear h ha
  go_enter Tryz.func33, Tryz.ntmps33
  go_wp2_with (first | (go_at_call 46; refine (hfr).mono ?_; rintro e w1 ⟨rfl, rfl⟩) | (go_at_call 36; refine (hi).mono ?_; rintro e w1 ⟨rfl, rfl⟩) | (go_at_call 59; refine hs.mono ?_; rintro e w2 ⟨rfl, hQ⟩))
  go_ret
  exact ⟨rfl, hQ⟩
set_option maxHeartbeats 800000 in
set_option maxRecDepth 1000000 in
theorem t_write (h : CL w tb (T.cells mb wb gb db)) (hfr : Calls Tryz.prog 46 #[.pointer (some ⟨tb, 0, none⟩)] w fun e w' => e = .returned (.bool false) ∧ w' = w) {q : Option Addr} (ha : apv T.a = .pointer q) (ob : Int) {k : Int} {Q : World → Prop} (hs : Calls Tryz.prog 87 #[.pointer q, .int .i64 ob] w fun e w' => e = .returned (.int .i64 k) ∧ Q w') : Calls Tryz.prog 60 #[.pointer (some ⟨tb, 0, none⟩), .int .i64 ob] w fun e w' => e = .returned (.int .i64 k) ∧ Q w' := by
  have hi := t_present h
  rw [ha] at hi
  clear h ha
  go_enter Tryz.func60, Tryz.ntmps60
  go_wp2_with (first | (go_at_call 46; refine (hfr).mono ?_; rintro e w1 ⟨rfl, rfl⟩) | (go_at_call 36; refine (hi).mono ?_; rintro e w1 ⟨rfl, rfl⟩) | (go_at_call 87; refine hs.mono ?_; rintro e w2 ⟨rfl, hQ⟩))
  go_ret
  exact ⟨rfl, hQ⟩
set_option maxHeartbeats 800000 in
set_option maxRecDepth 1000000 in
theorem t_finish (h : CL w tb (T.cells mb wb gb db)) (hfr : Calls Tryz.prog 46 #[.pointer (some ⟨tb, 0, none⟩)] w fun e w' => e = .returned (.bool false) ∧ w' = w) {q : Option Addr} (ha : apv T.a = .pointer q)  {k : Int} {Q : World → Prop} (hs : Calls Tryz.prog 47 #[.pointer q] w fun e w' => e = .returned (.int .i64 k) ∧ Q w') : Calls Tryz.prog 27 #[.pointer (some ⟨tb, 0, none⟩)] w fun e w' => e = .returned (.int .i64 k) ∧ Q w' := by
  have hi := t_present h
  rw [ha] at hi
  clear h ha
  go_enter Tryz.func27, Tryz.ntmps27
  go_wp2_with (first | (go_at_call 46; refine (hfr).mono ?_; rintro e w1 ⟨rfl, rfl⟩) | (go_at_call 36; refine (hi).mono ?_; rintro e w1 ⟨rfl, rfl⟩) | (go_at_call 47; refine hs.mono ?_; rintro e w2 ⟨rfl, hQ⟩))
  go_ret
  exact ⟨rfl, hQ⟩
set_option maxHeartbeats 800000 in
set_option maxRecDepth 1000000 in
theorem t_quit (h : CL w tb (T.cells mb wb gb db)) (hfr : Calls Tryz.prog 46 #[.pointer (some ⟨tb, 0, none⟩)] w fun e w' => e = .returned (.bool false) ∧ w' = w) {q : Option Addr} (ha : apv T.a = .pointer q) (ob : Int) {k : Int} {Q : World → Prop} (hs : Calls Tryz.prog 90 #[.pointer q, .int .i64 ob] w fun e w' => e = .returned (.int .i64 k) ∧ Q w') : Calls Tryz.prog 63 #[.pointer (some ⟨tb, 0, none⟩), .int .i64 ob] w fun e w' => e = .returned (.int .i64 k) ∧ Q w' := by
  have hi := t_present h
  rw [ha] at hi
  clear h ha
  go_enter Tryz.func63, Tryz.ntmps63
  go_wp2_with (first | (go_at_call 46; refine (hfr).mono ?_; rintro e w1 ⟨rfl, rfl⟩) | (go_at_call 36; refine (hi).mono ?_; rintro e w1 ⟨rfl, rfl⟩) | (go_at_call 90; refine hs.mono ?_; rintro e w2 ⟨rfl, hQ⟩))
  go_ret
  exact ⟨rfl, hQ⟩
set_option maxHeartbeats 800000 in
set_option maxRecDepth 1000000 in
theorem t_owns (h : CL w tb (T.cells mb wb gb db)) {q : Option Addr} (ha : apv T.a = .pointer q) (ob : Int) {k : Bool} (hs : Calls Tryz.prog 44 #[.pointer q, .int .i64 ob] w fun e w' => e = .returned (.bool k) ∧ w' = w) : Calls Tryz.prog 23 #[.pointer (some ⟨tb, 0, none⟩), .int .i64 ob] w fun e w' => e = .returned (.bool k) ∧ w' = w := by
  have hi := t_present h
  rw [ha] at hi
  clear h ha
  go_enter Tryz.func23, Tryz.ntmps23
  go_wp2_with (first | (go_at_call 36; refine (hi).mono ?_; rintro e w1 ⟨rfl, rfl⟩) | (go_at_call 44; refine (hs).mono ?_; rintro e w1 ⟨rfl, rfl⟩))
  go_ret
  exact ⟨rfl, rfl⟩
end
end Go.Proofs.YtgjndhbfjofkeaaGreatDoor

