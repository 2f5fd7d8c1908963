import Derived.Test.YtaikngpgmcpecaaGreatRefCelM
namespace Go.Proofs.YtaikngpgmcpecaaGreat
open Go.RowKit

/-- What a cell holds behind the first m of its rows. -/
def behv (s : Mm) (c m : Nat) : Int := if m = 0 then (ca s.cells c).1 else (ra s.log (ixa (ix s.log c) (m - 1))).wrote
theorem ixa_mem {l : List Nat} {i : Nat} (h : i < l.length) : ixa l i ∈ l := by simp [ixa, List.getD_eq_getElem?_getD, h]

set_option maxHeartbeats 3200000 in
set_option maxRecDepth 1000000 in
theorem rbehind_any {w : World} {rb : Nat} {s : Mm} {B : Nat → Prop} (h : RI w rb s B) {c m : Nat} (hc : c < s.cells.length) (hm : m ≤ (ix s.log c).length) (hl : s.log.length ≤ 4611686018427387903) :
    Calls Tryz.prog 107 #[.pointer (some ⟨rb, 0, none⟩), .int .i64 (c : Int), .int .i64 (m : Int)] w fun e w' => e = .returned (.int .i64 (behv s c m)) ∧ Keeps (fun _ => False) w w' := by
  obtain ⟨vf, vr, vg, rvs, ρ, h, hn, hi, rfl⟩ := h
  have hix := ix_le s.log c
  by_cases h0 : m = 0
  · obtain ⟨a, cap, rfl, hs⟩ := owns_slice h.rf
    obtain ⟨g, rfl, hg⟩ := hs (by omega)
    have f0 := h.f0
    have c0 := h.first hc hg
    have hcI : (c : Int) < (s.cells.length : Int) := by omega
    have e : behv s c m = (ca s.cells c).1 := by simp [behv, h0]
    rw [e]
    subst h0
    clear h hn hi hm hix e
    go_enter Tryz.func107, Tryz.ntmps107
    go_wp2_with fail
    go_ret
    exact ⟨rfl, Keeps.refl _ _⟩
  · have hcr : c < rvs.length := by omega
    obtain ⟨ar, cr, hvr, hsr⟩ := owns_slice h.rr
    obtain ⟨gr, har, hgr⟩ := hsr (by omega)
    have hmem := ixa_mem (l := ix s.log c) (i := m - 1) (by omega)
    obtain ⟨hk, _⟩ := ix_mem hmem
    obtain ⟨ag, cg, hvg, hsg⟩ := owns_slice h.rg
    obtain ⟨gg, hag, hgg⟩ := hsg (by omega)
    obtain ⟨ae, ce, hve, hse⟩ := owns_slice (h.each c hcr)
    obtain ⟨ge, hae, hge⟩ := hse (by omega)
    have cl := h.list hcr hgr
    have ci := owns_cell (h.each c hcr) hge (icells_get (l := ix s.log c) (i := m - 1) (by omega))
    have rw5 := (owns_row h.rg hgg hk).r5
    have f1 := h.f1
    have f2 := h.f2
    have e : behv s c m = (ra s.log (ixa (ix s.log c) (m - 1))).wrote := by simp [behv, h0]
    rw [e]
    generalize ixa (ix s.log c) (m - 1) = k at *
    generalize (ra s.log k).wrote = wt at *
    rw [hve] at cl
    rw [hvr] at f1
    rw [hvg] at f2
    subst har hag hae
    generalize (ix s.log c).length = nl at *
    have hcI : (c : Int) < (rvs.length : Int) := by omega
    have hkI : (k : Int) < (s.log.length : Int) := by omega
    have hm0 : ((m : Int) == 0) = false := by simp; omega
    have hpw : IntKind.i64.wrap ((m : Int) - 1) = (m : Int) - 1 := by rw [IntKind.wrap_i64]; omega
    have hpn : ((m : Int) - 1).toNat = m - 1 := by omega
    have hp0 : (0 : Int) ≤ (m : Int) - 1 := by omega
    have hp1 : (m : Int) - 1 < (nl : Int) := by omega
    have hq1 : (1 : Int) ≤ (m : Int) := by omega
    have hp2 : m - 1 < nl := by omega
    have hm1 : 1 ≤ m := by omega
    clear h hn hi hix h0 e hvr hvg hve hgr hgg hge hmem
    go_enter Tryz.func107, Tryz.ntmps107
    go_wp2_with fail
    go_quiet (fail)
    go_wp2_with fail
    go_ret
    exact ⟨rfl, (Keeps.refl _ w).drewN _⟩

/-- What the document says a cell holds. -/
def Mm.fine (s : Mm) : Prop := ∀ c, c < s.cells.length → (ca s.cells c).2 = behv s c (ix s.log c).length

set_option maxHeartbeats 1600000 in
set_option maxRecDepth 1000000 in
theorem rheld_any {w : World} {rb : Nat} {s : Mm} {B : Nat → Prop} (h : RI w rb s B) {c : Nat} (hc : c < s.cells.length) (hl : s.log.length ≤ 4611686018427387903) :
    Calls Tryz.prog 106 #[.pointer (some ⟨rb, 0, none⟩), .int .i64 (c : Int)] w fun e w' => e = .returned (.int .i64 (behv s c (ix s.log c).length)) ∧ Keeps (fun _ => False) w w' := by
  have hb := rbehind_any h hc (Nat.le_refl _) hl
  obtain ⟨vf, vr, vg, rvs, ρ, h, hn, hi, rfl⟩ := h
  have hcr : c < rvs.length := by omega
  obtain ⟨ar, cr, hvr, hsr⟩ := owns_slice h.rr
  obtain ⟨gr, har, hgr⟩ := hsr (by omega)
  obtain ⟨ae, ce, hve, _⟩ := owns_slice (h.each c hcr)
  have cl := h.list hcr hgr
  have f1 := h.f1
  rw [hve] at cl
  rw [hvr] at f1
  subst har
  have hcI : (c : Int) < (rvs.length : Int) := by omega
  clear h hn hi hvr hve hgr
  generalize behv s c (ix s.log c).length = v at *
  generalize (ix s.log c).length = nl at *
  go_enter Tryz.func106, Tryz.ntmps106
  go_wp2_with (go_at_call 107; refine hb.mono ?_; rintro e w' ⟨rfl, k⟩)
  go_ret
  exact ⟨rfl, k⟩
set_option maxHeartbeats 1600000 in
set_option maxRecDepth 1000000 in
theorem rpeek_any {w : World} {rb : Nat} {s : Mm} {B : Nat → Prop} (h : RI w rb s B) (hf : s.fine) {c : Nat} (hc : c < s.cells.length) (hl : s.log.length ≤ 4611686018427387903) :
    Calls Tryz.prog 104 #[.pointer (some ⟨rb, 0, none⟩), .int .i64 (c : Int)] w fun e w' => e = .returned (.tuple #[.int .i64 (ca s.cells c).2, .int .i64 0]) ∧ Keeps (fun _ => False) w w' := by
  have ht := rthere_any h (c : Int)
  rw [there_ok hc] at ht
  have hh := rheld_any h hc hl
  rw [← hf c hc] at hh
  go_enter Tryz.func104, Tryz.ntmps104
  go_wp2_with (first | (go_at_call 105; refine ht.mono ?_; clear ht; rintro e w ⟨rfl, rfl⟩) | (go_at_call 106; refine hh.mono ?_; clear hh; rintro e w' ⟨rfl, k⟩))
  go_ret2
  exact ⟨rfl, k⟩
set_option maxHeartbeats 1600000 in
set_option maxRecDepth 1000000 in
theorem rpeek_not {w : World} {rb : Nat} {s : Mm} {B : Nat → Prop} (h : RI w rb s B) {c : Int} (hc : s.there c = false) :
    Calls Tryz.prog 104 #[.pointer (some ⟨rb, 0, none⟩), .int .i64 c] w fun e w' => e = .returned (.tuple #[.int .i64 0, .int .i64 30]) ∧ w' = w := by
  have ht := rthere_any h c
  rw [hc] at ht
  clear h
  go_enter Tryz.func104, Tryz.ntmps104
  go_wp2_with (go_at_call 105; refine ht.mono ?_; rintro e w ⟨rfl, rfl⟩)
  go_ret2
  exact ⟨rfl, rfl⟩
end Go.Proofs.YtaikngpgmcpecaaGreat
