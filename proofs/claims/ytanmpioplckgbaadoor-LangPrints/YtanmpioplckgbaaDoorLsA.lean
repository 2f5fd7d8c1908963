import Derived.Test.YtanmpioplckgbaaDoorKeepSt
import Derived.Maps.AppendAt
namespace Go.Proofs.YtanmpioplckgbaaDoor
open Go.RowKit
/-- How much room a list asks for that is full and takes one more. -/
theorem next_one {k : Nat} (h : 256 ≤ k) : Builtin.nextslicecap (k + 1) k ≤ k + (k + 768) / 4 := by
  unfold Builtin.nextslicecap
  rw [if_neg (by omega), if_neg (by omega)]
  unfold Builtin.growBy
  rw [if_neg (by omega)]
  unfold Builtin.growBy
  rw [if_pos (by omega)]
  exact Nat.le_refl _
/-- One element behind a list of the call's own, a little past 2^47 bytes too. -/
theorem run_append_more {P : Program} {w : World} (base : Nat) (t ty e : TypeId) (i : TypeInfo) (z : Value) (size bytes : Nat) (ht : P.underlying t = some (.slice e)) (hi : P.info? e = some i) (hz : i.zero = some z)
    (hsize : i.size = size) (hby : i.bytes = bytes) (hzs : z.cells.size = size) (hsz : 0 < size) (hb0 : 0 < bytes) (hb1 : bytes ≤ 4096)
    (v : Value) (n : Nat) (xs : List Value) (hown : w.ownsRow base e size v n xs)
    (a : Addr) (c : Nat) (news : List Value) (hl : news.length = size) (hnews : ∀ j u, news[j]? = some u → w.cell? (a.add j) = some u) (h1 : ∀ u ∈ news, u.oneCell' = true)
    (hbytes : (n + 1) * bytes ≤ 140737488363520) (hbase : base ≤ w.heap.size) :
    ∃ v' w', (Builtin.append_ #[t, t] ty #[v, .slice (some a) 1 c]).run P w = .ok v' w' ∧ w'.ownsRow base e size v' (n + 1) (xs ++ news) ∧ w.grownBy w' v.ownBlock := by
  have hn1 : n + 1 ≤ 140737488363520 := Nat.le_trans (Nat.le_mul_of_pos_right _ hb0) hbytes
  have h63 : n + 1 ≤ maxLen := by unfold maxLen; omega
  by_cases hs : (n + 1) * bytes ≤ 140737488355328
  · obtain ⟨v', w', hr, ho, hg, _, _⟩ := run_append_own_at (P := P) (w := w) base t ty e i z size bytes ht hi hz hsize hby hzs hsz v n xs hown a 1 c news (by omega) hnews h1 h63 hs hbase
    exact ⟨v', w', hr, ho, hg⟩
  have hnb : (n + 1) * bytes ≤ (n + 1) * 4096 := Nat.mul_le_mul_left _ hb1
  have hn : 256 ≤ n := by omega
  have hlen : (xs ++ news).length = (n + 1) * size := by rw [List.length_append, hown.1, hl, Nat.add_mul, Nat.one_mul]
  rcases hown.2 with ⟨rfl, h0⟩ | ⟨g, cap, cur, rfl, hbg, hg, hnc, hcm, hcs, htake⟩
  · omega
  subst hsize
  by_cases hroom : n + 1 ≤ cap
  · have hcur : (n + 1) * i.size ≤ cur.size := by rw [hcs]; exact Nat.mul_le_mul_right _ hroom
    have hfit : n * i.size + news.length ≤ cur.size := by rw [hl]; rw [Nat.add_mul, Nat.one_mul] at hcur; exact hcur
    have hr := run_append_room (P := P) w t ty e i ht hi g n cap cur hg a 1 c news (by omega) hnews h1 hroom hfit
    refine ⟨_, _, hr, ⟨hlen, .inr ⟨g, cap, _, rfl, hbg, setRow_heap w g cur _ e _ hg, hroom, hcm, ?_, ?_⟩⟩, ⟨rfl, rfl, rfl, by simp, fun k _ hk => setRow_other w g k _ (fun e => hk (by simp [Value.ownBlock, e]))⟩⟩
    · have e1 : cur.toList.length = cap * i.size := by rw [Array.length_toList]; exact hcs
      simp only [List.size_toArray, List.length_append, List.length_take, List.length_drop]
      omega
    · rw [htake, ← hlen]
      exact List.take_left
  · have hc : cap = n := by omega
    subst hc
    have holds : ∀ j u, xs[j]? = some u → w.cell? ((⟨g, 0, none⟩ : Addr).add j) = some u := hown.cells (g := g) rfl
    have hfit : Builtin.nextslicecap (cap + 1) cap * i.bytes ≤ 281474976710656 := by
      have e1 : Builtin.nextslicecap (cap + 1) cap * i.bytes ≤ (cap + (cap + 768) / 4) * i.bytes := Nat.mul_le_mul_right _ (next_one hn)
      have e2 : (cap + (cap + 768) / 4) * 4 ≤ (cap + 1) * 5 + 768 := by omega
      have e3 : (cap + (cap + 768) / 4) * 4 * i.bytes ≤ ((cap + 1) * 5 + 768) * i.bytes := Nat.mul_le_mul_right _ e2
      have e4 : ((cap + 1) * 5 + 768) * i.bytes = 5 * ((cap + 1) * i.bytes) + 768 * i.bytes := by rw [Nat.add_mul, Nat.mul_comm (cap + 1) 5, Nat.mul_assoc]
      have e5 : (cap + (cap + 768) / 4) * 4 * i.bytes = 4 * ((cap + (cap + 768) / 4) * i.bytes) := by rw [Nat.mul_right_comm, Nat.mul_comm]
      rw [← hby] at hbytes hb1
      omega
    have hr := run_append_grow (P := P) w t ty e i z ht hi hz ⟨g, 0, none⟩ cap cap xs hown.1 holds a 1 c news (by omega) hnews (by omega) (by omega) hfit
    have hge := grownCap_ge w (cap + 1) cap e
    refine ⟨_, _, hr, ⟨hlen, .inr ⟨w.heap.size, _, _, rfl, hbase, heap_alloc_new w.drew _, hge, grownCap_le_maxLen w (cap + 1) cap e h63, ?_, ?_⟩⟩, ⟨rfl, rfl, rfl, by simp, fun k hk _ => heap_alloc_old w.drew _ hk⟩⟩
    · have e2 : (xs.length + news.length) = (cap + 1) * i.size := by rw [← List.length_append]; exact hlen
      simp only [Array.size_append, List.size_toArray, size_zeroCells, hzs]
      rw [e2, ← Nat.add_mul]
      congr 1
      omega
    · simp only [Array.toList_append]
      rw [← hlen]
      exact List.take_left
end Go.Proofs.YtanmpioplckgbaaDoor
